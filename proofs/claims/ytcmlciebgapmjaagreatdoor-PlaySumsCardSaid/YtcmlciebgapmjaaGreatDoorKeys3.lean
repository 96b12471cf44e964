import Derived.Test.YtcmlciebgapmjaaGreatDoorKeys2
import Derived.Test.YtcmlciebgapmjaaGreatDoorAssists
import Derived.Test.YtcmlciebgapmjaaGreatDoorTouch
set_option linter.unusedSimpArgs false
set_option linter.unusedVariables false
namespace Go.Ev
open Go.RowKit Go.Proofs
set_option linter.defProp false
def TF125Keys3 := And.intro (And.intro (And.intro (And.intro (@Tryz.underlying3) (And.intro (@sz3) (@bT))) (And.intro (@I3s) (And.intro (@I3b) (@bS)))) (And.intro (And.intro (@bV) (And.intro (@Tryz.underlying25) (@dF))) (And.intro (@bZ) (And.intro (@dG) (@dH))))) (And.intro (And.intro (And.intro (@bX) (And.intro (@cA) (@Tryz.underlying155))) (And.intro (@sz155) (And.intro (@info155) (@I155s)))) (And.intro (And.intro (@I155b) (And.intro (@zero155) (@grow155))) (And.intro (@call155) (And.intro (@call156) (@Tryz.results125)))))
def TF126Keys3 := And.intro (And.intro (And.intro (And.intro (@Tryz.underlying3) (@sz3)) (And.intro (@bT) (And.intro (@I3s) (@I3b)))) (And.intro (And.intro (@bS) (And.intro (@bV) (@Tryz.underlying4))) (And.intro (@sz4) (And.intro (@cV) (@I4s))))) (And.intro (And.intro (And.intro (@I4b) (@cU)) (And.intro (@cW) (And.intro (@Tryz.underlying152) (@sz152)))) (And.intro (And.intro (@info152) (And.intro (@I152s) (@I152b))) (And.intro (@zero152) (And.intro (@grow152) (@Tryz.results126)))))
def TF155Keys3 := And.intro (And.intro (And.intro (And.intro (@Tryz.underlying3) (@sz3)) (And.intro (@bT) (And.intro (@I3s) (@I3b)))) (And.intro (And.intro (@bS) (And.intro (@bV) (@Tryz.underlying25))) (And.intro (@dF) (And.intro (@bZ) (@dG))))) (And.intro (And.intro (And.intro (@dH) (And.intro (@bX) (@cA))) (And.intro (@Tryz.underlying155) (And.intro (@sz155) (@info155)))) (And.intro (And.intro (@I155s) (And.intro (@I155b) (@zero155))) (And.intro (@grow155) (And.intro (@call177) (@Tryz.results155)))))
set_option maxRecDepth 20000
set_option maxHeartbeats 8000000

/-! the keys of a map, sorted -/
theorem ct155 {ks : List Int} {cm cp : List EVal} {k : EVal → H → Prop} (hks : ks.length ≤ 9) (hcm : ∀ N, aT N cm = true) (hcp : ∀ N, aT N cp = true)
    (hk0 : ks = [] → k .nilslice (mkH 4 (LB ks cm cp) 0 [])) (hk1 : ∀ c, c ≠ [] → Same ks c → k (.slice 4 0 c.length (.slack 0)) (mkH 5 ((4, some (.row (bY c) 3 0 0 true)) :: LB ks cm cp) 0 [])) :
    cQ Tryz.prog gT (dE KS) 155 [.func 157 [.ptr 3 0]] (mkH 4 (LB ks cm cp) 0 []) k := by
  have hokm : ∀ N, okO N (.row cm 27 0 0 false) := fun N => okO_row (hcm N)
  have hokp : ∀ N, okO N (.row cp 24 0 0 false) := fun N => okO_row (hcp N)
  have hok3 : okO 4 (.row [.map 2] 152 0 0 false) := okO_row rfl
  refine cQ.intro Tryz.func155 rfl (Top.unview ?_)
  refine Top.view (aX.start (n := 5) rfl (by simp)) (aS bA _ _ _ _ ?_)
  ((try simp only [aO, SS, TF155Keys3, aM, setRange, aN, aC, aB, aF, aE, aD, aA, Nat.reduceLT, Nat.reduceEqDiff, Nat.reduceAdd, Nat.reduceMul, Nat.reduceSub, Nat.reduceLeDiff, Nat.reduceBEq, reduceCtorEq, ↓kcall_miss]); (repeat' ((first | apply aJ | apply aI | apply aL | apply aK | apply aH | apply aG) <;> intro h <;> simp only [h, SS, TF155Keys3, aM, setRange, aN, aC, aB, aF, aE, aD, aA, Nat.reduceLT, Nat.reduceEqDiff, Nat.reduceAdd, Nat.reduceMul, Nat.reduceSub, Nat.reduceLeDiff, Nat.reduceBEq, reduceCtorEq, ↓kcall_miss])))
  refine ct177 hks hcm hcp (fun h0 => ?_) (fun c q hq hne hs => ?_)
  · ((try simp only [aO, SS, TF155Keys3, aM, setRange, aN, aC, aB, aF, aE, aD, aA, Nat.reduceLT, Nat.reduceEqDiff, Nat.reduceAdd, Nat.reduceMul, Nat.reduceSub, Nat.reduceLeDiff, Nat.reduceBEq, reduceCtorEq]); (repeat' ((first | apply aJ | apply aI | apply aL | apply aK | apply aH | apply aG) <;> intro h <;> simp only [h, SS, TF155Keys3, aM, setRange, aN, aC, aB, aF, aE, aD, aA, Nat.reduceLT, Nat.reduceEqDiff, Nat.reduceAdd, Nat.reduceMul, Nat.reduceSub, Nat.reduceLeDiff, Nat.reduceBEq, reduceCtorEq])))
    refine ⟨_, _, aX.dropD (ds := []) (r := none) (fl2 := [(2, .nilslice)]) (N := 4) (l2 := LB ks cm cp) (k2 := []) (by intro q h; cases h; exact Nat.le_refl _) (by simp) (by simp) (by simp [look, below]) ?_ (by simp), Ends2_of (es := [.nilslice]) (.inl rfl) rfl (by simp only [SS, TF155Keys3, aM, setRange, aN, aC, aB, aF, aE, aD, aA, Nat.reduceLT, Nat.reduceEqDiff, Nat.reduceAdd, Nat.reduceMul, Nat.reduceSub, Nat.reduceLeDiff, Nat.reduceBEq, reduceCtorEq, mkD_tmps]) (hk0 h0)⟩
    simp [aU, okO_mapE, hokm, hokp, hok3]
  · ((try simp only [aO, SS, TF155Keys3, aM, setRange, aN, aC, aB, aF, aE, aD, aA, Nat.reduceLT, Nat.reduceEqDiff, Nat.reduceAdd, Nat.reduceMul, Nat.reduceSub, Nat.reduceLeDiff, Nat.reduceBEq, reduceCtorEq]); (repeat' ((first | apply aJ | apply aI | apply aL | apply aK | apply aH | apply aG) <;> intro h <;> simp only [h, SS, TF155Keys3, aM, setRange, aN, aC, aB, aF, aE, aD, aA, Nat.reduceLT, Nat.reduceEqDiff, Nat.reduceAdd, Nat.reduceMul, Nat.reduceSub, Nat.reduceLeDiff, Nat.reduceBEq, reduceCtorEq])))
    refine ⟨_, _, aX.renD (ds := []) (r := none) (fl2 := [(2, .slice 4 0 c.length (.slack 0))]) (l2 := (4, some (.row (bY c) 3 0 0 true)) :: LB ks cm cp) (k2 := []) (q + 8) 4 (by omega) (by omega) (by intro q h; cases h; exact Nat.le_refl _) (by simp) (by simp) (by simp [look, rnR]) ?_ (by simp), Ends2_of (es := [.slice 4 0 c.length (.slack 0)]) (.inl rfl) rfl (by simp only [SS, TF155Keys3, aM, setRange, aN, aC, aB, aF, aE, aD, aA, Nat.reduceLT, Nat.reduceEqDiff, Nat.reduceAdd, Nat.reduceMul, Nat.reduceSub, Nat.reduceLeDiff, Nat.reduceBEq, reduceCtorEq, mkD_tmps]) (hk1 c hne hs)⟩
    simp [aU, okO_mapE, hokm, hokp, hok3]
    exact ⟨_, _, _, _, _, ⟨rfl, rfl, rfl, rfl⟩, ⟨rfl, rfl, rfl, rfl⟩, rn_same (aV _ _)⟩
theorem ct125 {ks : List Int} {cm cp : List EVal} {k : EVal → H → Prop} (hks : ks.length ≤ 9) (hcm : ∀ N, aT N cm = true) (hcp : ∀ N, aT N cp = true)
    (hk0 : ks = [] → k .nilslice (mkH 4 (LB ks cm cp) 0 [])) (hk1 : ∀ c, c ≠ [] → Same ks c → Ord c c.length → k (.slice 4 0 c.length (.slack 0)) (mkH 5 ((4, some (.row (bY c) 3 0 0 true)) :: LB ks cm cp) 0 [])) :
    cQ Tryz.prog gT (dE KS) 125 [.func 157 [.ptr 3 0]] (mkH 4 (LB ks cm cp) 0 []) k := by
  have hcl : Clean 4 (LB ks cm cp) := by intro p hp; simp at hp; rcases hp with rfl | rfl | rfl | rfl <;> simp [aU]
  refine cQ.intro Tryz.func125 rfl ?_
  refine Top.view (aX.start (n := 9) rfl (by simp)) (aS bA _ _ _ _ ?_)
  ((try simp only [aO, SS, TF125Keys3, aM, setRange, aN, aC, aB, aF, aE, aD, aA, Nat.reduceLT, Nat.reduceEqDiff, Nat.reduceAdd, Nat.reduceMul, Nat.reduceSub, Nat.reduceLeDiff, Nat.reduceBEq, reduceCtorEq, ↓kcall_miss]); (repeat' ((first | apply aJ | apply aI | apply aL | apply aK | apply aH | apply aG) <;> intro h <;> simp only [h, SS, TF125Keys3, aM, setRange, aN, aC, aB, aF, aE, aD, aA, Nat.reduceLT, Nat.reduceEqDiff, Nat.reduceAdd, Nat.reduceMul, Nat.reduceSub, Nat.reduceLeDiff, Nat.reduceBEq, reduceCtorEq, ↓kcall_miss])))
  refine ct155 hks hcm hcp (fun h0 => ?_) (fun c hne hs => ?_)
  · ((try simp only [aO, SS, TF125Keys3, aM, setRange, aN, aC, aB, aF, aE, aD, aA, Nat.reduceLT, Nat.reduceEqDiff, Nat.reduceAdd, Nat.reduceMul, Nat.reduceSub, Nat.reduceLeDiff, Nat.reduceBEq, reduceCtorEq, ↓kcall_miss]); (repeat' ((first | apply aJ | apply aI | apply aL | apply aK | apply aH | apply aG) <;> intro h <;> simp only [h, SS, TF125Keys3, aM, setRange, aN, aC, aB, aF, aE, aD, aA, Nat.reduceLT, Nat.reduceEqDiff, Nat.reduceAdd, Nat.reduceMul, Nat.reduceSub, Nat.reduceLeDiff, Nat.reduceBEq, reduceCtorEq, ↓kcall_miss])))
    refine ct156n ?_
    ((try simp only [aO, SS, TF125Keys3, aM, setRange, aN, aC, aB, aF, aE, aD, aA, Nat.reduceLT, Nat.reduceEqDiff, Nat.reduceAdd, Nat.reduceMul, Nat.reduceSub, Nat.reduceLeDiff, Nat.reduceBEq, reduceCtorEq]); (repeat' ((first | apply aJ | apply aI | apply aL | apply aK | apply aH | apply aG) <;> intro h <;> simp only [h, SS, TF125Keys3, aM, setRange, aN, aC, aB, aF, aE, aD, aA, Nat.reduceLT, Nat.reduceEqDiff, Nat.reduceAdd, Nat.reduceMul, Nat.reduceSub, Nat.reduceLeDiff, Nat.reduceBEq, reduceCtorEq])))
    exact Ends2_of (es := [.nilslice]) (.inl rfl) rfl (by simp only [SS, TF125Keys3, aM, setRange, aN, aC, aB, aF, aE, aD, aA, Nat.reduceLT, Nat.reduceEqDiff, Nat.reduceAdd, Nat.reduceMul, Nat.reduceSub, Nat.reduceLeDiff, Nat.reduceBEq, reduceCtorEq]) (hk0 h0)
  · ((try simp only [aO, SS, TF125Keys3, aM, setRange, aN, aC, aB, aF, aE, aD, aA, Nat.reduceLT, Nat.reduceEqDiff, Nat.reduceAdd, Nat.reduceMul, Nat.reduceSub, Nat.reduceLeDiff, Nat.reduceBEq, reduceCtorEq, ↓kcall_miss]); (repeat' ((first | apply aJ | apply aI | apply aL | apply aK | apply aH | apply aG) <;> intro h <;> simp only [h, SS, TF125Keys3, aM, setRange, aN, aC, aB, aF, aE, aD, aA, Nat.reduceLT, Nat.reduceEqDiff, Nat.reduceAdd, Nat.reduceMul, Nat.reduceSub, Nat.reduceLeDiff, Nat.reduceBEq, reduceCtorEq, ↓kcall_miss])))
    refine ct156 hcl (by rw [hs.len]; exact hks) fun c' h1 h2 => ?_
    ((try simp only [aO, SS, TF125Keys3, aM, setRange, aN, aC, aB, aF, aE, aD, aA, Nat.reduceLT, Nat.reduceEqDiff, Nat.reduceAdd, Nat.reduceMul, Nat.reduceSub, Nat.reduceLeDiff, Nat.reduceBEq, reduceCtorEq]); (repeat' ((first | apply aJ | apply aI | apply aL | apply aK | apply aH | apply aG) <;> intro h <;> simp only [h, SS, TF125Keys3, aM, setRange, aN, aC, aB, aF, aE, aD, aA, Nat.reduceLT, Nat.reduceEqDiff, Nat.reduceAdd, Nat.reduceMul, Nat.reduceSub, Nat.reduceLeDiff, Nat.reduceBEq, reduceCtorEq])))
    have hl : c'.length = c.length := h1.len
    rw [← hl]
    exact Ends2_of (es := [.slice 4 0 c'.length (.slack 0)]) (.inl rfl) rfl (by simp only [SS, TF125Keys3, aM, setRange, aN, aC, aB, aF, aE, aD, aA, Nat.reduceLT, Nat.reduceEqDiff, Nat.reduceAdd, Nat.reduceMul, Nat.reduceSub, Nat.reduceLeDiff, Nat.reduceBEq, reduceCtorEq]) (hk1 c' (by intro e; rw [e] at hl; exact hne (List.eq_nil_of_length_eq_zero hl.symm)) (hs.trans h1) h2)
theorem ct126 {ks : List Int} {cm cp : List EVal} {k : EVal → H → Prop} (hk : k (.func 157 [.ptr 3 0]) (mkH 4 (LB ks cm cp) 0 [])) :
    cQ Tryz.prog gT (dE KS) 126 [.map 2] (mkH 3 [(2, some (.map (dO 0 ks) ks.length)), (1, some (.row cm 27 0 0 false)), (0, some (.row cp 24 0 0 false))] 0 []) k := by
  refine cQ.intro Tryz.func126 rfl ?_
  refine Top.view (aX.start (n := 4) rfl (by simp)) (aS bA _ _ _ _ ?_)
  ((try simp only [aO, SS, TF126Keys3, aM, setRange, aN, aC, aB, aF, aE, aD, aA, Nat.reduceLT, Nat.reduceEqDiff, Nat.reduceAdd, Nat.reduceMul, Nat.reduceSub, Nat.reduceLeDiff, Nat.reduceBEq, reduceCtorEq]); (repeat' ((first | apply aJ | apply aI | apply aL | apply aK | apply aH | apply aG) <;> intro h <;> simp only [h, SS, TF126Keys3, aM, setRange, aN, aC, aB, aF, aE, aD, aA, Nat.reduceLT, Nat.reduceEqDiff, Nat.reduceAdd, Nat.reduceMul, Nat.reduceSub, Nat.reduceLeDiff, Nat.reduceBEq, reduceCtorEq])))
  exact Ends2_of (es := [.func 157 [.ptr 3 0]]) (.inr rfl) rfl (by simp only [SS, TF126Keys3, aM, setRange, aN, aC, aB, aF, aE, aD, aA, Nat.reduceLT, Nat.reduceEqDiff, Nat.reduceAdd, Nat.reduceMul, Nat.reduceSub, Nat.reduceLeDiff, Nat.reduceBEq, reduceCtorEq]) hk

/-! who helped, the program's -/
def insK (ks : List Int) (x : Int) : List Int := if ks.any (· == x) = true then ks else ks ++ [x]
def keysB (z : Int) (b : List Int) : List Int := b.foldl (fun ks x => if x == z then ks else insK ks x) []
theorem keysB_take {z : Int} {b : List Int} {k : Nat} {x : Int} (h : b[k]? = some x) : keysB z (b.take (k + 1)) = if x == z then keysB z (b.take k) else insK (keysB z (b.take k)) x := by
  rw [List.take_add_one, h]; simp [keysB]
theorem insK_mem {ks : List Int} {x v : Int} : v ∈ insK ks x ↔ v ∈ ks ∨ v = x := by
  unfold insK
  split
  · rename_i h
    simp only [List.any_eq_true, beq_iff_eq] at h
    obtain ⟨y, hy, rfl⟩ := h
    constructor
    · exact fun h => .inl h
    · rintro (h | rfl)
      · exact h
      · exact hy
  · simp
theorem insK_nodup {ks : List Int} {x : Int} (h : ks.Nodup) : (insK ks x).Nodup := by
  unfold insK
  split
  · exact h
  · rename_i hn
    rw [List.nodup_append]
    refine ⟨h, by simp, fun a ha b hb e => ?_⟩
    rw [List.mem_singleton.1 hb] at e
    subst e
    exact hn (by simpa using ha)
theorem insK_len (ks : List Int) (x : Int) : (insK ks x).length ≤ ks.length + 1 := by
  unfold insK; split <;> simp
theorem keysB_all (z : Int) (b : List Int) : (keysB z b).Nodup ∧ (∀ v, v ∈ keysB z b ↔ v ∈ b ∧ v ≠ z) ∧ (keysB z b).length ≤ b.length := by
  have key : ∀ k, k ≤ b.length → (keysB z (b.take k)).Nodup ∧ (∀ v, v ∈ keysB z (b.take k) ↔ v ∈ b.take k ∧ v ≠ z) ∧ (keysB z (b.take k)).length ≤ k := by
    intro k
    induction k with
    | zero => intro _; simp [keysB]
    | succ k ih =>
      intro hk
      obtain ⟨h1, h2, h3⟩ := ih (by omega)
      obtain ⟨x, hx⟩ : ∃ x, b[k]? = some x := ⟨b[k], List.getElem?_eq_getElem (by omega)⟩
      rw [keysB_take hx]
      have ht : b.take (k + 1) = b.take k ++ [x] := by rw [List.take_add_one, hx]; rfl
      rw [ht]
      by_cases hc : x = z
      · have hc2 : (x == z) = true := by simpa using hc
        rw [hc2, if_pos rfl]
        refine ⟨h1, fun v => ?_, by omega⟩
        rw [h2 v]
        simp only [List.mem_append, List.mem_singleton]
        constructor
        · rintro ⟨a, b⟩; exact ⟨.inl a, b⟩
        · rintro ⟨a | rfl, b⟩
          · exact ⟨a, b⟩
          · exact absurd hc b
      · have hc2 : (x == z) = false := by simpa using hc
        rw [hc2, if_neg (by simp)]
        refine ⟨insK_nodup h1, fun v => ?_, by have := insK_len (keysB z (b.take k)) x; omega⟩
        rw [insK_mem, h2 v]
        simp only [List.mem_append, List.mem_singleton]
        constructor
        · rintro (⟨a, b⟩ | rfl)
          · exact ⟨.inl a, b⟩
          · exact ⟨.inr rfl, hc⟩
        · rintro ⟨a | rfl, b⟩
          · exact .inl ⟨a, b⟩
          · exact .inr rfl
  have := key b.length (Nat.le_refl _)
  rwa [List.take_length] at this
theorem helpL_asc (b : List Int) : ∀ i j, i < j → j < (cZ b 9).length → at0 (cZ b 9) i < at0 (cZ b 9) j := by
  have h1 : (oneTo 9).Pairwise (· < ·) := by decide
  have h2 : (cZ b 9).Pairwise (· < ·) := h1.filter _
  intro i j hij hj
  have := List.pairwise_iff_getElem.1 h2 i j (by omega) hj hij
  simpa [at0, hj, show i < (cZ b 9).length by omega] using this
theorem helpL_mem {b : List Int} (hb : inNine b = true) (v : Int) : v ∈ cZ b 9 ↔ v ∈ b ∧ v ≠ b.getLastD 0 := by
  simp only [cZ, List.mem_filter, helpB, Bool.and_eq_true, bne_iff_ne, List.any_eq_true, beq_iff_eq, exists_eq_right]
  simp only [inNine, List.all_eq_true, Bool.and_eq_true, decide_eq_true_eq] at hb
  constructor
  · rintro ⟨_, h1, h2⟩; exact ⟨h2, h1⟩
  · rintro ⟨h1, h2⟩
    obtain ⟨h3, h4⟩ := hb v h1
    refine ⟨?_, h2, h1⟩
    simp only [oneTo, List.mem_map, List.mem_range]
    exact ⟨(v - 1).toNat, by omega, by omega⟩
theorem nodup_at0 {c : List Int} (h : c.Nodup) : ∀ a b, a < b → b < c.length → at0 c a ≠ at0 c b := by
  intro a b hab hb e
  have ha : a < c.length := by omega
  simp only [at0, List.getD_eq_getElem?_getD, List.getElem?_eq_getElem ha, List.getElem?_eq_getElem hb, Option.getD_some] at e
  have := (List.getElem_inj h).1 e
  omega
theorem sorted_help {b c : List Int} (hb : inNine b = true) (hs : Same (keysB (b.getLastD 0) b) c) (ho : Ord c c.length) : c = cZ b 9 := by
  obtain ⟨h1, h2, _⟩ := keysB_all (b.getLastD 0) b
  have hn := hs.nod (nodup_at0 h1)
  refine ord_eq (fun i j hij hj => ?_) (helpL_asc b) fun v => ?_
  · have q1 := ho i j hij hj
    have q2 := hn i j hij hj
    omega
  · rw [hs.mem v, h2 v, helpL_mem hb v]
end Go.Ev
