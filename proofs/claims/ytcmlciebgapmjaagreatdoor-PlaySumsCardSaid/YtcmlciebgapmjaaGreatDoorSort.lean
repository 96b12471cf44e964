import Derived.Test.YtcmlciebgapmjaaGreatDoorEvC
import Derived.Test.YtcmlciebgapmjaaGreatDoorRef2
import Derived.Test.YtcmlciebgapmjaaGreatDoorDraw
import Derived.Test.YtcmlciebgapmjaaGreatDoorClone
import Derived.Test.YtcmlciebgapmjaaGreatDoorPutouts2
set_option linter.unusedSimpArgs false
set_option linter.unusedVariables false
namespace Go.Ev
open Go.RowKit Go.Proofs
set_option linter.defProp false
def TF174Sort := And.intro (And.intro (And.intro (@Tryz.underlying3) (@sz3)) (And.intro (@bT) (@I3s))) (And.intro (And.intro (@I3b) (@bS)) (And.intro (@bV) (@Tryz.results174)))
def cC := And.intro (And.intro (And.intro (And.intro (@Tryz.underlying3) (@sz3)) (And.intro (@bT) (@I3s))) (And.intro (And.intro (@I3b) (@bS)) (And.intro (@bV) (@Tryz.underlying25)))) (And.intro (And.intro (And.intro (@dF) (@bZ)) (And.intro (@dG) (@dH))) (And.intro (And.intro (@bX) (@cA)) (And.intro (@call205) (@Tryz.results199))))
def TF205Sort := And.intro (And.intro (And.intro (@Tryz.underlying3) (@sz3)) (And.intro (@bT) (@I3s))) (And.intro (And.intro (@I3b) (@bS)) (And.intro (@bV) (And.intro (@call174) (@Tryz.results205))))
set_option maxRecDepth 20000
set_option maxHeartbeats 8000000

/-! small functions of the library -/
def F174 : List EVal → Option EVal
  | [.int .i64 _] => some (.bool false)
  | _ => none
theorem fn174 : FnT 174 F174 := by
  refine Fn.intro mixed bA Tryz.func174 rfl [] (fun _ h => by cases h) ?_
  intro args v hF
  unfold F174 at hF
  split at hF
  rotate_left
  · cases hF
  intro Q hV
  have hQ := bL.of hV
  rename_i a
  cases hF
  refine Top.view (aX.start (n := 6) rfl (by simp)) (aS bA _ _ _ _ ?_)
  ((try simp only [aO, SS, TF174Sort, aM, setRange, aN, aC, aB, aF, aE, aD, aA, Nat.reduceLT, Nat.reduceEqDiff, Nat.reduceAdd, Nat.reduceMul, Nat.reduceSub, Nat.reduceLeDiff, Nat.reduceBEq, reduceCtorEq, bne]); (repeat' ((first | apply aJ | apply aI | apply aL | apply aK | apply aH | apply aG) <;> intro h <;> simp only [h, SS, TF174Sort, aM, setRange, aN, aC, aB, aF, aE, aD, aA, Nat.reduceLT, Nat.reduceEqDiff, Nat.reduceAdd, Nat.reduceMul, Nat.reduceSub, Nat.reduceLeDiff, Nat.reduceBEq, reduceCtorEq, bne])))
  (refine hQ _ _ _ (aR (by first | exact .inl rfl | exact .inr rfl) ?_); simp only [SS, TF174Sort, aM, setRange, aN, aC, aB, aF, aE, aD, aA, Nat.reduceLT, Nat.reduceEqDiff, Nat.reduceAdd, Nat.reduceMul, Nat.reduceSub, Nat.reduceLeDiff, Nat.reduceBEq, reduceCtorEq])
theorem e174 {a : Int} : F174 [.int .i64 a] = some (.bool false) := rfl
def F205 : List EVal → Option EVal
  | [.int .i64 a, .int .i64 b] => some (.bool (decide (a < b)))
  | _ => none
theorem fn205 : FnT 205 F205 := by
  refine Fn.intro mixed bA Tryz.func205 rfl [(174, F174)] (by simp only [List.forall_mem_cons]; exact ⟨fn174, fun _ h => by cases h⟩) ?_
  intro args v hF
  unfold F205 at hF
  split at hF
  rotate_left
  · cases hF
  intro Q hV
  have hQ := bL.of hV
  rename_i a b
  cases hF
  refine Top.view (aX.start (n := 17) rfl (by simp)) (aS bA _ _ _ _ ?_)
  ((try simp only [aO, SS, TF205Sort, aM, setRange, aN, aC, aB, aF, aE, aD, aA, Nat.reduceLT, Nat.reduceEqDiff, Nat.reduceAdd, Nat.reduceMul, Nat.reduceSub, Nat.reduceLeDiff, Nat.reduceBEq, reduceCtorEq, e174]); (repeat' ((first | apply aJ | apply aI | apply aL | apply aK | apply aH | apply aG) <;> intro h <;> simp only [h, SS, TF205Sort, aM, setRange, aN, aC, aB, aF, aE, aD, aA, Nat.reduceLT, Nat.reduceEqDiff, Nat.reduceAdd, Nat.reduceMul, Nat.reduceSub, Nat.reduceLeDiff, Nat.reduceBEq, reduceCtorEq, e174])))
  (refine hQ _ _ _ (aR (by first | exact .inl rfl | exact .inr rfl) ?_); simp only [SS, TF205Sort, aM, setRange, aN, aC, aB, aF, aE, aD, aA, Nat.reduceLT, Nat.reduceEqDiff, Nat.reduceAdd, Nat.reduceMul, Nat.reduceSub, Nat.reduceLeDiff, Nat.reduceBEq, reduceCtorEq])
theorem e205 {a b : Int} : F205 [.int .i64 a, .int .i64 b] = some (.bool (decide (a < b))) := rfl
def allInt (b : Int) : Option (List Out) → Bool
  | some l => l.all fun o => match o with | .val (.int .i64 c) _ => c == b | _ => false
  | none => false
theorem run_int {f : FuncId} {F : List EVal → Option EVal} {n : Nat} (H1 : ∀ a u, F a = some u → ∃ b, u = .int .i64 b ∧ allInt b (run Tryz.prog gT quiet n (.call f a H.start)) = true) : FnT f F := by
  intro B0 W0 G a u hF vs fro w hvs hfz hb hs
  obtain ⟨b, rfl, h⟩ := H1 a u hF
  have G1 : dU w.heap.size w gT := G.grow hb hs
  cases hr : run Tryz.prog gT quiet n (.call f a H.start) with
  | none => rw [hr] at h; cases h
  | some outs =>
    rw [hr] at h
    have hall : ∀ o ∈ outs, (match o with | .val (.int .i64 c) _ => c == b | _ => false) = true := List.all_eq_true.1 h
    refine (run_calls mixed bA hfz G1 (quietK_ok (W0 := ⟨w, fro⟩) mixed bA G1 100 quietF) hr hvs).mono ?_
    rintro e w' ⟨v, h', u, ρ, hm, rfl, hv, hR⟩
    have := hall _ hm
    split at this
    · rename_i heq
      cases heq
      cases hv
      simp only [beq_iff_eq] at this
      subst this
      refine ⟨_, ρ.fro, rfl, .int _ _, hR.below, ?_⟩
      have hfro : (fun b => if b < w.heap.size then fro b else ρ.fro b) = ρ.fro := by
        funext b
        split
        · rename_i hb; exact (hR.fz0 b hb).symm
        · rfl
      rw [hfro]; exact hR.fz
    · cases this
def bitsOf (n : Int) : Int := if n = 0 then 0 else if n = 1 then 1 else if n < 4 then 2 else if n < 8 then 3 else 4
def F173 : List EVal → Option EVal
  | [.int .u64 n] => if 0 ≤ n ∧ n ≤ 9 then some (.int .i64 (bitsOf n)) else none
  | _ => none
theorem fn173 : FnT 173 F173 := by
  refine run_int (n := 400) fun a u hF => ?_
  unfold F173 at hF
  split at hF
  rotate_left
  · cases hF
  rename_i n
  split at hF
  rotate_left
  · cases hF
  rename_i hn
  cases hF
  have : n = 0 ∨ n = 1 ∨ n = 2 ∨ n = 3 ∨ n = 4 ∨ n = 5 ∨ n = 6 ∨ n = 7 ∨ n = 8 ∨ n = 9 := by omega
  rcases this with rfl | rfl | rfl | rfl | rfl | rfl | rfl | rfl | rfl | rfl <;> exact ⟨_, rfl, by kernel_rfl⟩

/-! sorting in place -/
abbrev KS : Table := [(57, F57), (124, F124), (205, F205), (173, F173)]
theorem ct199 {L3 : List (Nat × Option EObj)} (hcl : Clean 4 L3) {c : List Int} (hc : c.length ≤ 9) {kk : List (Nat × Option (Nat × TypeId))} {k : EVal → H → Prop}
    (hk : ∀ c', Same c c' → Ord c' c'.length → k (.tup []) (mkH 5 ((4, some (.row (bY c') 3 0 0 true)) :: L3) 0 kk)) :
    cQ Tryz.prog gT (dE KS) 199 [.slice 4 0 c.length (.slack 0), .int .i64 0, .int .i64 c.length] (mkH 5 ((4, some (.row (bY c) 3 0 0 true)) :: L3) 0 kk) k := by
  refine cQ.intro Tryz.func199 rfl (Top.unview ?_)
  refine Top.view (aX.start (n := 49) rfl (by simp)) (aS bA _ _ _ _ ?_)
  have w1 : IntKind.i64.wrap ((0 : Int) + 1) = 1 := by decide
  ((try simp only [aO, SS, cC, aM, setRange, aN, aC, aB, aF, aE, aD, aA, Nat.reduceLT, Nat.reduceEqDiff, Nat.reduceAdd, Nat.reduceMul, Nat.reduceSub, Nat.reduceLeDiff, Nat.reduceBEq, reduceCtorEq, w1]); (repeat' ((first | apply aJ | apply aI | apply aL | apply aK | apply aH | apply aG) <;> intro h <;> simp only [h, SS, cC, aM, setRange, aN, aC, aB, aF, aE, aD, aA, Nat.reduceLT, Nat.reduceEqDiff, Nat.reduceAdd, Nat.reduceMul, Nat.reduceSub, Nat.reduceLeDiff, Nat.reduceBEq, reduceCtorEq, w1])))
  have cl1 := Clean.skip (x := (4, some (.row (bY c) 3 0 0 true))) (by simp) hcl.look
  refine bH (Top.loop (I := fun s : { s : List Int × Nat // Same c s.1 ∧ 1 ≤ s.2 ∧ s.2 ≤ 10 ∧ Ord s.1 s.2 } => (mkF 49 [(6, .int .i64 (s.1.2 : Nat)), (0, .slice 4 0 c.length (.slack 0)), (1, .int .i64 0), (2, .int .i64 c.length)], mkH 5 ((4, some (.row (bY s.1.1) 3 0 0 true)) :: L3) 0 kk)) (μ := fun s => 10 - s.1.2) ⟨(c, 1), Same.refl c, by simp, by simp, fun a b h1 h2 => by simp at h2; omega⟩ (aX.sub (by simp [look])) ?_)
  rintro ⟨⟨d, i⟩, hs, hi1, hi10, ho⟩
  dsimp only at hs hi1 hi10 ho
  refine aS bA _ _ _ _ ?_
  have hdl : d.length = c.length := hs.len
  by_cases hlt : i < c.length
  rotate_left
  · have q1 : decide ((i : Int) < (c.length : Int)) = false := by simp; omega
    ((try simp only [aO, SS, cC, aM, setRange, aN, aC, aB, aF, aE, aD, aA, Nat.reduceLT, Nat.reduceEqDiff, Nat.reduceAdd, Nat.reduceMul, Nat.reduceSub, Nat.reduceLeDiff, Nat.reduceBEq, reduceCtorEq, q1]); (repeat' ((first | apply aJ | apply aI | apply aL | apply aK | apply aH | apply aG) <;> intro h <;> simp only [h, SS, cC, aM, setRange, aN, aC, aB, aF, aE, aD, aA, Nat.reduceLT, Nat.reduceEqDiff, Nat.reduceAdd, Nat.reduceMul, Nat.reduceSub, Nat.reduceLeDiff, Nat.reduceBEq, reduceCtorEq, q1])))
    refine ⟨_, _, aX.refl, trivial, _, _, rfl, rfl, hk d hs ?_⟩
    intro a b hab hb
    have hb' : b < d.length := hb
    exact ho a b hab (by omega)
  have q1 : decide ((i : Int) < (c.length : Int)) = true := by simp; omega
  ((try simp only [aO, SS, cC, aM, setRange, aN, aC, aB, aF, aE, aD, aA, Nat.reduceLT, Nat.reduceEqDiff, Nat.reduceAdd, Nat.reduceMul, Nat.reduceSub, Nat.reduceLeDiff, Nat.reduceBEq, reduceCtorEq, q1]); (repeat' ((first | apply aJ | apply aI | apply aL | apply aK | apply aH | apply aG) <;> intro h <;> simp only [h, SS, cC, aM, setRange, aN, aC, aB, aF, aE, aD, aA, Nat.reduceLT, Nat.reduceEqDiff, Nat.reduceAdd, Nat.reduceMul, Nat.reduceSub, Nat.reduceLeDiff, Nat.reduceBEq, reduceCtorEq, q1])))
  refine bH (Top.loop (I := fun s : { s : List Int × Nat // Same c s.1 ∧ InsI s.1 i s.2 } => (mkF 49 [(7, .int .i64 (s.1.2 : Nat)), (6, .int .i64 (i : Nat)), (0, .slice 4 0 c.length (.slack 0)), (1, .int .i64 0), (2, .int .i64 c.length)], mkH 5 ((4, some (.row (bY s.1.1) 3 0 0 true)) :: L3) 0 kk)) (μ := fun s => s.1.2) ⟨(d, i), hs, InsI.start ho (show i < d.length by omega)⟩ (aX.sub (by simp [look])) ?_)
  rintro ⟨⟨d2, j⟩, hs2, hI⟩
  dsimp only at hs2 hI
  have hd2 : d2.length = c.length := hs2.len
  refine aS bA _ _ _ _ ?_
  have done : (j = 0 ∨ at0 d2 (j - 1) ≤ at0 d2 j) → Ord d2 (i + 1) := fun h => hI.stop h
  have q2 : IntKind.i64.wrap ((i : Int) + 1) = ((i + 1 : Nat) : Int) := by rw [bE] <;> omega
  have next : ∀ f h, aX (some 5) Tryz.prog f h (mkF 49 [(6, .int .i64 ((i + 1 : Nat) : Int)), (0, .slice 4 0 c.length (.slack 0)), (1, .int .i64 0), (2, .int .i64 c.length)]) (mkH 5 ((4, some (.row (bY d2) 3 0 0 true)) :: L3) 0 kk) → (j = 0 ∨ at0 d2 (j - 1) ≤ at0 d2 j) →
      ∃ s' : { s : List Int × Nat // Same c s.1 ∧ 1 ≤ s.2 ∧ s.2 ≤ 10 ∧ Ord s.1 s.2 }, (fun s : { s : List Int × Nat // Same c s.1 ∧ 1 ≤ s.2 ∧ s.2 ≤ 10 ∧ Ord s.1 s.2 } => 10 - s.1.2) s' < 10 - i ∧ aX (some 5) Tryz.prog f h (mkF 49 [(6, .int .i64 (s'.1.2 : Nat)), (0, .slice 4 0 c.length (.slack 0)), (1, .int .i64 0), (2, .int .i64 c.length)]) (mkH 5 ((4, some (.row (bY s'.1.1) 3 0 0 true)) :: L3) 0 kk) :=
    fun f h v hd => ⟨⟨(d2, i + 1), hs2, by simp, by simp; omega, done hd⟩, by simp; omega, v⟩
  have hji := hI.ji
  have hil := hI.il
  by_cases hj0 : j = 0
  · subst hj0
    have b0 : decide ((0 : Int) < 0) = false := by decide
    ((try simp only [aO, SS, cC, aM, setRange, aN, aC, aB, aF, aE, aD, aA, Nat.reduceLT, Nat.reduceEqDiff, Nat.reduceAdd, Nat.reduceMul, Nat.reduceSub, Nat.reduceLeDiff, Nat.reduceBEq, reduceCtorEq]); (repeat' ((first | apply aJ | apply aI | apply aL | apply aK | apply aH | apply aG) <;> intro h <;> simp only [h, SS, cC, aM, setRange, aN, aC, aB, aF, aE, aD, aA, Nat.reduceLT, Nat.reduceEqDiff, Nat.reduceAdd, Nat.reduceMul, Nat.reduceSub, Nat.reduceLeDiff, Nat.reduceBEq, reduceCtorEq])))
    refine wp_of_draw (Top.draw mixed bA (by kernel_rfl) ?_)
    ((try simp only [aO, SS, cC, aM, setRange, aN, aC, aB, aF, aE, aD, aA, Nat.reduceLT, Nat.reduceEqDiff, Nat.reduceAdd, Nat.reduceMul, Nat.reduceSub, Nat.reduceLeDiff, Nat.reduceBEq, reduceCtorEq, b0]); (repeat' ((first | apply aJ | apply aI | apply aL | apply aK | apply aH | apply aG) <;> intro h <;> simp only [h, SS, cC, aM, setRange, aN, aC, aB, aF, aE, aD, aA, Nat.reduceLT, Nat.reduceEqDiff, Nat.reduceAdd, Nat.reduceMul, Nat.reduceSub, Nat.reduceLeDiff, Nat.reduceBEq, reduceCtorEq, b0])))
    refine ⟨by kernel_rfl, ?_⟩
    ((try simp only [aO, SS, cC, aM, setRange, aN, aC, aB, aF, aE, aD, aA, Nat.reduceLT, Nat.reduceEqDiff, Nat.reduceAdd, Nat.reduceMul, Nat.reduceSub, Nat.reduceLeDiff, Nat.reduceBEq, reduceCtorEq, q2]); (repeat' ((first | apply aJ | apply aI | apply aL | apply aK | apply aH | apply aG) <;> intro h <;> simp only [h, SS, cC, aM, setRange, aN, aC, aB, aF, aE, aD, aA, Nat.reduceLT, Nat.reduceEqDiff, Nat.reduceAdd, Nat.reduceMul, Nat.reduceSub, Nat.reduceLeDiff, Nat.reduceBEq, reduceCtorEq, q2])))
    exact next _ _ (aX.sub (by simp [look])) (.inl rfl)
  have b0 : decide ((0 : Int) < (j : Int)) = true := by simp; omega
  have b1 : IntKind.i64.wrap ((j : Int) - 1) = ((j - 1 : Nat) : Int) := by rw [bE] <;> omega
  have b2 : ((j : Int) < (c.length : Int)) = True := by simp; omega
  have b3 : (((j - 1 : Nat) : Int) < (c.length : Int)) = True := by simp; omega
  have g1 := eRow_get (l := d2) (i := j) (by omega)
  have g2 := eRow_get (l := d2) (i := j - 1) (by omega)
  have s1 := setRange_eRow (l := d2) (i := j) (x := at0 d2 (j - 1)) (by omega)
  have s2 : setRange (bY (d2.set j (at0 d2 (j - 1)))) (j - 1) [.int .i64 (at0 d2 j)] = bY (swap2 d2 j (j - 1)) := setRange_eRow (by simp; omega)
  have c3 : j + 1 ≤ d2.length := by omega
  have c4 : j - 1 + 1 ≤ d2.length := by omega
  ((try simp only [aO, SS, cC, aM, setRange, aN, aC, aB, aF, aE, aD, aA, Nat.reduceLT, Nat.reduceEqDiff, Nat.reduceAdd, Nat.reduceMul, Nat.reduceSub, Nat.reduceLeDiff, Nat.reduceBEq, reduceCtorEq]); (repeat' ((first | apply aJ | apply aI | apply aL | apply aK | apply aH | apply aG) <;> intro h <;> simp only [h, SS, cC, aM, setRange, aN, aC, aB, aF, aE, aD, aA, Nat.reduceLT, Nat.reduceEqDiff, Nat.reduceAdd, Nat.reduceMul, Nat.reduceSub, Nat.reduceLeDiff, Nat.reduceBEq, reduceCtorEq])))
  refine wp_of_draw (Top.draw mixed bA (by kernel_rfl) ?_)
  cases hcmp : decide (d2.getD j 0 < d2.getD (j - 1) 0) with
  | false =>
    ((try simp only [aO, SS, cC, aM, setRange, aN, aC, aB, aF, aE, aD, aA, Nat.reduceLT, Nat.reduceEqDiff, Nat.reduceAdd, Nat.reduceMul, Nat.reduceSub, Nat.reduceLeDiff, Nat.reduceBEq, reduceCtorEq, b0, b1, b2, b3, g1, g2, e205, hcmp]); (repeat' ((first | apply aJ | apply aI | apply aL | apply aK | apply aH | apply aG) <;> intro h <;> simp only [h, SS, cC, aM, setRange, aN, aC, aB, aF, aE, aD, aA, Nat.reduceLT, Nat.reduceEqDiff, Nat.reduceAdd, Nat.reduceMul, Nat.reduceSub, Nat.reduceLeDiff, Nat.reduceBEq, reduceCtorEq, b0, b1, b2, b3, g1, g2, e205, hcmp])))
    refine ⟨by kernel_rfl, ?_⟩
    ((try simp only [aO, SS, cC, aM, setRange, aN, aC, aB, aF, aE, aD, aA, Nat.reduceLT, Nat.reduceEqDiff, Nat.reduceAdd, Nat.reduceMul, Nat.reduceSub, Nat.reduceLeDiff, Nat.reduceBEq, reduceCtorEq, q2]); (repeat' ((first | apply aJ | apply aI | apply aL | apply aK | apply aH | apply aG) <;> intro h <;> simp only [h, SS, cC, aM, setRange, aN, aC, aB, aF, aE, aD, aA, Nat.reduceLT, Nat.reduceEqDiff, Nat.reduceAdd, Nat.reduceMul, Nat.reduceSub, Nat.reduceLeDiff, Nat.reduceBEq, reduceCtorEq, q2])))
    have : ¬ at0 d2 j < at0 d2 (j - 1) := by simpa using hcmp
    exact next _ _ (aX.sub (by simp [look])) (.inr (by omega))
  | true =>
    ((try simp only [aO, SS, cC, aM, setRange, aN, aC, aB, aF, aE, aD, aA, Nat.reduceLT, Nat.reduceEqDiff, Nat.reduceAdd, Nat.reduceMul, Nat.reduceSub, Nat.reduceLeDiff, Nat.reduceBEq, reduceCtorEq, b0, b1, b2, b3, g1, g2, e205, hcmp]); (repeat' ((first | apply aJ | apply aI | apply aL | apply aK | apply aH | apply aG) <;> intro h <;> simp only [h, SS, cC, aM, setRange, aN, aC, aB, aF, aE, aD, aA, Nat.reduceLT, Nat.reduceEqDiff, Nat.reduceAdd, Nat.reduceMul, Nat.reduceSub, Nat.reduceLeDiff, Nat.reduceBEq, reduceCtorEq, b0, b1, b2, b3, g1, g2, e205, hcmp])))
    refine ⟨by kernel_rfl, ?_⟩
    ((try simp only [aO, SS, cC, aM, setRange, aN, aC, aB, aF, aE, aD, aA, Nat.reduceLT, Nat.reduceEqDiff, Nat.reduceAdd, Nat.reduceMul, Nat.reduceSub, Nat.reduceLeDiff, Nat.reduceBEq, reduceCtorEq]); (repeat' ((first | apply aJ | apply aI | apply aL | apply aK | apply aH | apply aG) <;> intro h <;> simp only [h, SS, cC, aM, setRange, aN, aC, aB, aF, aE, aD, aA, Nat.reduceLT, Nat.reduceEqDiff, Nat.reduceAdd, Nat.reduceMul, Nat.reduceSub, Nat.reduceLeDiff, Nat.reduceBEq, reduceCtorEq])))
    refine wp_of_draw (Top.draw mixed bA (by kernel_rfl) ?_)
    ((try simp only [aO, SS, cC, aM, aN, aC, aB, aF, aE, aD, aA, Nat.reduceLT, Nat.reduceEqDiff, Nat.reduceAdd, Nat.reduceMul, Nat.reduceSub, Nat.reduceLeDiff, Nat.reduceBEq, reduceCtorEq, b1, b2, b3, g1, g2, s1, s2, eRow_length, List.length_set, c3, c4]); (repeat' ((first | apply aJ | apply aI | apply aL | apply aK | apply aH | apply aG) <;> intro h <;> simp only [h, SS, cC, aM, aN, aC, aB, aF, aE, aD, aA, Nat.reduceLT, Nat.reduceEqDiff, Nat.reduceAdd, Nat.reduceMul, Nat.reduceSub, Nat.reduceLeDiff, Nat.reduceBEq, reduceCtorEq, b1, b2, b3, g1, g2, s1, s2, eRow_length, List.length_set, c3, c4])))
    refine ⟨by kernel_rfl, ?_⟩
    ((try simp only [aO, SS, cC, aM, setRange, aN, aC, aB, aF, aE, aD, aA, Nat.reduceLT, Nat.reduceEqDiff, Nat.reduceAdd, Nat.reduceMul, Nat.reduceSub, Nat.reduceLeDiff, Nat.reduceBEq, reduceCtorEq, b1]); (repeat' ((first | apply aJ | apply aI | apply aL | apply aK | apply aH | apply aG) <;> intro h <;> simp only [h, SS, cC, aM, setRange, aN, aC, aB, aF, aE, aD, aA, Nat.reduceLT, Nat.reduceEqDiff, Nat.reduceAdd, Nat.reduceMul, Nat.reduceSub, Nat.reduceLeDiff, Nat.reduceBEq, reduceCtorEq, b1])))
    have hlt2 : at0 d2 j < at0 d2 (j - 1) := by simpa using hcmp
    refine ⟨⟨(swap2 d2 j (j - 1), j - 1), hs2.trans (Same.swap (by omega) (by omega)), hI.swap (by omega) hlt2⟩, by simp; omega, ?_⟩
    exact aX.trans (aX.sub (by simp [look])) (aX.front (by omega) (Nat.le_refl 4) hcl (Clean.skip (by simp) (Clean.skip (by simp) (Clean.skip (by simp) hcl.look))) (by simp [aU]))
end Go.Ev
