import Derived.Test.YtcmlciebgapmjaaGreatDoorSort
set_option linter.unusedSimpArgs false
set_option linter.unusedVariables false
namespace Go.Ev
open Go.RowKit Go.Proofs
set_option linter.defProp false
def TF156Keys := And.intro (And.intro (And.intro (And.intro (@Tryz.underlying3) (And.intro (@sz3) (@bT))) (And.intro (@I3s) (And.intro (@I3b) (@bS)))) (And.intro (And.intro (@bV) (And.intro (@Tryz.underlying25) (@dF))) (And.intro (@bZ) (And.intro (@dG) (@dH))))) (And.intro (And.intro (And.intro (@bX) (And.intro (@cA) (@Tryz.underlying195))) (And.intro (@sz195) (And.intro (@info195) (@I195s)))) (And.intro (And.intro (@I195b) (And.intro (@zero195) (@grow195))) (And.intro (@call173) (And.intro (@call178) (@Tryz.results156)))))
def TF157Keys := And.intro (And.intro (And.intro (And.intro (@Tryz.underlying3) (@sz3)) (And.intro (@bT) (And.intro (@I3s) (@I3b)))) (And.intro (And.intro (@bS) (And.intro (@bV) (@Tryz.underlying4))) (And.intro (@sz4) (And.intro (@cV) (@I4s))))) (And.intro (And.intro (And.intro (@I4b) (@cU)) (And.intro (@cW) (And.intro (@Tryz.underlying152) (@sz152)))) (And.intro (And.intro (@info152) (And.intro (@I152s) (@I152b))) (And.intro (@zero152) (And.intro (@grow152) (@Tryz.results157)))))
def TF178Keys := And.intro (And.intro (And.intro (And.intro (And.intro (@Tryz.underlying3) (@sz3)) (And.intro (@bT) (@I3s))) (And.intro (And.intro (@I3b) (@bS)) (And.intro (@bV) (@Tryz.underlying25)))) (And.intro (And.intro (And.intro (@dF) (@bZ)) (And.intro (@dG) (@dH))) (And.intro (And.intro (@bX) (@cA)) (And.intro (@Tryz.underlying203) (@sz203))))) (And.intro (And.intro (And.intro (And.intro (@info203) (@I203s)) (And.intro (@I203b) (@zero203))) (And.intro (And.intro (@grow203) (@call178)) (And.intro (@call199) (@call200)))) (And.intro (And.intro (And.intro (@call201) (@call202)) (And.intro (@call203) (@call204))) (And.intro (And.intro (@call205) (@call206)) (And.intro (@call207) (@Tryz.results178)))))
def TF199Keys := And.intro (And.intro (And.intro (And.intro (@Tryz.underlying3) (@sz3)) (And.intro (@bT) (@I3s))) (And.intro (And.intro (@I3b) (@bS)) (And.intro (@bV) (@Tryz.underlying25)))) (And.intro (And.intro (And.intro (@dF) (@bZ)) (And.intro (@dG) (@dH))) (And.intro (And.intro (@bX) (@cA)) (And.intro (@call205) (@Tryz.results199))))
set_option maxRecDepth 20000
set_option maxHeartbeats 8000000

/-! sorting: the way to it -/
theorem u64_small : ∀ n, n < 10 → IntKind.u64.wrap ((n : Nat) : Int) = n := by decide
theorem ct178 {L3 : List (Nat × Option EObj)} (hcl : Clean 4 L3) {c : List Int} (hc : c.length ≤ 9) {z : Int} {kk : List (Nat × Option (Nat × TypeId))} {k : EVal → H → Prop}
    (hk : ∀ c', Same c c' → Ord c' c'.length → k (.tup []) (mkH 5 ((4, some (.row (bY c') 3 0 0 true)) :: L3) 0 kk)) :
    cQ Tryz.prog gT (dE KS) 178 [.slice 4 0 c.length (.slack 0), .int .i64 0, .int .i64 c.length, .int .i64 z] (mkH 5 ((4, some (.row (bY c) 3 0 0 true)) :: L3) 0 kk) k := by
  refine cQ.intro Tryz.func178 rfl ?_
  refine Top.view (aX.start (n := 134) rfl (by simp)) (aS bA _ _ _ _ ?_)
  ((try simp only [aO, SS, TF178Keys, aM, setRange, aN, aC, aB, aF, aE, aD, aA, Nat.reduceLT, Nat.reduceEqDiff, Nat.reduceAdd, Nat.reduceMul, Nat.reduceSub, Nat.reduceLeDiff, Nat.reduceBEq, reduceCtorEq]); (repeat' ((first | apply aJ | apply aI | apply aL | apply aK | apply aH | apply aG) <;> intro h <;> simp only [h, SS, TF178Keys, aM, setRange, aN, aC, aB, aF, aE, aD, aA, Nat.reduceLT, Nat.reduceEqDiff, Nat.reduceAdd, Nat.reduceMul, Nat.reduceSub, Nat.reduceLeDiff, Nat.reduceBEq, reduceCtorEq])))
  refine bH (Top.loop (I := fun _ : Unit => (mkF 134 [(0, .slice 4 0 c.length (.slack 0)), (1, .int .i64 0), (2, .int .i64 c.length), (3, .int .i64 z)], mkH 5 ((4, some (.row (bY c) 3 0 0 true)) :: L3) 0 kk)) (μ := fun _ => 0) () (aX.sub (by simp [look])) ?_)
  intro _
  refine aS bA _ _ _ _ ?_
  have q0 : IntKind.i64.wrap ((c.length : Int) - 0) = (c.length : Int) := by rw [Int.sub_zero, bE] <;> omega
  have q1 : decide ((c.length : Int) ≤ 12) = true := by simp; omega
  ((try simp only [aO, SS, TF178Keys, aM, setRange, aN, aC, aB, aF, aE, aD, aA, Nat.reduceLT, Nat.reduceEqDiff, Nat.reduceAdd, Nat.reduceMul, Nat.reduceSub, Nat.reduceLeDiff, Nat.reduceBEq, reduceCtorEq, ↓kcall_miss, q0, q1]); (repeat' ((first | apply aJ | apply aI | apply aL | apply aK | apply aH | apply aG) <;> intro h <;> simp only [h, SS, TF178Keys, aM, setRange, aN, aC, aB, aF, aE, aD, aA, Nat.reduceLT, Nat.reduceEqDiff, Nat.reduceAdd, Nat.reduceMul, Nat.reduceSub, Nat.reduceLeDiff, Nat.reduceBEq, reduceCtorEq, ↓kcall_miss, q0, q1])))
  refine ct199 hcl hc fun c' h1 h2 => ?_
  ((try simp only [aO, SS, TF178Keys, aM, setRange, aN, aC, aB, aF, aE, aD, aA, Nat.reduceLT, Nat.reduceEqDiff, Nat.reduceAdd, Nat.reduceMul, Nat.reduceSub, Nat.reduceLeDiff, Nat.reduceBEq, reduceCtorEq]); (repeat' ((first | apply aJ | apply aI | apply aL | apply aK | apply aH | apply aG) <;> intro h <;> simp only [h, SS, TF178Keys, aM, setRange, aN, aC, aB, aF, aE, aD, aA, Nat.reduceLT, Nat.reduceEqDiff, Nat.reduceAdd, Nat.reduceMul, Nat.reduceSub, Nat.reduceLeDiff, Nat.reduceBEq, reduceCtorEq])))
  exact Ends2_of (.inl rfl) rfl rfl (hk c' h1 h2)
theorem ct156 {L3 : List (Nat × Option EObj)} (hcl : Clean 4 L3) {c : List Int} (hc : c.length ≤ 9) {kk : List (Nat × Option (Nat × TypeId))} {k : EVal → H → Prop}
    (hk : ∀ c', Same c c' → Ord c' c'.length → k (.tup []) (mkH 5 ((4, some (.row (bY c') 3 0 0 true)) :: L3) 0 kk)) :
    cQ Tryz.prog gT (dE KS) 156 [.slice 4 0 c.length (.slack 0)] (mkH 5 ((4, some (.row (bY c) 3 0 0 true)) :: L3) 0 kk) k := by
  refine cQ.intro Tryz.func156 rfl ?_
  refine Top.view (aX.start (n := 11) rfl (by simp)) (aS bA _ _ _ _ ?_)
  have q0 := u64_small c.length (by omega)
  have h173 : F173 [.int .u64 (c.length : Int)] = some (.int .i64 (bitsOf (c.length : Int))) := by
    simp only [F173]; rw [if_pos (by omega)]
  ((try simp only [aO, SS, TF156Keys, aM, setRange, aN, aC, aB, aF, aE, aD, aA, Nat.reduceLT, Nat.reduceEqDiff, Nat.reduceAdd, Nat.reduceMul, Nat.reduceSub, Nat.reduceLeDiff, Nat.reduceBEq, reduceCtorEq, ↓kcall_miss, q0, h173]); (repeat' ((first | apply aJ | apply aI | apply aL | apply aK | apply aH | apply aG) <;> intro h <;> simp only [h, SS, TF156Keys, aM, setRange, aN, aC, aB, aF, aE, aD, aA, Nat.reduceLT, Nat.reduceEqDiff, Nat.reduceAdd, Nat.reduceMul, Nat.reduceSub, Nat.reduceLeDiff, Nat.reduceBEq, reduceCtorEq, ↓kcall_miss, q0, h173])))
  refine ct178 hcl hc fun c' h1 h2 => ?_
  ((try simp only [aO, SS, TF156Keys, aM, setRange, aN, aC, aB, aF, aE, aD, aA, Nat.reduceLT, Nat.reduceEqDiff, Nat.reduceAdd, Nat.reduceMul, Nat.reduceSub, Nat.reduceLeDiff, Nat.reduceBEq, reduceCtorEq]); (repeat' ((first | apply aJ | apply aI | apply aL | apply aK | apply aH | apply aG) <;> intro h <;> simp only [h, SS, TF156Keys, aM, setRange, aN, aC, aB, aF, aE, aD, aA, Nat.reduceLT, Nat.reduceEqDiff, Nat.reduceAdd, Nat.reduceMul, Nat.reduceSub, Nat.reduceLeDiff, Nat.reduceBEq, reduceCtorEq])))
  exact Ends2_of (.inr rfl) rfl rfl (hk c' h1 h2)
/-! nothing to sort -/
theorem ct199n {n m : Nat} {l : List (Nat × Option EObj)} {kk : List (Nat × Option (Nat × TypeId))} {k : EVal → H → Prop} (hk : k (.tup []) (mkH n l m kk)) :
    cQ Tryz.prog gT (dE KS) 199 [.nilslice, .int .i64 0, .int .i64 0] (mkH n l m kk) k := by
  refine cQ.intro Tryz.func199 rfl ?_
  refine Top.view (aX.start (n := 49) rfl (by simp)) (aS bA _ _ _ _ ?_)
  have w1 : IntKind.i64.wrap ((0 : Int) + 1) = 1 := by decide
  ((try simp only [aO, SS, TF199Keys, aM, setRange, aN, aC, aB, aF, aE, aD, aA, Nat.reduceLT, Nat.reduceEqDiff, Nat.reduceAdd, Nat.reduceMul, Nat.reduceSub, Nat.reduceLeDiff, Nat.reduceBEq, reduceCtorEq, w1]); (repeat' ((first | apply aJ | apply aI | apply aL | apply aK | apply aH | apply aG) <;> intro h <;> simp only [h, SS, TF199Keys, aM, setRange, aN, aC, aB, aF, aE, aD, aA, Nat.reduceLT, Nat.reduceEqDiff, Nat.reduceAdd, Nat.reduceMul, Nat.reduceSub, Nat.reduceLeDiff, Nat.reduceBEq, reduceCtorEq, w1])))
  refine bH (Top.loop (I := fun _ : Unit => (mkF 49 [(6, .int .i64 1), (2, .int .i64 0)], mkH n l m kk)) (μ := fun _ => 0) () (aX.sub (by simp [look])) ?_)
  intro _
  refine aS bA _ _ _ _ ?_
  have q1 : decide ((1 : Int) < 0) = false := by decide
  ((try simp only [aO, SS, TF199Keys, aM, setRange, aN, aC, aB, aF, aE, aD, aA, Nat.reduceLT, Nat.reduceEqDiff, Nat.reduceAdd, Nat.reduceMul, Nat.reduceSub, Nat.reduceLeDiff, Nat.reduceBEq, reduceCtorEq, q1]); (repeat' ((first | apply aJ | apply aI | apply aL | apply aK | apply aH | apply aG) <;> intro h <;> simp only [h, SS, TF199Keys, aM, setRange, aN, aC, aB, aF, aE, aD, aA, Nat.reduceLT, Nat.reduceEqDiff, Nat.reduceAdd, Nat.reduceMul, Nat.reduceSub, Nat.reduceLeDiff, Nat.reduceBEq, reduceCtorEq, q1])))
  exact Ends2_of (.inr rfl) rfl rfl hk
theorem ct178n {n m : Nat} {l : List (Nat × Option EObj)} {z : Int} {kk : List (Nat × Option (Nat × TypeId))} {k : EVal → H → Prop} (hk : k (.tup []) (mkH n l m kk)) :
    cQ Tryz.prog gT (dE KS) 178 [.nilslice, .int .i64 0, .int .i64 0, .int .i64 z] (mkH n l m kk) k := by
  refine cQ.intro Tryz.func178 rfl ?_
  refine Top.view (aX.start (n := 134) rfl (by simp)) (aS bA _ _ _ _ ?_)
  ((try simp only [aO, SS, TF178Keys, aM, setRange, aN, aC, aB, aF, aE, aD, aA, Nat.reduceLT, Nat.reduceEqDiff, Nat.reduceAdd, Nat.reduceMul, Nat.reduceSub, Nat.reduceLeDiff, Nat.reduceBEq, reduceCtorEq]); (repeat' ((first | apply aJ | apply aI | apply aL | apply aK | apply aH | apply aG) <;> intro h <;> simp only [h, SS, TF178Keys, aM, setRange, aN, aC, aB, aF, aE, aD, aA, Nat.reduceLT, Nat.reduceEqDiff, Nat.reduceAdd, Nat.reduceMul, Nat.reduceSub, Nat.reduceLeDiff, Nat.reduceBEq, reduceCtorEq])))
  refine bH (Top.loop (I := fun _ : Unit => (mkF 134 [(0, .nilslice), (1, .int .i64 0), (2, .int .i64 0), (3, .int .i64 z)], mkH n l m kk)) (μ := fun _ => 0) () (aX.sub (by simp [look])) ?_)
  intro _
  refine aS bA _ _ _ _ ?_
  have q0 : IntKind.i64.wrap ((0 : Int) - 0) = 0 := by decide
  have q1 : decide ((0 : Int) ≤ 12) = true := by decide
  ((try simp only [aO, SS, TF178Keys, aM, setRange, aN, aC, aB, aF, aE, aD, aA, Nat.reduceLT, Nat.reduceEqDiff, Nat.reduceAdd, Nat.reduceMul, Nat.reduceSub, Nat.reduceLeDiff, Nat.reduceBEq, reduceCtorEq, ↓kcall_miss, q0, q1]); (repeat' ((first | apply aJ | apply aI | apply aL | apply aK | apply aH | apply aG) <;> intro h <;> simp only [h, SS, TF178Keys, aM, setRange, aN, aC, aB, aF, aE, aD, aA, Nat.reduceLT, Nat.reduceEqDiff, Nat.reduceAdd, Nat.reduceMul, Nat.reduceSub, Nat.reduceLeDiff, Nat.reduceBEq, reduceCtorEq, ↓kcall_miss, q0, q1])))
  refine ct199n ?_
  ((try simp only [aO, SS, TF178Keys, aM, setRange, aN, aC, aB, aF, aE, aD, aA, Nat.reduceLT, Nat.reduceEqDiff, Nat.reduceAdd, Nat.reduceMul, Nat.reduceSub, Nat.reduceLeDiff, Nat.reduceBEq, reduceCtorEq]); (repeat' ((first | apply aJ | apply aI | apply aL | apply aK | apply aH | apply aG) <;> intro h <;> simp only [h, SS, TF178Keys, aM, setRange, aN, aC, aB, aF, aE, aD, aA, Nat.reduceLT, Nat.reduceEqDiff, Nat.reduceAdd, Nat.reduceMul, Nat.reduceSub, Nat.reduceLeDiff, Nat.reduceBEq, reduceCtorEq])))
  exact Ends2_of (.inl rfl) rfl rfl hk
theorem ct156n {n m : Nat} {l : List (Nat × Option EObj)} {kk : List (Nat × Option (Nat × TypeId))} {k : EVal → H → Prop} (hk : k (.tup []) (mkH n l m kk)) :
    cQ Tryz.prog gT (dE KS) 156 [.nilslice] (mkH n l m kk) k := by
  refine cQ.intro Tryz.func156 rfl ?_
  refine Top.view (aX.start (n := 11) rfl (by simp)) (aS bA _ _ _ _ ?_)
  have q0 : IntKind.u64.wrap (0 : Int) = 0 := by decide
  have h173 : F173 [.int .u64 0] = some (.int .i64 0) := rfl
  ((try simp only [aO, SS, TF156Keys, aM, setRange, aN, aC, aB, aF, aE, aD, aA, Nat.reduceLT, Nat.reduceEqDiff, Nat.reduceAdd, Nat.reduceMul, Nat.reduceSub, Nat.reduceLeDiff, Nat.reduceBEq, reduceCtorEq, ↓kcall_miss, q0, h173]); (repeat' ((first | apply aJ | apply aI | apply aL | apply aK | apply aH | apply aG) <;> intro h <;> simp only [h, SS, TF156Keys, aM, setRange, aN, aC, aB, aF, aE, aD, aA, Nat.reduceLT, Nat.reduceEqDiff, Nat.reduceAdd, Nat.reduceMul, Nat.reduceSub, Nat.reduceLeDiff, Nat.reduceBEq, reduceCtorEq, ↓kcall_miss, q0, h173])))
  refine ct178n ?_
  ((try simp only [aO, SS, TF156Keys, aM, setRange, aN, aC, aB, aF, aE, aD, aA, Nat.reduceLT, Nat.reduceEqDiff, Nat.reduceAdd, Nat.reduceMul, Nat.reduceSub, Nat.reduceLeDiff, Nat.reduceBEq, reduceCtorEq]); (repeat' ((first | apply aJ | apply aI | apply aL | apply aK | apply aH | apply aG) <;> intro h <;> simp only [h, SS, TF156Keys, aM, setRange, aN, aC, aB, aF, aE, aD, aA, Nat.reduceLT, Nat.reduceEqDiff, Nat.reduceAdd, Nat.reduceMul, Nat.reduceSub, Nat.reduceLeDiff, Nat.reduceBEq, reduceCtorEq])))
  exact Ends2_of (.inr rfl) rfl rfl hk

/-! the keys of a map, visited -/
theorem ct157 {ks : List Int} {BL : List Nat → List (Nat × Option EObj)} {NN : List Nat → Nat} {kk : List (Nat × Option (Nat × TypeId))} {k : EVal → H → Prop} (hN : NN [] = 8)
    (h2 : ∀ s, aU (BL s) 2 = some (.map (dO 0 ks) ks.length)) (h3 : aU (BL []) 3 = some (.row [.map 2] 152 0 0 false))
    (hR : ∀ (s : List Nat) (i : Nat) (k : EVal → H → Prop), s.Nodup → (∀ j ∈ s, j < ks.length) → i < ks.length → i ∉ s → k (.bool true) (mkH (NN (s ++ [i])) ((7, some (.miter 2 ks.length (s ++ [i]) ks.length)) :: BL (s ++ [i])) 0 kk) →
      RoundT Tryz.prog gT (dE KS) 6 [.int .i64 (ks.getD i 0)] (mkH (NN s) ((7, some (.miter 2 ks.length (s ++ [i]) ks.length)) :: (7, some (.miter 2 ks.length s ks.length)) :: BL s) 0 kk) k)
    (hk : ∀ s : List Nat, s.Nodup → (∀ j ∈ s, j < ks.length) → (∀ i, i < ks.length → i ∈ s) → k (.tup []) (mkH (NN s) ((7, some (.miter 2 ks.length s ks.length)) :: BL s) 0 kk)) :
    cQ Tryz.prog gT (dE KS) 157 [.yieldf 6, .ptr 3 0] (mkH 7 (BL []) 0 kk) k := by
  refine cQ.intro Tryz.func157 rfl ?_
  refine Top.view (aX.start (n := 14) rfl (by simp)) (aS bA _ _ _ _ ?_)
  have h20 := h2 []
  ((try simp only [aO, SS, TF157Keys, aM, setRange, aN, aC, aB, aF, aE, aD, aA, Nat.reduceLT, Nat.reduceEqDiff, Nat.reduceAdd, Nat.reduceMul, Nat.reduceSub, Nat.reduceLeDiff, Nat.reduceBEq, reduceCtorEq, h3, h20, eRangeMap]); (repeat' ((first | apply aJ | apply aI | apply aL | apply aK | apply aH | apply aG) <;> intro h <;> simp only [h, SS, TF157Keys, aM, setRange, aN, aC, aB, aF, aE, aD, aA, Nat.reduceLT, Nat.reduceEqDiff, Nat.reduceAdd, Nat.reduceMul, Nat.reduceSub, Nat.reduceLeDiff, Nat.reduceBEq, reduceCtorEq, h3, h20, eRangeMap])))
  refine bH (Top.loop (I := fun s : { s : List Nat // s.Nodup ∧ ∀ j ∈ s, j < ks.length } => (mkF 14 [(5, .ptr 7 0), (0, .yieldf 6)], mkH (NN s.1) ((7, some (.miter 2 ks.length s.1 ks.length)) :: BL s.1) 0 kk)) (μ := fun s => ks.length - s.1.length) ⟨[], List.nodup_nil, by simp⟩ (by rw [hN]; exact aX.sub (by simp [look])) ?_)
  rintro ⟨s, hnd, hlt⟩
  refine aS bA _ _ _ _ ?_
  have hl7 : aU ((7, some (.miter 2 ks.length s ks.length)) :: BL s) 7 = some (.miter 2 ks.length s ks.length) := by simp [aU]
  have hl2 : aU ((7, some (.miter 2 ks.length s ks.length)) :: BL s) 2 = some (.map (dO 0 ks) ks.length) := by rw [aU.eq_2, if_neg (by omega)]; exact h2 s
  obtain ⟨L, hn, hL⟩ := nextMap_mapE (N := NN s) (m := 0) (kk := kk) (id := 7) (mid := 2) (by omega) (by omega) hl7 hl2
  ((try simp only [aO, SS, TF157Keys, aM, setRange, aN, aC, aB, aF, aE, aD, aA, Nat.reduceLT, Nat.reduceEqDiff, Nat.reduceAdd, Nat.reduceMul, Nat.reduceSub, Nat.reduceLeDiff, Nat.reduceBEq, reduceCtorEq]); (repeat' ((first | apply aJ | apply aI | apply aL | apply aK | apply aH | apply aG) <;> intro h <;> simp only [h, SS, TF157Keys, aM, setRange, aN, aC, aB, aF, aE, aD, aA, Nat.reduceLT, Nat.reduceEqDiff, Nat.reduceAdd, Nat.reduceMul, Nat.reduceSub, Nat.reduceLeDiff, Nat.reduceBEq, reduceCtorEq])))
  refine wpOpB_next rfl (L := L) (by simp only [ev_tmp, mkF_tmps, T.get_ofL, look, Nat.reduceLT]; exact hn) ?_
  intro p hp
  rcases hL p hp with ⟨rfl, hall⟩ | ⟨i, hi, his, rfl⟩
  · ((try simp only [aO, SS, TF157Keys, aM, setRange, aN, aC, aB, aF, aE, aD, aA, Nat.reduceLT, Nat.reduceEqDiff, Nat.reduceAdd, Nat.reduceMul, Nat.reduceSub, Nat.reduceLeDiff, Nat.reduceBEq, reduceCtorEq]); (repeat' ((first | apply aJ | apply aI | apply aL | apply aK | apply aH | apply aG) <;> intro h <;> simp only [h, SS, TF157Keys, aM, setRange, aN, aC, aB, aF, aE, aD, aA, Nat.reduceLT, Nat.reduceEqDiff, Nat.reduceAdd, Nat.reduceMul, Nat.reduceSub, Nat.reduceLeDiff, Nat.reduceBEq, reduceCtorEq])))
    exact Ends2_of (.inr rfl) rfl rfl (hk s hnd hlt hall)
  · have hlast : (s ++ [i]).getLast? = some i := by simp
    have hfind := mapE_find (l := ks) (t := 0) hi
    simp only [Nat.zero_add] at hfind
    have h2s := h2 s
    ((try simp only [aO, SS, TF157Keys, aM, setRange, aN, aC, aB, aF, aE, aD, aA, Nat.reduceLT, Nat.reduceEqDiff, Nat.reduceAdd, Nat.reduceMul, Nat.reduceSub, Nat.reduceLeDiff, Nat.reduceBEq, reduceCtorEq, eEntry, eEntry', hlast, hfind, h2s]); (repeat' ((first | apply aJ | apply aI | apply aL | apply aK | apply aH | apply aG) <;> intro h <;> simp only [h, SS, TF157Keys, aM, setRange, aN, aC, aB, aF, aE, aD, aA, Nat.reduceLT, Nat.reduceEqDiff, Nat.reduceAdd, Nat.reduceMul, Nat.reduceSub, Nat.reduceLeDiff, Nat.reduceBEq, reduceCtorEq, eEntry, eEntry', hlast, hfind, h2s])))
    have hlen : s.length < ks.length := by
      have h1 : (i :: s).Nodup := List.nodup_cons.2 ⟨his, hnd⟩
      have := nodup_lt_len ks.length (i :: s) h1 (fun j hj => by rcases List.mem_cons.1 hj with rfl | hj; exact hi; exact hlt j hj)
      simp at this; omega
    refine hR s i _ hnd hlt hi his ?_
    ((try simp only [aO, SS, TF157Keys, aM, setRange, aN, aC, aB, aF, aE, aD, aA, Nat.reduceLT, Nat.reduceEqDiff, Nat.reduceAdd, Nat.reduceMul, Nat.reduceSub, Nat.reduceLeDiff, Nat.reduceBEq, reduceCtorEq]); (repeat' ((first | apply aJ | apply aI | apply aL | apply aK | apply aH | apply aG) <;> intro h <;> simp only [h, SS, TF157Keys, aM, setRange, aN, aC, aB, aF, aE, aD, aA, Nat.reduceLT, Nat.reduceEqDiff, Nat.reduceAdd, Nat.reduceMul, Nat.reduceSub, Nat.reduceLeDiff, Nat.reduceBEq, reduceCtorEq])))
    refine ⟨⟨s ++ [i], ?_, ?_⟩, by simp; omega, aX.sub (by simp [look])⟩
    · rw [List.nodup_append]
      refine ⟨hnd, by simp, fun a ha b hb e => ?_⟩
      rw [List.mem_singleton.1 hb] at e
      exact his (e ▸ ha)
    · intro j hj
      rcases List.mem_append.1 hj with h | h
      · exact hlt j h
      · rw [List.mem_singleton.1 h]; exact hi
end Go.Ev
