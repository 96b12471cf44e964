import Derived.Test.YtcmlciebgapmjaaGreatDoorKeys
set_option linter.unusedSimpArgs false
set_option linter.unusedVariables false
namespace Go.Ev
open Go.RowKit Go.Proofs
set_option linter.defProp false
def TF177Keys2 := And.intro (And.intro (And.intro (@Tryz.underlying3) (And.intro (@sz3) (@bT))) (And.intro (And.intro (@I3s) (@I3b)) (And.intro (@bS) (@bV)))) (And.intro (And.intro (And.intro (@Tryz.underlying25) (@dF)) (And.intro (@bZ) (@dG))) (And.intro (And.intro (@dH) (@bX)) (And.intro (@cA) (@Tryz.results177))))
set_option maxRecDepth 20000
set_option maxHeartbeats 8000000

/-! the keys of a map, collected -/
def colL (ks : List Int) (s : List Nat) : List Int := s.map fun i => ks.getD i 0
theorem colL_len (ks : List Int) (s : List Nat) : (colL ks s).length = s.length := by simp [colL]
theorem colL_snoc (ks : List Int) (s : List Nat) (i : Nat) : colL ks (s ++ [i]) = colL ks s ++ [ks.getD i 0] := by simp [colL]
theorem eRow_snoc (l : List Int) (x : Int) : bY l ++ [.int .i64 x] = bY (l ++ [x]) := by simp [bY]
theorem cover_len : ∀ (n : Nat) (s : List Nat), (∀ i, i < n → i ∈ s) → n ≤ s.length
  | 0, _, _ => Nat.zero_le _
  | n + 1, s, h => by
    have hn : n ∈ s := h n (by omega)
    have h1 := cover_len n (s.erase n) (fun i hi => (List.mem_erase_of_ne (by omega)).2 (h i (by omega)))
    have h2 : (s.erase n).length = s.length - 1 := List.length_erase_of_mem hn
    have h3 : 0 < s.length := List.length_pos_of_mem hn
    omega
theorem colL_same {ks : List Int} {s : List Nat} (h1 : s.Nodup) (h2 : ∀ j ∈ s, j < ks.length) (h3 : ∀ i, i < ks.length → i ∈ s) : Same ks (colL ks s) := by
  have hl : s.length = ks.length := by
    have a := nodup_lt_len ks.length s h1 h2
    have b := cover_len ks.length s h3
    omega
  have hat : ∀ a (ha : a < s.length), at0 (colL ks s) a = at0 ks (s[a]) := by
    intro a ha
    simp [at0, colL, ha]
  refine ⟨by rw [colL_len, hl], fun v => ?_, fun hn a b hab hb => ?_⟩
  · rw [mem_at0, mem_at0, colL_len]
    constructor
    · rintro ⟨a, ha, rfl⟩
      exact ⟨s[a], h2 _ (List.getElem_mem ha), (hat a ha).symm⟩
    · rintro ⟨a, ha, rfl⟩
      obtain ⟨q, hq, e⟩ := List.getElem_of_mem (h3 a ha)
      exact ⟨q, hq, by rw [hat q hq, e]⟩
  · rw [colL_len] at hb
    have ha : a < s.length := by omega
    rw [hat a ha, hat b hb]
    have hne : s[a] ≠ s[b] := by
      intro e
      have := (List.getElem_inj h1).1 e
      omega
    rcases Nat.lt_or_gt_of_ne hne with h | h
    · exact hn _ _ h (h2 _ (List.getElem_mem hb))
    · exact fun e => hn _ _ h (h2 _ (List.getElem_mem ha)) e.symm

abbrev LB (ks : List Int) (cm cp : List EVal) : List (Nat × Option EObj) := [(3, some (.row [.map 2] 152 0 0 false)), (2, some (.map (dO 0 ks) ks.length)), (1, some (.row cm 27 0 0 false)), (0, some (.row cp 24 0 0 false))]
def BLf (lp : EObj) (ks : List Int) (cm cp : List EVal) : List Nat → List (Nat × Option EObj)
  | [] => [(6, some lp), (5, some (.deferred false)), (4, some (.row [.nilslice] 25 0 0 false)), (3, some (.row [.map 2] 152 0 0 false)), (2, some (.map (dO 0 ks) ks.length)), (1, some (.row cm 27 0 0 false)), (0, some (.row cp 24 0 0 false))]
  | i :: s => [(6, some lp), (s.length + 8, some (.row (bY (colL ks (i :: s))) 3 0 0 true)), (5, some (.deferred false)), (4, some (.row [.slice (s.length + 8) 0 (s.length + 1) (.slack 0)] 25 0 0 false)), (3, some (.row [.map 2] 152 0 0 false)), (2, some (.map (dO 0 ks) ks.length)), (1, some (.row cm 27 0 0 false)), (0, some (.row cp 24 0 0 false))]
def NNf : List Nat → Nat
  | [] => 8
  | _ :: s => s.length + 9
theorem ct177 {ks : List Int} {cm cp : List EVal} {k : EVal → H → Prop} (hks : ks.length ≤ 9) (hcm : ∀ N, aT N cm = true) (hcp : ∀ N, aT N cp = true)
    (hk0 : ks = [] → k .nilslice (mkH 8 (LB ks cm cp) 0 [])) (hk1 : ∀ c q, q < 9 → c ≠ [] → Same ks c → k (.slice (q + 8) 0 c.length (.slack 0)) (mkH (q + 9) ((q + 8, some (.row (bY c) 3 0 0 true)) :: LB ks cm cp) 0 [])) :
    cQ Tryz.prog gT (dE KS) 177 [.nilslice, .func 157 [.ptr 3 0]] (mkH 4 (LB ks cm cp) 0 []) k := by
  refine cQ.out (cQ.intro Tryz.func177 rfl ?_)
  refine Top.view (aX.start (n := 13) rfl (by simp)) (aS bA _ _ _ _ ?_)
  ((try simp only [aO, SS, TF177Keys2, aM, setRange, aN, aC, aB, aF, aE, aD, aA, Nat.reduceLT, Nat.reduceEqDiff, Nat.reduceAdd, Nat.reduceMul, Nat.reduceSub, Nat.reduceLeDiff, Nat.reduceBEq, reduceCtorEq]); (repeat' ((first | apply aJ | apply aI | apply aL | apply aK | apply aH | apply aG) <;> intro h <;> simp only [h, SS, TF177Keys2, aM, setRange, aN, aC, aB, aF, aE, aD, aA, Nat.reduceLT, Nat.reduceEqDiff, Nat.reduceAdd, Nat.reduceMul, Nat.reduceSub, Nat.reduceLeDiff, Nat.reduceBEq, reduceCtorEq])))
  refine wp_of_range (Top.rangeFunc (kf := 157) (caps := [.ptr 3 0]) bA (by simp only [ev_tmp, T.get_ofL, look, Nat.reduceLT, Nat.reduceEqDiff, if_true, if_false]) (by kernel_rfl) ?_)
  simp only [mkH_n, mkH_new, Nat.reduceAdd]
  refine cQ.capture fun lp hlp hb hx0 => ?_
  have hokb : okO 8 (inState .busy none lp) := by rw [hb]; exact okO_loop (by simp [below, aT])
  have hokm : ∀ N, okO N (.row cm 27 0 0 false) := fun N => okO_row (hcm N)
  have hokp : ∀ N, okO N (.row cp 24 0 0 false) := fun N => okO_row (hcp N)
  have hok3 : okO 8 (.row [.map 2] 152 0 0 false) := okO_row rfl
  refine ct157 (ks := ks) (kk := []) (BL := BLf lp ks cm cp) (NN := NNf) rfl ?_ (by simp [BLf, aU]) ?_ ?_
  · intro s; cases s <;> simp [BLf, aU]
  · intro s i k hnd hlt hi his hk
    have hslen : s.length < 9 := by
      have h1 : (i :: s).Nodup := List.nodup_cons.2 ⟨his, hnd⟩
      have := nodup_lt_len ks.length (i :: s) h1 (fun j hj => by rcases List.mem_cons.1 hj with rfl | hj; exact hi; exact hlt j hj)
      simp at this; omega
    have hsn : colL ks (s ++ [i]) = colL ks s ++ [ks.getD i 0] := colL_snoc ks s i
    generalize ks.getD i 0 = x at hsn ⊢
    refine RoundT.out ?_
    cases s with
    | nil =>
      refine RoundT.intro (by simp only [BLf, mkH_get, aU, Nat.reduceLT, Nat.reduceEqDiff, if_true, if_false]; rw [hlp]) (setParams_one (by omega)) ?_
      simp only [mkD_eq, mkH_n, NNf, BLf]
      refine aS bA _ _ _ _ ?_
      ((try simp only [aO, SS, TF177Keys2, aM, setRange, aN, aC, aB, aF, aE, aD, aA, Nat.reduceLT, Nat.reduceEqDiff, Nat.reduceAdd, Nat.reduceMul, Nat.reduceSub, Nat.reduceLeDiff, Nat.reduceBEq, reduceCtorEq]); (repeat' ((first | apply aJ | apply aI | apply aL | apply aK | apply aH | apply aG) <;> intro h <;> simp only [h, SS, TF177Keys2, aM, setRange, aN, aC, aB, aF, aE, aD, aA, Nat.reduceLT, Nat.reduceEqDiff, Nat.reduceAdd, Nat.reduceMul, Nat.reduceSub, Nat.reduceLeDiff, Nat.reduceBEq, reduceCtorEq])))
      refine roundMid_of (by simp only [mkH_get, aU, Nat.reduceLT, Nat.reduceEqDiff, if_true, if_false]; rw [hlp]) ?_
      simp only [mkH_put, ← hb]
      refine Top.unview (aS bA _ _ _ _ ?_)
      ((try simp only [aO, SS, TF177Keys2, aM, setRange, aN, aC, aB, aF, aE, aD, aA, Nat.reduceLT, Nat.reduceEqDiff, Nat.reduceAdd, Nat.reduceMul, Nat.reduceSub, Nat.reduceLeDiff, Nat.reduceBEq, reduceCtorEq]); (repeat' ((first | apply aJ | apply aI | apply aL | apply aK | apply aH | apply aG) <;> intro h <;> simp only [h, SS, TF177Keys2, aM, setRange, aN, aC, aB, aF, aE, aD, aA, Nat.reduceLT, Nat.reduceEqDiff, Nat.reduceAdd, Nat.reduceMul, Nat.reduceSub, Nat.reduceLeDiff, Nat.reduceBEq, reduceCtorEq])))
      refine ⟨_, _, aX.renD (fl2 := []) (k2 := []) (l2 := [(7, some (.miter 2 ks.length [i] ks.length)), (6, some (inState .busy none lp)), (8, some (.row [.int .i64 x] 3 0 0 true)), (5, some (.deferred false)), (4, some (.row [.slice 8 0 1 (.slack 0)] 25 0 0 false)), (3, some (.row [.map 2] 152 0 0 false)), (2, some (.map (dO 0 ks) ks.length)), (1, some (.row cm 27 0 0 false)), (0, some (.row cp 24 0 0 false))]) 9 8 (by omega) (by omega) (by intro q h; cases h; omega) (by simp) (by intro q h; cases h; omega) (by simp) ?_ ?_, roundEnd_of (by simp only [mkH_get, aU, Nat.reduceLT, Nat.reduceEqDiff, if_true, if_false]; rw [hb]) ?_⟩
      · simp [aU, okO_miter, okO_row, okO_mapE, okO_deferred, hokb, hokm, hokp, hok3]
        exact ⟨⟨_, _, _, _, _, ⟨rfl, rfl, rfl, rfl⟩, ⟨rfl, rfl, rfl, rfl⟩, by simp [rnL, rnR, below]⟩, ⟨_, _, _, _, _, ⟨rfl, rfl, rfl, rfl⟩, ⟨rfl, rfl, rfl, rfl⟩, by simp [rnL, rnR]⟩⟩
      · simp
      · simp only [mkH_put, ← hlp]
        have hsn0 : bY (colL ks [i]) = [.int .i64 x] := by
          have e : ([] : List Nat) ++ [i] = [i] := rfl
          rw [e] at hsn
          rw [hsn]; rfl
        refine ⟨_, HV.of ?_, hk⟩
        simp [BLf, aU, hsn0]
    | cons i0 s =>
      have hl1 : (bY (colL ks (i0 :: s))).length = s.length + 1 := by rw [eRow_length, colL_len]; rfl
      have ht1 : (bY (colL ks (i0 :: s))).take (s.length + 1) = bY (colL ks (i0 :: s)) := by rw [← hl1, List.take_length]
      have hsn1 : bY (colL ks (i0 :: s)) ++ [.int .i64 x] = bY (colL ks (i0 :: s ++ [i])) := by rw [hsn, eRow_snoc]
      have hm : s.length < 8 := by simp at hslen; omega
      have q1 : (s.length + 1 + 1 ≤ s.length + 1) = False := by simp
      have q2 : 8 * (s.length + 1 + 1) ≤ 1000000 := by omega
      have p1 : (s.length + 8 < 16000) = True := by simp; omega
      have p2 : (s.length + 9 < 16000) = True := by simp; omega
      have p3 : (s.length + 10 < 16000) = True := by simp; omega
      have n1 : s.length + 9 + 1 = s.length + 10 := rfl
      have n2 : s.length + 10 + 1 = s.length + 11 := rfl
      have d1 : (s.length + 9 = s.length + 8) = False := by simp
      have d2 : (s.length + 10 = s.length + 8) = False := by simp
      have d3 : (s.length + 8 = s.length + 9) = False := by simp
      refine RoundT.intro (by simp only [BLf, mkH_get, aU, Nat.reduceLT, Nat.reduceEqDiff, if_true, if_false]; rw [hlp]) (setParams_one (by omega)) ?_
      simp only [mkD_eq, mkH_n, NNf, BLf]
      refine aS bA _ _ _ _ ?_
      ((try simp only [aO, SS, TF177Keys2, aM, setRange, aN, aC, aB, aF, aE, aD, aA, Nat.reduceLT, Nat.reduceEqDiff, Nat.reduceAdd, Nat.reduceMul, Nat.reduceSub, Nat.reduceLeDiff, Nat.reduceBEq, reduceCtorEq]); (repeat' ((first | apply aJ | apply aI | apply aL | apply aK | apply aH | apply aG) <;> intro h <;> simp only [h, SS, TF177Keys2, aM, setRange, aN, aC, aB, aF, aE, aD, aA, Nat.reduceLT, Nat.reduceEqDiff, Nat.reduceAdd, Nat.reduceMul, Nat.reduceSub, Nat.reduceLeDiff, Nat.reduceBEq, reduceCtorEq])))
      refine roundMid_of (by simp only [mkH_get, aU, Nat.reduceLT, Nat.reduceEqDiff, if_true, if_false]; rw [hlp]) ?_
      simp only [mkH_put, ← hb]
      refine Top.unview (aS bA _ _ _ _ ?_)
      ((try simp only [aO, SS, TF177Keys2, aM, setRange, aN, aC, aB, aF, aE, aD, aA, Nat.reduceLT, Nat.reduceEqDiff, Nat.reduceAdd, Nat.reduceMul, Nat.reduceSub, Nat.reduceLeDiff, Nat.reduceBEq, reduceCtorEq, List.length_cons, hl1, ht1, hsn1, q1, q2, p1, p2, p3, n1, n2, d1, d2, d3]); (repeat' ((first | apply aJ | apply aI | apply aL | apply aK | apply aH | apply aG) <;> intro h <;> simp only [h, SS, TF177Keys2, aM, setRange, aN, aC, aB, aF, aE, aD, aA, Nat.reduceLT, Nat.reduceEqDiff, Nat.reduceAdd, Nat.reduceMul, Nat.reduceSub, Nat.reduceLeDiff, Nat.reduceBEq, reduceCtorEq, List.length_cons, hl1, ht1, hsn1, q1, q2, p1, p2, p3, n1, n2, d1, d2, d3])))
      have hbl : ∀ N, aT N (bY (colL ks (i0 :: s ++ [i]))) = true := fun N => aV N _
      have hokb2 : okO (s.length + 9) (inState .busy none lp) := by rw [hb]; exact okO_loop (by simp [below, aT])
      refine ⟨_, _, aX.renD (fl2 := []) (k2 := []) (l2 := [(7, some (.miter 2 ks.length (i0 :: s ++ [i]) ks.length)), (6, some (inState .busy none lp)), (s.length + 9, some (.row (bY (colL ks (i0 :: s ++ [i]))) 3 0 0 true)), (5, some (.deferred false)), (4, some (.row [.slice (s.length + 9) 0 (s.length + 1 + 1) (.slack 0)] 25 0 0 false)), (3, some (.row [.map 2] 152 0 0 false)), (2, some (.map (dO 0 ks) ks.length)), (1, some (.row cm 27 0 0 false)), (0, some (.row cp 24 0 0 false))]) (s.length + 10) (s.length + 9) (by omega) (by omega) (by intro q h; cases h; omega) (by simp) (by intro q h; cases h; omega) (by simp) ?_ ?_, roundEnd_of (by simp only [mkH_get, aU, Nat.reduceLT, Nat.reduceEqDiff, if_true, if_false]; rw [hb]) ?_⟩
      · have hok3 : okO (s.length + 9) (.row [.map 2] 152 0 0 false) := okO_row (by simp [aT, below])
        simp [aU, okO_miter, okO_row, okO_mapE, okO_deferred, hokb2, hokm, hokp, hok3]
        exact ⟨⟨by omega, _, _, _, _, _, ⟨rfl, rfl, rfl, rfl⟩, ⟨rfl, rfl, rfl, rfl⟩, rn_same (hbl _)⟩, ⟨_, _, _, _, _, ⟨rfl, rfl, rfl, rfl⟩, ⟨rfl, rfl, rfl, rfl⟩, by simp [rnL, rnR]⟩⟩
      · simp
      · simp only [mkH_put, ← hlp]
        have hN : NNf (i0 :: s ++ [i]) = s.length + 9 + 1 := by simp [NNf]
        rw [hN] at hk
        refine ⟨_, HV.of ?_, hk⟩
        simp [BLf, aU]
        omega
  · intro s hnd hlt hall
    cases s with
    | nil =>
      have hks0 : ks = [] := by
        cases ks with
        | nil => rfl
        | cons x ks => have := hall 0 (by simp); cases this
      refine rangeEnd_of (by simp only [BLf, mkH_get, aU, Nat.reduceLT, Nat.reduceEqDiff, if_true, if_false]; rw [hlp]) ?_
      simp only [mkH_put, mkD_eq, NNf, BLf, ← hx0]
      ((try simp only [aO, SS, TF177Keys2, aM, setRange, aN, aC, aB, aF, aE, aD, aA, Nat.reduceLT, Nat.reduceEqDiff, Nat.reduceAdd, Nat.reduceMul, Nat.reduceSub, Nat.reduceLeDiff, Nat.reduceBEq, reduceCtorEq]); (repeat' ((first | apply aJ | apply aI | apply aL | apply aK | apply aH | apply aG) <;> intro h <;> simp only [h, SS, TF177Keys2, aM, setRange, aN, aC, aB, aF, aE, aD, aA, Nat.reduceLT, Nat.reduceEqDiff, Nat.reduceAdd, Nat.reduceMul, Nat.reduceSub, Nat.reduceLeDiff, Nat.reduceBEq, reduceCtorEq])))
      refine Ends2_of (.inl rfl) (by simp only [mkD_defers, takeAll, mkH_get, aU, Nat.reduceLT, Nat.reduceEqDiff, if_true, if_false, mkH_put]; rfl) (by simp only [SS, TF177Keys2, aM, setRange, aN, aC, aB, aF, aE, aD, aA, Nat.reduceLT, Nat.reduceEqDiff, Nat.reduceAdd, Nat.reduceMul, Nat.reduceSub, Nat.reduceLeDiff, Nat.reduceBEq, reduceCtorEq]; rfl) ?_
      refine ⟨_, HV.of ?_, hk0 hks0⟩
      simp [aU]
    | cons i0 s =>
      have hm : s.length < 9 := by
        have := nodup_lt_len ks.length (i0 :: s) hnd hlt
        simp at this; omega
      have hc := colL_same hnd hlt hall
      have hcl : (colL ks (i0 :: s)).length = s.length + 1 := by rw [colL_len]; rfl
      have hk2 := hk1 (colL ks (i0 :: s)) s.length hm (by intro e; rw [e] at hcl; cases hcl) hc
      rw [hcl] at hk2
      have p1 : (s.length + 8 < 16000) = True := by simp; omega
      refine rangeEnd_of (by simp only [BLf, mkH_get, aU, Nat.reduceLT, Nat.reduceEqDiff, if_true, if_false]; rw [hlp]) ?_
      simp only [mkH_put, mkD_eq, NNf, BLf, ← hx0]
      ((try simp only [aO, SS, TF177Keys2, aM, setRange, aN, aC, aB, aF, aE, aD, aA, Nat.reduceLT, Nat.reduceEqDiff, Nat.reduceAdd, Nat.reduceMul, Nat.reduceSub, Nat.reduceLeDiff, Nat.reduceBEq, reduceCtorEq]); (repeat' ((first | apply aJ | apply aI | apply aL | apply aK | apply aH | apply aG) <;> intro h <;> simp only [h, SS, TF177Keys2, aM, setRange, aN, aC, aB, aF, aE, aD, aA, Nat.reduceLT, Nat.reduceEqDiff, Nat.reduceAdd, Nat.reduceMul, Nat.reduceSub, Nat.reduceLeDiff, Nat.reduceBEq, reduceCtorEq])))
      refine Ends2_of (.inl rfl) (by simp only [mkD_defers, takeAll, mkH_get, aU, Nat.reduceLT, Nat.reduceEqDiff, if_true, if_false, mkH_put]; rfl) (by simp only [SS, TF177Keys2, aM, setRange, aN, aC, aB, aF, aE, aD, aA, Nat.reduceLT, Nat.reduceEqDiff, Nat.reduceAdd, Nat.reduceMul, Nat.reduceSub, Nat.reduceLeDiff, Nat.reduceBEq, reduceCtorEq]; rfl) ?_
      refine ⟨_, HV.of ?_, hk2⟩
      simp [aU]
      omega
end Go.Ev
