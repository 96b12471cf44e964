import Derived.Test.YtdhnjbgggkdiiaaGreatDoorFindW
import Derived.Test.YtdhnjbgggkdiiaaGreatDoorRefParse
set_option linter.unusedSimpArgs false
set_option linter.unusedVariables false
namespace Go.Ev
open Go.RowKit Go.Proofs
set_option linter.defProp false
def TF100ReadP := And.intro (And.intro (And.intro (And.intro (And.intro (@Tryz.underlying3) (And.intro (@sz3) (@cM))) (And.intro (@I3s) (And.intro (@I3b) (@cJ)))) (And.intro (And.intro (@cN) (And.intro (@Tryz.underlying4) (@sz4))) (And.intro (And.intro (@dX) (@I4s)) (And.intro (@I4b) (@dT))))) (And.intro (And.intro (And.intro (@dZ) (And.intro (@Tryz.underlying9) (@sz9))) (And.intro (And.intro (@cK) (@I9s)) (And.intro (@I9b) (@cF)))) (And.intro (And.intro (@cL) (And.intro (@Tryz.underlying22) (@sz22))) (And.intro (And.intro (@info22) (@I22s)) (And.intro (@I22b) (@zero22)))))) (And.intro (And.intro (And.intro (And.intro (@grow22) (And.intro (@Tryz.underlying24) (@sz24))) (And.intro (And.intro (@fok24) (@info24)) (And.intro (@I24s) (@I24b)))) (And.intro (And.intro (@zero24) (And.intro (@grow24) (@Tryz.underlying25))) (And.intro (And.intro (@eL) (@dD)) (And.intro (@eM) (@eN))))) (And.intro (And.intro (And.intro (@cZ) (And.intro (@dF) (@Tryz.underlying27))) (And.intro (And.intro (@eP) (@eC)) (And.intro (@dK) (@eR)))) (And.intro (And.intro (@eS) (And.intro (@dH) (@dM))) (And.intro (And.intro (@call137) (@call140)) (And.intro (@call141) (@Tryz.results100))))))
set_option maxRecDepth 20000
set_option maxHeartbeats 8000000

/-! a play, read -/
def zeroP : EObj := .row [.str [], .str [], .bool false, .nilslice] 24 0 0 false
structure RInv (lp o : EObj) (S : List Nat) (G0 : Pl) (i : Nat) (q : Pl) (v : EVal) (N : Nat) (l : List (Nat × Option EObj)) : Prop where
  rd : G0 = cY i q ((bN 32 S).drop i)
  wr : ∃ a, wrongAt i a ((bN 32 S).drop i) = none
  len : q.m.length ≤ i
  ok : ∀ m ∈ q.m, eJ m
  hN : N ≤ 12 + i
  hN2 : 12 ≤ N
  ml : ML 12 v q.m N l
  l11 : aQ l 11 = some lp
  l10 : aQ l 10 = some (.deferred false)
  l9 : aQ l 9 = some (.row [.str S] 9 0 0 false)
  l8 : aQ l 8 = some (.row [.int .i64 (i : Nat)] 3 0 0 false)
  l7 : aQ l 7 = some (.row [.str q.p, .str q.e, .bool q.l, v] 24 0 0 false)
  l6 : aQ l 6 = some zeroP
  l0 : aQ l 0 = some o
theorem ML_cons {lo : Nat} {v : EVal} {ms : List Mv} {N j : Nat} {l : List (Nat × Option EObj)} {x : Option EObj} (hj : j < lo) (h : ML lo v ms N l) : ML lo v ms N ((j, x) :: l) := by
  rcases h with h | ⟨id, h1, h2, h3, h4⟩
  · exact .inl h
  · exact .inr ⟨id, h1, h2, h3, by rw [aQ.eq_2, if_neg (by omega)]; exact h4⟩
theorem rightW_late {i : Nat} (hi : 2 ≤ i) (h : dI i lateB = true) : i = 2 := by
  apply Classical.byContradiction
  intro hn
  unfold dI at h
  rw [if_neg (by omega), if_neg (by omega), if_neg hn] at h
  exact absurd h (by decide)
theorem ct100 {S : List Nat} {o : EObj} {k : EVal → H → Prop} (hby : bE S = true) (hS : S.length ≤ 5000) (hw0 : wrongAt 0 0 (bN 32 S) = none)
    (hk : ∀ N, N ≤ 12000 → 12 ≤ N → (cY 0 pl0 (bN 32 S)).m.length ≤ 5001 → (∀ m ∈ (cY 0 pl0 (bN 32 S)).m, eJ m) → k (plE (cY 0 pl0 (bN 32 S))) (mkH N [(0, some o)] 128 [])) :
    cP Tryz.prog gT (eI KW) 100 [.str S] (mkH 6 [(0, some o)] 128 []) k := by
  refine cP.out (cP.intro Tryz.func100 rfl (Top.unview ?_))
  refine Top.view (aV.start (n := 37) rfl (by simp)) (aS aX _ _ _ _ ?_)
  ((try simp only [aO, SS, TF100ReadP, aM, setRange, aN, aC, aB, aF, aE, aD, aA, Nat.reduceLT, Nat.reduceEqDiff, Nat.reduceAdd, Nat.reduceMul, Nat.reduceSub, Nat.reduceLeDiff, Nat.reduceBEq, reduceCtorEq, ↓aZ]); (repeat' ((first | apply aJ | apply aI | apply aL | apply aK | apply aH | apply aG) <;> intro h <;> simp only [h, SS, TF100ReadP, aM, setRange, aN, aC, aB, aF, aE, aD, aA, Nat.reduceLT, Nat.reduceEqDiff, Nat.reduceAdd, Nat.reduceMul, Nat.reduceSub, Nat.reduceLeDiff, Nat.reduceBEq, reduceCtorEq, ↓aZ])))
  refine ct137 (by omega) ?_
  ((try simp only [aO, SS, TF100ReadP, aM, setRange, aN, aC, aB, aF, aE, aD, aA, Nat.reduceLT, Nat.reduceEqDiff, Nat.reduceAdd, Nat.reduceMul, Nat.reduceSub, Nat.reduceLeDiff, Nat.reduceBEq, reduceCtorEq]); (repeat' ((first | apply aJ | apply aI | apply aL | apply aK | apply aH | apply aG) <;> intro h <;> simp only [h, SS, TF100ReadP, aM, setRange, aN, aC, aB, aF, aE, aD, aA, Nat.reduceLT, Nat.reduceEqDiff, Nat.reduceAdd, Nat.reduceMul, Nat.reduceSub, Nat.reduceLeDiff, Nat.reduceBEq, reduceCtorEq])))
  refine wp_of_range (Top.rangeFunc (kf := 164) (caps := [.ptr 9 0]) aX (by simp only [ev_tmp, T.get_ofL, look, Nat.reduceLT, Nat.reduceEqDiff, if_true, if_false]) (by kernel_rfl) ?_)
  simp only [mkH_n, mkH_new, Nat.reduceAdd]
  refine cP.capture fun lp hlp hb hx0 => ?_
  have hsl := split_len (c := 32) S
  obtain ⟨G0, hG0⟩ : ∃ G0, G0 = cY 0 pl0 (bN 32 S) := ⟨_, rfl⟩
  rw [← hG0] at hk
  refine ct164 (S := S) (INV := fun i a N l => ∃ q v, RInv lp o S G0 i q v N l) (STOP := fun N l => False)
    hS (by omega) ?_ ⟨pl0, .nilslice, hG0, ⟨0, hw0⟩, by simp [pl0], by simp [pl0], by omega, by omega, .inl ⟨rfl, rfl⟩, by simp [aQ], by simp [aQ], by simp [aQ], by simp [aQ], by simp [aQ, pl0], by simp [aQ, zeroP], by simp [aQ]⟩ ?_ (fun _ _ h => h.elim) ?_
  · rintro i a N l ⟨q, v, hI⟩
    exact hI.l9
  · rintro i a N l w k ⟨q, v, hI⟩ ha hia hwi hkT -
    obtain ⟨hrd, ⟨a', hwr⟩, hlen, hok, hN, hN2, hml, l11, l10, l9, l8, l7, l6, l0⟩ := hI
    have hrt : dI i w = true := by
      rw [wrongAt_drop hwi] at hwr
      apply Classical.byContradiction
      intro h; rw [if_neg h] at hwr; cases hwr
    rw [wrongAt_drop hwi, if_pos hrt] at hwr
    rw [readG_drop hwi] at hrd
    have hmem : w ∈ bN 32 S := List.mem_of_getElem? hwi
    have hwb := split_bytes hby w hmem
    have hi5 : i < 5001 := by
      have := (List.getElem?_eq_some_iff.1 hwi).1; omega
    have hwl : w.length ≤ 5000 := by
      have := lenS_mem hmem
      have := List.length_pos_of_mem hmem
      omega
    have hT : ∀ (fl : List (Nat × EVal)) (N' : Nat) (L : List (Nat × Option EObj)) (q' : Pl) (v' : EVal), dO i q w = q' → q'.m.length ≤ i + 1 → (∀ m ∈ q'.m, eJ m) → N' ≤ N + 1 → N ≤ N' → ML 12 v' q'.m N' L →
        aQ L 11 = some (inState .busy none lp) → aQ L 10 = some (.deferred false) → aQ L 9 = some (.row [.str S] 9 0 0 false) → aQ L 8 = some (.row [.int .i64 ((i + 1 : Nat) : Int)] 3 0 0 false) → aQ L 7 = some (.row [.str q'.p, .str q'.e, .bool q'.l, v'] 24 0 0 false) → aQ L 6 = some zeroP → aQ L 0 = some o →
        bL (some N) Tryz.prog (roundEnd 11 k) .normal (mkD 37 fl [] (some 11)) (mkH N' L 128 []) := by
      intro fl N' L q' v' hs a1 a2 a3 a4 a5 b11 b10 b9 b8 b7 b6 b0
      rw [hs] at hrd
      refine ⟨_, _, aV.subD (l2 := []) (by simp), roundEnd_of (by rw [mkH_get (by omega), b11]; rw [hb]) ?_⟩
      simp only [mkH_put, ← hlp]
      refine hkT _ _ ⟨q', v', hrd, ⟨_, hwr⟩, a1, a2, by omega, by omega, ML_cons (by omega) a5, ?_, ?_, ?_, ?_, ?_, ?_, ?_⟩ <;> simp [aQ, *]
    refine RoundT.intro (by rw [mkH_get (by omega), l11, hlp]) (setParams_two (by omega) (by omega)) ?_
    simp only [mkD_eq, mkH_n]
    refine aS aX _ _ _ _ ?_
    ((try simp only [aO, SS, TF100ReadP, aM, setRange, aN, aC, aB, aF, aE, aD, aA, Nat.reduceLT, Nat.reduceEqDiff, Nat.reduceAdd, Nat.reduceMul, Nat.reduceSub, Nat.reduceLeDiff, Nat.reduceBEq, reduceCtorEq]); (repeat' ((first | apply aJ | apply aI | apply aL | apply aK | apply aH | apply aG) <;> intro h <;> simp only [h, SS, TF100ReadP, aM, setRange, aN, aC, aB, aF, aE, aD, aA, Nat.reduceLT, Nat.reduceEqDiff, Nat.reduceAdd, Nat.reduceMul, Nat.reduceSub, Nat.reduceLeDiff, Nat.reduceBEq, reduceCtorEq])))
    refine roundMid_of (by rw [mkH_get (by omega), l11, hlp]) ?_
    simp only [mkH_put, ← hb]
    refine Top.unview (aS aX _ _ _ _ ?_)
    have w1 : IntKind.i64.wrap ((i : Int) + 1) = ((i + 1 : Nat) : Int) := by rw [bM] <;> omega
    have h140 : F140 [.str w] = some (.str (undash w)) := rfl
    have hb11 : aQ ((11, some (inState .busy none lp)) :: l) 11 = some (inState .busy none lp) := by simp [aQ]
    obtain ⟨o1, o2, o3⟩ := ML_one hml
    by_cases h0 : i = 0
    · have q0 : ((i : Int) == 0) = true := by simp [h0]
      ((try simp only [aO, SS, TF100ReadP, aM, setRange, aN, aC, aB, aF, aE, aD, aA, Nat.reduceLT, Nat.reduceEqDiff, Nat.reduceAdd, Nat.reduceMul, Nat.reduceSub, Nat.reduceLeDiff, Nat.reduceBEq, reduceCtorEq, q0, h140, l8, l7, w1, o1, o2, o3]); (repeat' ((first | apply aJ | apply aI | apply aL | apply aK | apply aH | apply aG) <;> intro h <;> simp only [h, SS, TF100ReadP, aM, setRange, aN, aC, aB, aF, aE, aD, aA, Nat.reduceLT, Nat.reduceEqDiff, Nat.reduceAdd, Nat.reduceMul, Nat.reduceSub, Nat.reduceLeDiff, Nat.reduceBEq, reduceCtorEq, q0, h140, l8, l7, w1, o1, o2, o3])))
      refine hT _ N _ ⟨undash w, q.e, q.l, q.m⟩ v (by simp [dO, h0]) (by show q.m.length ≤ _; omega) hok (by omega) (by omega) (ML_cons (by omega) (ML_cons (by omega) (ML_cons (by omega) hml))) ?_ ?_ ?_ ?_ ?_ ?_ ?_ <;> simp [aQ, *]
    have q0 : ((i : Int) == 0) = false := by simp; omega
    by_cases h1 : i = 1
    · have q1 : ((i : Int) == 1) = true := by simp [h1]
      ((try simp only [aO, SS, TF100ReadP, aM, setRange, aN, aC, aB, aF, aE, aD, aA, Nat.reduceLT, Nat.reduceEqDiff, Nat.reduceAdd, Nat.reduceMul, Nat.reduceSub, Nat.reduceLeDiff, Nat.reduceBEq, reduceCtorEq, q0, q1, h140, l8, l7, w1, o1, o2, o3]); (repeat' ((first | apply aJ | apply aI | apply aL | apply aK | apply aH | apply aG) <;> intro h <;> simp only [h, SS, TF100ReadP, aM, setRange, aN, aC, aB, aF, aE, aD, aA, Nat.reduceLT, Nat.reduceEqDiff, Nat.reduceAdd, Nat.reduceMul, Nat.reduceSub, Nat.reduceLeDiff, Nat.reduceBEq, reduceCtorEq, q0, q1, h140, l8, l7, w1, o1, o2, o3])))
      refine hT _ N _ ⟨q.p, undash w, q.l, q.m⟩ v (by simp [dO, h1]) (by show q.m.length ≤ _; omega) hok (by omega) (by omega) (ML_cons (by omega) (ML_cons (by omega) (ML_cons (by omega) hml))) ?_ ?_ ?_ ?_ ?_ ?_ ?_ <;> simp [aQ, *]
    have q1 : ((i : Int) == 1) = false := by simp; omega
    have v1 : UInt8.toNat 108 = 108 := rfl
    have v2 : UInt8.toNat 97 = 97 := rfl
    have v3 : UInt8.toNat 116 = 116 := rfl
    have v4 : UInt8.toNat 101 = 101 := rfl
    cases hd : decide (w = [108, 97, 116, 101]) with
    | true =>
      have hwl : w = lateB := of_decide_eq_true hd
      have h2 : i = 2 := rightW_late (by omega) (hwl ▸ hrt)
      ((try simp only [aO, SS, TF100ReadP, aM, setRange, aN, aC, aB, aF, aE, aD, aA, Nat.reduceLT, Nat.reduceEqDiff, Nat.reduceAdd, Nat.reduceMul, Nat.reduceSub, Nat.reduceLeDiff, Nat.reduceBEq, reduceCtorEq, q0, q1, v1, v2, v3, v4, hd, l8, l7, w1, o1, o2, o3]); (repeat' ((first | apply aJ | apply aI | apply aL | apply aK | apply aH | apply aG) <;> intro h <;> simp only [h, SS, TF100ReadP, aM, setRange, aN, aC, aB, aF, aE, aD, aA, Nat.reduceLT, Nat.reduceEqDiff, Nat.reduceAdd, Nat.reduceMul, Nat.reduceSub, Nat.reduceLeDiff, Nat.reduceBEq, reduceCtorEq, q0, q1, v1, v2, v3, v4, hd, l8, l7, w1, o1, o2, o3])))
      refine hT _ N _ ⟨q.p, q.e, true, q.m⟩ v (by simp [dO, h2, hwl]) (by show q.m.length ≤ _; omega) hok (by omega) (by omega) (ML_cons (by omega) (ML_cons (by omega) (ML_cons (by omega) hml))) ?_ ?_ ?_ ?_ ?_ ?_ ?_ <;> simp [aQ, *]
    | false =>
      have hne : w ≠ lateB := of_decide_eq_false hd
      have hmv : mvW w = true := by
        unfold dI at hrt
        rw [if_neg h0, if_neg h1] at hrt
        split at hrt
        · simpa [hne] using hrt
        · exact hrt
      have hs : dO i q w = ⟨q.p, q.e, q.l, q.m ++ [eQ w]⟩ := by unfold dO; rw [if_neg h0, if_neg h1, if_neg (by rintro ⟨_, h⟩; exact hne h)]
      have hmo : eJ (eQ w) := mvOk_of (by omega)
      have h141 : F141 [.str w] = some (.agg [.int .i64 (eQ w).f, .int .i64 (eQ w).t, .bool (eQ w).o, .str (eQ w).h, .lsl (cC (eQ w).b)]) := e141 hwb hwl hmv
      generalize eQ w = M at hs hmo h141
      obtain ⟨v2', l2, hap, M2, S2⟩ := eAppend_ML (x := M) (m := 128) (kk := []) (ML_cons (j := 11) (x := some (inState .busy none lp)) (by omega) hml) (by omega) (by omega) (by omega)
      have c : ∀ j, j < 11 → aQ l2 j = aQ l j := fun j hj => by rw [S2 j (by omega), aQ.eq_2, if_neg (by omega)]
      have c11 : aQ l2 11 = some (inState .busy none lp) := by rw [S2 11 (by omega), hb11]
      have c10 := (c 10 (by omega)).trans l10
      have c9 := (c 9 (by omega)).trans l9
      have c8 := (c 8 (by omega)).trans l8
      have c7 := (c 7 (by omega)).trans l7
      have c6 := (c 6 (by omega)).trans l6
      have c0 := (c 0 (by omega)).trans l0
      obtain ⟨p1, p2, p3⟩ := ML_one M2
      ((try simp only [aO, SS, TF100ReadP, aM, setRange, aN, aC, aB, aF, aE, aD, aA, Nat.reduceLT, Nat.reduceEqDiff, Nat.reduceAdd, Nat.reduceMul, Nat.reduceSub, Nat.reduceLeDiff, Nat.reduceBEq, reduceCtorEq, q0, q1, v1, v2, v3, v4, hd, l8]); (repeat' ((first | apply aJ | apply aI | apply aL | apply aK | apply aH | apply aG) <;> intro h <;> simp only [h, SS, TF100ReadP, aM, setRange, aN, aC, aB, aF, aE, aD, aA, Nat.reduceLT, Nat.reduceEqDiff, Nat.reduceAdd, Nat.reduceMul, Nat.reduceSub, Nat.reduceLeDiff, Nat.reduceBEq, reduceCtorEq, q0, q1, v1, v2, v3, v4, hd, l8])))
      refine bQ (Top.draw mixed aX (by kernel_rfl) ?_)
      ((try simp only [aO, SS, TF100ReadP, aM, setRange, aN, aC, aB, aF, aE, aD, aA, Nat.reduceLT, Nat.reduceEqDiff, Nat.reduceAdd, Nat.reduceMul, Nat.reduceSub, Nat.reduceLeDiff, Nat.reduceBEq, reduceCtorEq, ↓hap, h141, l7, c7, o1, o2, o3, p1, p2, p3]); (repeat' ((first | apply aJ | apply aI | apply aL | apply aK | apply aH | apply aG) <;> intro h <;> simp only [h, SS, TF100ReadP, aM, setRange, aN, aC, aB, aF, aE, aD, aA, Nat.reduceLT, Nat.reduceEqDiff, Nat.reduceAdd, Nat.reduceMul, Nat.reduceSub, Nat.reduceLeDiff, Nat.reduceBEq, reduceCtorEq, ↓hap, h141, l7, c7, o1, o2, o3, p1, p2, p3])))
      refine ⟨by kernel_rfl, ?_⟩
      ((try simp only [aO, SS, TF100ReadP, aM, setRange, aN, aC, aB, aF, aE, aD, aA, Nat.reduceLT, Nat.reduceEqDiff, Nat.reduceAdd, Nat.reduceMul, Nat.reduceSub, Nat.reduceLeDiff, Nat.reduceBEq, reduceCtorEq, c8, w1]); (repeat' ((first | apply aJ | apply aI | apply aL | apply aK | apply aH | apply aG) <;> intro h <;> simp only [h, SS, TF100ReadP, aM, setRange, aN, aC, aB, aF, aE, aD, aA, Nat.reduceLT, Nat.reduceEqDiff, Nat.reduceAdd, Nat.reduceMul, Nat.reduceSub, Nat.reduceLeDiff, Nat.reduceBEq, reduceCtorEq, c8, w1])))
      refine hT _ (N + 1) _ ⟨q.p, q.e, q.l, q.m ++ [M]⟩ v2' hs (by show (q.m ++ [M]).length ≤ _; simp; omega) (by
          intro m hm
          rcases List.mem_append.1 hm with h | h
          · exact hok m h
          · rw [List.mem_singleton.1 h]; exact hmo) (by omega) (by omega) (ML_cons (by omega) (ML_cons (by omega) M2)) ?_ ?_ ?_ ?_ ?_ ?_ ?_ <;> simp [aQ, *]
  · rintro a N l ⟨q, v, hI⟩
    obtain ⟨hrd, -, hlen, hok, hN, hN2, hml, l11, l10, l9, l8, l7, l6, l0⟩ := hI
    rw [List.drop_length] at hrd
    have hGq : G0 = q := hrd
    subst hGq
    obtain ⟨o1, o2, o3⟩ := ML_one hml
    refine rangeEnd_of (by rw [mkH_get (by omega), l11, hlp]) ?_
    simp only [mkH_put, mkD_eq, ← hx0]
    unfold zeroP at l6
    ((try simp only [aO, SS, TF100ReadP, aM, setRange, aN, aC, aB, aF, aE, aD, aA, Nat.reduceLT, Nat.reduceEqDiff, Nat.reduceAdd, Nat.reduceMul, Nat.reduceSub, Nat.reduceLeDiff, Nat.reduceBEq, reduceCtorEq, l7, l6, o1, o2, o3]); (repeat' ((first | apply aJ | apply aI | apply aL | apply aK | apply aH | apply aG) <;> intro h <;> simp only [h, SS, TF100ReadP, aM, setRange, aN, aC, aB, aF, aE, aD, aA, Nat.reduceLT, Nat.reduceEqDiff, Nat.reduceAdd, Nat.reduceMul, Nat.reduceSub, Nat.reduceLeDiff, Nat.reduceBEq, reduceCtorEq, l7, l6, o1, o2, o3])))
    have e10 : aQ ((6, some (.row [.str G0.p, .str G0.e, .bool G0.l, v] 24 0 0 false)) :: (11, some (inState .exhausted none lp)) :: l) 10 = some (.deferred false) := by rw [aQ.eq_2, if_neg (by omega), aQ.eq_2, if_neg (by omega)]; exact l10
    have e0 : aQ ((6, some (.row [.str G0.p, .str G0.e, .bool G0.l, v] 24 0 0 false)) :: (11, some (inState .exhausted none lp)) :: l) 0 = some o := by rw [aQ.eq_2, if_neg (by omega), aQ.eq_2, if_neg (by omega)]; exact l0
    have e6 : aQ ((6, some (.row [.str G0.p, .str G0.e, .bool G0.l, v] 24 0 0 false)) :: (11, some (inState .exhausted none lp)) :: l) 6 = some (.row [.str G0.p, .str G0.e, .bool G0.l, v] 24 0 0 false) := by rw [aQ.eq_2, if_pos rfl]
    have hsl5 : (bN 32 S).length ≤ 5001 := by omega
    have hk2 := hk N (by omega) (by omega) (by omega) hok
    have hend : ∀ fl : List (Nat × EVal), look fl 2 = some (.ptr 6 0) → Ends2 Tryz.prog gT Tryz.f100 (fun v h' => ∃ h2, HV Tryz.prog h' h2 ∧ k v h2) .ret (mkD 37 [(2, .ptr 6 0)] [10] none) (mkH N [(6, some (.row [.str G0.p, .str G0.e, .bool G0.l, .lsl (bP G0.m)] 24 0 0 false)), (10, some (.deferred false)), (0, some o)] 128 []) := by
      intro fl _
      refine Ends2_of (es := [plE G0]) (.inl rfl) (by simp only [mkD_defers, takeAll, mkH_get, aQ, Nat.reduceLT, Nat.reduceEqDiff, if_true, if_false, mkH_put]; rfl) (by simp only [SS, TF100ReadP, aM, setRange, aN, aC, aB, aF, aE, aD, aA, Nat.reduceLT, Nat.reduceEqDiff, Nat.reduceAdd, Nat.reduceMul, Nat.reduceSub, Nat.reduceLeDiff, Nat.reduceBEq, reduceCtorEq]; rfl) ?_
      refine ⟨_, HV.of ?_, hk2⟩
      simp [aQ]
    rcases hml with ⟨rfl, hn⟩ | ⟨id, h1, h2, rfl, h4⟩
    · have hv : bP G0.m = [] := by rw [hn]; rfl
      rw [hv] at hend
      refine ⟨_, _, aV.told (ds := [10]) (r := none) (fl2 := [(2, .ptr 6 0)]) (l2 := [(6, some (.row [.str G0.p, .str G0.e, .bool G0.l, .lsl []] 24 0 0 false)), (10, some (.deferred false)), (0, some o)]) (by simp [look, toldR]) ?_, hend [(2, .ptr 6 0)] rfl⟩
      intro p hp
      rcases List.mem_cons.1 hp with rfl | hp
      · exact ⟨by simp, _, rfl, .inr ⟨_, _, _, _, _, _, e6, rfl, .inl rfl, .inl rfl, .inl rfl, .inr ⟨rfl, rfl⟩, trivial⟩⟩
      rcases List.mem_cons.1 hp with rfl | hp
      · exact ⟨by simp, _, rfl, .inl e10⟩
      rw [List.mem_singleton] at hp
      subst hp
      exact ⟨by simp, _, rfl, .inl e0⟩
    · have hid0 : id < 16000 := by omega
      refine ⟨_, _, aV.fzD (ds := [10]) (r := none) (sz := 5) (len := G0.m.length) (fl2 := [(2, .ptr 6 0)]) (l2 := [(6, some (.row [.str G0.p, .str G0.e, .bool G0.l, .lsl (bP G0.m)] 24 0 0 false)), (10, some (.deferred false)), (0, some o)]) (k2 := []) id hid0 (by rw [aQ.eq_2, if_neg (by omega), aQ.eq_2, if_neg (by omega)]; exact h4) (keepL_cellM _) (cellM_length _) ?_ ?_ (by simp), hend [(2, .ptr 6 0)] rfl⟩
      · simp [look, fzR]
      · rw [chunk_cellM]
        intro p hp
        rcases List.mem_cons.1 hp with rfl | hp
        · exact ⟨by simp, by show 6 ≠ id; omega, _, rfl, .inr ⟨_, _, _, _, _, _, e6, rfl, .inl rfl, .inl rfl, .inl rfl, .inr ⟨.slack 0, rfl, rfl, rfl⟩, trivial⟩⟩
        rcases List.mem_cons.1 hp with rfl | hp
        · exact ⟨by simp, by show 10 ≠ id; omega, _, rfl, .inl e10⟩
        rw [List.mem_singleton] at hp
        subst hp
        exact ⟨by simp, by show 0 ≠ id; omega, _, rfl, .inl e0⟩
end Go.Ev
