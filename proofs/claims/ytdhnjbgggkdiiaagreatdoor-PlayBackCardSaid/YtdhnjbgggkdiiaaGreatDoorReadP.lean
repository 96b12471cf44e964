import Derived.Test.YtdhnjbgggkdiiaaGreatDoorEvC
import Derived.Test.YtdhnjbgggkdiiaaGreatDoorParseV
import Derived.Test.YtdhnjbgggkdiiaaGreatDoorFindW
set_option linter.unusedSimpArgs false
set_option linter.unusedVariables false
namespace Go.Ev
open Go.RowKit Go.Proofs
set_option linter.defProp false
set_option maxRecDepth 20000
set_option maxHeartbeats 8000000

/-! the reference's parser -/
theorem Top.joinR {A : Option Nat} {P : Program} {g : G} {K : bW} {x y : Code} {f : EFr} {h : H} {Q : dG} {σ : Type} (hng : NoNG P) (F2 : σ → EFr) (H2 : σ → H)
    (H1 : ∀ R : dG, (∀ s f1 h1, aT A P f1 h1 (F2 s) (H2 s) → R .normal f1 h1) → (∀ f1 h1, Q .ret f1 h1 → R .ret f1 h1) → wp A P g K x f h R) (H3 : ∀ s, Top A P g K y (F2 s) (H2 s) Q) : Top A P g K (.seq x y) f h Q :=
  Top.seq (aR hng _ _ _ _ (H1 _ (fun s _ _ v => Top.view v (H3 s)) (fun _ _ h => h)))
structure PInv (lo : Nat) (ws : List (List Nat)) (G0 : Pl) (i at0 : Nat) (q : Pl) (v : EVal) (N : Nat) (l : List (Nat × Option EObj)) : Prop where
  hi : i ≤ ws.length
  wr : cW 0 0 ws = cW i at0 (ws.drop i)
  rd : G0 = cV i q (ws.drop i)
  pl : at0 = eK (ws.take i) + i
  ml : q.m.length ≤ i
  mo : ∀ m ∈ q.m, eP m
  p0 : i = 0 → q.p = []
  e0 : i ≤ 1 → q.e = []
  hN : N ≤ lo + 2 * i
  hN2 : lo ≤ N
  M1 : ML lo v q.m N l
  A1 : aP l 1 = some (.row [.str q.p, .str q.e, .bool q.l, v] 24 0 0 false)
  A0 : aP l 0 = some (.row [.str [], .str [], .bool false, .nilslice] 24 0 0 false)
theorem mvOk_of {w : List Nat} (h : w.length ≤ 5000) : eP (eW w) := by
  show (eW w).b.length < _
  unfold eW
  split
  · simp only [List.length_map, List.length_drop, List.length_cons] at *; omega
  · show 0 < _; omega
end Go.Ev
namespace Go.Ev
open Go.RowKit Go.Proofs
set_option linter.defProp false
def TF100ReadP := And.intro (And.intro (And.intro (And.intro (And.intro (@Tryz.underlying3) (And.intro (@sz3) (@cE))) (And.intro (@I3s) (And.intro (@I3b) (@cA)))) (And.intro (And.intro (@cF) (And.intro (@Tryz.underlying4) (@sz4))) (And.intro (And.intro (@eA) (@I4s)) (And.intro (@I4b) (@dW))))) (And.intro (And.intro (And.intro (@eB) (And.intro (@Tryz.underlying9) (@sz9))) (And.intro (And.intro (@cB) (@I9s)) (And.intro (@I9b) (@bY)))) (And.intro (And.intro (@cC) (And.intro (@Tryz.underlying22) (@sz22))) (And.intro (And.intro (@info22) (@I22s)) (And.intro (@I22b) (@zero22)))))) (And.intro (And.intro (And.intro (And.intro (@grow22) (And.intro (@Tryz.underlying24) (@sz24))) (And.intro (And.intro (@fok24) (@info24)) (And.intro (@I24s) (@I24b)))) (And.intro (And.intro (@zero24) (And.intro (@grow24) (@Tryz.underlying25))) (And.intro (And.intro (@eO) (@dE)) (And.intro (@eQ) (@eR))))) (And.intro (And.intro (And.intro (@dC) (And.intro (@dF) (@Tryz.underlying27))) (And.intro (And.intro (@eS) (@eH)) (And.intro (@dL) (@eU)))) (And.intro (And.intro (@eV) (And.intro (@dH) (@dM))) (And.intro (And.intro (@call137) (@call140)) (And.intro (@call141) (@Tryz.results100))))))
set_option maxRecDepth 20000
set_option maxHeartbeats 8000000

/-! a play, read -/
def zeroP : EObj := .row [.str [], .str [], .bool false, .nilslice] 24 0 0 false
structure RInv (lp o : EObj) (S : List Nat) (G0 : Pl) (i : Nat) (q : Pl) (v : EVal) (N : Nat) (l : List (Nat × Option EObj)) : Prop where
  rd : G0 = cV i q ((bI 32 S).drop i)
  wr : ∃ a, cW i a ((bI 32 S).drop i) = none
  len : q.m.length ≤ i
  ok : ∀ m ∈ q.m, eP m
  hN : N ≤ 12 + i
  hN2 : 12 ≤ N
  ml : ML 12 v q.m N l
  l11 : aP l 11 = some lp
  l10 : aP l 10 = some (.deferred false)
  l9 : aP l 9 = some (.row [.str S] 9 0 0 false)
  l8 : aP l 8 = some (.row [.int .i64 (i : Nat)] 3 0 0 false)
  l7 : aP l 7 = some (.row [.str q.p, .str q.e, .bool q.l, v] 24 0 0 false)
  l6 : aP l 6 = some zeroP
  l0 : aP l 0 = some o
theorem ML_cons {lo : Nat} {v : EVal} {ms : List Mv} {N j : Nat} {l : List (Nat × Option EObj)} {x : Option EObj} (hj : j < lo) (h : ML lo v ms N l) : ML lo v ms N ((j, x) :: l) := by
  rcases h with h | ⟨id, h1, h2, h3, h4⟩
  · exact .inl h
  · exact .inr ⟨id, h1, h2, h3, by rw [aP.eq_2, if_neg (by omega)]; exact h4⟩
theorem rightW_late {i : Nat} (hi : 2 ≤ i) (h : dP i lateB = true) : i = 2 := by
  apply Classical.byContradiction
  intro hn
  unfold dP at h
  rw [if_neg (by omega), if_neg (by omega), if_neg hn] at h
  exact absurd h (by decide)
theorem ct100 {S : List Nat} {o : EObj} {k : EVal → H → Prop} (hby : aZ S = true) (hS : S.length ≤ 5000) (hw0 : cW 0 0 (bI 32 S) = none)
    (hk : ∀ N, N ≤ 12000 → 12 ≤ N → (cV 0 pl0 (bI 32 S)).m.length ≤ 5001 → (∀ m ∈ (cV 0 pl0 (bI 32 S)).m, eP m) → k (plE (cV 0 pl0 (bI 32 S))) (mkH N [(0, some o)] 128 [])) :
    bZ Tryz.prog gT (dZ KW) 100 [.str S] (mkH 6 [(0, some o)] 128 []) k := by
  refine bZ.out (bZ.intro Tryz.func100 rfl (Top.unview ?_))
  refine Top.view (aT.start (n := 37) rfl (by simp)) (aR aV _ _ _ _ ?_)
  ((try simp only [aO, SS, TF100ReadP, aM, setRange, aN, aC, aB, aF, aE, aD, aA, Nat.reduceLT, Nat.reduceEqDiff, Nat.reduceAdd, Nat.reduceMul, Nat.reduceSub, Nat.reduceLeDiff, Nat.reduceBEq, reduceCtorEq, ↓aS]); (repeat' ((first | apply aJ | apply aI | apply aL | apply aK | apply aH | apply aG) <;> intro h <;> simp only [h, SS, TF100ReadP, aM, setRange, aN, aC, aB, aF, aE, aD, aA, Nat.reduceLT, Nat.reduceEqDiff, Nat.reduceAdd, Nat.reduceMul, Nat.reduceSub, Nat.reduceLeDiff, Nat.reduceBEq, reduceCtorEq, ↓aS])))
  refine ct137 (by omega) ?_
  ((try simp only [aO, SS, TF100ReadP, aM, setRange, aN, aC, aB, aF, aE, aD, aA, Nat.reduceLT, Nat.reduceEqDiff, Nat.reduceAdd, Nat.reduceMul, Nat.reduceSub, Nat.reduceLeDiff, Nat.reduceBEq, reduceCtorEq]); (repeat' ((first | apply aJ | apply aI | apply aL | apply aK | apply aH | apply aG) <;> intro h <;> simp only [h, SS, TF100ReadP, aM, setRange, aN, aC, aB, aF, aE, aD, aA, Nat.reduceLT, Nat.reduceEqDiff, Nat.reduceAdd, Nat.reduceMul, Nat.reduceSub, Nat.reduceLeDiff, Nat.reduceBEq, reduceCtorEq])))
  refine wp_of_range (Top.rangeFunc (kf := 164) (caps := [.ptr 9 0]) aV (by simp only [ev_tmp, T.get_ofL, look, Nat.reduceLT, Nat.reduceEqDiff, if_true, if_false]) (by kernel_rfl) ?_)
  simp only [mkH_n, mkH_new, Nat.reduceAdd]
  refine bZ.capture fun lp hlp hb hx0 => ?_
  have hsl := split_len (c := 32) S
  obtain ⟨G0, hG0⟩ : ∃ G0, G0 = cV 0 pl0 (bI 32 S) := ⟨_, rfl⟩
  rw [← hG0] at hk
  refine ct164 (S := S) (INV := fun i a N l => ∃ q v, RInv lp o S G0 i q v N l) (STOP := fun N l => False)
    hS (by omega) ?_ ⟨pl0, .nilslice, hG0, ⟨0, hw0⟩, by simp [pl0], by simp [pl0], by omega, by omega, .inl ⟨rfl, rfl⟩, by simp [aP], by simp [aP], by simp [aP], by simp [aP], by simp [aP, pl0], by simp [aP, zeroP], by simp [aP]⟩ ?_ (fun _ _ h => h.elim) ?_
  · rintro i a N l ⟨q, v, hI⟩
    exact hI.l9
  · rintro i a N l w k ⟨q, v, hI⟩ ha hia hwi hkT -
    obtain ⟨hrd, ⟨a', hwr⟩, hlen, hok, hN, hN2, hml, l11, l10, l9, l8, l7, l6, l0⟩ := hI
    have hrt : dP i w = true := by
      rw [wrongAt_drop hwi] at hwr
      apply Classical.byContradiction
      intro h; rw [if_neg h] at hwr; cases hwr
    rw [wrongAt_drop hwi, if_pos hrt] at hwr
    rw [readG_drop hwi] at hrd
    have hmem : w ∈ bI 32 S := List.mem_of_getElem? hwi
    have hwb := split_bytes hby w hmem
    have hi5 : i < 5001 := by
      have := (List.getElem?_eq_some_iff.1 hwi).1; omega
    have hwl : w.length ≤ 5000 := by
      have := lenS_mem hmem
      have := List.length_pos_of_mem hmem
      omega
    have hT : ∀ (fl : List (Nat × EVal)) (N' : Nat) (L : List (Nat × Option EObj)) (q' : Pl) (v' : EVal), stepP i q w = q' → q'.m.length ≤ i + 1 → (∀ m ∈ q'.m, eP m) → N' ≤ N + 1 → N ≤ N' → ML 12 v' q'.m N' L →
        aP L 11 = some (cY .busy none lp) → aP L 10 = some (.deferred false) → aP L 9 = some (.row [.str S] 9 0 0 false) → aP L 8 = some (.row [.int .i64 ((i + 1 : Nat) : Int)] 3 0 0 false) → aP L 7 = some (.row [.str q'.p, .str q'.e, .bool q'.l, v'] 24 0 0 false) → aP L 6 = some zeroP → aP L 0 = some o →
        bM (some N) Tryz.prog (roundEnd 11 k) .normal (mkD 37 fl [] (some 11)) (mkH N' L 128 []) := by
      intro fl N' L q' v' hs a1 a2 a3 a4 a5 b11 b10 b9 b8 b7 b6 b0
      rw [hs] at hrd
      refine ⟨_, _, aT.subD (l2 := []) (by simp), roundEnd_of (by rw [cT (by omega), b11]; rw [hb]) ?_⟩
      simp only [mkH_put, ← hlp]
      refine hkT _ _ ⟨q', v', hrd, ⟨_, hwr⟩, a1, a2, by omega, by omega, ML_cons (by omega) a5, ?_, ?_, ?_, ?_, ?_, ?_, ?_⟩ <;> simp [aP, *]
    refine RoundT.intro (by rw [cT (by omega), l11, hlp]) (setParams_two (by omega) (by omega)) ?_
    simp only [mkD_eq, mkH_n]
    refine aR aV _ _ _ _ ?_
    ((try simp only [aO, SS, TF100ReadP, aM, setRange, aN, aC, aB, aF, aE, aD, aA, Nat.reduceLT, Nat.reduceEqDiff, Nat.reduceAdd, Nat.reduceMul, Nat.reduceSub, Nat.reduceLeDiff, Nat.reduceBEq, reduceCtorEq]); (repeat' ((first | apply aJ | apply aI | apply aL | apply aK | apply aH | apply aG) <;> intro h <;> simp only [h, SS, TF100ReadP, aM, setRange, aN, aC, aB, aF, aE, aD, aA, Nat.reduceLT, Nat.reduceEqDiff, Nat.reduceAdd, Nat.reduceMul, Nat.reduceSub, Nat.reduceLeDiff, Nat.reduceBEq, reduceCtorEq])))
    refine roundMid_of (by rw [cT (by omega), l11, hlp]) ?_
    simp only [mkH_put, ← hb]
    refine Top.unview (aR aV _ _ _ _ ?_)
    have w1 : IntKind.i64.wrap ((i : Int) + 1) = ((i + 1 : Nat) : Int) := by rw [bN] <;> omega
    have h140 : F140 [.str w] = some (.str (cO w)) := rfl
    have hb11 : aP ((11, some (cY .busy none lp)) :: l) 11 = some (cY .busy none lp) := by simp [aP]
    obtain ⟨o1, o2, o3⟩ := ML_one hml
    by_cases h0 : i = 0
    · have q0 : ((i : Int) == 0) = true := by simp [h0]
      ((try simp only [aO, SS, TF100ReadP, aM, setRange, aN, aC, aB, aF, aE, aD, aA, Nat.reduceLT, Nat.reduceEqDiff, Nat.reduceAdd, Nat.reduceMul, Nat.reduceSub, Nat.reduceLeDiff, Nat.reduceBEq, reduceCtorEq, q0, h140, l8, l7, w1, o1, o2, o3]); (repeat' ((first | apply aJ | apply aI | apply aL | apply aK | apply aH | apply aG) <;> intro h <;> simp only [h, SS, TF100ReadP, aM, setRange, aN, aC, aB, aF, aE, aD, aA, Nat.reduceLT, Nat.reduceEqDiff, Nat.reduceAdd, Nat.reduceMul, Nat.reduceSub, Nat.reduceLeDiff, Nat.reduceBEq, reduceCtorEq, q0, h140, l8, l7, w1, o1, o2, o3])))
      refine hT _ N _ ⟨cO w, q.e, q.l, q.m⟩ v (by simp [stepP, h0]) (by show q.m.length ≤ _; omega) hok (by omega) (by omega) (ML_cons (by omega) (ML_cons (by omega) (ML_cons (by omega) hml))) ?_ ?_ ?_ ?_ ?_ ?_ ?_ <;> simp [aP, *]
    have q0 : ((i : Int) == 0) = false := by simp; omega
    by_cases h1 : i = 1
    · have q1 : ((i : Int) == 1) = true := by simp [h1]
      ((try simp only [aO, SS, TF100ReadP, aM, setRange, aN, aC, aB, aF, aE, aD, aA, Nat.reduceLT, Nat.reduceEqDiff, Nat.reduceAdd, Nat.reduceMul, Nat.reduceSub, Nat.reduceLeDiff, Nat.reduceBEq, reduceCtorEq, q0, q1, h140, l8, l7, w1, o1, o2, o3]); (repeat' ((first | apply aJ | apply aI | apply aL | apply aK | apply aH | apply aG) <;> intro h <;> simp only [h, SS, TF100ReadP, aM, setRange, aN, aC, aB, aF, aE, aD, aA, Nat.reduceLT, Nat.reduceEqDiff, Nat.reduceAdd, Nat.reduceMul, Nat.reduceSub, Nat.reduceLeDiff, Nat.reduceBEq, reduceCtorEq, q0, q1, h140, l8, l7, w1, o1, o2, o3])))
      refine hT _ N _ ⟨q.p, cO w, q.l, q.m⟩ v (by simp [stepP, h1]) (by show q.m.length ≤ _; omega) hok (by omega) (by omega) (ML_cons (by omega) (ML_cons (by omega) (ML_cons (by omega) hml))) ?_ ?_ ?_ ?_ ?_ ?_ ?_ <;> simp [aP, *]
    have q1 : ((i : Int) == 1) = false := by simp; omega
    have v1 : UInt8.toNat 108 = 108 := rfl
    have v2 : UInt8.toNat 97 = 97 := rfl
    have v3 : UInt8.toNat 116 = 116 := rfl
    have v4 : UInt8.toNat 101 = 101 := rfl
    cases hd : decide (w = [108, 97, 116, 101]) with
    | true =>
      have hwl : w = lateB := of_decide_eq_true hd
      have h2 : i = 2 := rightW_late (by omega) (hwl ▸ hrt)
      ((try simp only [aO, SS, TF100ReadP, aM, setRange, aN, aC, aB, aF, aE, aD, aA, Nat.reduceLT, Nat.reduceEqDiff, Nat.reduceAdd, Nat.reduceMul, Nat.reduceSub, Nat.reduceLeDiff, Nat.reduceBEq, reduceCtorEq, q0, q1, v1, v2, v3, v4, hd, l8, l7, w1, o1, o2, o3]); (repeat' ((first | apply aJ | apply aI | apply aL | apply aK | apply aH | apply aG) <;> intro h <;> simp only [h, SS, TF100ReadP, aM, setRange, aN, aC, aB, aF, aE, aD, aA, Nat.reduceLT, Nat.reduceEqDiff, Nat.reduceAdd, Nat.reduceMul, Nat.reduceSub, Nat.reduceLeDiff, Nat.reduceBEq, reduceCtorEq, q0, q1, v1, v2, v3, v4, hd, l8, l7, w1, o1, o2, o3])))
      refine hT _ N _ ⟨q.p, q.e, true, q.m⟩ v (by simp [stepP, h2, hwl]) (by show q.m.length ≤ _; omega) hok (by omega) (by omega) (ML_cons (by omega) (ML_cons (by omega) (ML_cons (by omega) hml))) ?_ ?_ ?_ ?_ ?_ ?_ ?_ <;> simp [aP, *]
    | false =>
      have hne : w ≠ lateB := of_decide_eq_false hd
      have hmv : mvW w = true := by
        unfold dP at hrt
        rw [if_neg h0, if_neg h1] at hrt
        split at hrt
        · simpa [hne] using hrt
        · exact hrt
      have hs : stepP i q w = ⟨q.p, q.e, q.l, q.m ++ [eW w]⟩ := by unfold stepP; rw [if_neg h0, if_neg h1, if_neg (by rintro ⟨_, h⟩; exact hne h)]
      have hmo : eP (eW w) := mvOk_of (by omega)
      have h141 : F141 [.str w] = some (.agg [.int .i64 (eW w).f, .int .i64 (eW w).t, .bool (eW w).o, .str (eW w).h, .lsl (cM (eW w).b)]) := e141 hwb hwl hmv
      generalize eW w = M at hs hmo h141
      obtain ⟨v2', l2, hap, M2, S2⟩ := eAppend_ML (x := M) (m := 128) (kk := []) (ML_cons (j := 11) (x := some (cY .busy none lp)) (by omega) hml) (by omega) (by omega) (by omega)
      have c : ∀ j, j < 11 → aP l2 j = aP l j := fun j hj => by rw [S2 j (by omega), aP.eq_2, if_neg (by omega)]
      have c11 : aP l2 11 = some (cY .busy none lp) := by rw [S2 11 (by omega), hb11]
      have c10 := (c 10 (by omega)).trans l10
      have c9 := (c 9 (by omega)).trans l9
      have c8 := (c 8 (by omega)).trans l8
      have c7 := (c 7 (by omega)).trans l7
      have c6 := (c 6 (by omega)).trans l6
      have c0 := (c 0 (by omega)).trans l0
      obtain ⟨p1, p2, p3⟩ := ML_one M2
      ((try simp only [aO, SS, TF100ReadP, aM, setRange, aN, aC, aB, aF, aE, aD, aA, Nat.reduceLT, Nat.reduceEqDiff, Nat.reduceAdd, Nat.reduceMul, Nat.reduceSub, Nat.reduceLeDiff, Nat.reduceBEq, reduceCtorEq, q0, q1, v1, v2, v3, v4, hd, l8]); (repeat' ((first | apply aJ | apply aI | apply aL | apply aK | apply aH | apply aG) <;> intro h <;> simp only [h, SS, TF100ReadP, aM, setRange, aN, aC, aB, aF, aE, aD, aA, Nat.reduceLT, Nat.reduceEqDiff, Nat.reduceAdd, Nat.reduceMul, Nat.reduceSub, Nat.reduceLeDiff, Nat.reduceBEq, reduceCtorEq, q0, q1, v1, v2, v3, v4, hd, l8])))
      refine bV (Top.draw mixed aV (by kernel_rfl) ?_)
      ((try simp only [aO, SS, TF100ReadP, aM, setRange, aN, aC, aB, aF, aE, aD, aA, Nat.reduceLT, Nat.reduceEqDiff, Nat.reduceAdd, Nat.reduceMul, Nat.reduceSub, Nat.reduceLeDiff, Nat.reduceBEq, reduceCtorEq, ↓hap, h141, l7, c7, o1, o2, o3, p1, p2, p3]); (repeat' ((first | apply aJ | apply aI | apply aL | apply aK | apply aH | apply aG) <;> intro h <;> simp only [h, SS, TF100ReadP, aM, setRange, aN, aC, aB, aF, aE, aD, aA, Nat.reduceLT, Nat.reduceEqDiff, Nat.reduceAdd, Nat.reduceMul, Nat.reduceSub, Nat.reduceLeDiff, Nat.reduceBEq, reduceCtorEq, ↓hap, h141, l7, c7, o1, o2, o3, p1, p2, p3])))
      refine ⟨by kernel_rfl, ?_⟩
      ((try simp only [aO, SS, TF100ReadP, aM, setRange, aN, aC, aB, aF, aE, aD, aA, Nat.reduceLT, Nat.reduceEqDiff, Nat.reduceAdd, Nat.reduceMul, Nat.reduceSub, Nat.reduceLeDiff, Nat.reduceBEq, reduceCtorEq, c8, w1]); (repeat' ((first | apply aJ | apply aI | apply aL | apply aK | apply aH | apply aG) <;> intro h <;> simp only [h, SS, TF100ReadP, aM, setRange, aN, aC, aB, aF, aE, aD, aA, Nat.reduceLT, Nat.reduceEqDiff, Nat.reduceAdd, Nat.reduceMul, Nat.reduceSub, Nat.reduceLeDiff, Nat.reduceBEq, reduceCtorEq, c8, w1])))
      refine hT _ (N + 1) _ ⟨q.p, q.e, q.l, q.m ++ [M]⟩ v2' hs (by show (q.m ++ [M]).length ≤ _; simp; omega) (by
          intro m hm
          rcases List.mem_append.1 hm with h | h
          · exact hok m h
          · rw [List.mem_singleton.1 h]; exact hmo) (by omega) (by omega) (ML_cons (by omega) (ML_cons (by omega) M2)) ?_ ?_ ?_ ?_ ?_ ?_ ?_ <;> simp [aP, *]
  · rintro a N l ⟨q, v, hI⟩
    obtain ⟨hrd, -, hlen, hok, hN, hN2, hml, l11, l10, l9, l8, l7, l6, l0⟩ := hI
    rw [List.drop_length] at hrd
    have hGq : G0 = q := hrd
    subst hGq
    obtain ⟨o1, o2, o3⟩ := ML_one hml
    refine rangeEnd_of (by rw [cT (by omega), l11, hlp]) ?_
    simp only [mkH_put, mkD_eq, ← hx0]
    unfold zeroP at l6
    ((try simp only [aO, SS, TF100ReadP, aM, setRange, aN, aC, aB, aF, aE, aD, aA, Nat.reduceLT, Nat.reduceEqDiff, Nat.reduceAdd, Nat.reduceMul, Nat.reduceSub, Nat.reduceLeDiff, Nat.reduceBEq, reduceCtorEq, l7, l6, o1, o2, o3]); (repeat' ((first | apply aJ | apply aI | apply aL | apply aK | apply aH | apply aG) <;> intro h <;> simp only [h, SS, TF100ReadP, aM, setRange, aN, aC, aB, aF, aE, aD, aA, Nat.reduceLT, Nat.reduceEqDiff, Nat.reduceAdd, Nat.reduceMul, Nat.reduceSub, Nat.reduceLeDiff, Nat.reduceBEq, reduceCtorEq, l7, l6, o1, o2, o3])))
    have e10 : aP ((6, some (.row [.str G0.p, .str G0.e, .bool G0.l, v] 24 0 0 false)) :: (11, some (cY .exhausted none lp)) :: l) 10 = some (.deferred false) := by rw [aP.eq_2, if_neg (by omega), aP.eq_2, if_neg (by omega)]; exact l10
    have e0 : aP ((6, some (.row [.str G0.p, .str G0.e, .bool G0.l, v] 24 0 0 false)) :: (11, some (cY .exhausted none lp)) :: l) 0 = some o := by rw [aP.eq_2, if_neg (by omega), aP.eq_2, if_neg (by omega)]; exact l0
    have e6 : aP ((6, some (.row [.str G0.p, .str G0.e, .bool G0.l, v] 24 0 0 false)) :: (11, some (cY .exhausted none lp)) :: l) 6 = some (.row [.str G0.p, .str G0.e, .bool G0.l, v] 24 0 0 false) := by rw [aP.eq_2, if_pos rfl]
    have hsl5 : (bI 32 S).length ≤ 5001 := by omega
    have hk2 := hk N (by omega) (by omega) (by omega) hok
    have hend : ∀ fl : List (Nat × EVal), look fl 2 = some (.ptr 6 0) → Ends2 Tryz.prog gT Tryz.f100 (fun v h' => ∃ h2, HV Tryz.prog h' h2 ∧ k v h2) .ret (mkD 37 [(2, .ptr 6 0)] [10] none) (mkH N [(6, some (.row [.str G0.p, .str G0.e, .bool G0.l, .lsl (bG G0.m)] 24 0 0 false)), (10, some (.deferred false)), (0, some o)] 128 []) := by
      intro fl _
      refine cL (es := [plE G0]) (.inl rfl) (by simp only [mkD_defers, takeAll, cT, aP, Nat.reduceLT, Nat.reduceEqDiff, if_true, if_false, mkH_put]; rfl) (by simp only [SS, TF100ReadP, aM, setRange, aN, aC, aB, aF, aE, aD, aA, Nat.reduceLT, Nat.reduceEqDiff, Nat.reduceAdd, Nat.reduceMul, Nat.reduceSub, Nat.reduceLeDiff, Nat.reduceBEq, reduceCtorEq]; rfl) ?_
      refine ⟨_, HV.of ?_, hk2⟩
      simp [aP]
    rcases hml with ⟨rfl, hn⟩ | ⟨id, h1, h2, rfl, h4⟩
    · have hv : bG G0.m = [] := by rw [hn]; rfl
      rw [hv] at hend
      refine ⟨_, _, aT.told (ds := [10]) (r := none) (fl2 := [(2, .ptr 6 0)]) (l2 := [(6, some (.row [.str G0.p, .str G0.e, .bool G0.l, .lsl []] 24 0 0 false)), (10, some (.deferred false)), (0, some o)]) (by simp [look, toldR]) ?_, hend [(2, .ptr 6 0)] rfl⟩
      intro p hp
      rcases List.mem_cons.1 hp with rfl | hp
      · exact ⟨by simp, _, rfl, .inr ⟨_, _, _, _, _, _, e6, rfl, .inl rfl, .inl rfl, .inl rfl, .inr ⟨rfl, rfl⟩, trivial⟩⟩
      rcases List.mem_cons.1 hp with rfl | hp
      · exact ⟨by simp, _, rfl, .inl e10⟩
      rw [List.mem_singleton] at hp
      subst hp
      exact ⟨by simp, _, rfl, .inl e0⟩
    · have hid0 : id < 16000 := by omega
      refine ⟨_, _, aT.fzD (ds := [10]) (r := none) (sz := 5) (len := G0.m.length) (fl2 := [(2, .ptr 6 0)]) (l2 := [(6, some (.row [.str G0.p, .str G0.e, .bool G0.l, .lsl (bG G0.m)] 24 0 0 false)), (10, some (.deferred false)), (0, some o)]) (k2 := []) id hid0 (by rw [aP.eq_2, if_neg (by omega), aP.eq_2, if_neg (by omega)]; exact h4) (keepL_cellM _) (cellM_length _) ?_ ?_ (by simp), hend [(2, .ptr 6 0)] rfl⟩
      · simp [look, fzR]
      · rw [chunk_cellM]
        intro p hp
        rcases List.mem_cons.1 hp with rfl | hp
        · exact ⟨by simp, by show 6 ≠ id; omega, _, rfl, .inr ⟨_, _, _, _, _, _, e6, rfl, .inl rfl, .inl rfl, .inl rfl, .inr ⟨.slack 0, rfl, rfl, rfl⟩, trivial⟩⟩
        rcases List.mem_cons.1 hp with rfl | hp
        · exact ⟨by simp, by show 10 ≠ id; omega, _, rfl, .inl e10⟩
        rw [List.mem_singleton] at hp
        subst hp
        exact ⟨by simp, by show 0 ≠ id; omega, _, rfl, .inl e0⟩
end Go.Ev
