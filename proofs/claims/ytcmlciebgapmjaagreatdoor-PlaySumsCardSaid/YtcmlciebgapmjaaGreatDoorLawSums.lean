import Derived.Test.YtcmlciebgapmjaaGreatDoorSums
set_option linter.unusedSimpArgs false
set_option linter.unusedVariables false
namespace Go.Ev
open Go.RowKit Go.Proofs
set_option linter.defProp false
def aY := And.intro (And.intro (And.intro (And.intro (And.intro (And.intro (@Tryz.underlying3) (@sz3)) (And.intro (@bT) (@I3s))) (And.intro (And.intro (@I3b) (@bS)) (And.intro (@bV) (And.intro (@Tryz.underlying4) (@sz4))))) (And.intro (And.intro (And.intro (@cV) (@I4s)) (And.intro (@I4b) (And.intro (@cU) (@cW)))) (And.intro (And.intro (@Tryz.underlying9) (@sz9)) (And.intro (@cL) (And.intro (@I9s) (@I9b)))))) (And.intro (And.intro (And.intro (And.intro (@cI) (@cM)) (And.intro (@Tryz.underlying22) (And.intro (@sz22) (@info22)))) (And.intro (And.intro (@I22s) (@I22b)) (And.intro (@zero22) (And.intro (@grow22) (@Tryz.underlying24))))) (And.intro (And.intro (And.intro (@sz24) (@fok24)) (And.intro (@info24) (And.intro (@I24s) (@I24b)))) (And.intro (And.intro (@zero24) (@grow24)) (And.intro (@Tryz.underlying25) (And.intro (@dF) (@bZ))))))) (And.intro (And.intro (And.intro (And.intro (And.intro (@dG) (@dH)) (And.intro (@bX) (@cA))) (And.intro (And.intro (@Tryz.underlying27) (@dQ)) (And.intro (@dB) (And.intro (@cN) (@dR))))) (And.intro (And.intro (And.intro (@dS) (@cK)) (And.intro (@cO) (And.intro (@Tryz.underlying30) (@sz30)))) (And.intro (And.intro (@info30) (@I30s)) (And.intro (@I30b) (And.intro (@zero30) (@grow30)))))) (And.intro (And.intro (And.intro (And.intro (@Tryz.underlying86) (@sz86)) (And.intro (@info86) (And.intro (@I86s) (@I86b)))) (And.intro (And.intro (@zero86) (@grow86)) (And.intro (@call16) (And.intro (@call19) (@call20))))) (And.intro (And.intro (And.intro (@call50) (@call51)) (And.intro (@call52) (And.intro (@call57) (@call58)))) (And.intro (And.intro (@call59) (@call60)) (And.intro (@call66) (And.intro (@call75) (@Tryz.results14)))))))
set_option maxRecDepth 20000
set_option maxHeartbeats 8000000

def F14 : List EVal → Option EVal
  | [.agg [.str p, .str e, .bool _, ms]] => if cY p = true ∧ cY e = true then (bR ms).map fun _ => .bool true else none
  | _ => none
theorem fn14 : FnT 14 F14 := by
  refine Fn.intro mixed bA Tryz.func14 rfl [(16, F16), (19, F19), (20, F20), (50, F50), (51, F51), (52, F52), (57, F57), (58, F58), (59, F59), (60, F60), (66, F66), (75, F75)] (by simp only [List.forall_mem_cons]; exact ⟨fn16, fn19, fn20, fn50, fn51, fn52, fn57, fn58, fn59, fn60, fn66, fn75, fun _ h => by cases h⟩) ?_
  intro args v hF
  unfold F14 at hF
  split at hF
  rotate_left
  · cases hF
  intro Q hV
  have hQ := bL.of hV
  rename_i p e late ms
  split at hF
  rotate_left
  · cases hF
  rename_i hb
  cases ha : bR ms with
  | none => rw [ha] at hF; cases hF
  | some l =>
  rw [ha] at hF
  cases hF
  obtain ⟨rfl, hlen, hok⟩ := bU ha
  clear ha
  dsimp only at hQ hV
  have h16 := e16
  refine Top.view (aX.start (n := 251) rfl (by simp)) (aS bA _ _ _ _ ?_)
  apply wp_cut
  · intro R hR
    ((try simp only [aO, SS, aY, aM, setRange, aN, aC, aB, aF, aE, aD, aA, Nat.reduceLT, Nat.reduceEqDiff, Nat.reduceAdd, Nat.reduceMul, Nat.reduceSub, Nat.reduceLeDiff, Nat.reduceBEq, reduceCtorEq]); (repeat' ((first | apply aJ | apply aI | apply aL | apply aK | apply aH | apply aG) <;> intro h <;> simp only [h, SS, aY, aM, setRange, aN, aC, aB, aF, aE, aD, aA, Nat.reduceLT, Nat.reduceEqDiff, Nat.reduceAdd, Nat.reduceMul, Nat.reduceSub, Nat.reduceLeDiff, Nat.reduceBEq, reduceCtorEq])))
    exact hR
  have h20 : F20 [.agg [.str p, .str e, .bool late, .lsl (bF l)]] = some (.int .i64 (playE p e l)) := by simp only [F20, dMoves_e hlen hok, Option.map_some]
  obtain ⟨z, hz⟩ : ∃ z, playE p e l = z := ⟨_, rfl⟩
  rw [hz] at h20
  cases hz0 : (z == 0) with
  | false =>
    ((try simp only [aO, SS, aY, aM, setRange, aN, aC, aB, aF, aE, aD, aA, Nat.reduceLT, Nat.reduceEqDiff, Nat.reduceAdd, Nat.reduceMul, Nat.reduceSub, Nat.reduceLeDiff, Nat.reduceBEq, reduceCtorEq, h16, h20, hz0]); (repeat' ((first | apply aJ | apply aI | apply aL | apply aK | apply aH | apply aG) <;> intro h <;> simp only [h, SS, aY, aM, setRange, aN, aC, aB, aF, aE, aD, aA, Nat.reduceLT, Nat.reduceEqDiff, Nat.reduceAdd, Nat.reduceMul, Nat.reduceSub, Nat.reduceLeDiff, Nat.reduceBEq, reduceCtorEq, h16, h20, hz0])))
    (refine hQ _ _ _ (aR (by first | exact .inl rfl | exact .inr rfl) ?_); simp only [SS, aY, aM, setRange, aN, aC, aB, aF, aE, aD, aA, Nat.reduceLT, Nat.reduceEqDiff, Nat.reduceAdd, Nat.reduceMul, Nat.reduceSub, Nat.reduceLeDiff, Nat.reduceBEq, reduceCtorEq])
  | true =>
  have hz1 : z = 0 := by simpa using hz0
  subst hz1
  apply wp_cut
  · intro R hR
    ((try simp only [aO, SS, aY, aM, setRange, aN, aC, aB, aF, aE, aD, aA, Nat.reduceLT, Nat.reduceEqDiff, Nat.reduceAdd, Nat.reduceMul, Nat.reduceSub, Nat.reduceLeDiff, Nat.reduceBEq, reduceCtorEq, h16, h20, hz0]); (repeat' ((first | apply aJ | apply aI | apply aL | apply aK | apply aH | apply aG) <;> intro h <;> simp only [h, SS, aY, aM, setRange, aN, aC, aB, aF, aE, aD, aA, Nat.reduceLT, Nat.reduceEqDiff, Nat.reduceAdd, Nat.reduceMul, Nat.reduceSub, Nat.reduceLeDiff, Nat.reduceBEq, reduceCtorEq, h16, h20, hz0])))
    exact hR
  obtain ⟨h4, hmv⟩ := movesE_zero (playE_zero hz).2.2
  have h19 := e19 (p := p) (e := e) (late := late) hlen hok (valid_copy hz)
  have hTok := tchL_ok l nine0_ok (fun m hm => mvE_in (hmv m hm)) (by
    have := sumM_bound (g := dW) (l := l) (lo := 0) (hi := 9) fun m hm => by have := mvE_short (hmv m hm); unfold dW; omega
    omega)
  rw [Int.zero_add] at hTok
  obtain ⟨T, hT⟩ : ∃ T, T = dT dA l := ⟨_, rfl⟩
  rw [← hT] at hTok
  obtain ⟨hT9, hTp, hTs⟩ := hTok
  have h50 : F50 [.agg [.str p, .str e, .bool late, .lsl (bF l)]] = some (.tup [.int .i64 (bW outM l), .int .i64 0]) := by
    simp only [F50, dMoves_e hlen hok, Option.map_some, cntP, hz]; rw [if_pos hb]; rfl
  have h51 : F51 [.agg [.str p, .str e, .bool late, .lsl (bF l)]] = some (.tup [.int .i64 (bW dN l), .int .i64 0]) := by
    simp only [F51, dMoves_e hlen hok, Option.map_some, cntP, hz]; rw [if_pos hb]; rfl
  have h52 : F52 [.agg [.str p, .str e, .bool late, .lsl (bF l)]] = some (.tup [.int .i64 (bW dM l), .int .i64 0]) := by
    simp only [F52, dMoves_e hlen hok, Option.map_some, cntP, hz]; rw [if_pos hb]; rfl
  have h59 : F59 [.agg [.str p, .str e, .bool late, .lsl (bF l)]] = some (.tup [.lsl (bJ (dC l)), .int .i64 0]) := by
    simp only [F59, dMoves_e hlen hok, Option.map_some, putE, hz]; rw [if_pos hb]; rfl
  have h58 : F58 [.agg [.str p, .str e, .bool late, .lsl (bF l)]] = some (.tup [.agg (bY T), .int .i64 0]) := by
    simp only [F58, dMoves_e hlen hok, Option.map_some, touchesE, hz]; rw [if_pos hb, hT]; rfl
  have hr9 : (bY T).length = 9 := by rw [eRow_length, hT9]
  have ht9 : (bY T).take 9 = bY T := by rw [← hr9, List.take_length]
  have ha9 := allOne_eRow T
  apply wp_cut
  · intro R hR
    ((try simp only [aO, SS, aY, aM, setRange, aN, aC, aB, aF, aE, aD, aA, Nat.reduceLT, Nat.reduceEqDiff, Nat.reduceAdd, Nat.reduceMul, Nat.reduceSub, Nat.reduceLeDiff, Nat.reduceBEq, reduceCtorEq, h19, h50]); (repeat' ((first | apply aJ | apply aI | apply aL | apply aK | apply aH | apply aG) <;> intro h <;> simp only [h, SS, aY, aM, setRange, aN, aC, aB, aF, aE, aD, aA, Nat.reduceLT, Nat.reduceEqDiff, Nat.reduceAdd, Nat.reduceMul, Nat.reduceSub, Nat.reduceLeDiff, Nat.reduceBEq, reduceCtorEq, h19, h50])))
    exact hR
  apply wp_cut
  · intro R hR
    ((try simp only [aO, SS, aY, aM, setRange, aN, aC, aB, aF, aE, aD, aA, Nat.reduceLT, Nat.reduceEqDiff, Nat.reduceAdd, Nat.reduceMul, Nat.reduceSub, Nat.reduceLeDiff, Nat.reduceBEq, reduceCtorEq, h19, h59]); (repeat' ((first | apply aJ | apply aI | apply aL | apply aK | apply aH | apply aG) <;> intro h <;> simp only [h, SS, aY, aM, setRange, aN, aC, aB, aF, aE, aD, aA, Nat.reduceLT, Nat.reduceEqDiff, Nat.reduceAdd, Nat.reduceMul, Nat.reduceSub, Nat.reduceLeDiff, Nat.reduceBEq, reduceCtorEq, h19, h59])))
    exact hR
  apply wp_cut
  · intro R hR
    ((try simp only [aO, SS, aY, aM, setRange, aN, aC, aB, aF, aE, aD, aA, Nat.reduceLT, Nat.reduceEqDiff, Nat.reduceAdd, Nat.reduceMul, Nat.reduceSub, Nat.reduceLeDiff, Nat.reduceBEq, reduceCtorEq, h19, h58, hr9, ha9]); (repeat' ((first | apply aJ | apply aI | apply aL | apply aK | apply aH | apply aG) <;> intro h <;> simp only [h, SS, aY, aM, setRange, aN, aC, aB, aF, aE, aD, aA, Nat.reduceLT, Nat.reduceEqDiff, Nat.reduceAdd, Nat.reduceMul, Nat.reduceSub, Nat.reduceLeDiff, Nat.reduceBEq, reduceCtorEq, h19, h58, hr9, ha9])))
    exact hR
  apply wp_cut
  · intro R hR
    ((try simp only [aO, SS, aY, aM, setRange, aN, aC, aB, aF, aE, aD, aA, Nat.reduceLT, Nat.reduceEqDiff, Nat.reduceAdd, Nat.reduceMul, Nat.reduceSub, Nat.reduceLeDiff, Nat.reduceBEq, reduceCtorEq, h19, h52]); (repeat' ((first | apply aJ | apply aI | apply aL | apply aK | apply aH | apply aG) <;> intro h <;> simp only [h, SS, aY, aM, setRange, aN, aC, aB, aF, aE, aD, aA, Nat.reduceLT, Nat.reduceEqDiff, Nat.reduceAdd, Nat.reduceMul, Nat.reduceSub, Nat.reduceLeDiff, Nat.reduceBEq, reduceCtorEq, h19, h52])))
    exact hR
  apply wp_cut
  · intro R hR
    ((try simp only [aO, SS, aY, aM, setRange, aN, aC, aB, aF, aE, aD, aA, Nat.reduceLT, Nat.reduceEqDiff, Nat.reduceAdd, Nat.reduceMul, Nat.reduceSub, Nat.reduceLeDiff, Nat.reduceBEq, reduceCtorEq, h19, h51]); (repeat' ((first | apply aJ | apply aI | apply aL | apply aK | apply aH | apply aG) <;> intro h <;> simp only [h, SS, aY, aM, setRange, aN, aC, aB, aF, aE, aD, aA, Nat.reduceLT, Nat.reduceEqDiff, Nat.reduceAdd, Nat.reduceMul, Nat.reduceSub, Nat.reduceLeDiff, Nat.reduceBEq, reduceCtorEq, h19, h51])))
    exact hR
  have z0 : ((0 : Int) == 0) = true := by decide
  have hpo : ((dC l).length : Int) = bW outM l := by rw [outs_len]; simp [dC]
  have q0 : (((dC l).length : Int) == bW outM l) = true := by rw [hpo]; simp
  apply wp_cut
  · intro R hR
    ((try simp only [aO, SS, aY, aM, setRange, aN, aC, aB, aF, aE, aD, aA, Nat.reduceLT, Nat.reduceEqDiff, Nat.reduceAdd, Nat.reduceMul, Nat.reduceSub, Nat.reduceLeDiff, Nat.reduceBEq, reduceCtorEq, z0, aQ, q0]); (repeat' ((first | apply aJ | apply aI | apply aL | apply aK | apply aH | apply aG) <;> intro h <;> simp only [h, SS, aY, aM, setRange, aN, aC, aB, aF, aE, aD, aA, Nat.reduceLT, Nat.reduceEqDiff, Nat.reduceAdd, Nat.reduceMul, Nat.reduceSub, Nat.reduceLeDiff, Nat.reduceBEq, reduceCtorEq, z0, aQ, q0])))
    exact hR
  ((try simp only [aO, SS, aY, aM, setRange, aN, aC, aB, aF, aE, aD, aA, Nat.reduceLT, Nat.reduceEqDiff, Nat.reduceAdd, Nat.reduceMul, Nat.reduceSub, Nat.reduceLeDiff, Nat.reduceBEq, reduceCtorEq]); (repeat' ((first | apply aJ | apply aI | apply aL | apply aK | apply aH | apply aG) <;> intro h <;> simp only [h, SS, aY, aM, setRange, aN, aC, aB, aF, aE, aD, aA, Nat.reduceLT, Nat.reduceEqDiff, Nat.reduceAdd, Nat.reduceMul, Nat.reduceSub, Nat.reduceLeDiff, Nat.reduceBEq, reduceCtorEq])))
  refine bH (Top.loop (I := fun s : { k : Nat // k ≤ l.length } => (mkF 251 [(95, .int .i64 (s.1 : Nat)), (94, .int .i64 (l.length : Int)), (93, .lsl (bF l)), (16, .int .i64 (bW dN (l.take s.1))), (15, .int .i64 (bW dM (l.take s.1))), (14, .int .i64 ((dC (l.take s.1)).length : Int)), (13, .int .i64 (bW dW (l.take s.1))), (11, .int .i64 (bW dN l)), (9, .int .i64 (bW dM l)), (7, .ptr 1 0), (5, .lsl (bJ (dC l))), (3, .int .i64 (bW outM l)), (1, .ptr 0 0)], mkH 2 [(1, some (.row (bY T) 86 0 0 false)), (0, some (.row [.str p, .str e, .bool late, .lsl (bF l)] 24 0 0 false))] 0 [])) (μ := fun s => l.length - s.1) ⟨0, by omega⟩ (aX.drop (by simp [look, below, aT, aP, bW, dC]) (by simp [aU, bG, below, aT, aV]) (by simp [aU])) ?_)
  rintro ⟨k, hk⟩
  refine aS bA _ _ _ _ ?_
  dsimp only
  by_cases hlt : k < l.length
  rotate_left
  · obtain rfl : k = l.length := by omega
    have q1 : decide ((l.length : Int) < (l.length : Int)) = false := by simp
    rw [List.take_length]
    ((try simp only [aO, SS, aY, aM, setRange, aN, aC, aB, aF, aE, aD, aA, Nat.reduceLT, Nat.reduceEqDiff, Nat.reduceAdd, Nat.reduceMul, Nat.reduceSub, Nat.reduceLeDiff, Nat.reduceBEq, reduceCtorEq, q1, ht9, hr9]); (repeat' ((first | apply aJ | apply aI | apply aL | apply aK | apply aH | apply aG) <;> intro h <;> simp only [h, SS, aY, aM, setRange, aN, aC, aB, aF, aE, aD, aA, Nat.reduceLT, Nat.reduceEqDiff, Nat.reduceAdd, Nat.reduceMul, Nat.reduceSub, Nat.reduceLeDiff, Nat.reduceBEq, reduceCtorEq, q1, ht9, hr9])))
    refine bH (Top.loop (I := fun s : { j : Nat // j ≤ 9 } => (mkF 251 [(226, .int .i64 (s.1 : Nat)), (225, .agg (bY T)), (27, .int .i64 (dV (T.take s.1))), (16, .int .i64 (bW dN l)), (15, .int .i64 (bW dM l)), (14, .int .i64 ((dC l).length : Int)), (13, .int .i64 (bW dW l)), (11, .int .i64 (bW dN l)), (9, .int .i64 (bW dM l)), (7, .ptr 1 0), (5, .lsl (bJ (dC l))), (3, .int .i64 (bW outM l)), (1, .ptr 0 0)], mkH 2 [(1, some (.row (bY T) 86 0 0 false)), (0, some (.row [.str p, .str e, .bool late, .lsl (bF l)] 24 0 0 false))] 0 [])) (μ := fun s => 9 - s.1) ⟨0, by omega⟩ (aX.drop (by simp [look, below, aT, dV, aV]) (by simp [aU, bG, below, aT, aV]) (by simp [aU])) ?_)
    rintro ⟨j, hj⟩
    refine aS bA _ _ _ _ ?_
    dsimp only
    by_cases hjl : j < 9
    rotate_left
    · obtain rfl : j = 9 := by omega
      have q2 : decide (((9 : Nat) : Int) < (9 : Int)) = false := by decide
      have t9 : dV (T.take 9) = bW dW l := by rw [← hTs, ← hT9, List.take_length]
      have q4 : ((bW dW l) == (bW dW l)) = true := by simp
      have q5 : ((bW dM l) == (bW dM l)) = true := by simp
      have q6 : ((bW dN l) == (bW dN l)) = true := by simp
      ((try simp only [aO, SS, aY, aM, setRange, aN, aC, aB, aF, aE, aD, aA, Nat.reduceLT, Nat.reduceEqDiff, Nat.reduceAdd, Nat.reduceMul, Nat.reduceSub, Nat.reduceLeDiff, Nat.reduceBEq, reduceCtorEq, q2, t9, q0, q4, q5, q6]); (repeat' ((first | apply aJ | apply aI | apply aL | apply aK | apply aH | apply aG) <;> intro h <;> simp only [h, SS, aY, aM, setRange, aN, aC, aB, aF, aE, aD, aA, Nat.reduceLT, Nat.reduceEqDiff, Nat.reduceAdd, Nat.reduceMul, Nat.reduceSub, Nat.reduceLeDiff, Nat.reduceBEq, reduceCtorEq, q2, t9, q0, q4, q5, q6])))
      (refine hQ _ _ _ (aR (by first | exact .inl rfl | exact .inr rfl) ?_); simp only [SS, aY, aM, setRange, aN, aC, aB, aF, aE, aD, aA, Nat.reduceLT, Nat.reduceEqDiff, Nat.reduceAdd, Nat.reduceMul, Nat.reduceSub, Nat.reduceLeDiff, Nat.reduceBEq, reduceCtorEq])
    have q2 : decide ((j : Int) < (9 : Int)) = true := by simp; omega
    have q3 : IntKind.i64.wrap ((j : Int) + 1) = ((j + 1 : Nat) : Int) := by rw [bE] <;> omega
    have hTj : T[j]? = some (T[j]'(by omega)) := List.getElem?_eq_getElem (by omega)
    have r1 : (bY T)[j]? = some (.int .i64 (T[j]'(by omega))) := by simp [bY, hTj]
    generalize T[j]'(by omega) = x at hTj r1
    have b1 := sumI_take_le (l := T) (k := j + 1) hTp
    have b2 := sumM_small (g := dW) (k := l.length) h4 (fun m hm => by have := mvE_short (hmv m hm); unfold dW; omega)
    rw [List.take_length] at b2
    have w1 : IntKind.i64.wrap (dV (T.take j) + x) = dV (T.take (j + 1)) := by rw [sumI_take hTj] at b1 ⊢; rw [bE] <;> omega
    have q5 : ((j : Int) < ((9 : Nat) : Int)) = True := by simp only [eq_iff_iff, iff_true]; omega
    ((try simp only [aO, SS, aY, aM, setRange, aN, aC, aB, aF, aE, aD, aA, Nat.reduceLT, Nat.reduceEqDiff, Nat.reduceAdd, Nat.reduceMul, Nat.reduceSub, Nat.reduceLeDiff, Nat.reduceBEq, reduceCtorEq, q2, q3, q5, r1, w1, hr9]); (repeat' ((first | apply aJ | apply aI | apply aL | apply aK | apply aH | apply aG) <;> intro h <;> simp only [h, SS, aY, aM, setRange, aN, aC, aB, aF, aE, aD, aA, Nat.reduceLT, Nat.reduceEqDiff, Nat.reduceAdd, Nat.reduceMul, Nat.reduceSub, Nat.reduceLeDiff, Nat.reduceBEq, reduceCtorEq, q2, q3, q5, r1, w1, hr9])))
    exact ⟨⟨j + 1, hjl⟩, by simp; omega, (aX.drop (by simp [look, below, aT, aV]) (by simp [aU, bG, below, aT, aV]) (by simp [aU]))⟩
  obtain ⟨m, hx⟩ : ∃ m, l[k]? = some m := ⟨l[k], List.getElem?_eq_getElem hlt⟩
  have hmem := List.mem_of_getElem? hx
  have hm0 := hmv m hmem
  have q1 : decide ((k : Int) < (l.length : Int)) = true := by simp; omega
  have q2 : IntKind.i64.wrap ((k : Int) + 1) = ((k + 1 : Nat) : Int) := by rw [bE] <;> omega
  have hlen9 := mvE_short hm0
  have b13 := sumM_small (g := dW) (k := k) h4 (fun m hm => by have := mvE_short (hmv m hm); unfold dW; omega)
  have w13 : IntKind.i64.wrap (bW dW (l.take k) + (m.b.length : Int)) = bW dW (l.take (k + 1)) := by
    rw [sumM_take hx]; unfold dW at *; rw [bE] <;> omega
  have hb3 := mvE_base hm0
  unfold baseMv at hb3
  simp only [Bool.and_eq_true, decide_eq_true_eq] at hb3
  have hr0 : cR m.f 0 3 = 0 := by unfold cR; rw [if_neg]; omega
  have hfd := find_own (playE_zero hz).2.2 hx
  have h57 : F57 [.agg [.str p, .str e, .bool late, .lsl (bF l)], .int .i64 m.f] = some (.tup [.agg [.int .i64 m.f, .int .i64 m.t, .bool m.o, .str m.h, .lsl (bJ m.b)], .int .i64 0]) := by
    simp only [F57, dMoves_e hlen hok, Option.map_some]
    rw [if_pos hb]
    simp only [moveOfE, hz, hr0, cD, ne_eq, not_true_eq_false, if_false, if_true, moveAt, hfd]; rfl
  have h66 := e66 (a := m) (b := m) (hok m hmem) (hok m hmem)
  rw [(sameMv_iff m m).2 rfl] at h66
  apply wp_cut
  · intro R hR
    ((try simp only [aO, SS, aY, aM, setRange, aN, aC, aB, aF, aE, aD, aA, Nat.reduceLT, Nat.reduceEqDiff, Nat.reduceAdd, Nat.reduceMul, Nat.reduceSub, Nat.reduceLeDiff, Nat.reduceBEq, reduceCtorEq, q1]); (repeat' ((first | apply aJ | apply aI | apply aL | apply aK | apply aH | apply aG) <;> intro h <;> simp only [h, SS, aY, aM, setRange, aN, aC, aB, aF, aE, aD, aA, Nat.reduceLT, Nat.reduceEqDiff, Nat.reduceAdd, Nat.reduceMul, Nat.reduceSub, Nat.reduceLeDiff, Nat.reduceBEq, reduceCtorEq, q1])))
    exact hR
  apply wp_cut
  · intro R hR
    ((try simp only [aO, SS, aY, aM, setRange, aN, aC, aB, aF, aE, aD, aA, Nat.reduceLT, Nat.reduceEqDiff, Nat.reduceAdd, Nat.reduceMul, Nat.reduceSub, Nat.reduceLeDiff, Nat.reduceBEq, reduceCtorEq, q1]); (repeat' ((first | apply aJ | apply aI | apply aL | apply aK | apply aH | apply aG) <;> intro h <;> simp only [h, SS, aY, aM, setRange, aN, aC, aB, aF, aE, aD, aA, Nat.reduceLT, Nat.reduceEqDiff, Nat.reduceAdd, Nat.reduceMul, Nat.reduceSub, Nat.reduceLeDiff, Nat.reduceBEq, reduceCtorEq, q1])))
    exact hR
  ((try simp only [aO, SS, aY, aM, setRange, aN, aC, aB, aF, aE, aD, aA, Nat.reduceLT, Nat.reduceEqDiff, Nat.reduceAdd, Nat.reduceMul, Nat.reduceSub, Nat.reduceLeDiff, Nat.reduceBEq, reduceCtorEq, aW, bC, hx, aQ, w13]); (repeat' ((first | apply aJ | apply aI | apply aL | apply aK | apply aH | apply aG) <;> intro h <;> simp only [h, SS, aY, aM, setRange, aN, aC, aB, aF, aE, aD, aA, Nat.reduceLT, Nat.reduceEqDiff, Nat.reduceAdd, Nat.reduceMul, Nat.reduceSub, Nat.reduceLeDiff, Nat.reduceBEq, reduceCtorEq, aW, bC, hx, aQ, w13])))
  refine wp_of_draw (Top.draw mixed bA (by kernel_rfl) ?_)
  ((try simp only [aO, SS, aY, aM, setRange, aN, aC, aB, aF, aE, aD, aA, Nat.reduceLT, Nat.reduceEqDiff, Nat.reduceAdd, Nat.reduceMul, Nat.reduceSub, Nat.reduceLeDiff, Nat.reduceBEq, reduceCtorEq, h19, h57]); (repeat' ((first | apply aJ | apply aI | apply aL | apply aK | apply aH | apply aG) <;> intro h <;> simp only [h, SS, aY, aM, setRange, aN, aC, aB, aF, aE, aD, aA, Nat.reduceLT, Nat.reduceEqDiff, Nat.reduceAdd, Nat.reduceMul, Nat.reduceSub, Nat.reduceLeDiff, Nat.reduceBEq, reduceCtorEq, h19, h57])))
  refine ⟨by kernel_rfl, ?_⟩
  ((try simp only [aO, SS, aY, aM, setRange, aN, aC, aB, aF, aE, aD, aA, Nat.reduceLT, Nat.reduceEqDiff, Nat.reduceAdd, Nat.reduceMul, Nat.reduceSub, Nat.reduceLeDiff, Nat.reduceBEq, reduceCtorEq, z0, h66]); (repeat' ((first | apply aJ | apply aI | apply aL | apply aK | apply aH | apply aG) <;> intro h <;> simp only [h, SS, aY, aM, setRange, aN, aC, aB, aF, aE, aD, aA, Nat.reduceLT, Nat.reduceEqDiff, Nat.reduceAdd, Nat.reduceMul, Nat.reduceSub, Nat.reduceLeDiff, Nat.reduceBEq, reduceCtorEq, z0, h66])))
  have b15 := sumM_small (g := dM) (k := k) h4 (fun m hm => by
    have := mvE_base (hmv m hm); unfold baseMv at this; simp only [Bool.and_eq_true, decide_eq_true_eq] at this; unfold dM; split <;> omega)
  have b16 := sumM_small (g := dN) (k := k) h4 (fun m hm => by unfold dN; split <;> omega)
  cases ho : m.o with
  | false =>
    have h60 : F60 [.agg [.str p, .str e, .bool late, .lsl (bF l)], .int .i64 m.f] = some (.tup [.lsl [], .int .i64 15]) := by
      simp only [F60, dMoves_e hlen hok, Option.map_some]
      rw [if_pos hb]
      simp only [assistsE, hz, hr0, cD, ne_eq, not_true_eq_false, if_false, if_true, helpedAt, hfd, ho]; rfl
    have a15 : dM m = m.t - m.f := by simp [dM, ho]
    have w15a : IntKind.i64.wrap (m.t - m.f) = m.t - m.f := by rw [bE] <;> omega
    have w15 : IntKind.i64.wrap (bW dM (l.take k) + (m.t - m.f)) = bW dM (l.take (k + 1)) := by rw [sumM_take hx, a15, bE] <;> omega
    have hpk : dC (l.take (k + 1)) = dC (l.take k) := by rw [potL_take hx]; simp [isO, ho]
    have z15 : ((15 : Int) == 15) = true := by decide
    refine wp_of_draw (Top.draw mixed bA (by kernel_rfl) ?_)
    ((try simp only [aO, SS, aY, aM, setRange, aN, aC, aB, aF, aE, aD, aA, Nat.reduceLT, Nat.reduceEqDiff, Nat.reduceAdd, Nat.reduceMul, Nat.reduceSub, Nat.reduceLeDiff, Nat.reduceBEq, reduceCtorEq, h19, h60]); (repeat' ((first | apply aJ | apply aI | apply aL | apply aK | apply aH | apply aG) <;> intro h <;> simp only [h, SS, aY, aM, setRange, aN, aC, aB, aF, aE, aD, aA, Nat.reduceLT, Nat.reduceEqDiff, Nat.reduceAdd, Nat.reduceMul, Nat.reduceSub, Nat.reduceLeDiff, Nat.reduceBEq, reduceCtorEq, h19, h60])))
    refine ⟨by kernel_rfl, ?_⟩
    cases h16r : (m.t == 4) with
    | true =>
      have a16 : dN m = 1 := by simp only [dN, ho, true_and]; rw [if_pos (by simpa using h16r)]
      have w16 : IntKind.i64.wrap (bW dN (l.take k) + 1) = bW dN (l.take (k + 1)) := by rw [sumM_take hx, a16, bE] <;> omega
      ((try simp only [aO, SS, aY, aM, setRange, aN, aC, aB, aF, aE, aD, aA, Nat.reduceLT, Nat.reduceEqDiff, Nat.reduceAdd, Nat.reduceMul, Nat.reduceSub, Nat.reduceLeDiff, Nat.reduceBEq, reduceCtorEq, ho, z15, w15a, w15, h16r, w16, q2]); (repeat' ((first | apply aJ | apply aI | apply aL | apply aK | apply aH | apply aG) <;> intro h <;> simp only [h, SS, aY, aM, setRange, aN, aC, aB, aF, aE, aD, aA, Nat.reduceLT, Nat.reduceEqDiff, Nat.reduceAdd, Nat.reduceMul, Nat.reduceSub, Nat.reduceLeDiff, Nat.reduceBEq, reduceCtorEq, ho, z15, w15a, w15, h16r, w16, q2])))
      refine ⟨⟨k + 1, hlt⟩, by simp; omega, ?_⟩
      simp only [hpk]
      exact (aX.drop (by simp [look, below, aT]) (by simp [aU, bG, below, aT, aV]) (by simp [aU]))
    | false =>
      have a16 : dN m = 0 := by simp only [dN, ho, true_and]; rw [if_neg (by simpa using h16r)]
      have w16 : bW dN (l.take (k + 1)) = bW dN (l.take k) := by rw [sumM_take hx, a16]; omega
      ((try simp only [aO, SS, aY, aM, setRange, aN, aC, aB, aF, aE, aD, aA, Nat.reduceLT, Nat.reduceEqDiff, Nat.reduceAdd, Nat.reduceMul, Nat.reduceSub, Nat.reduceLeDiff, Nat.reduceBEq, reduceCtorEq, ho, z15, w15a, w15, h16r, q2]); (repeat' ((first | apply aJ | apply aI | apply aL | apply aK | apply aH | apply aG) <;> intro h <;> simp only [h, SS, aY, aM, setRange, aN, aC, aB, aF, aE, aD, aA, Nat.reduceLT, Nat.reduceEqDiff, Nat.reduceAdd, Nat.reduceMul, Nat.reduceSub, Nat.reduceLeDiff, Nat.reduceBEq, reduceCtorEq, ho, z15, w15a, w15, h16r, q2])))
      refine ⟨⟨k + 1, hlt⟩, by simp; omega, ?_⟩
      simp only [hpk, w16]
      exact (aX.drop (by simp [look, below, aT]) (by simp [aU, bG, below, aT, aV]) (by simp [aU]))
  | true =>
  have h60 : F60 [.agg [.str p, .str e, .bool late, .lsl (bF l)], .int .i64 m.f] = some (.tup [.lsl (bJ (cZ m.b 9)), .int .i64 0]) := by
    simp only [F60, dMoves_e hlen hok, Option.map_some]
    rw [if_pos hb]
    simp only [assistsE, hz, hr0, cD, ne_eq, not_true_eq_false, if_false, if_true, helpedAt, hfd, ho]
  have w15 : bW dM (l.take (k + 1)) = bW dM (l.take k) := by rw [sumM_take hx]; simp [dM, ho]
  have w16 : bW dN (l.take (k + 1)) = bW dN (l.take k) := by rw [sumM_take hx]; simp [dN, ho]
  have hpk : dC (l.take (k + 1)) = dC (l.take k) ++ [lastT m] := by rw [potL_take hx]; simp [isO, ho]
  obtain ⟨hpg, hpl⟩ := potL_get hx ho
  have hbn := mvE_touched hm0 ho
  have hlg := last_get hbn
  have hbl : 0 < m.b.length := List.length_pos_iff.2 hbn
  have hlT : m.b.getLastD 0 = lastT m := rfl
  rw [hlT] at hlg
  have hA9 : (cZ m.b 9).length ≤ 9 := helpL_len _ _
  have h75 : ∀ c : Int, F75 [.lsl (bJ (cZ m.b 9)), .int .i64 c] = some (.bool ((cZ m.b 9).any (· == c))) := fun c => e75 (by omega)
  have h75b : ∀ c : Int, F75 [.lsl (bJ m.b), .int .i64 c] = some (.bool (m.b.any (· == c))) := fun c => e75 (by omega)
  have hnl := helpL_last m.b 9
  rw [hlT] at hnl
  have q5 : decide (((dC l).length : Int) ≤ ((dC (l.take k)).length : Int)) = false := by simp; omega
  have q6 : IntKind.i64.wrap ((m.b.length : Int) - 1) = ((m.b.length - 1 : Nat) : Int) := by rw [bE] <;> omega
  refine wp_of_draw (Top.draw mixed bA (by kernel_rfl) ?_)
  ((try simp only [aO, SS, aY, aM, setRange, aN, aC, aB, aF, aE, aD, aA, Nat.reduceLT, Nat.reduceEqDiff, Nat.reduceAdd, Nat.reduceMul, Nat.reduceSub, Nat.reduceLeDiff, Nat.reduceBEq, reduceCtorEq, h19, h60]); (repeat' ((first | apply aJ | apply aI | apply aL | apply aK | apply aH | apply aG) <;> intro h <;> simp only [h, SS, aY, aM, setRange, aN, aC, aB, aF, aE, aD, aA, Nat.reduceLT, Nat.reduceEqDiff, Nat.reduceAdd, Nat.reduceMul, Nat.reduceSub, Nat.reduceLeDiff, Nat.reduceBEq, reduceCtorEq, h19, h60])))
  refine ⟨by kernel_rfl, ?_⟩
  ((try simp only [aO, SS, aY, aM, setRange, aN, aC, aB, aF, aE, aD, aA, Nat.reduceLT, Nat.reduceEqDiff, Nat.reduceAdd, Nat.reduceMul, Nat.reduceSub, Nat.reduceLeDiff, Nat.reduceBEq, reduceCtorEq, ho]); (repeat' ((first | apply aJ | apply aI | apply aL | apply aK | apply aH | apply aG) <;> intro h <;> simp only [h, SS, aY, aM, setRange, aN, aC, aB, aF, aE, aD, aA, Nat.reduceLT, Nat.reduceEqDiff, Nat.reduceAdd, Nat.reduceMul, Nat.reduceSub, Nat.reduceLeDiff, Nat.reduceBEq, reduceCtorEq, ho])))
  have q7 : (lastT m == lastT m) = true := by simp
  refine wp_of_draw (Top.draw mixed bA (by kernel_rfl) ?_)
  ((try simp only [aO, SS, aY, aM, setRange, aN, aC, aB, aF, aE, aD, aA, Nat.reduceLT, Nat.reduceEqDiff, Nat.reduceAdd, Nat.reduceMul, Nat.reduceSub, Nat.reduceLeDiff, Nat.reduceBEq, reduceCtorEq, z0, q5, aQ, aZ, hpg, q6, hlg, q7, h75, hnl]); (repeat' ((first | apply aJ | apply aI | apply aL | apply aK | apply aH | apply aG) <;> intro h <;> simp only [h, SS, aY, aM, setRange, aN, aC, aB, aF, aE, aD, aA, Nat.reduceLT, Nat.reduceEqDiff, Nat.reduceAdd, Nat.reduceMul, Nat.reduceSub, Nat.reduceLeDiff, Nat.reduceBEq, reduceCtorEq, z0, q5, aQ, aZ, hpg, q6, hlg, q7, h75, hnl])))
  refine ⟨by kernel_rfl, ?_⟩
  ((try simp only [aO, SS, aY, aM, setRange, aN, aC, aB, aF, aE, aD, aA, Nat.reduceLT, Nat.reduceEqDiff, Nat.reduceAdd, Nat.reduceMul, Nat.reduceSub, Nat.reduceLeDiff, Nat.reduceBEq, reduceCtorEq]); (repeat' ((first | apply aJ | apply aI | apply aL | apply aK | apply aH | apply aG) <;> intro h <;> simp only [h, SS, aY, aM, setRange, aN, aC, aB, aF, aE, aD, aA, Nat.reduceLT, Nat.reduceEqDiff, Nat.reduceAdd, Nat.reduceMul, Nat.reduceSub, Nat.reduceLeDiff, Nat.reduceBEq, reduceCtorEq])))
  refine bH (Top.loop (I := fun s : { j : Nat // j ≤ m.b.length } => (mkF 251 [(179, .int .i64 (s.1 : Nat)), (178, .int .i64 (m.b.length : Int)), (177, .lsl (bJ m.b)), (21, .lsl (bJ (cZ m.b 9))), (18, .ptr 2 0), (95, .int .i64 (k : Nat)), (94, .int .i64 (l.length : Int)), (93, .lsl (bF l)), (16, .int .i64 (bW dN (l.take k))), (15, .int .i64 (bW dM (l.take k))), (14, .int .i64 ((dC (l.take k)).length : Int)), (13, .int .i64 (bW dW (l.take (k + 1)))), (11, .int .i64 (bW dN l)), (9, .int .i64 (bW dM l)), (7, .ptr 1 0), (5, .lsl (bJ (dC l))), (3, .int .i64 (bW outM l)), (1, .ptr 0 0)], mkH 3 [(2, some (.row [.int .i64 m.f, .int .i64 m.t, .bool true, .str m.h, .lsl (bJ m.b)] 27 0 0 false)), (1, some (.row (bY T) 86 0 0 false)), (0, some (.row [.str p, .str e, .bool late, .lsl (bF l)] 24 0 0 false))] 0 [])) (μ := fun s => m.b.length - s.1) ⟨0, by omega⟩ (aX.drop (by simp [look, below, aT, aQ]) (by simp [aU, bG, below, aT, aV]) (by simp [aU])) ?_)
  rintro ⟨j, hj⟩
  refine aS bA _ _ _ _ ?_
  dsimp only
  by_cases hjl : j < m.b.length
  · obtain ⟨x, hxb⟩ : ∃ x, m.b[j]? = some x := ⟨m.b[j], List.getElem?_eq_getElem hjl⟩
    have q8 : decide ((j : Int) < (m.b.length : Int)) = true := by simp; omega
    have q9 : IntKind.i64.wrap ((j : Int) + 1) = ((j + 1 : Nat) : Int) := by rw [bE] <;> omega
    cases hxl : (x == lastT m) with
    | true =>
      ((try simp only [aO, SS, aY, aM, setRange, aN, aC, aB, aF, aE, aD, aA, Nat.reduceLT, Nat.reduceEqDiff, Nat.reduceAdd, Nat.reduceMul, Nat.reduceSub, Nat.reduceLeDiff, Nat.reduceBEq, reduceCtorEq, q8, q9, aZ, hxb, hpg, hxl]); (repeat' ((first | apply aJ | apply aI | apply aL | apply aK | apply aH | apply aG) <;> intro h <;> simp only [h, SS, aY, aM, setRange, aN, aC, aB, aF, aE, aD, aA, Nat.reduceLT, Nat.reduceEqDiff, Nat.reduceAdd, Nat.reduceMul, Nat.reduceSub, Nat.reduceLeDiff, Nat.reduceBEq, reduceCtorEq, q8, q9, aZ, hxb, hpg, hxl])))
      exact ⟨⟨j + 1, hjl⟩, by simp; omega, (aX.drop (by simp [look, below, aT, aQ]) (by simp [aU, bG, below, aT, aV]) (by simp [aU]))⟩
    | false =>
      have hin := inNine_get (mvE_in hm0) hxb
      have hany : (cZ m.b 9).any (· == x) = true := helpL_any (List.any_eq_true.2 ⟨x, List.mem_of_getElem? hxb, by simp⟩) hin.1 hin.2 (by rw [hlT]; simpa using hxl)
      ((try simp only [aO, SS, aY, aM, setRange, aN, aC, aB, aF, aE, aD, aA, Nat.reduceLT, Nat.reduceEqDiff, Nat.reduceAdd, Nat.reduceMul, Nat.reduceSub, Nat.reduceLeDiff, Nat.reduceBEq, reduceCtorEq, q8, q9, aZ, hxb, hpg, hxl, h75, hany]); (repeat' ((first | apply aJ | apply aI | apply aL | apply aK | apply aH | apply aG) <;> intro h <;> simp only [h, SS, aY, aM, setRange, aN, aC, aB, aF, aE, aD, aA, Nat.reduceLT, Nat.reduceEqDiff, Nat.reduceAdd, Nat.reduceMul, Nat.reduceSub, Nat.reduceLeDiff, Nat.reduceBEq, reduceCtorEq, q8, q9, aZ, hxb, hpg, hxl, h75, hany])))
      exact ⟨⟨j + 1, hjl⟩, by simp; omega, (aX.drop (by simp [look, below, aT, aQ]) (by simp [aU, bG, below, aT, aV]) (by simp [aU]))⟩
  obtain rfl : j = m.b.length := by omega
  have q8 : decide ((m.b.length : Int) < (m.b.length : Int)) = false := by simp
  ((try simp only [aO, SS, aY, aM, setRange, aN, aC, aB, aF, aE, aD, aA, Nat.reduceLT, Nat.reduceEqDiff, Nat.reduceAdd, Nat.reduceMul, Nat.reduceSub, Nat.reduceLeDiff, Nat.reduceBEq, reduceCtorEq, q8]); (repeat' ((first | apply aJ | apply aI | apply aL | apply aK | apply aH | apply aG) <;> intro h <;> simp only [h, SS, aY, aM, setRange, aN, aC, aB, aF, aE, aD, aA, Nat.reduceLT, Nat.reduceEqDiff, Nat.reduceAdd, Nat.reduceMul, Nat.reduceSub, Nat.reduceLeDiff, Nat.reduceBEq, reduceCtorEq, q8])))
  have hin4 : ∀ y ∈ cZ m.b 9, m.b.any (· == y) = true := fun y hy => (helpL_in hy).1
  have hso := helpL_sorted m.b 9
  have w14 : IntKind.i64.wrap (((dC (l.take k)).length : Int) + 1) = ((dC (l.take (k + 1))).length : Int) := by
    have e1 : (dC (l.take (k + 1))).length = (dC (l.take k)).length + 1 := by rw [hpk]; simp
    have e2 := potL_len l
    rw [e1, bE] <;> omega
  generalize cZ m.b 9 = A at hA9 h75 hnl hin4 hso
  refine bH (Top.loop (I := fun s : { j : Nat // j ≤ A.length } => (mkF 251 [(198, .int .i64 (s.1 : Nat)), (197, .int .i64 (A.length : Int)), (196, .lsl (bJ A)), (21, .lsl (bJ (A))), (18, .ptr 2 0), (95, .int .i64 (k : Nat)), (94, .int .i64 (l.length : Int)), (93, .lsl (bF l)), (16, .int .i64 (bW dN (l.take k))), (15, .int .i64 (bW dM (l.take k))), (14, .int .i64 ((dC (l.take k)).length : Int)), (13, .int .i64 (bW dW (l.take (k + 1)))), (11, .int .i64 (bW dN l)), (9, .int .i64 (bW dM l)), (7, .ptr 1 0), (5, .lsl (bJ (dC l))), (3, .int .i64 (bW outM l)), (1, .ptr 0 0)], mkH 3 [(2, some (.row [.int .i64 m.f, .int .i64 m.t, .bool true, .str m.h, .lsl (bJ m.b)] 27 0 0 false)), (1, some (.row (bY T) 86 0 0 false)), (0, some (.row [.str p, .str e, .bool late, .lsl (bF l)] 24 0 0 false))] 0 [])) (μ := fun s => A.length - s.1) ⟨0, by omega⟩ (aX.drop (by simp [look, below, aT, aQ]) (by simp [aU, bG, below, aT, aV]) (by simp [aU])) ?_)
  rintro ⟨i, hi⟩
  refine aS bA _ _ _ _ ?_
  dsimp only
  by_cases hil : i < A.length
  rotate_left
  · obtain rfl : i = A.length := by omega
    have q9 : decide ((A.length : Int) < (A.length : Int)) = false := by simp
    ((try simp only [aO, SS, aY, aM, setRange, aN, aC, aB, aF, aE, aD, aA, Nat.reduceLT, Nat.reduceEqDiff, Nat.reduceAdd, Nat.reduceMul, Nat.reduceSub, Nat.reduceLeDiff, Nat.reduceBEq, reduceCtorEq, q9, w14, q2]); (repeat' ((first | apply aJ | apply aI | apply aL | apply aK | apply aH | apply aG) <;> intro h <;> simp only [h, SS, aY, aM, setRange, aN, aC, aB, aF, aE, aD, aA, Nat.reduceLT, Nat.reduceEqDiff, Nat.reduceAdd, Nat.reduceMul, Nat.reduceSub, Nat.reduceLeDiff, Nat.reduceBEq, reduceCtorEq, q9, w14, q2])))
    refine ⟨⟨k + 1, hlt⟩, by simp; omega, ?_⟩
    simp only [w15, w16]
    exact (aX.drop (by simp [look, below, aT, aQ]) (by simp [aU, bG, below, aT, aV]) (by simp [aU]))
  obtain ⟨y, hy⟩ : ∃ y, A[i]? = some y := ⟨A[i], List.getElem?_eq_getElem hil⟩
  have hy4 := hin4 y (List.mem_of_getElem? hy)
  have q9 : decide ((i : Int) < (A.length : Int)) = true := by simp; omega
  have q10 : IntKind.i64.wrap ((i : Int) + 1) = ((i + 1 : Nat) : Int) := by rw [bE] <;> omega
  by_cases hi0 : i = 0
  · have q11 : decide ((0 : Int) < (i : Int)) = false := by simp; omega
    ((try simp only [aO, SS, aY, aM, setRange, aN, aC, aB, aF, aE, aD, aA, Nat.reduceLT, Nat.reduceEqDiff, Nat.reduceAdd, Nat.reduceMul, Nat.reduceSub, Nat.reduceLeDiff, Nat.reduceBEq, reduceCtorEq, q9, q10, aZ, hy, h75b, hy4, q11]); (repeat' ((first | apply aJ | apply aI | apply aL | apply aK | apply aH | apply aG) <;> intro h <;> simp only [h, SS, aY, aM, setRange, aN, aC, aB, aF, aE, aD, aA, Nat.reduceLT, Nat.reduceEqDiff, Nat.reduceAdd, Nat.reduceMul, Nat.reduceSub, Nat.reduceLeDiff, Nat.reduceBEq, reduceCtorEq, q9, q10, aZ, hy, h75b, hy4, q11])))
    exact ⟨⟨i + 1, hil⟩, by simp; omega, (aX.drop (by simp [look, below, aT, aQ]) (by simp [aU, bG, below, aT, aV]) (by simp [aU]))⟩
  · have q11 : decide ((0 : Int) < (i : Int)) = true := by simp; omega
    have q12 : IntKind.i64.wrap ((i : Int) - 1) = ((i - 1 : Nat) : Int) := by rw [bE] <;> omega
    obtain ⟨u, hu⟩ : ∃ u, A[i - 1]? = some u := ⟨A[i - 1], List.getElem?_eq_getElem (by omega)⟩
    have hlt2 : u < y := by
      rw [List.pairwise_iff_getElem] at hso
      obtain ⟨_, rfl⟩ := List.getElem?_eq_some_iff.1 hu
      obtain ⟨_, rfl⟩ := List.getElem?_eq_some_iff.1 hy
      exact hso (i - 1) i (by omega) hil (by omega)
    have q13 : decide (y ≤ u) = false := by simp; omega
    ((try simp only [aO, SS, aY, aM, setRange, aN, aC, aB, aF, aE, aD, aA, Nat.reduceLT, Nat.reduceEqDiff, Nat.reduceAdd, Nat.reduceMul, Nat.reduceSub, Nat.reduceLeDiff, Nat.reduceBEq, reduceCtorEq, q9, q10, aZ, hy, h75b, hy4, q11, q12, hu, q13]); (repeat' ((first | apply aJ | apply aI | apply aL | apply aK | apply aH | apply aG) <;> intro h <;> simp only [h, SS, aY, aM, setRange, aN, aC, aB, aF, aE, aD, aA, Nat.reduceLT, Nat.reduceEqDiff, Nat.reduceAdd, Nat.reduceMul, Nat.reduceSub, Nat.reduceLeDiff, Nat.reduceBEq, reduceCtorEq, q9, q10, aZ, hy, h75b, hy4, q11, q12, hu, q13])))
    exact ⟨⟨i + 1, hil⟩, by simp; omega, (aX.drop (by simp [look, below, aT, aQ]) (by simp [aU, bG, below, aT, aV]) (by simp [aU]))⟩
end Go.Ev
