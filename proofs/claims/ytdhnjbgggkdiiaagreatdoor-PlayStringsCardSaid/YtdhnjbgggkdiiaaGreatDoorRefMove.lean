import Derived.Test.YtdhnjbgggkdiiaaGreatDoorRdMove
set_option linter.unusedSimpArgs false
set_option linter.unusedVariables false
namespace Go.Ev
open Go.RowKit Go.Proofs
set_option linter.defProp false
def aR := And.intro (And.intro (And.intro (And.intro (And.intro (@Tryz.underlying3) (@sz3)) (And.intro (@cM) (And.intro (@I3s) (@I3b)))) (And.intro (And.intro (@cJ) (And.intro (@cN) (@Tryz.underlying4))) (And.intro (@sz4) (And.intro (@dX) (@I4s))))) (And.intro (And.intro (And.intro (@I4b) (@dT)) (And.intro (@dZ) (And.intro (@Tryz.underlying5) (@sz5)))) (And.intro (And.intro (@dW) (And.intro (@I5s) (@I5b))) (And.intro (@dS) (And.intro (@dY) (@Tryz.underlying9)))))) (And.intro (And.intro (And.intro (And.intro (@sz9) (@cK)) (And.intro (@I9s) (And.intro (@I9b) (@cF)))) (And.intro (And.intro (@cL) (And.intro (@Tryz.underlying25) (@eL))) (And.intro (@dD) (And.intro (@eM) (@eN))))) (And.intro (And.intro (And.intro (@cZ) (And.intro (@dF) (@Tryz.underlying27))) (And.intro (@eP) (And.intro (@eC) (@dK)))) (And.intro (And.intro (@eR) (And.intro (@eS) (@dH))) (And.intro (@dM) (And.intro (@call97) (@Tryz.results102))))))
set_option maxRecDepth 20000
set_option maxHeartbeats 8000000

/-! a move's word, by the reference -/
def mv00 : Mv := ⟨0, 0, false, [], []⟩
def F102 : List EVal → Option EVal
  | [.str w] => if bE w = true ∧ w.length ≤ 5000 then some (.tup [.agg (dP (if mvW w = true then eQ w else mv00)), .bool (mvW w)]) else none
  | _ => none
theorem wrapD {x : Nat} (h : 48 ≤ x ∧ x ≤ 57) : IntKind.u8.wrap ((x : Int) - 48) = cG x ∧ IntKind.i64.wrap (cG x) = cG x := by
  have : ∀ x : Nat, x < 10 → IntKind.u8.wrap (((x + 48 : Nat) : Int) - 48) = cG (x + 48) ∧ IntKind.i64.wrap (cG (x + 48)) = cG (x + 48) := by decide
  have := this (x - 48) (by omega)
  rwa [show x - 48 + 48 = x by omega] at this
theorem eD {x : Nat} : F97 [.int .u8 (x : Int)] = some (.bool (dU x)) := rfl
theorem fn102 : FnT 102 F102 := by
  refine Fn.intro mixed aX Tryz.func102 rfl [(97, F97)] (by simp only [List.forall_mem_cons]; exact ⟨fn97, fun _ h => by cases h⟩) ?_
  intro args v hF
  unfold F102 at hF
  split at hF
  rotate_left
  · cases hF
  intro Q hV
  have hQ := bL.of hV
  rename_i w
  split at hF
  rotate_left
  · cases hF
  rename_i hc
  obtain ⟨hby, hlen⟩ := hc
  cases hF
  refine Top.view (aV.mode (n := 0) (m := 0) (l := []) (k := []) 128 (by omega)) ?_
  refine Top.view (aV.start (n := 94) rfl (by simp)) (aS aX _ _ _ _ ?_)
  have bad : mvW w = false → EVal.tup [.agg (dP (if mvW w = true then eQ w else mv00)), .bool (mvW w)] = .tup [.agg [.int .i64 0, .int .i64 0, .bool false, .str [], .lsl []], .bool false] := by
    intro h; rw [h]; rfl
  by_cases h4 : w.length < 4
  · have hz : mvW w = false := by
      match w, h4 with
      | [], _ => rfl
      | [_], _ => rfl
      | [_, _], _ => rfl
      | [_, _, _], _ => rfl
      | _ :: _ :: _ :: _ :: _, h => simp at h; omega
    have q1 : decide ((w.length : Int) < 4) = true := by simp; omega
    ((try simp only [aO, SS, aR, aM, setRange, aN, aC, aB, aF, aE, aD, aA, Nat.reduceLT, Nat.reduceEqDiff, Nat.reduceAdd, Nat.reduceMul, Nat.reduceSub, Nat.reduceLeDiff, Nat.reduceBEq, reduceCtorEq, q1]); (repeat' ((first | apply aJ | apply aI | apply aL | apply aK | apply aH | apply aG) <;> intro h <;> simp only [h, SS, aR, aM, setRange, aN, aC, aB, aF, aE, aD, aA, Nat.reduceLT, Nat.reduceEqDiff, Nat.reduceAdd, Nat.reduceMul, Nat.reduceSub, Nat.reduceLeDiff, Nat.reduceBEq, reduceCtorEq, q1])))
    (refine hQ _ _ _ (aP (by first | exact .inl rfl | exact .inr rfl) ?_); simp only [SS, aR, aM, setRange, aN, aC, aB, aF, aE, aD, aA, Nat.reduceLT, Nat.reduceEqDiff, Nat.reduceAdd, Nat.reduceMul, Nat.reduceSub, Nat.reduceLeDiff, Nat.reduceBEq, reduceCtorEq])
    rw [bad hz]
  obtain ⟨a, b, c, d, r, rfl⟩ : ∃ a b c d r, w = a :: b :: c :: d :: r := by
    match w, h4 with
    | a :: b :: c :: d :: r, _ => exact ⟨a, b, c, d, r, rfl⟩
    | [], h => simp at h
    | [_], h => simp at h
    | [_, _], h => simp at h
    | [_, _, _], h => simp at h
  simp only [bE, List.all_cons, Bool.and_eq_true, decide_eq_true_eq] at hby
  obtain ⟨ba, bb, bc, bd, br⟩ := hby
  have q1 : decide (((r.length + 1 + 1 + 1 + 1 : Nat) : Int) < 4) = false := by simp; omega
  have q45 : ((b : Int) == 45) = (b == 45) := by rw [Bool.eq_iff_iff, beq_iff_eq, beq_iff_eq]; omega
  have q120 : ((b : Int) == 120) = (b == 120) := by rw [Bool.eq_iff_iff, beq_iff_eq, beq_iff_eq]; omega
  cases ga : dU a with
  | false =>
    ((try simp only [aO, SS, aR, aM, setRange, aN, aC, aB, aF, aE, aD, aA, Nat.reduceLT, Nat.reduceEqDiff, Nat.reduceAdd, Nat.reduceMul, Nat.reduceSub, Nat.reduceLeDiff, Nat.reduceBEq, reduceCtorEq, q1, Int.reduceLE, Int.reduceToNat, eD, ga]); (repeat' ((first | apply aJ | apply aI | apply aL | apply aK | apply aH | apply aG) <;> intro h <;> simp only [h, SS, aR, aM, setRange, aN, aC, aB, aF, aE, aD, aA, Nat.reduceLT, Nat.reduceEqDiff, Nat.reduceAdd, Nat.reduceMul, Nat.reduceSub, Nat.reduceLeDiff, Nat.reduceBEq, reduceCtorEq, q1, Int.reduceLE, Int.reduceToNat, eD, ga])))
    (refine hQ _ _ _ (aP (by first | exact .inl rfl | exact .inr rfl) ?_); simp only [SS, aR, aM, setRange, aN, aC, aB, aF, aE, aD, aA, Nat.reduceLT, Nat.reduceEqDiff, Nat.reduceAdd, Nat.reduceMul, Nat.reduceSub, Nat.reduceLeDiff, Nat.reduceBEq, reduceCtorEq])
    rw [bad (by simp only [mvW, ga, Bool.false_and, Bool.and_false])]
  | true =>
  cases gb : ((b == 45) || (b == 120)) with
  | false =>
    simp only [Bool.or_eq_false_iff] at gb
    ((try simp only [aO, SS, aR, aM, setRange, aN, aC, aB, aF, aE, aD, aA, Nat.reduceLT, Nat.reduceEqDiff, Nat.reduceAdd, Nat.reduceMul, Nat.reduceSub, Nat.reduceLeDiff, Nat.reduceBEq, reduceCtorEq, q1, Int.reduceLE, Int.reduceToNat, eD, ga, q45, q120, gb.1, gb.2]); (repeat' ((first | apply aJ | apply aI | apply aL | apply aK | apply aH | apply aG) <;> intro h <;> simp only [h, SS, aR, aM, setRange, aN, aC, aB, aF, aE, aD, aA, Nat.reduceLT, Nat.reduceEqDiff, Nat.reduceAdd, Nat.reduceMul, Nat.reduceSub, Nat.reduceLeDiff, Nat.reduceBEq, reduceCtorEq, q1, Int.reduceLE, Int.reduceToNat, eD, ga, q45, q120, gb.1, gb.2])))
    (refine hQ _ _ _ (aP (by first | exact .inl rfl | exact .inr rfl) ?_); simp only [SS, aR, aM, setRange, aN, aC, aB, aF, aE, aD, aA, Nat.reduceLT, Nat.reduceEqDiff, Nat.reduceAdd, Nat.reduceMul, Nat.reduceSub, Nat.reduceLeDiff, Nat.reduceBEq, reduceCtorEq])
    rw [bad (by simp only [mvW, gb.1, gb.2, Bool.or_self, Bool.false_and])]
  | true =>
  cases hb1 : (b == 45) with
  | true =>
    cases gc : dU c with
    | false =>
      ((try simp only [aO, SS, aR, aM, setRange, aN, aC, aB, aF, aE, aD, aA, Nat.reduceLT, Nat.reduceEqDiff, Nat.reduceAdd, Nat.reduceMul, Nat.reduceSub, Nat.reduceLeDiff, Nat.reduceBEq, reduceCtorEq, q1, Int.reduceLE, Int.reduceToNat, eD, ga, q45, q120, hb1, gc]); (repeat' ((first | apply aJ | apply aI | apply aL | apply aK | apply aH | apply aG) <;> intro h <;> simp only [h, SS, aR, aM, setRange, aN, aC, aB, aF, aE, aD, aA, Nat.reduceLT, Nat.reduceEqDiff, Nat.reduceAdd, Nat.reduceMul, Nat.reduceSub, Nat.reduceLeDiff, Nat.reduceBEq, reduceCtorEq, q1, Int.reduceLE, Int.reduceToNat, eD, ga, q45, q120, hb1, gc])))
      (refine hQ _ _ _ (aP (by first | exact .inl rfl | exact .inr rfl) ?_); simp only [SS, aR, aM, setRange, aN, aC, aB, aF, aE, aD, aA, Nat.reduceLT, Nat.reduceEqDiff, Nat.reduceAdd, Nat.reduceMul, Nat.reduceSub, Nat.reduceLeDiff, Nat.reduceBEq, reduceCtorEq])
      rw [bad (by simp only [mvW, gc, Bool.false_and, Bool.and_false])]
    | true =>
    cases gd1 : decide ((d : Int) < 97) with
    | true =>
      have gd : eT d = false := by simp only [decide_eq_true_eq] at gd1; simp [eT, lowerB]; omega
      ((try simp only [aO, SS, aR, aM, setRange, aN, aC, aB, aF, aE, aD, aA, Nat.reduceLT, Nat.reduceEqDiff, Nat.reduceAdd, Nat.reduceMul, Nat.reduceSub, Nat.reduceLeDiff, Nat.reduceBEq, reduceCtorEq, q1, Int.reduceLE, Int.reduceToNat, eD, ga, q45, q120, hb1, gc, gd1]); (repeat' ((first | apply aJ | apply aI | apply aL | apply aK | apply aH | apply aG) <;> intro h <;> simp only [h, SS, aR, aM, setRange, aN, aC, aB, aF, aE, aD, aA, Nat.reduceLT, Nat.reduceEqDiff, Nat.reduceAdd, Nat.reduceMul, Nat.reduceSub, Nat.reduceLeDiff, Nat.reduceBEq, reduceCtorEq, q1, Int.reduceLE, Int.reduceToNat, eD, ga, q45, q120, hb1, gc, gd1])))
      (refine hQ _ _ _ (aP (by first | exact .inl rfl | exact .inr rfl) ?_); simp only [SS, aR, aM, setRange, aN, aC, aB, aF, aE, aD, aA, Nat.reduceLT, Nat.reduceEqDiff, Nat.reduceAdd, Nat.reduceMul, Nat.reduceSub, Nat.reduceLeDiff, Nat.reduceBEq, reduceCtorEq])
      rw [bad (by simp only [mvW, gd, Bool.and_false, Bool.false_and])]
    | false =>
    cases gd2 : decide ((122 : Int) < (d : Int)) with
    | true =>
      have gd : eT d = false := by simp only [decide_eq_true_eq] at gd2; simp [eT, lowerB]; omega
      ((try simp only [aO, SS, aR, aM, setRange, aN, aC, aB, aF, aE, aD, aA, Nat.reduceLT, Nat.reduceEqDiff, Nat.reduceAdd, Nat.reduceMul, Nat.reduceSub, Nat.reduceLeDiff, Nat.reduceBEq, reduceCtorEq, q1, Int.reduceLE, Int.reduceToNat, eD, ga, q45, q120, hb1, gc, gd1, gd2]); (repeat' ((first | apply aJ | apply aI | apply aL | apply aK | apply aH | apply aG) <;> intro h <;> simp only [h, SS, aR, aM, setRange, aN, aC, aB, aF, aE, aD, aA, Nat.reduceLT, Nat.reduceEqDiff, Nat.reduceAdd, Nat.reduceMul, Nat.reduceSub, Nat.reduceLeDiff, Nat.reduceBEq, reduceCtorEq, q1, Int.reduceLE, Int.reduceToNat, eD, ga, q45, q120, hb1, gc, gd1, gd2])))
      (refine hQ _ _ _ (aP (by first | exact .inl rfl | exact .inr rfl) ?_); simp only [SS, aR, aM, setRange, aN, aC, aB, aF, aE, aD, aA, Nat.reduceLT, Nat.reduceEqDiff, Nat.reduceAdd, Nat.reduceMul, Nat.reduceSub, Nat.reduceLeDiff, Nat.reduceBEq, reduceCtorEq])
      rw [bad (by simp only [mvW, gd, Bool.and_false, Bool.false_and])]
    | false =>
    have gd : eT d = true := by simp only [decide_eq_false_iff_not] at gd1 gd2; simp [eT, lowerB]; omega
    have hgood : ((b == 45) || (b == 120)) = true := gb
    have da : 48 ≤ a ∧ a ≤ 57 := by simp [dU, digitB] at ga; omega
    have dc : 48 ≤ c ∧ c ≤ 57 := by simp [dU, digitB] at gc; omega
    obtain ⟨wa1, wa2⟩ := wrapD da
    obtain ⟨wc1, wc2⟩ := wrapD dc
    have l34 : ((3 : Int) ≤ ((4 : Nat) : Int)) = True := by decide
    match r, br with
    | [e], br =>
      have n2 : ((5 : Int) == 5) = true := by decide
      have n3 : ((5 : Nat) : Int) = 5 := rfl
      have n4 : decide ((5 : Int) < 4) = false := by decide
      ((try simp only [aO, SS, aR, aM, setRange, aN, aC, aB, aF, aE, aD, aA, Nat.reduceLT, Nat.reduceEqDiff, Nat.reduceAdd, Nat.reduceMul, Nat.reduceSub, Nat.reduceLeDiff, Nat.reduceBEq, reduceCtorEq, q1, Int.reduceLE, Int.reduceToNat, eD, ga, q45, q120, hb1, gc, gd1, gd2, n2, n3, n4, List.length_cons, List.length_nil]); (repeat' ((first | apply aJ | apply aI | apply aL | apply aK | apply aH | apply aG) <;> intro h <;> simp only [h, SS, aR, aM, setRange, aN, aC, aB, aF, aE, aD, aA, Nat.reduceLT, Nat.reduceEqDiff, Nat.reduceAdd, Nat.reduceMul, Nat.reduceSub, Nat.reduceLeDiff, Nat.reduceBEq, reduceCtorEq, q1, Int.reduceLE, Int.reduceToNat, eD, ga, q45, q120, hb1, gc, gd1, gd2, n2, n3, n4, List.length_cons, List.length_nil])))
      (refine hQ _ _ _ (aP (by first | exact .inl rfl | exact .inr rfl) ?_); simp only [SS, aR, aM, setRange, aN, aC, aB, aF, aE, aD, aA, Nat.reduceLT, Nat.reduceEqDiff, Nat.reduceAdd, Nat.reduceMul, Nat.reduceSub, Nat.reduceLeDiff, Nat.reduceBEq, reduceCtorEq])
      rw [bad (by simp [mvW, dC])]
    | [], br =>
      have hm : mvW [a, b, c, d] = true := by simp only [mvW, ga, gc, gd, hgood, Bool.and_self, decide_true, Bool.true_or]
      have hE : EVal.tup [.agg (dP (if mvW [a, b, c, d] = true then eQ [a, b, c, d] else mv00)), .bool (mvW [a, b, c, d])] = .tup [.agg [.int .i64 (cG a), .int .i64 (cG c), .bool (b == 120), .str [d], .lsl []], .bool true] := by rw [hm]; rfl
      have n2 : ((4 : Int) == 5) = false := by decide
      have n3 : ((4 : Nat) : Int) = 4 := rfl
      have n4 : decide ((4 : Int) < 4) = false := by decide
      have n5 : decide ((5 : Int) < 4) = false := by decide
      have l4 : ((4 : Int) ≤ ((4 : Nat) : Int)) = True := by decide
      have l44 : ((4 : Int) ≤ 4) = True := by decide
      ((try simp only [aO, SS, aR, aM, setRange, aN, aC, aB, aF, aE, aD, aA, Nat.reduceLT, Nat.reduceEqDiff, Nat.reduceAdd, Nat.reduceMul, Nat.reduceSub, Nat.reduceLeDiff, Nat.reduceBEq, reduceCtorEq, q1, Int.reduceLE, Int.reduceToNat, eD, ga, q45, q120, hb1, gc, gd1, gd2, n2, n3, n4, n5, List.length_nil]); (repeat' ((first | apply aJ | apply aI | apply aL | apply aK | apply aH | apply aG) <;> intro h <;> simp only [h, SS, aR, aM, setRange, aN, aC, aB, aF, aE, aD, aA, Nat.reduceLT, Nat.reduceEqDiff, Nat.reduceAdd, Nat.reduceMul, Nat.reduceSub, Nat.reduceLeDiff, Nat.reduceBEq, reduceCtorEq, q1, Int.reduceLE, Int.reduceToNat, eD, ga, q45, q120, hb1, gc, gd1, gd2, n2, n3, n4, n5, List.length_nil])))
      refine bQ (Top.draw mixed aX (by kernel_rfl) ?_)
      ((try simp only [aO, SS, aR, aM, setRange, aN, aC, aB, aF, aE, aD, aA, Nat.reduceLT, Nat.reduceEqDiff, Nat.reduceAdd, Nat.reduceMul, Nat.reduceSub, Nat.reduceLeDiff, Nat.reduceBEq, reduceCtorEq, Int.reduceLE, Int.reduceToNat, q120, wa1, wa2, wc1, wc2, l34, l4, l44, n3, List.length_nil]); (repeat' ((first | apply aJ | apply aI | apply aL | apply aK | apply aH | apply aG) <;> intro h <;> simp only [h, SS, aR, aM, setRange, aN, aC, aB, aF, aE, aD, aA, Nat.reduceLT, Nat.reduceEqDiff, Nat.reduceAdd, Nat.reduceMul, Nat.reduceSub, Nat.reduceLeDiff, Nat.reduceBEq, reduceCtorEq, Int.reduceLE, Int.reduceToNat, q120, wa1, wa2, wc1, wc2, l34, l4, l44, n3, List.length_nil])))
      refine ⟨by kernel_rfl, ?_⟩
      ((try simp only [aO, SS, aR, aM, setRange, aN, aC, aB, aF, aE, aD, aA, Nat.reduceLT, Nat.reduceEqDiff, Nat.reduceAdd, Nat.reduceMul, Nat.reduceSub, Nat.reduceLeDiff, Nat.reduceBEq, reduceCtorEq]); (repeat' ((first | apply aJ | apply aI | apply aL | apply aK | apply aH | apply aG) <;> intro h <;> simp only [h, SS, aR, aM, setRange, aN, aC, aB, aF, aE, aD, aA, Nat.reduceLT, Nat.reduceEqDiff, Nat.reduceAdd, Nat.reduceMul, Nat.reduceSub, Nat.reduceLeDiff, Nat.reduceBEq, reduceCtorEq])))
      refine bO (Top.loop (I := fun _ : Unit => (mkF 94 [(5, .int .i64 5), (4, .ptr 1 0), (2, .ptr 0 0), (0, .str [a, b, c, d]), (3, .bool false)], mkH 2 [(1, some (.row [.int .i64 (cG a), .int .i64 (cG c), .bool (b == 120), .str [d], .nilslice] 27 0 0 false)), (0, some (.row [.int .i64 0, .int .i64 0, .bool false, .str [], .nilslice] 27 0 0 false))] 128 [])) (μ := fun _ => 0) () (aV.drop (by simp [look, below]) (by simp [aQ, bY, below, bC]) (by simp [aQ])) ?_)
      intro _
      refine aS aX _ _ _ _ ?_
      ((try simp only [aO, SS, aR, aM, setRange, aN, aC, aB, aF, aE, aD, aA, Nat.reduceLT, Nat.reduceEqDiff, Nat.reduceAdd, Nat.reduceMul, Nat.reduceSub, Nat.reduceLeDiff, Nat.reduceBEq, reduceCtorEq, n3, n5, List.length_nil]); (repeat' ((first | apply aJ | apply aI | apply aL | apply aK | apply aH | apply aG) <;> intro h <;> simp only [h, SS, aR, aM, setRange, aN, aC, aB, aF, aE, aD, aA, Nat.reduceLT, Nat.reduceEqDiff, Nat.reduceAdd, Nat.reduceMul, Nat.reduceSub, Nat.reduceLeDiff, Nat.reduceBEq, reduceCtorEq, n3, n5, List.length_nil])))
      (refine hQ _ _ _ (aP (by first | exact .inl rfl | exact .inr rfl) ?_); simp only [SS, aR, aM, setRange, aN, aC, aB, aF, aE, aD, aA, Nat.reduceLT, Nat.reduceEqDiff, Nat.reduceAdd, Nat.reduceMul, Nat.reduceSub, Nat.reduceLeDiff, Nat.reduceBEq, reduceCtorEq])
      exact hE.symm
    | e :: f :: r3, br =>
      have m0 : decide (((r3.length + 1 + 1 + 1 + 1 + 1 + 1 : Nat) : Int) < 4) = false := by simp; omega
      have m2 : (((r3.length + 1 + 1 + 1 + 1 + 1 + 1 : Nat) : Int) == 5) = false := by rw [beq_eq_false_iff_ne]; omega
      have m5 : decide ((5 : Int) < ((r3.length + 1 + 1 + 1 + 1 + 1 + 1 : Nat) : Int)) = true := by simp; omega
      have l4 : ((4 : Int) ≤ ((r3.length + 1 + 1 + 1 + 1 + 1 + 1 : Nat) : Int)) = True := by simp only [eq_iff_iff, iff_true]; omega
      have q58 : ((e : Int) == 58) = (e == 58) := by rw [Bool.eq_iff_iff, beq_iff_eq, beq_iff_eq]; omega
      cases ge : (e == 58) with
      | false =>
        ((try simp only [aO, SS, aR, aM, setRange, aN, aC, aB, aF, aE, aD, aA, Nat.reduceLT, Nat.reduceEqDiff, Nat.reduceAdd, Nat.reduceMul, Nat.reduceSub, Nat.reduceLeDiff, Nat.reduceBEq, reduceCtorEq, q1, Int.reduceLE, Int.reduceToNat, eD, ga, q45, q120, hb1, gc, gd1, gd2, m0, m2, m5, q58, ge, List.length_cons]); (repeat' ((first | apply aJ | apply aI | apply aL | apply aK | apply aH | apply aG) <;> intro h <;> simp only [h, SS, aR, aM, setRange, aN, aC, aB, aF, aE, aD, aA, Nat.reduceLT, Nat.reduceEqDiff, Nat.reduceAdd, Nat.reduceMul, Nat.reduceSub, Nat.reduceLeDiff, Nat.reduceBEq, reduceCtorEq, q1, Int.reduceLE, Int.reduceToNat, eD, ga, q45, q120, hb1, gc, gd1, gd2, m0, m2, m5, q58, ge, List.length_cons])))
        (refine hQ _ _ _ (aP (by first | exact .inl rfl | exact .inr rfl) ?_); simp only [SS, aR, aM, setRange, aN, aC, aB, aF, aE, aD, aA, Nat.reduceLT, Nat.reduceEqDiff, Nat.reduceAdd, Nat.reduceMul, Nat.reduceSub, Nat.reduceLeDiff, Nat.reduceBEq, reduceCtorEq])
        rw [bad (by simp [mvW, ge])]
      | true =>
      obtain ⟨r2, hr2⟩ : ∃ r2, r2 = f :: r3 := ⟨_, rfl⟩
      have hr2l : r2.length = r3.length + 1 := by rw [hr2]; rfl
      have hbb : ∀ x ∈ r2, x < 256 := by
        simp only [List.all_cons, Bool.and_eq_true, decide_eq_true_eq, List.all_eq_true] at br
        rw [hr2]
        intro x hx
        rcases List.mem_cons.1 hx with rfl | hx
        · exact br.2.1
        · exact br.2.2 x hx
      have hgo : r2.all dU = true → EVal.tup [.agg (dP (if mvW (a :: b :: c :: d :: e :: f :: r3) = true then eQ (a :: b :: c :: d :: e :: f :: r3) else mv00)), .bool (mvW (a :: b :: c :: d :: e :: f :: r3))] = .tup [.agg [.int .i64 (cG a), .int .i64 (cG c), .bool (b == 120), .str [d], .lsl (cC (r2.map cG))], .bool true] := by
        intro h
        have hm : mvW (a :: b :: c :: d :: e :: f :: r3) = true := by
          rw [hr2] at h
          simp only [mvW, ga, gc, gd, hgood, ge, dC, h, Bool.true_and, reduceCtorEq, decide_false, Bool.false_or, ne_eq, not_false_eq_true, decide_true, Bool.and_true]
        rw [hm, hr2]; rfl
      have hba : r2.all dU = false → mvW (a :: b :: c :: d :: e :: f :: r3) = false := by
        intro h
        rw [hr2] at h
        simp only [mvW, dC, h, Bool.false_and, Bool.and_false, reduceCtorEq, decide_false, Bool.or_false]
      have hWk : ∀ k, (a :: b :: c :: d :: e :: f :: r3)[5 + k]? = r2[k]? := by
        intro k
        rw [show 5 + k = k + 1 + 1 + 1 + 1 + 1 by omega, hr2]
        simp only [List.getElem?_cons_succ]
      ((try simp only [aO, SS, aR, aM, setRange, aN, aC, aB, aF, aE, aD, aA, Nat.reduceLT, Nat.reduceEqDiff, Nat.reduceAdd, Nat.reduceMul, Nat.reduceSub, Nat.reduceLeDiff, Nat.reduceBEq, reduceCtorEq, q1, Int.reduceLE, Int.reduceToNat, eD, ga, q45, q120, hb1, gc, gd1, gd2, m0, m2, m5, q58, ge, List.length_cons]); (repeat' ((first | apply aJ | apply aI | apply aL | apply aK | apply aH | apply aG) <;> intro h <;> simp only [h, SS, aR, aM, setRange, aN, aC, aB, aF, aE, aD, aA, Nat.reduceLT, Nat.reduceEqDiff, Nat.reduceAdd, Nat.reduceMul, Nat.reduceSub, Nat.reduceLeDiff, Nat.reduceBEq, reduceCtorEq, q1, Int.reduceLE, Int.reduceToNat, eD, ga, q45, q120, hb1, gc, gd1, gd2, m0, m2, m5, q58, ge, List.length_cons])))
      refine bQ (Top.draw mixed aX (by kernel_rfl) ?_)
      ((try simp only [aO, SS, aR, aM, setRange, aN, aC, aB, aF, aE, aD, aA, Nat.reduceLT, Nat.reduceEqDiff, Nat.reduceAdd, Nat.reduceMul, Nat.reduceSub, Nat.reduceLeDiff, Nat.reduceBEq, reduceCtorEq, Int.reduceLE, Int.reduceToNat, q120, wa1, wa2, wc1, wc2, l34, l4, List.length_cons]); (repeat' ((first | apply aJ | apply aI | apply aL | apply aK | apply aH | apply aG) <;> intro h <;> simp only [h, SS, aR, aM, setRange, aN, aC, aB, aF, aE, aD, aA, Nat.reduceLT, Nat.reduceEqDiff, Nat.reduceAdd, Nat.reduceMul, Nat.reduceSub, Nat.reduceLeDiff, Nat.reduceBEq, reduceCtorEq, Int.reduceLE, Int.reduceToNat, q120, wa1, wa2, wc1, wc2, l34, l4, List.length_cons])))
      refine ⟨by kernel_rfl, ?_⟩
      ((try simp only [aO, SS, aR, aM, setRange, aN, aC, aB, aF, aE, aD, aA, Nat.reduceLT, Nat.reduceEqDiff, Nat.reduceAdd, Nat.reduceMul, Nat.reduceSub, Nat.reduceLeDiff, Nat.reduceBEq, reduceCtorEq]); (repeat' ((first | apply aJ | apply aI | apply aL | apply aK | apply aH | apply aG) <;> intro h <;> simp only [h, SS, aR, aM, setRange, aN, aC, aB, aF, aE, aD, aA, Nat.reduceLT, Nat.reduceEqDiff, Nat.reduceAdd, Nat.reduceMul, Nat.reduceSub, Nat.reduceLeDiff, Nat.reduceBEq, reduceCtorEq])))
      simp only [List.length_cons] at hlen
      refine bO (Top.loop (I := fun s : { x : Nat × EVal × Nat × List (Nat × Option EObj) // x.1 ≤ r2.length ∧ x.2.2.1 ≤ 2 + x.1 ∧ 2 ≤ x.2.2.1 ∧ (r2.take x.1).all dU = true ∧ IL 2 x.2.1 ((r2.take x.1).map cG) x.2.2.1 x.2.2.2 ∧ aQ x.2.2.2 1 = some (.row [.int .i64 (cG a), .int .i64 (cG c), .bool (b == 120), .str [d], x.2.1] 27 0 0 false) ∧ aQ x.2.2.2 0 = some (.row [.int .i64 0, .int .i64 0, .bool false, .str [], .nilslice] 27 0 0 false) } => (mkF 94 [(5, .int .i64 ((5 + s.1.1 : Nat) : Int)), (4, .ptr 1 0), (2, .ptr 0 0), (0, .str (a :: b :: c :: d :: e :: f :: r3)), (3, .bool false)], mkH s.1.2.2.1 s.1.2.2.2 128 [])) (μ := fun s => r2.length - s.1.1) ⟨(0, .nilslice, 2, _), by simp, by simp, by simp, by simp, .inl ⟨rfl, rfl⟩, rfl, rfl⟩ (aV.sub (by simp [look])) ?_)
      rintro ⟨⟨k, v, N, l⟩, hk, hN, hN2, hdg, I1, A1, A0⟩
      dsimp only at hk hN hN2 hdg I1 A1 A0
      refine aS aX _ _ _ _ ?_
      dsimp only
      by_cases hlt : k < r2.length
      · obtain ⟨x, hx⟩ : ∃ x, r2[k]? = some x := ⟨r2[k], List.getElem?_eq_getElem hlt⟩
        have hWx := hWk k
        rw [hx] at hWx
        have p1 : decide (((5 + k : Nat) : Int) < ((r3.length + 1 + 1 + 1 + 1 + 1 + 1 : Nat) : Int)) = true := by simp only [decide_eq_true_eq]; omega
        have p2 : IntKind.i64.wrap (((5 + k : Nat) : Int) + 1) = ((5 + (k + 1) : Nat) : Int) := by rw [bM] <;> omega
        cases hxd : dU x with
        | false =>
          have hall : r2.all dU = false := by
            rw [List.all_eq_false]
            exact ⟨x, List.mem_of_getElem? hx, by rw [hxd]; simp⟩
          ((try simp only [aO, SS, aR, aM, setRange, aN, aC, aB, aF, aE, aD, aA, Nat.reduceLT, Nat.reduceEqDiff, Nat.reduceAdd, Nat.reduceMul, Nat.reduceSub, Nat.reduceLeDiff, Nat.reduceBEq, reduceCtorEq, p1, hWx, eD, hxd, List.length_cons, A0]); (repeat' ((first | apply aJ | apply aI | apply aL | apply aK | apply aH | apply aG) <;> intro h <;> simp only [h, SS, aR, aM, setRange, aN, aC, aB, aF, aE, aD, aA, Nat.reduceLT, Nat.reduceEqDiff, Nat.reduceAdd, Nat.reduceMul, Nat.reduceSub, Nat.reduceLeDiff, Nat.reduceBEq, reduceCtorEq, p1, hWx, eD, hxd, List.length_cons, A0])))
          (refine hQ _ _ _ (aP (by first | exact .inl rfl | exact .inr rfl) ?_); simp only [SS, aR, aM, setRange, aN, aC, aB, aF, aE, aD, aA, Nat.reduceLT, Nat.reduceEqDiff, Nat.reduceAdd, Nat.reduceMul, Nat.reduceSub, Nat.reduceLeDiff, Nat.reduceBEq, reduceCtorEq])
          rw [bad (hba hall)]
        | true =>
        have hx9 : 48 ≤ x ∧ x ≤ 57 := by simp [dU, digitB] at hxd; omega
        obtain ⟨wx1, wx2⟩ := wrapD hx9
        obtain ⟨v2, l2, hap, I2, S2⟩ := eAppend_IL (x := cG x) (m := 128) (kk := []) I1 hN2 (by omega) (by simp; omega)
        have B1 : aQ l2 1 = some (.row [.int .i64 (cG a), .int .i64 (cG c), .bool (b == 120), .str [d], v] 27 0 0 false) := by rw [S2 1 (by omega)]; exact A1
        have B0 : aQ l2 0 = some (.row [.int .i64 0, .int .i64 0, .bool false, .str [], .nilslice] 27 0 0 false) := by rw [S2 0 (by omega)]; exact A0
        obtain ⟨o1, o2, o3⟩ := IL_one I2
        ((try simp only [aO, SS, aR, aM, setRange, aN, aC, aB, aF, aE, aD, aA, Nat.reduceLT, Nat.reduceEqDiff, Nat.reduceAdd, Nat.reduceMul, Nat.reduceSub, Nat.reduceLeDiff, Nat.reduceBEq, reduceCtorEq, p1, hWx, eD, hxd, List.length_cons]); (repeat' ((first | apply aJ | apply aI | apply aL | apply aK | apply aH | apply aG) <;> intro h <;> simp only [h, SS, aR, aM, setRange, aN, aC, aB, aF, aE, aD, aA, Nat.reduceLT, Nat.reduceEqDiff, Nat.reduceAdd, Nat.reduceMul, Nat.reduceSub, Nat.reduceLeDiff, Nat.reduceBEq, reduceCtorEq, p1, hWx, eD, hxd, List.length_cons])))
        refine bQ (Top.draw mixed aX (by kernel_rfl) ?_)
        ((try simp only [aO, SS, aR, aM, setRange, aN, aC, aB, aF, aE, aD, aA, Nat.reduceLT, Nat.reduceEqDiff, Nat.reduceAdd, Nat.reduceMul, Nat.reduceSub, Nat.reduceLeDiff, Nat.reduceBEq, reduceCtorEq, ↓hap, A1, B1, hWx, wx1, wx2, o1, o2, o3]); (repeat' ((first | apply aJ | apply aI | apply aL | apply aK | apply aH | apply aG) <;> intro h <;> simp only [h, SS, aR, aM, setRange, aN, aC, aB, aF, aE, aD, aA, Nat.reduceLT, Nat.reduceEqDiff, Nat.reduceAdd, Nat.reduceMul, Nat.reduceSub, Nat.reduceLeDiff, Nat.reduceBEq, reduceCtorEq, ↓hap, A1, B1, hWx, wx1, wx2, o1, o2, o3])))
        refine ⟨by kernel_rfl, ?_⟩
        ((try simp only [aO, SS, aR, aM, setRange, aN, aC, aB, aF, aE, aD, aA, Nat.reduceLT, Nat.reduceEqDiff, Nat.reduceAdd, Nat.reduceMul, Nat.reduceSub, Nat.reduceLeDiff, Nat.reduceBEq, reduceCtorEq, p2]); (repeat' ((first | apply aJ | apply aI | apply aL | apply aK | apply aH | apply aG) <;> intro h <;> simp only [h, SS, aR, aM, setRange, aN, aC, aB, aF, aE, aD, aA, Nat.reduceLT, Nat.reduceEqDiff, Nat.reduceAdd, Nat.reduceMul, Nat.reduceSub, Nat.reduceLeDiff, Nat.reduceBEq, reduceCtorEq, p2])))
        refine ⟨⟨(k + 1, v2, N + 1, (1, some (.row [.int .i64 (cG a), .int .i64 (cG c), .bool (b == 120), .str [d], v2] 27 0 0 false)) :: l2), hlt, by show N + 1 ≤ 2 + (k + 1); omega, by show 2 ≤ N + 1; omega, ?_, ?_, ?_, ?_⟩, by simp; omega, aV.sub (by simp [look])⟩
        · show (r2.take (k + 1)).all dU = true
          rw [List.take_add_one, hx, List.all_append, hdg]; simp [hxd]
        · have e : (r2.take (k + 1)).map cG = (r2.take k).map cG ++ [cG x] := by rw [List.take_add_one, hx, List.map_append]; rfl
          show IL 2 v2 ((r2.take (k + 1)).map cG) (N + 1) _
          rw [e]
          rcases I2 with h | ⟨id, h1, h2, h3, h4⟩
          · exact .inl h
          · exact .inr ⟨id, h1, h2, h3, by rw [aQ.eq_2, if_neg (by omega)]; exact h4⟩
        · simp [aQ]
        · show aQ ((1, _) :: l2) 0 = _
          rw [aQ.eq_2, if_neg (by omega)]; exact B0
      have hkl : k = r2.length := by omega
      rw [hkl, List.take_length] at I1 hdg
      have p1 : decide (((5 + k : Nat) : Int) < ((r3.length + 1 + 1 + 1 + 1 + 1 + 1 : Nat) : Int)) = false := by simp only [decide_eq_false_iff_not]; omega
      rw [hgo hdg] at hQ hV
      obtain ⟨o1, o2, o3⟩ := IL_one I1
      ((try simp only [aO, SS, aR, aM, setRange, aN, aC, aB, aF, aE, aD, aA, Nat.reduceLT, Nat.reduceEqDiff, Nat.reduceAdd, Nat.reduceMul, Nat.reduceSub, Nat.reduceLeDiff, Nat.reduceBEq, reduceCtorEq, p1, List.length_cons, A1, A0, o1, o2, o3]); (repeat' ((first | apply aJ | apply aI | apply aL | apply aK | apply aH | apply aG) <;> intro h <;> simp only [h, SS, aR, aM, setRange, aN, aC, aB, aF, aE, aD, aA, Nat.reduceLT, Nat.reduceEqDiff, Nat.reduceAdd, Nat.reduceMul, Nat.reduceSub, Nat.reduceLeDiff, Nat.reduceBEq, reduceCtorEq, p1, List.length_cons, A1, A0, o1, o2, o3])))
      rcases I1 with ⟨rfl, hn⟩ | ⟨id, h1, h2, rfl, h4⟩
      · (refine hQ _ _ _ (aP (by first | exact .inl rfl | exact .inr rfl) ?_); simp only [SS, aR, aM, setRange, aN, aC, aB, aF, aE, aD, aA, Nat.reduceLT, Nat.reduceEqDiff, Nat.reduceAdd, Nat.reduceMul, Nat.reduceSub, Nat.reduceLeDiff, Nat.reduceBEq, reduceCtorEq])
        have : r2.map cG = [] := hn
        rw [this]; rfl
      · have hid0 : id < 16000 := by omega
        refine hV _ _ _ ⟨_, _, aV.fz (sz := 1) (len := (r2.map cG).length) (fl2 := [(2, .ptr 0 0), (3, .bool true)]) (l2 := [(0, some (.row [.int .i64 (cG a), .int .i64 (cG c), .bool (b == 120), .str [d], .lsl (cW 1 (r2.map cG).length (eU (r2.map cG)))] 27 0 0 false))]) (k2 := []) id hid0 (by rw [aQ.eq_2, if_neg (by omega)]; exact h4) (keepL_eRow _) (by simp [eRow_length]) ?_ ?_ (by simp), aP (.inl rfl) ?_⟩
        · simp [look, fzR]
        · intro p hp
          rw [List.mem_singleton] at hp
          subst hp
          refine ⟨by simp, by show 0 ≠ id; omega, _, rfl, .inr ⟨[.int .i64 (cG a), .int .i64 (cG c), .bool (b == 120), .str [d], .slice id 0 (r2.map cG).length (.slack 0)], _, _, _, _, _, by simp [aQ], rfl, ?_⟩⟩
          exact ⟨.inl rfl, .inl rfl, .inl rfl, .inl rfl, .inr ⟨.slack 0, rfl, rfl, rfl⟩, trivial⟩
        · rw [chunk_eRow]
          simp only [SS, aR, aM, setRange, aN, aC, aB, aF, aE, aD, aA, Nat.reduceLT, Nat.reduceEqDiff, Nat.reduceAdd, Nat.reduceMul, Nat.reduceSub, Nat.reduceLeDiff, Nat.reduceBEq, reduceCtorEq]
  | false =>
    have hb2 : (b == 120) = true := by rw [hb1] at gb; simpa using gb
    cases gc : dU c with
    | false =>
      ((try simp only [aO, SS, aR, aM, setRange, aN, aC, aB, aF, aE, aD, aA, Nat.reduceLT, Nat.reduceEqDiff, Nat.reduceAdd, Nat.reduceMul, Nat.reduceSub, Nat.reduceLeDiff, Nat.reduceBEq, reduceCtorEq, q1, Int.reduceLE, Int.reduceToNat, eD, ga, q45, q120, hb1, hb2, gc]); (repeat' ((first | apply aJ | apply aI | apply aL | apply aK | apply aH | apply aG) <;> intro h <;> simp only [h, SS, aR, aM, setRange, aN, aC, aB, aF, aE, aD, aA, Nat.reduceLT, Nat.reduceEqDiff, Nat.reduceAdd, Nat.reduceMul, Nat.reduceSub, Nat.reduceLeDiff, Nat.reduceBEq, reduceCtorEq, q1, Int.reduceLE, Int.reduceToNat, eD, ga, q45, q120, hb1, hb2, gc])))
      (refine hQ _ _ _ (aP (by first | exact .inl rfl | exact .inr rfl) ?_); simp only [SS, aR, aM, setRange, aN, aC, aB, aF, aE, aD, aA, Nat.reduceLT, Nat.reduceEqDiff, Nat.reduceAdd, Nat.reduceMul, Nat.reduceSub, Nat.reduceLeDiff, Nat.reduceBEq, reduceCtorEq])
      rw [bad (by simp only [mvW, gc, Bool.false_and, Bool.and_false])]
    | true =>
    cases gd1 : decide ((d : Int) < 97) with
    | true =>
      have gd : eT d = false := by simp only [decide_eq_true_eq] at gd1; simp [eT, lowerB]; omega
      ((try simp only [aO, SS, aR, aM, setRange, aN, aC, aB, aF, aE, aD, aA, Nat.reduceLT, Nat.reduceEqDiff, Nat.reduceAdd, Nat.reduceMul, Nat.reduceSub, Nat.reduceLeDiff, Nat.reduceBEq, reduceCtorEq, q1, Int.reduceLE, Int.reduceToNat, eD, ga, q45, q120, hb1, hb2, gc, gd1]); (repeat' ((first | apply aJ | apply aI | apply aL | apply aK | apply aH | apply aG) <;> intro h <;> simp only [h, SS, aR, aM, setRange, aN, aC, aB, aF, aE, aD, aA, Nat.reduceLT, Nat.reduceEqDiff, Nat.reduceAdd, Nat.reduceMul, Nat.reduceSub, Nat.reduceLeDiff, Nat.reduceBEq, reduceCtorEq, q1, Int.reduceLE, Int.reduceToNat, eD, ga, q45, q120, hb1, hb2, gc, gd1])))
      (refine hQ _ _ _ (aP (by first | exact .inl rfl | exact .inr rfl) ?_); simp only [SS, aR, aM, setRange, aN, aC, aB, aF, aE, aD, aA, Nat.reduceLT, Nat.reduceEqDiff, Nat.reduceAdd, Nat.reduceMul, Nat.reduceSub, Nat.reduceLeDiff, Nat.reduceBEq, reduceCtorEq])
      rw [bad (by simp only [mvW, gd, Bool.and_false, Bool.false_and])]
    | false =>
    cases gd2 : decide ((122 : Int) < (d : Int)) with
    | true =>
      have gd : eT d = false := by simp only [decide_eq_true_eq] at gd2; simp [eT, lowerB]; omega
      ((try simp only [aO, SS, aR, aM, setRange, aN, aC, aB, aF, aE, aD, aA, Nat.reduceLT, Nat.reduceEqDiff, Nat.reduceAdd, Nat.reduceMul, Nat.reduceSub, Nat.reduceLeDiff, Nat.reduceBEq, reduceCtorEq, q1, Int.reduceLE, Int.reduceToNat, eD, ga, q45, q120, hb1, hb2, gc, gd1, gd2]); (repeat' ((first | apply aJ | apply aI | apply aL | apply aK | apply aH | apply aG) <;> intro h <;> simp only [h, SS, aR, aM, setRange, aN, aC, aB, aF, aE, aD, aA, Nat.reduceLT, Nat.reduceEqDiff, Nat.reduceAdd, Nat.reduceMul, Nat.reduceSub, Nat.reduceLeDiff, Nat.reduceBEq, reduceCtorEq, q1, Int.reduceLE, Int.reduceToNat, eD, ga, q45, q120, hb1, hb2, gc, gd1, gd2])))
      (refine hQ _ _ _ (aP (by first | exact .inl rfl | exact .inr rfl) ?_); simp only [SS, aR, aM, setRange, aN, aC, aB, aF, aE, aD, aA, Nat.reduceLT, Nat.reduceEqDiff, Nat.reduceAdd, Nat.reduceMul, Nat.reduceSub, Nat.reduceLeDiff, Nat.reduceBEq, reduceCtorEq])
      rw [bad (by simp only [mvW, gd, Bool.and_false, Bool.false_and])]
    | false =>
    have gd : eT d = true := by simp only [decide_eq_false_iff_not] at gd1 gd2; simp [eT, lowerB]; omega
    have hgood : ((b == 45) || (b == 120)) = true := gb
    have da : 48 ≤ a ∧ a ≤ 57 := by simp [dU, digitB] at ga; omega
    have dc : 48 ≤ c ∧ c ≤ 57 := by simp [dU, digitB] at gc; omega
    obtain ⟨wa1, wa2⟩ := wrapD da
    obtain ⟨wc1, wc2⟩ := wrapD dc
    have l34 : ((3 : Int) ≤ ((4 : Nat) : Int)) = True := by decide
    match r, br with
    | [e], br =>
      have n2 : ((5 : Int) == 5) = true := by decide
      have n3 : ((5 : Nat) : Int) = 5 := rfl
      have n4 : decide ((5 : Int) < 4) = false := by decide
      ((try simp only [aO, SS, aR, aM, setRange, aN, aC, aB, aF, aE, aD, aA, Nat.reduceLT, Nat.reduceEqDiff, Nat.reduceAdd, Nat.reduceMul, Nat.reduceSub, Nat.reduceLeDiff, Nat.reduceBEq, reduceCtorEq, q1, Int.reduceLE, Int.reduceToNat, eD, ga, q45, q120, hb1, hb2, gc, gd1, gd2, n2, n3, n4, List.length_cons, List.length_nil]); (repeat' ((first | apply aJ | apply aI | apply aL | apply aK | apply aH | apply aG) <;> intro h <;> simp only [h, SS, aR, aM, setRange, aN, aC, aB, aF, aE, aD, aA, Nat.reduceLT, Nat.reduceEqDiff, Nat.reduceAdd, Nat.reduceMul, Nat.reduceSub, Nat.reduceLeDiff, Nat.reduceBEq, reduceCtorEq, q1, Int.reduceLE, Int.reduceToNat, eD, ga, q45, q120, hb1, hb2, gc, gd1, gd2, n2, n3, n4, List.length_cons, List.length_nil])))
      (refine hQ _ _ _ (aP (by first | exact .inl rfl | exact .inr rfl) ?_); simp only [SS, aR, aM, setRange, aN, aC, aB, aF, aE, aD, aA, Nat.reduceLT, Nat.reduceEqDiff, Nat.reduceAdd, Nat.reduceMul, Nat.reduceSub, Nat.reduceLeDiff, Nat.reduceBEq, reduceCtorEq])
      rw [bad (by simp [mvW, dC])]
    | [], br =>
      have hm : mvW [a, b, c, d] = true := by simp only [mvW, ga, gc, gd, hgood, Bool.and_self, decide_true, Bool.true_or]
      have hE : EVal.tup [.agg (dP (if mvW [a, b, c, d] = true then eQ [a, b, c, d] else mv00)), .bool (mvW [a, b, c, d])] = .tup [.agg [.int .i64 (cG a), .int .i64 (cG c), .bool (b == 120), .str [d], .lsl []], .bool true] := by rw [hm]; rfl
      have n2 : ((4 : Int) == 5) = false := by decide
      have n3 : ((4 : Nat) : Int) = 4 := rfl
      have n4 : decide ((4 : Int) < 4) = false := by decide
      have n5 : decide ((5 : Int) < 4) = false := by decide
      have l4 : ((4 : Int) ≤ ((4 : Nat) : Int)) = True := by decide
      have l44 : ((4 : Int) ≤ 4) = True := by decide
      ((try simp only [aO, SS, aR, aM, setRange, aN, aC, aB, aF, aE, aD, aA, Nat.reduceLT, Nat.reduceEqDiff, Nat.reduceAdd, Nat.reduceMul, Nat.reduceSub, Nat.reduceLeDiff, Nat.reduceBEq, reduceCtorEq, q1, Int.reduceLE, Int.reduceToNat, eD, ga, q45, q120, hb1, hb2, gc, gd1, gd2, n2, n3, n4, n5, List.length_nil]); (repeat' ((first | apply aJ | apply aI | apply aL | apply aK | apply aH | apply aG) <;> intro h <;> simp only [h, SS, aR, aM, setRange, aN, aC, aB, aF, aE, aD, aA, Nat.reduceLT, Nat.reduceEqDiff, Nat.reduceAdd, Nat.reduceMul, Nat.reduceSub, Nat.reduceLeDiff, Nat.reduceBEq, reduceCtorEq, q1, Int.reduceLE, Int.reduceToNat, eD, ga, q45, q120, hb1, hb2, gc, gd1, gd2, n2, n3, n4, n5, List.length_nil])))
      refine bQ (Top.draw mixed aX (by kernel_rfl) ?_)
      ((try simp only [aO, SS, aR, aM, setRange, aN, aC, aB, aF, aE, aD, aA, Nat.reduceLT, Nat.reduceEqDiff, Nat.reduceAdd, Nat.reduceMul, Nat.reduceSub, Nat.reduceLeDiff, Nat.reduceBEq, reduceCtorEq, Int.reduceLE, Int.reduceToNat, q120, wa1, wa2, wc1, wc2, l34, l4, l44, n3, List.length_nil]); (repeat' ((first | apply aJ | apply aI | apply aL | apply aK | apply aH | apply aG) <;> intro h <;> simp only [h, SS, aR, aM, setRange, aN, aC, aB, aF, aE, aD, aA, Nat.reduceLT, Nat.reduceEqDiff, Nat.reduceAdd, Nat.reduceMul, Nat.reduceSub, Nat.reduceLeDiff, Nat.reduceBEq, reduceCtorEq, Int.reduceLE, Int.reduceToNat, q120, wa1, wa2, wc1, wc2, l34, l4, l44, n3, List.length_nil])))
      refine ⟨by kernel_rfl, ?_⟩
      ((try simp only [aO, SS, aR, aM, setRange, aN, aC, aB, aF, aE, aD, aA, Nat.reduceLT, Nat.reduceEqDiff, Nat.reduceAdd, Nat.reduceMul, Nat.reduceSub, Nat.reduceLeDiff, Nat.reduceBEq, reduceCtorEq]); (repeat' ((first | apply aJ | apply aI | apply aL | apply aK | apply aH | apply aG) <;> intro h <;> simp only [h, SS, aR, aM, setRange, aN, aC, aB, aF, aE, aD, aA, Nat.reduceLT, Nat.reduceEqDiff, Nat.reduceAdd, Nat.reduceMul, Nat.reduceSub, Nat.reduceLeDiff, Nat.reduceBEq, reduceCtorEq])))
      refine bO (Top.loop (I := fun _ : Unit => (mkF 94 [(5, .int .i64 5), (4, .ptr 1 0), (2, .ptr 0 0), (0, .str [a, b, c, d]), (3, .bool false)], mkH 2 [(1, some (.row [.int .i64 (cG a), .int .i64 (cG c), .bool (b == 120), .str [d], .nilslice] 27 0 0 false)), (0, some (.row [.int .i64 0, .int .i64 0, .bool false, .str [], .nilslice] 27 0 0 false))] 128 [])) (μ := fun _ => 0) () (aV.drop (by simp [look, below]) (by simp [aQ, bY, below, bC]) (by simp [aQ])) ?_)
      intro _
      refine aS aX _ _ _ _ ?_
      ((try simp only [aO, SS, aR, aM, setRange, aN, aC, aB, aF, aE, aD, aA, Nat.reduceLT, Nat.reduceEqDiff, Nat.reduceAdd, Nat.reduceMul, Nat.reduceSub, Nat.reduceLeDiff, Nat.reduceBEq, reduceCtorEq, n3, n5, List.length_nil]); (repeat' ((first | apply aJ | apply aI | apply aL | apply aK | apply aH | apply aG) <;> intro h <;> simp only [h, SS, aR, aM, setRange, aN, aC, aB, aF, aE, aD, aA, Nat.reduceLT, Nat.reduceEqDiff, Nat.reduceAdd, Nat.reduceMul, Nat.reduceSub, Nat.reduceLeDiff, Nat.reduceBEq, reduceCtorEq, n3, n5, List.length_nil])))
      (refine hQ _ _ _ (aP (by first | exact .inl rfl | exact .inr rfl) ?_); simp only [SS, aR, aM, setRange, aN, aC, aB, aF, aE, aD, aA, Nat.reduceLT, Nat.reduceEqDiff, Nat.reduceAdd, Nat.reduceMul, Nat.reduceSub, Nat.reduceLeDiff, Nat.reduceBEq, reduceCtorEq])
      exact hE.symm
    | e :: f :: r3, br =>
      have m0 : decide (((r3.length + 1 + 1 + 1 + 1 + 1 + 1 : Nat) : Int) < 4) = false := by simp; omega
      have m2 : (((r3.length + 1 + 1 + 1 + 1 + 1 + 1 : Nat) : Int) == 5) = false := by rw [beq_eq_false_iff_ne]; omega
      have m5 : decide ((5 : Int) < ((r3.length + 1 + 1 + 1 + 1 + 1 + 1 : Nat) : Int)) = true := by simp; omega
      have l4 : ((4 : Int) ≤ ((r3.length + 1 + 1 + 1 + 1 + 1 + 1 : Nat) : Int)) = True := by simp only [eq_iff_iff, iff_true]; omega
      have q58 : ((e : Int) == 58) = (e == 58) := by rw [Bool.eq_iff_iff, beq_iff_eq, beq_iff_eq]; omega
      cases ge : (e == 58) with
      | false =>
        ((try simp only [aO, SS, aR, aM, setRange, aN, aC, aB, aF, aE, aD, aA, Nat.reduceLT, Nat.reduceEqDiff, Nat.reduceAdd, Nat.reduceMul, Nat.reduceSub, Nat.reduceLeDiff, Nat.reduceBEq, reduceCtorEq, q1, Int.reduceLE, Int.reduceToNat, eD, ga, q45, q120, hb1, hb2, gc, gd1, gd2, m0, m2, m5, q58, ge, List.length_cons]); (repeat' ((first | apply aJ | apply aI | apply aL | apply aK | apply aH | apply aG) <;> intro h <;> simp only [h, SS, aR, aM, setRange, aN, aC, aB, aF, aE, aD, aA, Nat.reduceLT, Nat.reduceEqDiff, Nat.reduceAdd, Nat.reduceMul, Nat.reduceSub, Nat.reduceLeDiff, Nat.reduceBEq, reduceCtorEq, q1, Int.reduceLE, Int.reduceToNat, eD, ga, q45, q120, hb1, hb2, gc, gd1, gd2, m0, m2, m5, q58, ge, List.length_cons])))
        (refine hQ _ _ _ (aP (by first | exact .inl rfl | exact .inr rfl) ?_); simp only [SS, aR, aM, setRange, aN, aC, aB, aF, aE, aD, aA, Nat.reduceLT, Nat.reduceEqDiff, Nat.reduceAdd, Nat.reduceMul, Nat.reduceSub, Nat.reduceLeDiff, Nat.reduceBEq, reduceCtorEq])
        rw [bad (by simp [mvW, ge])]
      | true =>
      obtain ⟨r2, hr2⟩ : ∃ r2, r2 = f :: r3 := ⟨_, rfl⟩
      have hr2l : r2.length = r3.length + 1 := by rw [hr2]; rfl
      have hbb : ∀ x ∈ r2, x < 256 := by
        simp only [List.all_cons, Bool.and_eq_true, decide_eq_true_eq, List.all_eq_true] at br
        rw [hr2]
        intro x hx
        rcases List.mem_cons.1 hx with rfl | hx
        · exact br.2.1
        · exact br.2.2 x hx
      have hgo : r2.all dU = true → EVal.tup [.agg (dP (if mvW (a :: b :: c :: d :: e :: f :: r3) = true then eQ (a :: b :: c :: d :: e :: f :: r3) else mv00)), .bool (mvW (a :: b :: c :: d :: e :: f :: r3))] = .tup [.agg [.int .i64 (cG a), .int .i64 (cG c), .bool (b == 120), .str [d], .lsl (cC (r2.map cG))], .bool true] := by
        intro h
        have hm : mvW (a :: b :: c :: d :: e :: f :: r3) = true := by
          rw [hr2] at h
          simp only [mvW, ga, gc, gd, hgood, ge, dC, h, Bool.true_and, reduceCtorEq, decide_false, Bool.false_or, ne_eq, not_false_eq_true, decide_true, Bool.and_true]
        rw [hm, hr2]; rfl
      have hba : r2.all dU = false → mvW (a :: b :: c :: d :: e :: f :: r3) = false := by
        intro h
        rw [hr2] at h
        simp only [mvW, dC, h, Bool.false_and, Bool.and_false, reduceCtorEq, decide_false, Bool.or_false]
      have hWk : ∀ k, (a :: b :: c :: d :: e :: f :: r3)[5 + k]? = r2[k]? := by
        intro k
        rw [show 5 + k = k + 1 + 1 + 1 + 1 + 1 by omega, hr2]
        simp only [List.getElem?_cons_succ]
      ((try simp only [aO, SS, aR, aM, setRange, aN, aC, aB, aF, aE, aD, aA, Nat.reduceLT, Nat.reduceEqDiff, Nat.reduceAdd, Nat.reduceMul, Nat.reduceSub, Nat.reduceLeDiff, Nat.reduceBEq, reduceCtorEq, q1, Int.reduceLE, Int.reduceToNat, eD, ga, q45, q120, hb1, hb2, gc, gd1, gd2, m0, m2, m5, q58, ge, List.length_cons]); (repeat' ((first | apply aJ | apply aI | apply aL | apply aK | apply aH | apply aG) <;> intro h <;> simp only [h, SS, aR, aM, setRange, aN, aC, aB, aF, aE, aD, aA, Nat.reduceLT, Nat.reduceEqDiff, Nat.reduceAdd, Nat.reduceMul, Nat.reduceSub, Nat.reduceLeDiff, Nat.reduceBEq, reduceCtorEq, q1, Int.reduceLE, Int.reduceToNat, eD, ga, q45, q120, hb1, hb2, gc, gd1, gd2, m0, m2, m5, q58, ge, List.length_cons])))
      refine bQ (Top.draw mixed aX (by kernel_rfl) ?_)
      ((try simp only [aO, SS, aR, aM, setRange, aN, aC, aB, aF, aE, aD, aA, Nat.reduceLT, Nat.reduceEqDiff, Nat.reduceAdd, Nat.reduceMul, Nat.reduceSub, Nat.reduceLeDiff, Nat.reduceBEq, reduceCtorEq, Int.reduceLE, Int.reduceToNat, q120, wa1, wa2, wc1, wc2, l34, l4, List.length_cons]); (repeat' ((first | apply aJ | apply aI | apply aL | apply aK | apply aH | apply aG) <;> intro h <;> simp only [h, SS, aR, aM, setRange, aN, aC, aB, aF, aE, aD, aA, Nat.reduceLT, Nat.reduceEqDiff, Nat.reduceAdd, Nat.reduceMul, Nat.reduceSub, Nat.reduceLeDiff, Nat.reduceBEq, reduceCtorEq, Int.reduceLE, Int.reduceToNat, q120, wa1, wa2, wc1, wc2, l34, l4, List.length_cons])))
      refine ⟨by kernel_rfl, ?_⟩
      ((try simp only [aO, SS, aR, aM, setRange, aN, aC, aB, aF, aE, aD, aA, Nat.reduceLT, Nat.reduceEqDiff, Nat.reduceAdd, Nat.reduceMul, Nat.reduceSub, Nat.reduceLeDiff, Nat.reduceBEq, reduceCtorEq]); (repeat' ((first | apply aJ | apply aI | apply aL | apply aK | apply aH | apply aG) <;> intro h <;> simp only [h, SS, aR, aM, setRange, aN, aC, aB, aF, aE, aD, aA, Nat.reduceLT, Nat.reduceEqDiff, Nat.reduceAdd, Nat.reduceMul, Nat.reduceSub, Nat.reduceLeDiff, Nat.reduceBEq, reduceCtorEq])))
      simp only [List.length_cons] at hlen
      refine bO (Top.loop (I := fun s : { x : Nat × EVal × Nat × List (Nat × Option EObj) // x.1 ≤ r2.length ∧ x.2.2.1 ≤ 2 + x.1 ∧ 2 ≤ x.2.2.1 ∧ (r2.take x.1).all dU = true ∧ IL 2 x.2.1 ((r2.take x.1).map cG) x.2.2.1 x.2.2.2 ∧ aQ x.2.2.2 1 = some (.row [.int .i64 (cG a), .int .i64 (cG c), .bool (b == 120), .str [d], x.2.1] 27 0 0 false) ∧ aQ x.2.2.2 0 = some (.row [.int .i64 0, .int .i64 0, .bool false, .str [], .nilslice] 27 0 0 false) } => (mkF 94 [(5, .int .i64 ((5 + s.1.1 : Nat) : Int)), (4, .ptr 1 0), (2, .ptr 0 0), (0, .str (a :: b :: c :: d :: e :: f :: r3)), (3, .bool false)], mkH s.1.2.2.1 s.1.2.2.2 128 [])) (μ := fun s => r2.length - s.1.1) ⟨(0, .nilslice, 2, _), by simp, by simp, by simp, by simp, .inl ⟨rfl, rfl⟩, rfl, rfl⟩ (aV.sub (by simp [look])) ?_)
      rintro ⟨⟨k, v, N, l⟩, hk, hN, hN2, hdg, I1, A1, A0⟩
      dsimp only at hk hN hN2 hdg I1 A1 A0
      refine aS aX _ _ _ _ ?_
      dsimp only
      by_cases hlt : k < r2.length
      · obtain ⟨x, hx⟩ : ∃ x, r2[k]? = some x := ⟨r2[k], List.getElem?_eq_getElem hlt⟩
        have hWx := hWk k
        rw [hx] at hWx
        have p1 : decide (((5 + k : Nat) : Int) < ((r3.length + 1 + 1 + 1 + 1 + 1 + 1 : Nat) : Int)) = true := by simp only [decide_eq_true_eq]; omega
        have p2 : IntKind.i64.wrap (((5 + k : Nat) : Int) + 1) = ((5 + (k + 1) : Nat) : Int) := by rw [bM] <;> omega
        cases hxd : dU x with
        | false =>
          have hall : r2.all dU = false := by
            rw [List.all_eq_false]
            exact ⟨x, List.mem_of_getElem? hx, by rw [hxd]; simp⟩
          ((try simp only [aO, SS, aR, aM, setRange, aN, aC, aB, aF, aE, aD, aA, Nat.reduceLT, Nat.reduceEqDiff, Nat.reduceAdd, Nat.reduceMul, Nat.reduceSub, Nat.reduceLeDiff, Nat.reduceBEq, reduceCtorEq, p1, hWx, eD, hxd, List.length_cons, A0]); (repeat' ((first | apply aJ | apply aI | apply aL | apply aK | apply aH | apply aG) <;> intro h <;> simp only [h, SS, aR, aM, setRange, aN, aC, aB, aF, aE, aD, aA, Nat.reduceLT, Nat.reduceEqDiff, Nat.reduceAdd, Nat.reduceMul, Nat.reduceSub, Nat.reduceLeDiff, Nat.reduceBEq, reduceCtorEq, p1, hWx, eD, hxd, List.length_cons, A0])))
          (refine hQ _ _ _ (aP (by first | exact .inl rfl | exact .inr rfl) ?_); simp only [SS, aR, aM, setRange, aN, aC, aB, aF, aE, aD, aA, Nat.reduceLT, Nat.reduceEqDiff, Nat.reduceAdd, Nat.reduceMul, Nat.reduceSub, Nat.reduceLeDiff, Nat.reduceBEq, reduceCtorEq])
          rw [bad (hba hall)]
        | true =>
        have hx9 : 48 ≤ x ∧ x ≤ 57 := by simp [dU, digitB] at hxd; omega
        obtain ⟨wx1, wx2⟩ := wrapD hx9
        obtain ⟨v2, l2, hap, I2, S2⟩ := eAppend_IL (x := cG x) (m := 128) (kk := []) I1 hN2 (by omega) (by simp; omega)
        have B1 : aQ l2 1 = some (.row [.int .i64 (cG a), .int .i64 (cG c), .bool (b == 120), .str [d], v] 27 0 0 false) := by rw [S2 1 (by omega)]; exact A1
        have B0 : aQ l2 0 = some (.row [.int .i64 0, .int .i64 0, .bool false, .str [], .nilslice] 27 0 0 false) := by rw [S2 0 (by omega)]; exact A0
        obtain ⟨o1, o2, o3⟩ := IL_one I2
        ((try simp only [aO, SS, aR, aM, setRange, aN, aC, aB, aF, aE, aD, aA, Nat.reduceLT, Nat.reduceEqDiff, Nat.reduceAdd, Nat.reduceMul, Nat.reduceSub, Nat.reduceLeDiff, Nat.reduceBEq, reduceCtorEq, p1, hWx, eD, hxd, List.length_cons]); (repeat' ((first | apply aJ | apply aI | apply aL | apply aK | apply aH | apply aG) <;> intro h <;> simp only [h, SS, aR, aM, setRange, aN, aC, aB, aF, aE, aD, aA, Nat.reduceLT, Nat.reduceEqDiff, Nat.reduceAdd, Nat.reduceMul, Nat.reduceSub, Nat.reduceLeDiff, Nat.reduceBEq, reduceCtorEq, p1, hWx, eD, hxd, List.length_cons])))
        refine bQ (Top.draw mixed aX (by kernel_rfl) ?_)
        ((try simp only [aO, SS, aR, aM, setRange, aN, aC, aB, aF, aE, aD, aA, Nat.reduceLT, Nat.reduceEqDiff, Nat.reduceAdd, Nat.reduceMul, Nat.reduceSub, Nat.reduceLeDiff, Nat.reduceBEq, reduceCtorEq, ↓hap, A1, B1, hWx, wx1, wx2, o1, o2, o3]); (repeat' ((first | apply aJ | apply aI | apply aL | apply aK | apply aH | apply aG) <;> intro h <;> simp only [h, SS, aR, aM, setRange, aN, aC, aB, aF, aE, aD, aA, Nat.reduceLT, Nat.reduceEqDiff, Nat.reduceAdd, Nat.reduceMul, Nat.reduceSub, Nat.reduceLeDiff, Nat.reduceBEq, reduceCtorEq, ↓hap, A1, B1, hWx, wx1, wx2, o1, o2, o3])))
        refine ⟨by kernel_rfl, ?_⟩
        ((try simp only [aO, SS, aR, aM, setRange, aN, aC, aB, aF, aE, aD, aA, Nat.reduceLT, Nat.reduceEqDiff, Nat.reduceAdd, Nat.reduceMul, Nat.reduceSub, Nat.reduceLeDiff, Nat.reduceBEq, reduceCtorEq, p2]); (repeat' ((first | apply aJ | apply aI | apply aL | apply aK | apply aH | apply aG) <;> intro h <;> simp only [h, SS, aR, aM, setRange, aN, aC, aB, aF, aE, aD, aA, Nat.reduceLT, Nat.reduceEqDiff, Nat.reduceAdd, Nat.reduceMul, Nat.reduceSub, Nat.reduceLeDiff, Nat.reduceBEq, reduceCtorEq, p2])))
        refine ⟨⟨(k + 1, v2, N + 1, (1, some (.row [.int .i64 (cG a), .int .i64 (cG c), .bool (b == 120), .str [d], v2] 27 0 0 false)) :: l2), hlt, by show N + 1 ≤ 2 + (k + 1); omega, by show 2 ≤ N + 1; omega, ?_, ?_, ?_, ?_⟩, by simp; omega, aV.sub (by simp [look])⟩
        · show (r2.take (k + 1)).all dU = true
          rw [List.take_add_one, hx, List.all_append, hdg]; simp [hxd]
        · have e : (r2.take (k + 1)).map cG = (r2.take k).map cG ++ [cG x] := by rw [List.take_add_one, hx, List.map_append]; rfl
          show IL 2 v2 ((r2.take (k + 1)).map cG) (N + 1) _
          rw [e]
          rcases I2 with h | ⟨id, h1, h2, h3, h4⟩
          · exact .inl h
          · exact .inr ⟨id, h1, h2, h3, by rw [aQ.eq_2, if_neg (by omega)]; exact h4⟩
        · simp [aQ]
        · show aQ ((1, _) :: l2) 0 = _
          rw [aQ.eq_2, if_neg (by omega)]; exact B0
      have hkl : k = r2.length := by omega
      rw [hkl, List.take_length] at I1 hdg
      have p1 : decide (((5 + k : Nat) : Int) < ((r3.length + 1 + 1 + 1 + 1 + 1 + 1 : Nat) : Int)) = false := by simp only [decide_eq_false_iff_not]; omega
      rw [hgo hdg] at hQ hV
      obtain ⟨o1, o2, o3⟩ := IL_one I1
      ((try simp only [aO, SS, aR, aM, setRange, aN, aC, aB, aF, aE, aD, aA, Nat.reduceLT, Nat.reduceEqDiff, Nat.reduceAdd, Nat.reduceMul, Nat.reduceSub, Nat.reduceLeDiff, Nat.reduceBEq, reduceCtorEq, p1, List.length_cons, A1, A0, o1, o2, o3]); (repeat' ((first | apply aJ | apply aI | apply aL | apply aK | apply aH | apply aG) <;> intro h <;> simp only [h, SS, aR, aM, setRange, aN, aC, aB, aF, aE, aD, aA, Nat.reduceLT, Nat.reduceEqDiff, Nat.reduceAdd, Nat.reduceMul, Nat.reduceSub, Nat.reduceLeDiff, Nat.reduceBEq, reduceCtorEq, p1, List.length_cons, A1, A0, o1, o2, o3])))
      rcases I1 with ⟨rfl, hn⟩ | ⟨id, h1, h2, rfl, h4⟩
      · (refine hQ _ _ _ (aP (by first | exact .inl rfl | exact .inr rfl) ?_); simp only [SS, aR, aM, setRange, aN, aC, aB, aF, aE, aD, aA, Nat.reduceLT, Nat.reduceEqDiff, Nat.reduceAdd, Nat.reduceMul, Nat.reduceSub, Nat.reduceLeDiff, Nat.reduceBEq, reduceCtorEq])
        have : r2.map cG = [] := hn
        rw [this]; rfl
      · have hid0 : id < 16000 := by omega
        refine hV _ _ _ ⟨_, _, aV.fz (sz := 1) (len := (r2.map cG).length) (fl2 := [(2, .ptr 0 0), (3, .bool true)]) (l2 := [(0, some (.row [.int .i64 (cG a), .int .i64 (cG c), .bool (b == 120), .str [d], .lsl (cW 1 (r2.map cG).length (eU (r2.map cG)))] 27 0 0 false))]) (k2 := []) id hid0 (by rw [aQ.eq_2, if_neg (by omega)]; exact h4) (keepL_eRow _) (by simp [eRow_length]) ?_ ?_ (by simp), aP (.inl rfl) ?_⟩
        · simp [look, fzR]
        · intro p hp
          rw [List.mem_singleton] at hp
          subst hp
          refine ⟨by simp, by show 0 ≠ id; omega, _, rfl, .inr ⟨[.int .i64 (cG a), .int .i64 (cG c), .bool (b == 120), .str [d], .slice id 0 (r2.map cG).length (.slack 0)], _, _, _, _, _, by simp [aQ], rfl, ?_⟩⟩
          exact ⟨.inl rfl, .inl rfl, .inl rfl, .inl rfl, .inr ⟨.slack 0, rfl, rfl, rfl⟩, trivial⟩
        · rw [chunk_eRow]
          simp only [SS, aR, aM, setRange, aN, aC, aB, aF, aE, aD, aA, Nat.reduceLT, Nat.reduceEqDiff, Nat.reduceAdd, Nat.reduceMul, Nat.reduceSub, Nat.reduceLeDiff, Nat.reduceBEq, reduceCtorEq]
end Go.Ev
