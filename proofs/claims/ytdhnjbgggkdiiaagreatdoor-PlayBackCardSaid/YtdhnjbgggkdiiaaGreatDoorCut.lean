import Derived.Test.YtdhnjbgggkdiiaaGreatDoorWords2
set_option linter.unusedSimpArgs false
set_option linter.unusedVariables false
namespace Go.Ev
open Go.RowKit Go.Proofs
set_option linter.defProp false
def TF165Cut := And.intro (And.intro (And.intro (@Tryz.underlying9) (@sz9)) (And.intro (@cB) (@I9s))) (And.intro (And.intro (@I9b) (@bY)) (And.intro (@cC) (And.intro (@call182) (@Tryz.results165))))
def TF182Cut := And.intro (And.intro (And.intro (And.intro (@Tryz.underlying3) (@sz3)) (And.intro (@cE) (@I3s))) (And.intro (And.intro (@I3b) (@cA)) (And.intro (@cF) (@Tryz.underlying9)))) (And.intro (And.intro (And.intro (@sz9) (@cB)) (And.intro (@I9s) (@I9b))) (And.intro (And.intro (@bY) (@cC)) (And.intro (@call208) (@Tryz.results182))))
def TF208Cut := And.intro (And.intro (And.intro (And.intro (@Tryz.underlying3) (And.intro (@sz3) (@cE))) (And.intro (@I3s) (And.intro (@I3b) (@cA)))) (And.intro (And.intro (@cF) (And.intro (@Tryz.underlying5) (@sz5))) (And.intro (@eF) (And.intro (@I5s) (@I5b))))) (And.intro (And.intro (And.intro (@dY) (And.intro (@eG) (@Tryz.underlying9))) (And.intro (@sz9) (And.intro (@cB) (@I9s)))) (And.intro (And.intro (@I9b) (And.intro (@bY) (@cC))) (And.intro (And.intro (@call170) (@call197)) (And.intro (@call220) (@Tryz.results208)))))
set_option maxRecDepth 20000
set_option maxHeartbeats 8000000

/-! the first blank of a string, and what stands cJ and behind it -/
def hasB32 (l : List Nat) : Bool := l.any (· == 32)
def dK (l : List Nat) : List Nat := l.takeWhile (· != 32)
def tailB (l : List Nat) : List Nat := l.drop ((dK l).length + 1)
theorem indexB : ∀ {l : List Nat} {i : Nat}, indexByteE l 32 i = if hasB32 l = true then ((i + (dK l).length : Nat) : Int) else -1
  | [], _ => rfl
  | b :: l, i => by
    unfold indexByteE
    by_cases hb : b = 32
    · subst hb
      simp [hasB32, dK]
    · have h1 : hasB32 (b :: l) = hasB32 l := by simp [hasB32, hb]
      have h2 : dK (b :: l) = b :: dK l := by simp [dK, hb]
      rw [if_neg hb, indexB, h1, h2]
      split
      · rw [List.length_cons]; congr 1; omega
      · rfl
theorem headB_len {l : List Nat} (h : hasB32 l = true) : (dK l).length < l.length := by
  induction l with
  | nil => simp [hasB32] at h
  | cons b l ih =>
    by_cases hb : b = 32
    · subst hb; simp [dK]
    · have h1 : hasB32 (b :: l) = hasB32 l := by simp [hasB32, hb]
      have h2 : dK (b :: l) = b :: dK l := by simp [dK, hb]
      rw [h2, List.length_cons, List.length_cons]
      have := ih (by rw [← h1]; exact h)
      omega
theorem headB_take {l : List Nat} : l.take (dK l).length = dK l := by
  induction l with
  | nil => rfl
  | cons b l ih =>
    by_cases hb : b = 32
    · subst hb; simp [dK]
    · have h2 : dK (b :: l) = b :: dK l := by simp [dK, hb]
      rw [h2, List.length_cons, List.take_succ_cons, ih]
theorem e170 {l : List Nat} : F170 [.str l, .int .u8 32] = some (.int .i64 (indexByteE l 32 0)) := rfl
theorem e170b {l : List Nat} : F170 [.str l, .int .u8 ((32 : Nat) : Int)] = some (.int .i64 (indexByteE l 32 0)) := rfl
def F208 : List EVal → Option EVal
  | [.str l, .str [32]] => if l.length < 1000000000 then some (.int .i64 (indexByteE l 32 0)) else none
  | _ => none
theorem fn208 : FnT 208 F208 := by
  refine Fn.intro mixed aV Tryz.func208 rfl [(170, F170)] (by simp only [List.forall_mem_cons]; exact ⟨fn170, fun _ h => by cases h⟩) ?_
  intro args v hF
  unfold F208 at hF
  split at hF
  rotate_left
  · cases hF
  intro Q hV
  have hQ := bM.of hV
  rename_i l
  split at hF
  rotate_left
  · cases hF
  cases hF
  refine Top.view (aT.start (n := 143) rfl (by simp)) (aR aV _ _ _ _ ?_)
  have z1 : ((((1 : Nat) : Int)) == 0) = false := by decide
  have z2 : ((((1 : Nat) : Int)) == 1) = true := by decide
  cases hc : decide ([32] = l) with
  | true =>
    have hl : l = [32] := by simpa using (Eq.symm (of_decide_eq_true hc))
    ((try simp only [aO, SS, TF208Cut, aM, setRange, aN, aC, aB, aF, aE, aD, aA, Nat.reduceLT, Nat.reduceEqDiff, Nat.reduceAdd, Nat.reduceMul, Nat.reduceSub, Nat.reduceLeDiff, Nat.reduceBEq, reduceCtorEq, z1, hc]); (repeat' ((first | apply aJ | apply aI | apply aL | apply aK | apply aH | apply aG) <;> intro h <;> simp only [h, SS, TF208Cut, aM, setRange, aN, aC, aB, aF, aE, aD, aA, Nat.reduceLT, Nat.reduceEqDiff, Nat.reduceAdd, Nat.reduceMul, Nat.reduceSub, Nat.reduceLeDiff, Nat.reduceBEq, reduceCtorEq, z1, hc])))
    (refine hQ _ _ _ (aQ (by first | exact .inl rfl | exact .inr rfl) ?_); simp only [SS, TF208Cut, aM, setRange, aN, aC, aB, aF, aE, aD, aA, Nat.reduceLT, Nat.reduceEqDiff, Nat.reduceAdd, Nat.reduceMul, Nat.reduceSub, Nat.reduceLeDiff, Nat.reduceBEq, reduceCtorEq])
    rw [hl]; rfl
  | false =>
    have z3 : Int.toNat 0 = 0 := rfl
    ((try simp only [aO, SS, TF208Cut, aM, setRange, aN, aC, aB, aF, aE, aD, aA, Nat.reduceLT, Nat.reduceEqDiff, Nat.reduceAdd, Nat.reduceMul, Nat.reduceSub, Nat.reduceLeDiff, Nat.reduceBEq, reduceCtorEq, z1, z2, hc, z3, Int.reduceLE, Int.reduceToNat, e170, e170b]); (repeat' ((first | apply aJ | apply aI | apply aL | apply aK | apply aH | apply aG) <;> intro h <;> simp only [h, SS, TF208Cut, aM, setRange, aN, aC, aB, aF, aE, aD, aA, Nat.reduceLT, Nat.reduceEqDiff, Nat.reduceAdd, Nat.reduceMul, Nat.reduceSub, Nat.reduceLeDiff, Nat.reduceBEq, reduceCtorEq, z1, z2, hc, z3, Int.reduceLE, Int.reduceToNat, e170, e170b])))
    (refine hQ _ _ _ (aQ (by first | exact .inl rfl | exact .inr rfl) ?_); simp only [SS, TF208Cut, aM, setRange, aN, aC, aB, aF, aE, aD, aA, Nat.reduceLT, Nat.reduceEqDiff, Nat.reduceAdd, Nat.reduceMul, Nat.reduceSub, Nat.reduceLeDiff, Nat.reduceBEq, reduceCtorEq])
def cutE (l : List Nat) : EVal := if hasB32 l = true then .tup [.str (dK l), .str (tailB l), .bool true] else .tup [.str l, .str [], .bool false]
def F182 : List EVal → Option EVal
  | [.str l, .str [32]] => if l.length < 1000000000 then some (cutE l) else none
  | _ => none
theorem fn182 : FnT 182 F182 := by
  refine Fn.intro mixed aV Tryz.func182 rfl [(208, F208)] (by simp only [List.forall_mem_cons]; exact ⟨fn208, fun _ h => by cases h⟩) ?_
  intro args v hF
  unfold F182 at hF
  split at hF
  rotate_left
  · cases hF
  intro Q hV
  have hQ := bM.of hV
  rename_i l
  split at hF
  rotate_left
  · cases hF
  rename_i hlen
  cases hF
  have h208 : F208 [.str l, .str [32]] = some (.int .i64 (indexByteE l 32 0)) := by simp only [F208]; rw [if_pos hlen]
  rw [indexB, Nat.zero_add] at h208
  refine Top.view (aT.start (n := 23) rfl (by simp)) (aR aV _ _ _ _ ?_)
  cases hh : hasB32 l with
  | false =>
    rw [hh, if_neg (by simp)] at h208
    have q1 : decide ((0 : Int) ≤ -1) = false := by decide
    ((try simp only [aO, SS, TF182Cut, aM, setRange, aN, aC, aB, aF, aE, aD, aA, Nat.reduceLT, Nat.reduceEqDiff, Nat.reduceAdd, Nat.reduceMul, Nat.reduceSub, Nat.reduceLeDiff, Nat.reduceBEq, reduceCtorEq, h208, q1]); (repeat' ((first | apply aJ | apply aI | apply aL | apply aK | apply aH | apply aG) <;> intro h <;> simp only [h, SS, TF182Cut, aM, setRange, aN, aC, aB, aF, aE, aD, aA, Nat.reduceLT, Nat.reduceEqDiff, Nat.reduceAdd, Nat.reduceMul, Nat.reduceSub, Nat.reduceLeDiff, Nat.reduceBEq, reduceCtorEq, h208, q1])))
    (refine hQ _ _ _ (aQ (by first | exact .inl rfl | exact .inr rfl) ?_); simp only [SS, TF182Cut, aM, setRange, aN, aC, aB, aF, aE, aD, aA, Nat.reduceLT, Nat.reduceEqDiff, Nat.reduceAdd, Nat.reduceMul, Nat.reduceSub, Nat.reduceLeDiff, Nat.reduceBEq, reduceCtorEq])
    simp only [cutE, hh]; rfl
  | true =>
    rw [hh, if_pos rfl] at h208
    have hlt := headB_len hh
    have q1 : decide ((0 : Int) ≤ ((dK l).length : Int)) = true := by simp
    have w1 : IntKind.i64.wrap (((dK l).length : Int) + ((1 : Nat) : Int)) = (((dK l).length + 1 : Nat) : Int) := by rw [bN] <;> omega
    have b1 : (((dK l).length : Int) ≤ (l.length : Int)) = True := by simp; omega
    have b2 : ((((dK l).length + 1 : Nat) : Int) ≤ (l.length : Int)) = True := by simp; omega
    have t1 := headB_take (l := l)
    have t2 : (l.take l.length) = l := List.take_length
    have t3 : l.drop ((dK l).length + 1) = tailB l := rfl
    ((try simp only [aO, SS, TF182Cut, aM, setRange, aN, aC, aB, aF, aE, aD, aA, Nat.reduceLT, Nat.reduceEqDiff, Nat.reduceAdd, Nat.reduceMul, Nat.reduceSub, Nat.reduceLeDiff, Nat.reduceBEq, reduceCtorEq, h208, q1]); (repeat' ((first | apply aJ | apply aI | apply aL | apply aK | apply aH | apply aG) <;> intro h <;> simp only [h, SS, TF182Cut, aM, setRange, aN, aC, aB, aF, aE, aD, aA, Nat.reduceLT, Nat.reduceEqDiff, Nat.reduceAdd, Nat.reduceMul, Nat.reduceSub, Nat.reduceLeDiff, Nat.reduceBEq, reduceCtorEq, h208, q1])))
    refine bV (Top.draw mixed aV (by kernel_rfl) ?_)
    ((try simp only [aO, SS, TF182Cut, aM, setRange, aN, aC, aB, aF, aE, aD, aA, Nat.reduceLT, Nat.reduceEqDiff, Nat.reduceAdd, Nat.reduceMul, Nat.reduceSub, Nat.reduceLeDiff, Nat.reduceBEq, reduceCtorEq, w1, b1, b2, t1, t2, t3]); (repeat' ((first | apply aJ | apply aI | apply aL | apply aK | apply aH | apply aG) <;> intro h <;> simp only [h, SS, TF182Cut, aM, setRange, aN, aC, aB, aF, aE, aD, aA, Nat.reduceLT, Nat.reduceEqDiff, Nat.reduceAdd, Nat.reduceMul, Nat.reduceSub, Nat.reduceLeDiff, Nat.reduceBEq, reduceCtorEq, w1, b1, b2, t1, t2, t3])))
    refine ⟨by kernel_rfl, ?_⟩
    ((try simp only [aO, SS, TF182Cut, aM, setRange, aN, aC, aB, aF, aE, aD, aA, Nat.reduceLT, Nat.reduceEqDiff, Nat.reduceAdd, Nat.reduceMul, Nat.reduceSub, Nat.reduceLeDiff, Nat.reduceBEq, reduceCtorEq]); (repeat' ((first | apply aJ | apply aI | apply aL | apply aK | apply aH | apply aG) <;> intro h <;> simp only [h, SS, TF182Cut, aM, setRange, aN, aC, aB, aF, aE, aD, aA, Nat.reduceLT, Nat.reduceEqDiff, Nat.reduceAdd, Nat.reduceMul, Nat.reduceSub, Nat.reduceLeDiff, Nat.reduceBEq, reduceCtorEq])))
    (refine hQ _ _ _ (aQ (by first | exact .inl rfl | exact .inr rfl) ?_); simp only [SS, TF182Cut, aM, setRange, aN, aC, aB, aF, aE, aD, aA, Nat.reduceLT, Nat.reduceEqDiff, Nat.reduceAdd, Nat.reduceMul, Nat.reduceSub, Nat.reduceLeDiff, Nat.reduceBEq, reduceCtorEq])
    simp only [cutE, hh, if_true]
def F165 : List EVal → Option EVal
  | [.str l, .str [32]] => if l.length < 1000000000 then some (cutE l) else none
  | _ => none
theorem e165 {l : List Nat} (h : l.length < 1000000000) : F165 [.str l, .str [32]] = some (cutE l) := by simp only [F165]; rw [if_pos h]
theorem fn165 : FnT 165 F165 := by
  refine Fn.intro mixed aV Tryz.func165 rfl [(182, F182)] (by simp only [List.forall_mem_cons]; exact ⟨fn182, fun _ h => by cases h⟩) ?_
  intro args v hF
  unfold F165 at hF
  split at hF
  rotate_left
  · cases hF
  intro Q hV
  have hQ := bM.of hV
  rename_i l
  split at hF
  rotate_left
  · cases hF
  rename_i hlen
  cases hF
  have h182 : F182 [.str l, .str [32]] = some (cutE l) := by simp only [F182]; rw [if_pos hlen]
  refine Top.view (aT.start (n := 13) rfl (by simp)) (aR aV _ _ _ _ ?_)
  unfold cutE at h182 hQ
  split at h182
  · rename_i hh
    rw [if_pos hh] at hQ
    ((try simp only [aO, SS, TF165Cut, aM, setRange, aN, aC, aB, aF, aE, aD, aA, Nat.reduceLT, Nat.reduceEqDiff, Nat.reduceAdd, Nat.reduceMul, Nat.reduceSub, Nat.reduceLeDiff, Nat.reduceBEq, reduceCtorEq, h182]); (repeat' ((first | apply aJ | apply aI | apply aL | apply aK | apply aH | apply aG) <;> intro h <;> simp only [h, SS, TF165Cut, aM, setRange, aN, aC, aB, aF, aE, aD, aA, Nat.reduceLT, Nat.reduceEqDiff, Nat.reduceAdd, Nat.reduceMul, Nat.reduceSub, Nat.reduceLeDiff, Nat.reduceBEq, reduceCtorEq, h182])))
    (refine hQ _ _ _ (aQ (by first | exact .inl rfl | exact .inr rfl) ?_); simp only [SS, TF165Cut, aM, setRange, aN, aC, aB, aF, aE, aD, aA, Nat.reduceLT, Nat.reduceEqDiff, Nat.reduceAdd, Nat.reduceMul, Nat.reduceSub, Nat.reduceLeDiff, Nat.reduceBEq, reduceCtorEq])
  · rename_i hh
    rw [if_neg hh] at hQ
    ((try simp only [aO, SS, TF165Cut, aM, setRange, aN, aC, aB, aF, aE, aD, aA, Nat.reduceLT, Nat.reduceEqDiff, Nat.reduceAdd, Nat.reduceMul, Nat.reduceSub, Nat.reduceLeDiff, Nat.reduceBEq, reduceCtorEq, h182]); (repeat' ((first | apply aJ | apply aI | apply aL | apply aK | apply aH | apply aG) <;> intro h <;> simp only [h, SS, TF165Cut, aM, setRange, aN, aC, aB, aF, aE, aD, aA, Nat.reduceLT, Nat.reduceEqDiff, Nat.reduceAdd, Nat.reduceMul, Nat.reduceSub, Nat.reduceLeDiff, Nat.reduceBEq, reduceCtorEq, h182])))
    (refine hQ _ _ _ (aQ (by first | exact .inl rfl | exact .inr rfl) ?_); simp only [SS, TF165Cut, aM, setRange, aN, aC, aB, aF, aE, aD, aA, Nat.reduceLT, Nat.reduceEqDiff, Nat.reduceAdd, Nat.reduceMul, Nat.reduceSub, Nat.reduceLeDiff, Nat.reduceBEq, reduceCtorEq])
end Go.Ev
