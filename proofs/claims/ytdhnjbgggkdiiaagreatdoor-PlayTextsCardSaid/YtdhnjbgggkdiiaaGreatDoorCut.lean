import Derived.Test.YtdhnjbgggkdiiaaGreatDoorWords2
set_option linter.unusedSimpArgs false
set_option linter.unusedVariables false
namespace Go.Ev
open Go.RowKit Go.Proofs
set_option linter.defProp false
def TF165Cut := And.intro (And.intro (And.intro (@Tryz.underlying9) (@sz9)) (And.intro (@bI) (@I9s))) (And.intro (And.intro (@I9b) (@bH)) (And.intro (@bJ) (And.intro (@call182) (@Tryz.results165))))
def TF182Cut := And.intro (And.intro (And.intro (And.intro (@Tryz.underlying3) (@sz3)) (And.intro (@bN) (@I3s))) (And.intro (And.intro (@I3b) (@bL)) (And.intro (@bO) (@Tryz.underlying9)))) (And.intro (And.intro (And.intro (@sz9) (@bI)) (And.intro (@I9s) (@I9b))) (And.intro (And.intro (@bH) (@bJ)) (And.intro (@call208) (@Tryz.results182))))
def TF208Cut := And.intro (And.intro (And.intro (And.intro (@Tryz.underlying3) (And.intro (@sz3) (@bN))) (And.intro (@I3s) (And.intro (@I3b) (@bL)))) (And.intro (And.intro (@bO) (And.intro (@Tryz.underlying5) (@sz5))) (And.intro (@dK) (And.intro (@I5s) (@I5b))))) (And.intro (And.intro (And.intro (@dG) (And.intro (@dL) (@Tryz.underlying9))) (And.intro (@sz9) (And.intro (@bI) (@I9s)))) (And.intro (And.intro (@I9b) (And.intro (@bH) (@bJ))) (And.intro (And.intro (@call170) (@call197)) (And.intro (@call220) (@Tryz.results208)))))
set_option maxRecDepth 20000
set_option maxHeartbeats 8000000

/-! the first blank of a string, and what stands bW and behind it -/
def hasB32 (l : List Nat) : Bool := l.any (· == 32)
def cW (l : List Nat) : List Nat := l.takeWhile (· != 32)
def tailB (l : List Nat) : List Nat := l.drop ((cW l).length + 1)
theorem indexB : ∀ {l : List Nat} {i : Nat}, indexByteE l 32 i = if hasB32 l = true then ((i + (cW l).length : Nat) : Int) else -1
  | [], _ => rfl
  | b :: l, i => by
    unfold indexByteE
    by_cases hb : b = 32
    · subst hb
      simp [hasB32, cW]
    · have h1 : hasB32 (b :: l) = hasB32 l := by simp [hasB32, hb]
      have h2 : cW (b :: l) = b :: cW l := by simp [cW, hb]
      rw [if_neg hb, indexB, h1, h2]
      split
      · rw [List.length_cons]; congr 1; omega
      · rfl
theorem headB_len {l : List Nat} (h : hasB32 l = true) : (cW l).length < l.length := by
  induction l with
  | nil => simp [hasB32] at h
  | cons b l ih =>
    by_cases hb : b = 32
    · subst hb; simp [cW]
    · have h1 : hasB32 (b :: l) = hasB32 l := by simp [hasB32, hb]
      have h2 : cW (b :: l) = b :: cW l := by simp [cW, hb]
      rw [h2, List.length_cons, List.length_cons]
      have := ih (by rw [← h1]; exact h)
      omega
theorem headB_take {l : List Nat} : l.take (cW l).length = cW l := by
  induction l with
  | nil => rfl
  | cons b l ih =>
    by_cases hb : b = 32
    · subst hb; simp [cW]
    · have h2 : cW (b :: l) = b :: cW l := by simp [cW, hb]
      rw [h2, List.length_cons, List.take_succ_cons, ih]
theorem e170b {l : List Nat} : F170 [.str l, .int .u8 ((32 : Nat) : Int)] = some (.int .i64 (indexByteE l 32 0)) := rfl
def F208 : List EVal → Option EVal
  | [.str l, .str [32]] => if l.length < 1000000000 then some (.int .i64 (indexByteE l 32 0)) else none
  | _ => none
theorem fn208 : FnT 208 F208 := by
  refine Fn.intro mixed aI Tryz.func208 rfl [(170, F170)] (by simp only [List.forall_mem_cons]; exact ⟨fn170, fun _ h => by cases h⟩) ?_
  intro args v hF
  unfold F208 at hF
  split at hF
  rotate_left
  · cases hF
  intro Q hV
  have hQ := aS.of hV
  rename_i l
  split at hF
  rotate_left
  · cases hF
  cases hF
  refine Top.view (aH.start (n := 143) rfl (by simp)) (aD aI _ _ _ _ ?_)
  have z1 : ((((1 : Nat) : Int)) == 0) = false := by decide
  have z2 : ((((1 : Nat) : Int)) == 1) = true := by decide
  cases hc : decide ([32] = l) with
  | true =>
    have hl : l = [32] := by simpa using (Eq.symm (of_decide_eq_true hc))
    (try simp only [aG, SS, TF208Cut, aA, Nat.reduceLT, Nat.reduceEqDiff, reduceCtorEq, z1, hc])
    (refine hQ _ _ _ (aC (by first | exact .inl rfl | exact .inr rfl) ?_); simp only [SS, TF208Cut, Nat.reduceLT, Nat.reduceEqDiff, reduceCtorEq])
    rw [hl]; rfl
  | false =>
    have z3 : Int.toNat 0 = 0 := rfl
    (try simp only [aG, SS, TF208Cut, aF, aA, Nat.reduceLT, Nat.reduceEqDiff, reduceCtorEq, z1, z2, hc, z3, e170b])
    (refine hQ _ _ _ (aC (by first | exact .inl rfl | exact .inr rfl) ?_); simp only [SS, TF208Cut, Nat.reduceLT, Nat.reduceEqDiff, reduceCtorEq])
def cutE (l : List Nat) : EVal := if hasB32 l = true then .tup [.str (cW l), .str (tailB l), .bool true] else .tup [.str l, .str [], .bool false]
def F182 : List EVal → Option EVal
  | [.str l, .str [32]] => if l.length < 1000000000 then some (cutE l) else none
  | _ => none
theorem fn182 : FnT 182 F182 := by
  refine Fn.intro mixed aI Tryz.func182 rfl [(208, F208)] (by simp only [List.forall_mem_cons]; exact ⟨fn208, fun _ h => by cases h⟩) ?_
  intro args v hF
  unfold F182 at hF
  split at hF
  rotate_left
  · cases hF
  intro Q hV
  have hQ := aS.of hV
  rename_i l
  split at hF
  rotate_left
  · cases hF
  rename_i hlen
  cases hF
  have h208 : F208 [.str l, .str [32]] = some (.int .i64 (indexByteE l 32 0)) := by simp only [F208]; rw [if_pos hlen]
  rw [indexB, Nat.zero_add] at h208
  refine Top.view (aH.start (n := 23) rfl (by simp)) (aD aI _ _ _ _ ?_)
  cases hh : hasB32 l with
  | false =>
    rw [hh, if_neg (by simp)] at h208
    have q1 : decide ((0 : Int) ≤ -1) = false := by decide
    (try simp only [aG, SS, TF182Cut, aF, aA, Nat.reduceLT, Nat.reduceEqDiff, reduceCtorEq, h208, q1])
    (refine hQ _ _ _ (aC (by first | exact .inl rfl | exact .inr rfl) ?_); simp only [SS, TF182Cut, Nat.reduceLT, Nat.reduceEqDiff, reduceCtorEq])
    simp only [cutE, hh]; rfl
  | true =>
    rw [hh, if_pos rfl] at h208
    have hlt := headB_len hh
    have q1 : decide ((0 : Int) ≤ ((cW l).length : Int)) = true := by simp
    have w1 : IntKind.i64.wrap (((cW l).length : Int) + ((1 : Nat) : Int)) = (((cW l).length + 1 : Nat) : Int) := by rw [aR] <;> omega
    have b1 : (((cW l).length : Int) ≤ (l.length : Int)) = True := by simp; omega
    have b2 : ((((cW l).length + 1 : Nat) : Int) ≤ (l.length : Int)) = True := by simp; omega
    have t1 := headB_take (l := l)
    have t2 : (l.take l.length) = l := List.take_length
    have t3 : l.drop ((cW l).length + 1) = tailB l := rfl
    (try simp only [aG, SS, TF182Cut, aF, aA, Nat.reduceLT, Nat.reduceEqDiff, reduceCtorEq, h208])
    refine aX (Top.draw mixed aI (by kernel_rfl) ?_)
    (try simp only [SS, TF182Cut, aQ, Nat.reduceLT, Nat.reduceEqDiff, reduceCtorEq, w1, b1, b2, t1, t2, t3])
    refine ⟨by kernel_rfl, ?_⟩
    (try simp only [aG, SS, TF182Cut, aF, setRange, bQ, aA, aL, bB, aQ, aO, aE, Nat.reduceLT, Nat.reduceEqDiff, Nat.reduceAdd, Nat.reduceMul, Nat.reduceSub, Nat.reduceLeDiff, Nat.reduceBEq, reduceCtorEq])
    (refine hQ _ _ _ (aC (by first | exact .inl rfl | exact .inr rfl) ?_); simp only [SS, TF182Cut, Nat.reduceLT, Nat.reduceEqDiff, reduceCtorEq])
    simp only [cutE, hh, if_true]
def F165 : List EVal → Option EVal
  | [.str l, .str [32]] => if l.length < 1000000000 then some (cutE l) else none
  | _ => none
theorem e165 {l : List Nat} (h : l.length < 1000000000) : F165 [.str l, .str [32]] = some (cutE l) := by simp only [F165]; rw [if_pos h]
theorem fn165 : FnT 165 F165 := by
  refine Fn.intro mixed aI Tryz.func165 rfl [(182, F182)] (by simp only [List.forall_mem_cons]; exact ⟨fn182, fun _ h => by cases h⟩) ?_
  intro args v hF
  unfold F165 at hF
  split at hF
  rotate_left
  · cases hF
  intro Q hV
  have hQ := aS.of hV
  rename_i l
  split at hF
  rotate_left
  · cases hF
  rename_i hlen
  cases hF
  have h182 : F182 [.str l, .str [32]] = some (cutE l) := by simp only [F182]; rw [if_pos hlen]
  refine Top.view (aH.start (n := 13) rfl (by simp)) (aD aI _ _ _ _ ?_)
  unfold cutE at h182 hQ
  split at h182
  · rename_i hh
    rw [if_pos hh] at hQ
    (try simp only [aG, SS, TF165Cut, aF, aA, Nat.reduceLT, Nat.reduceEqDiff, reduceCtorEq, h182])
    (refine hQ _ _ _ (aC (by first | exact .inl rfl | exact .inr rfl) ?_); simp only [SS, TF165Cut, Nat.reduceLT, Nat.reduceEqDiff, reduceCtorEq])
  · rename_i hh
    rw [if_neg hh] at hQ
    (try simp only [aG, SS, TF165Cut, aF, aA, Nat.reduceLT, Nat.reduceEqDiff, reduceCtorEq, h182])
    (refine hQ _ _ _ (aC (by first | exact .inl rfl | exact .inr rfl) ?_); simp only [SS, TF165Cut, Nat.reduceLT, Nat.reduceEqDiff, reduceCtorEq])
end Go.Ev
