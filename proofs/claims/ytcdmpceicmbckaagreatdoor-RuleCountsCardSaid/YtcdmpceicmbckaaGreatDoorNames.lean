import Derived.Test.YtcdmpceicmbckaaGreatDoorEvD
import Derived.Test.YtcdmpceicmbckaaGreatDoorTypes
set_option linter.unusedSimpArgs false
set_option linter.unusedVariables false
namespace Go.Ev
open Go.RowKit Go.Proofs
set_option linter.defProp false
def TF136Names := And.intro (And.intro (And.intro (@Tryz.underlying3) (@sz3)) (And.intro (@bP) (@I3s))) (And.intro (And.intro (@I3b) (@bN)) (And.intro (@bQ) (@Tryz.results136)))
set_option maxRecDepth 20000
set_option maxHeartbeats 2000000

/-! within -/
def withinB (n lo hi : Int) : Bool := decide (lo ≤ n) && decide (n ≤ hi)
def F93 : List EVal → Option EVal
  | [.int .i64 n, .int .i64 lo, .int .i64 hi] => some (.bool (withinB n lo hi))
  | _ => none
theorem e93 {n lo hi : Int} : F93 [.int .i64 n, .int .i64 lo, .int .i64 hi] = some (.bool (withinB n lo hi)) := rfl
theorem fn93 : FnT 136 F93 := by
  refine Fn.intro mixed aK Tryz.func136 rfl [] (fun _ h => by cases h) ?_
  intro args v hF
  unfold F93 at hF
  split at hF
  rotate_left
  · cases hF
  intro Q hV
  have hQ := aV.of hV
  rename_i n lo hi
  cases hF
  refine Top.view (aH.start (n := 15) rfl (by simp)) (aC aK _ _ _ _ ?_)
  ((try simp only [aT, SS, TF136Names, aE, setRange, bF, aA, aF, aQ, aP, aJ, aB, Nat.reduceLT, Nat.reduceEqDiff, Nat.reduceAdd, Nat.reduceMul, Nat.reduceSub, Nat.reduceLeDiff, Nat.reduceBEq, reduceCtorEq]); (repeat' ((first | apply wpStep_not | apply wpStep_sym | apply wpCond_not | apply wpCond_sym | apply wpDStep_not | apply wpDStep_sym) <;> intro h <;> simp only [h, SS, TF136Names, aE, setRange, bF, aA, aF, aQ, aP, aJ, aB, Nat.reduceLT, Nat.reduceEqDiff, Nat.reduceAdd, Nat.reduceMul, Nat.reduceSub, Nat.reduceLeDiff, Nat.reduceBEq, reduceCtorEq])))
  all_goals ((refine hQ _ _ _ (aD (by first | exact .inl rfl | exact .inr rfl) ?_); simp only [*, SS, TF136Names, aE, setRange, bF, aA, aF, aQ, aP, aJ, aB, Nat.reduceLT, Nat.reduceEqDiff, Nat.reduceAdd, Nat.reduceMul, Nat.reduceSub, Nat.reduceLeDiff, Nat.reduceBEq, reduceCtorEq, withinB]))

/-! the first error -/
/-! a draw's arguments -/
end Go.Ev
