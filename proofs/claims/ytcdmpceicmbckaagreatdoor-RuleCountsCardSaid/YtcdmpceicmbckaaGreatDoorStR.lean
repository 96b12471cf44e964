import Derived.Test.YtcdmpceicmbckaaGreatDoorStB
set_option linter.unusedSimpArgs false
set_option linter.unusedVariables false
namespace Go.Ev
open Go.RowKit Go.Proofs
set_option linter.defProp false
def TF64StR := And.intro (And.intro (And.intro (@Tryz.underlying3) (@sz3)) (And.intro (@bP) (@I3s))) (And.intro (And.intro (@I3b) (@bN)) (And.intro (@bQ) (@Tryz.results64)))
def TF67StR := And.intro (And.intro (And.intro (And.intro (And.intro (@Tryz.underlying3) (@sz3)) (And.intro (@bP) (@I3s))) (And.intro (And.intro (@I3b) (@bN)) (And.intro (@bQ) (And.intro (@Tryz.underlying4) (@sz4))))) (And.intro (And.intro (And.intro (@info4) (@I4s)) (And.intro (@I4b) (@zero4))) (And.intro (And.intro (@grow4) (@Tryz.underlying22)) (And.intro (@sz22) (And.intro (@info22) (@I22s)))))) (And.intro (And.intro (And.intro (And.intro (@I22b) (@zero22)) (And.intro (@grow22) (@Tryz.underlying23))) (And.intro (And.intro (@sz23) (@info23)) (And.intro (@I23s) (And.intro (@I23b) (@zero23))))) (And.intro (And.intro (And.intro (@grow23) (@Tryz.underlying25)) (And.intro (@sz25) (And.intro (@fok25) (@info25)))) (And.intro (And.intro (@I25s) (@I25b)) (And.intro (@zero25) (And.intro (@grow25) (@Tryz.results67))))))
set_option maxRecDepth 20000
set_option maxHeartbeats 4000000

/-! the reference's small functions -/
def rgC (n lo hi : Int) : Int := if inB n lo hi = true then 0 else 3
def F1064 : List EVal → Option EVal
  | [.int .i64 n, .int .i64 lo, .int .i64 hi] => some (.int .i64 (rgC n lo hi))
  | _ => none
theorem e1064 {n lo hi : Int} : F1064 [.int .i64 n, .int .i64 lo, .int .i64 hi] = some (.int .i64 (rgC n lo hi)) := rfl
theorem fn1064 : FnT 64 F1064 := by
  refine Fn.intro mixed aK Tryz.func64 rfl [] (fun _ h => by cases h) ?_
  intro args v hF
  unfold F1064 at hF
  split at hF
  rotate_left
  · cases hF
  intro Q hV
  have hQ := aV.of hV
  rename_i n lo hi
  cases hF
  refine Top.view (aH.start (n := 15) rfl (by simp)) (aC aK _ _ _ _ ?_)
  ((try simp only [aT, SS, TF64StR, aE, setRange, bF, aA, aF, aQ, aP, aJ, aB, Nat.reduceLT, Nat.reduceEqDiff, Nat.reduceAdd, Nat.reduceMul, Nat.reduceSub, Nat.reduceLeDiff, Nat.reduceBEq, reduceCtorEq]); (repeat' ((first | apply wpStep_not | apply wpStep_sym | apply wpCond_not | apply wpCond_sym | apply wpDStep_not | apply wpDStep_sym) <;> intro h <;> simp only [h, SS, TF64StR, aE, setRange, bF, aA, aF, aQ, aP, aJ, aB, Nat.reduceLT, Nat.reduceEqDiff, Nat.reduceAdd, Nat.reduceMul, Nat.reduceSub, Nat.reduceLeDiff, Nat.reduceBEq, reduceCtorEq])))
  all_goals ((refine hQ _ _ _ (aD (by first | exact .inl rfl | exact .inr rfl) ?_); simp only [SS, TF64StR, aE, setRange, bF, aA, aF, aQ, aP, aJ, aB, Nat.reduceLT, Nat.reduceEqDiff, Nat.reduceAdd, Nat.reduceMul, Nat.reduceSub, Nat.reduceLeDiff, Nat.reduceBEq, reduceCtorEq]))
  all_goals (simp_all [rgC, inB])
  all_goals (try omega)
def F1067 : List EVal → Option EVal := onSt fun s => some (.bool (decB s))
theorem e1067 {s : St} : F1067 [.agg (eSt s)] = some (.bool (decB s)) := rfl
theorem fn1067 : FnT 67 F1067 := by
  refine Fn.intro mixed aK Tryz.func67 rfl [] (fun _ h => by cases h) ?_
  intro args v hF0
  obtain ⟨s, rfl, hF⟩ := onSt_inv hF0
  clear hF0
  cases hF
  intro Q hV
  have hQ := aV.of hV
  refine Top.view (aH.start (n := 20) rfl (by simp)) (aC aK _ _ _ _ ?_)
  ((try simp only [aT, SS, TF67StR, aE, setRange, bF, aA, aF, aQ, aP, aJ, aB, Nat.reduceLT, Nat.reduceEqDiff, Nat.reduceAdd, Nat.reduceMul, Nat.reduceSub, Nat.reduceLeDiff, Nat.reduceBEq, reduceCtorEq, eSt, BND]); (repeat' ((first | apply wpStep_not | apply wpStep_sym | apply wpCond_not | apply wpCond_sym | apply wpDStep_not | apply wpDStep_sym) <;> intro h <;> simp only [h, SS, TF67StR, aE, setRange, bF, aA, aF, aQ, aP, aJ, aB, Nat.reduceLT, Nat.reduceEqDiff, Nat.reduceAdd, Nat.reduceMul, Nat.reduceSub, Nat.reduceLeDiff, Nat.reduceBEq, reduceCtorEq, eSt, BND])))
  all_goals ((refine hQ _ _ _ (aD (by first | exact .inl rfl | exact .inr rfl) ?_); simp only [SS, TF67StR, aE, setRange, bF, aA, aF, aQ, aP, aJ, aB, Nat.reduceLT, Nat.reduceEqDiff, Nat.reduceAdd, Nat.reduceMul, Nat.reduceSub, Nat.reduceLeDiff, Nat.reduceBEq, reduceCtorEq]))
  all_goals (simp_all [decB, leadB, eqN])
  all_goals (try (intros; omega))
end Go.Ev
