import Derived.Test.YtcmlciebgapmjaaGreatDoorNamesB
set_option linter.unusedSimpArgs false
set_option linter.unusedVariables false
namespace Go.Ev
open Go.RowKit Go.Proofs
set_option linter.defProp false
def TF29PlayNames := And.intro (And.intro (And.intro (And.intro (@Tryz.underlying3) (@sz3)) (And.intro (@bS) (@I3s))) (And.intro (And.intro (@I3b) (@bR)) (And.intro (@bU) (@Tryz.underlying25)))) (And.intro (And.intro (And.intro (@dD) (@bY)) (And.intro (@dE) (@dF))) (And.intro (And.intro (@bW) (@bZ)) (And.intro (@call78) (@Tryz.results29))))
set_option maxRecDepth 20000
set_option maxHeartbeats 4000000

/-! the list and its error -/
def listB (l : List Int) (e bad : Int) (want : List Int) : Bool := decide (e = bad) && (decide (bad ≠ 0) && decide (l.length = 0) || decide (bad = 0) && decide (l = want))
def F29 : List EVal → Option EVal
  | [a, .int .i64 e, .int .i64 bad, b] => match dG a, dG b with
    | some l, some m => some (.bool (listB l e bad m))
    | _, _ => none
  | _ => none
theorem e29 {l m : List Int} {e bad : Int} (h1 : l.length < 9223372036854775808) (h2 : m.length < 9223372036854775808) : F29 [.lsl (bJ l), .int .i64 e, .int .i64 bad, .lsl (bJ m)] = some (.bool (listB l e bad m)) := by
  simp only [F29, dInts_e h1, dInts_e h2]
theorem fn29 : FnT 29 F29 := by
  refine Fn.intro mixed bA Tryz.func29 rfl [(78, F78)] (by simp only [List.forall_mem_cons]; exact ⟨fn78, fun _ h => by cases h⟩) ?_
  intro args v hF
  unfold F29 at hF
  split at hF
  rotate_left
  · cases hF
  intro Q hV
  have hQ := bL.of hV
  rename_i a e bad b
  split at hF
  rotate_left
  · cases hF
  rename_i l m ha hb
  cases hF
  obtain ⟨rfl, hl⟩ := dInts_inv ha
  obtain ⟨rfl, hm⟩ := dInts_inv hb
  clear ha hb
  refine Top.view (aY.start (n := 30) rfl (by simp)) (aS bA _ _ _ _ ?_)
  have h1 := e78 hl hm
  ((try simp only [aO, SS, TF29PlayNames, aM, setRange, aN, aC, aB, aF, aE, aD, aA, Nat.reduceLT, Nat.reduceEqDiff, Nat.reduceAdd, Nat.reduceMul, Nat.reduceSub, Nat.reduceLeDiff, Nat.reduceBEq, reduceCtorEq, h1, aR]); (repeat' ((first | apply aJ | apply aI | apply aL | apply aK | apply aH | apply aG) <;> intro h <;> simp only [h, SS, TF29PlayNames, aM, setRange, aN, aC, aB, aF, aE, aD, aA, Nat.reduceLT, Nat.reduceEqDiff, Nat.reduceAdd, Nat.reduceMul, Nat.reduceSub, Nat.reduceLeDiff, Nat.reduceBEq, reduceCtorEq, h1, aR])))
  all_goals ((refine hQ _ _ _ (aQ (by first | exact .inl rfl | exact .inr rfl) ?_); simp only [SS, TF29PlayNames, aM, setRange, aN, aC, aB, aF, aE, aD, aA, Nat.reduceLT, Nat.reduceEqDiff, Nat.reduceAdd, Nat.reduceMul, Nat.reduceSub, Nat.reduceLeDiff, Nat.reduceBEq, reduceCtorEq]); simp [listB] at *; try (first | omega | simp [*]))
end Go.Ev
