import Derived.Test.YtcdmpceicmbckaaGreatDoorStA
set_option linter.unusedSimpArgs false
set_option linter.unusedVariables false
namespace Go.Ev
open Go.RowKit Go.Proofs
set_option linter.defProp false
def TF120StB := And.intro (And.intro (And.intro (And.intro (And.intro (@Tryz.underlying3) (@sz3)) (And.intro (@bP) (@I3s))) (And.intro (And.intro (@I3b) (@bN)) (And.intro (@bQ) (And.intro (@Tryz.underlying4) (@sz4))))) (And.intro (And.intro (And.intro (@info4) (@I4s)) (And.intro (@I4b) (And.intro (@zero4) (@grow4)))) (And.intro (And.intro (@Tryz.underlying22) (@sz22)) (And.intro (@info22) (And.intro (@I22s) (@I22b)))))) (And.intro (And.intro (And.intro (And.intro (@zero22) (@grow22)) (And.intro (@Tryz.underlying23) (@sz23))) (And.intro (And.intro (@info23) (@I23s)) (And.intro (@I23b) (And.intro (@zero23) (@grow23))))) (And.intro (And.intro (And.intro (@Tryz.underlying26) (@sz26)) (And.intro (@fok26) (And.intro (@info26) (@I26s)))) (And.intro (And.intro (@I26b) (@zero26)) (And.intro (@grow26) (And.intro (@call177) (@Tryz.results120))))))
def TF146StB := And.intro (And.intro (And.intro (@Tryz.underlying3) (@sz3)) (And.intro (@bP) (@I3s))) (And.intro (And.intro (@I3b) (@bN)) (And.intro (@bQ) (@Tryz.results146)))
def TF154StB := And.intro (And.intro (And.intro (@Tryz.underlying3) (@sz3)) (And.intro (@bP) (@I3s))) (And.intro (And.intro (@I3b) (@bN)) (And.intro (@bQ) (@Tryz.results154)))
def TF175StB := And.intro (And.intro (And.intro (And.intro (And.intro (@Tryz.underlying3) (@sz3)) (And.intro (@bP) (@I3s))) (And.intro (And.intro (@I3b) (@bN)) (And.intro (@bQ) (And.intro (@Tryz.underlying4) (@sz4))))) (And.intro (And.intro (And.intro (@info4) (@I4s)) (And.intro (@I4b) (@zero4))) (And.intro (And.intro (@grow4) (@Tryz.underlying22)) (And.intro (@sz22) (And.intro (@info22) (@I22s)))))) (And.intro (And.intro (And.intro (And.intro (@I22b) (@zero22)) (And.intro (@grow22) (@Tryz.underlying23))) (And.intro (And.intro (@sz23) (@info23)) (And.intro (@I23s) (And.intro (@I23b) (@zero23))))) (And.intro (And.intro (And.intro (@grow23) (@Tryz.underlying26)) (And.intro (@sz26) (And.intro (@fok26) (@info26)))) (And.intro (And.intro (@I26s) (@I26b)) (And.intro (@zero26) (And.intro (@grow26) (@Tryz.results175))))))
def TF176StB := And.intro (And.intro (And.intro (And.intro (And.intro (@Tryz.underlying3) (@sz3)) (And.intro (@bP) (@I3s))) (And.intro (And.intro (@I3b) (@bN)) (And.intro (@bQ) (And.intro (@Tryz.underlying4) (@sz4))))) (And.intro (And.intro (And.intro (@info4) (@I4s)) (And.intro (@I4b) (And.intro (@zero4) (@grow4)))) (And.intro (And.intro (@Tryz.underlying22) (@sz22)) (And.intro (@info22) (And.intro (@I22s) (@I22b)))))) (And.intro (And.intro (And.intro (And.intro (@zero22) (@grow22)) (And.intro (@Tryz.underlying23) (@sz23))) (And.intro (And.intro (@info23) (@I23s)) (And.intro (@I23b) (And.intro (@zero23) (@grow23))))) (And.intro (And.intro (And.intro (@Tryz.underlying26) (@sz26)) (And.intro (@fok26) (And.intro (@info26) (@I26s)))) (And.intro (And.intro (@I26b) (@zero26)) (And.intro (@grow26) (And.intro (@call177) (@Tryz.results176))))))
def TF177StB := And.intro (And.intro (And.intro (And.intro (And.intro (@Tryz.underlying3) (@sz3)) (And.intro (@bP) (@I3s))) (And.intro (And.intro (@I3b) (@bN)) (And.intro (@bQ) (And.intro (@Tryz.underlying4) (@sz4))))) (And.intro (And.intro (And.intro (@info4) (@I4s)) (And.intro (@I4b) (@zero4))) (And.intro (And.intro (@grow4) (@Tryz.underlying22)) (And.intro (@sz22) (And.intro (@info22) (@I22s)))))) (And.intro (And.intro (And.intro (And.intro (@I22b) (@zero22)) (And.intro (@grow22) (@Tryz.underlying23))) (And.intro (And.intro (@sz23) (@info23)) (And.intro (@I23s) (And.intro (@I23b) (@zero23))))) (And.intro (And.intro (And.intro (@grow23) (@Tryz.underlying26)) (And.intro (@sz26) (And.intro (@fok26) (@info26)))) (And.intro (And.intro (@I26s) (@I26b)) (And.intro (@zero26) (And.intro (@grow26) (@Tryz.results177))))))
set_option maxRecDepth 20000
set_option maxHeartbeats 4000000

/-! the next slot -/
def behC (a : Int) : Int := a.tmod 9 + 1
theorem wbeh (a : Int) : IntKind.i64.wrap (a.tmod 9 + 1) = behC a := by
  have h1 := Int.tmod_lt_of_pos a (b := 9) (by omega)
  have h2 := Int.lt_tmod_of_pos a (b := 9) (by omega)
  unfold behC
  rw [wrap_id] <;> omega
theorem ne9 : ((9 : Int) = 0) = False := by simp
def F1146 : List EVal → Option EVal
  | [.int .i64 a] => some (.int .i64 (behC a))
  | _ => none
theorem e1146 {a : Int} : F1146 [.int .i64 a] = some (.int .i64 (behC a)) := rfl
theorem fn1146 : FnT 146 F1146 := by
  refine Fn.intro mixed aK Tryz.func146 rfl [] (fun _ h => by cases h) ?_
  intro args v hF
  unfold F1146 at hF
  split at hF
  rotate_left
  · cases hF
  intro Q hV
  have hQ := aV.of hV
  rename_i a
  cases hF
  refine Top.view (aH.start (n := 6) rfl (by simp)) (aC aK _ _ _ _ ?_)
  (try simp only [aT, SS, aA, Nat.reduceLT, Nat.reduceEqDiff, reduceCtorEq, wbeh, ne9])
  (refine hQ _ _ _ (aD (by first | exact .inl rfl | exact .inr rfl) ?_); simp only [SS, TF146StB, Nat.reduceLT, Nat.reduceEqDiff, reduceCtorEq])
def F1154 : List EVal → Option EVal
  | [.int .i64 a] => some (.int .i64 (behC a))
  | _ => none
theorem e1154 {a : Int} : F1154 [.int .i64 a] = some (.int .i64 (behC a)) := rfl
theorem fn1154 : FnT 154 F1154 := by
  refine Fn.intro mixed aK Tryz.func154 rfl [] (fun _ h => by cases h) ?_
  intro args v hF
  unfold F1154 at hF
  split at hF
  rotate_left
  · cases hF
  intro Q hV
  have hQ := aV.of hV
  rename_i a
  cases hF
  refine Top.view (aH.start (n := 6) rfl (by simp)) (aC aK _ _ _ _ ?_)
  (try simp only [aT, SS, aA, Nat.reduceLT, Nat.reduceEqDiff, reduceCtorEq, wbeh, ne9])
  (refine hQ _ _ _ (aD (by first | exact .inl rfl | exact .inr rfl) ?_); simp only [SS, TF154StB, Nat.reduceLT, Nat.reduceEqDiff, reduceCtorEq])

/-! the end of a game -/
def leadB (s : St) : Bool := decide (s.c0 < s.c1)
def F1177 : List EVal → Option EVal := onSt fun s => some (.bool (leadB s))
theorem fn1177 : FnT 177 F1177 := by
  refine Fn.intro mixed aK Tryz.func177 rfl [] (fun _ h => by cases h) ?_
  intro args v hF0
  obtain ⟨s, rfl, hF⟩ := onSt_inv hF0
  clear hF0
  cases hF
  intro Q hV
  have hQ := aV.of hV
  refine Top.view (aH.start (n := 10) rfl (by simp)) (aC aK _ _ _ _ ?_)
  (try simp only [aT, SS, TF177StB, aA, Nat.reduceLT, Nat.reduceEqDiff, Nat.reduceAdd, reduceCtorEq, eSt, BND])
  (refine hQ _ _ _ (aD (by first | exact .inl rfl | exact .inr rfl) ?_); simp only [SS, TF177StB, Nat.reduceLT, Nat.reduceEqDiff, reduceCtorEq])
  rfl
def decB (s : St) : Bool := decide (9 ≤ s.inn) && decide (s.half = 1) && leadB s
theorem e1177 {s : St} : F1177 [.agg (eSt s)] = some (.bool (leadB s)) := rfl
def F1120 : List EVal → Option EVal := onSt fun s => some (.bool (decB s))
theorem e1120 {s : St} : F1120 [.agg (eSt s)] = some (.bool (decB s)) := rfl
theorem fn1120 : FnT 120 F1120 := by
  refine Fn.intro mixed aK Tryz.func120 rfl [(177, F1177)] (by simp only [List.forall_mem_cons]; exact ⟨fn1177, fun _ h => by cases h⟩) ?_
  intro args v hF0
  obtain ⟨s, rfl, hF⟩ := onSt_inv hF0
  clear hF0
  cases hF
  intro Q hV
  have hQ := aV.of hV
  refine Top.view (aH.start (n := 15) rfl (by simp)) (aC aK _ _ _ _ ?_)
  have e := e1177 (s := s)
  simp only [eSt] at e
  ((try simp only [aT, SS, TF120StB, aE, setRange, bF, aA, aF, aQ, aP, aJ, aB, Nat.reduceLT, Nat.reduceEqDiff, Nat.reduceAdd, Nat.reduceMul, Nat.reduceSub, Nat.reduceLeDiff, Nat.reduceBEq, reduceCtorEq, eSt, BND, e]); (repeat' ((first | apply wpStep_not | apply wpStep_sym | apply wpCond_not | apply wpCond_sym | apply wpDStep_not | apply wpDStep_sym) <;> intro h <;> simp only [h, SS, TF120StB, aE, setRange, bF, aA, aF, aQ, aP, aJ, aB, Nat.reduceLT, Nat.reduceEqDiff, Nat.reduceAdd, Nat.reduceMul, Nat.reduceSub, Nat.reduceLeDiff, Nat.reduceBEq, reduceCtorEq, eSt, BND, e])))
  all_goals ((refine hQ _ _ _ (aD (by first | exact .inl rfl | exact .inr rfl) ?_); simp only [SS, TF120StB, aE, setRange, bF, aA, aF, aQ, aP, aJ, aB, Nat.reduceLT, Nat.reduceEqDiff, Nat.reduceAdd, Nat.reduceMul, Nat.reduceSub, Nat.reduceLeDiff, Nat.reduceBEq, reduceCtorEq]))
  all_goals (simp_all [decB, eqN])
  all_goals (try (intros; omega))
def lastB (s : St) : Bool := decide (9 ≤ s.inn) && (leadB s || decide (s.half = 1) && (decide (s.c0 ≠ s.c1) || decide (s.inn = 30)))
def F1176 : List EVal → Option EVal := onSt fun s => some (.bool (lastB s))
theorem e1176 {s : St} : F1176 [.agg (eSt s)] = some (.bool (lastB s)) := rfl
theorem fn1176 : FnT 176 F1176 := by
  refine Fn.intro mixed aK Tryz.func176 rfl [(177, F1177)] (by simp only [List.forall_mem_cons]; exact ⟨fn1177, fun _ h => by cases h⟩) ?_
  intro args v hF0
  obtain ⟨s, rfl, hF⟩ := onSt_inv hF0
  clear hF0
  cases hF
  intro Q hV
  have hQ := aV.of hV
  refine Top.view (aH.start (n := 27) rfl (by simp)) (aC aK _ _ _ _ ?_)
  have e := e1177 (s := s)
  simp only [eSt] at e
  ((try simp only [aT, SS, TF176StB, aE, setRange, bF, aA, aF, aQ, aP, aJ, aB, Nat.reduceLT, Nat.reduceEqDiff, Nat.reduceAdd, Nat.reduceMul, Nat.reduceSub, Nat.reduceLeDiff, Nat.reduceBEq, reduceCtorEq, eSt, BND, e]); (repeat' ((first | apply wpStep_not | apply wpStep_sym | apply wpCond_not | apply wpCond_sym | apply wpDStep_not | apply wpDStep_sym) <;> intro h <;> simp only [h, SS, TF176StB, aE, setRange, bF, aA, aF, aQ, aP, aJ, aB, Nat.reduceLT, Nat.reduceEqDiff, Nat.reduceAdd, Nat.reduceMul, Nat.reduceSub, Nat.reduceLeDiff, Nat.reduceBEq, reduceCtorEq, eSt, BND, e])))
  all_goals ((refine hQ _ _ _ (aD (by first | exact .inl rfl | exact .inr rfl) ?_); simp only [SS, TF176StB, aE, setRange, bF, aA, aF, aQ, aP, aJ, aB, Nat.reduceLT, Nat.reduceEqDiff, Nat.reduceAdd, Nat.reduceMul, Nat.reduceSub, Nat.reduceLeDiff, Nat.reduceBEq, reduceCtorEq]))
  all_goals (simp_all [lastB, eqN])
  all_goals (try (intros; omega))
def clr (s : St) : St := { s with outs := 0, balls := 0, strikes := 0, b1 := 0, b2 := 0, b3 := 0 }
def F1175 : List EVal → Option EVal := onSt fun s => some (.agg (eSt (clr s)))
theorem e1175 {s : St} : F1175 [.agg (eSt s)] = some (.agg (eSt (clr s))) := rfl
theorem fn1175 : FnT 175 F1175 := by
  refine Fn.intro mixed aK Tryz.func175 rfl [] (fun _ h => by cases h) ?_
  intro args v hF0
  obtain ⟨s, rfl, hF⟩ := onSt_inv hF0
  clear hF0
  cases hF
  intro Q hV
  have hQ := aV.of hV
  refine Top.view (aH.start (n := 9) rfl (by simp)) (aC aK _ _ _ _ ?_)
  (try simp only [aT, SS, TF175StB, setRange, aA, aJ, Nat.reduceLT, Nat.reduceEqDiff, Nat.reduceAdd, Nat.reduceLeDiff, reduceCtorEq, eSt])
  (refine hQ _ _ _ (aD (by first | exact .inl rfl | exact .inr rfl) ?_); simp only [SS, TF175StB, Nat.reduceLT, Nat.reduceEqDiff, Nat.reduceAdd, reduceCtorEq, eSt, clr])
end Go.Ev
