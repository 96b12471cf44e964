import Derived.Test.YtcdmpceicmbckaaGreatDoorStB
set_option linter.unusedSimpArgs false
set_option linter.unusedVariables false
namespace Go.Ev
open Go.RowKit Go.Proofs
set_option linter.defProp false
def TF72StC := And.intro (And.intro (And.intro (And.intro (And.intro (@Tryz.underlying3) (@sz3)) (And.intro (@bP) (@I3s))) (And.intro (And.intro (@I3b) (@bN)) (And.intro (@bQ) (And.intro (@Tryz.underlying4) (@sz4))))) (And.intro (And.intro (And.intro (@info4) (@I4s)) (And.intro (@I4b) (And.intro (@zero4) (@grow4)))) (And.intro (And.intro (@Tryz.underlying22) (@sz22)) (And.intro (@info22) (And.intro (@I22s) (@I22b)))))) (And.intro (And.intro (And.intro (And.intro (@zero22) (@grow22)) (And.intro (@Tryz.underlying23) (And.intro (@sz23) (@info23)))) (And.intro (And.intro (@I23s) (@I23b)) (And.intro (@zero23) (And.intro (@grow23) (@Tryz.underlying26))))) (And.intro (And.intro (And.intro (@sz26) (@fok26)) (And.intro (@info26) (And.intro (@I26s) (@I26b)))) (And.intro (And.intro (@zero26) (@grow26)) (And.intro (@call119) (And.intro (@call120) (@Tryz.results72))))))
def TF119StC := And.intro (And.intro (And.intro (And.intro (And.intro (@Tryz.underlying3) (@sz3)) (And.intro (@bP) (@I3s))) (And.intro (And.intro (@I3b) (@bN)) (And.intro (@bQ) (And.intro (@Tryz.underlying4) (@sz4))))) (And.intro (And.intro (And.intro (@info4) (@I4s)) (And.intro (@I4b) (And.intro (@zero4) (@grow4)))) (And.intro (And.intro (@Tryz.underlying22) (@sz22)) (And.intro (@info22) (And.intro (@I22s) (@I22b)))))) (And.intro (And.intro (And.intro (And.intro (@zero22) (@grow22)) (And.intro (@Tryz.underlying23) (And.intro (@sz23) (@info23)))) (And.intro (And.intro (@I23s) (@I23b)) (And.intro (@zero23) (And.intro (@grow23) (@Tryz.underlying26))))) (And.intro (And.intro (And.intro (@sz26) (@fok26)) (And.intro (@info26) (And.intro (@I26s) (@I26b)))) (And.intro (And.intro (@zero26) (@grow26)) (And.intro (@call175) (And.intro (@call176) (@Tryz.results119))))))
set_option maxRecDepth 20000
set_option maxHeartbeats 4000000

theorem eqSt {s t : St} : eqX Tryz.prog 26 (.agg (eSt s)) (.agg (eSt t)) = some (decide (s = t)) := by
  have hg : Tryz.prog.eqGuardType Tryz.prog.depth 26 = false := by kernel_rfl
  have hh : Tryz.prog.stoodInHeld 26 = false := by kernel_rfl
  obtain ⟨a1, a2, a3, a4, a5, a6, a7, a8, a9, a10, a11, a12, a13⟩ := s
  obtain ⟨b1, b2, b3, b4, b5, b6, b7, b8, b9, b10, b11, b12, b13⟩ := t
  simp only [eqX, Tryz.underlying26, eqAgg, hg, hh, eqFieldsE, eqPartE, eqArrE, aggT, Tryz.underlying22, Tryz.underlying23, Tryz.underlying3, Tryz.underlying4, sz3, sz22, sz23, takeN, eSt, eqItemsE, eqBasic, eqIntE, eqBoolE, List.getElem?_cons_zero, List.getElem?_cons_succ, List.drop_succ_cons, List.drop_zero, List.take_succ_cons, List.take_zero, List.length_cons, List.length_nil, if_true, St.mk.injEq, eqN]
  simp only [show ("Inning" = "_") = False by simp, show ("Half" = "_") = False by simp, show ("Outs" = "_") = False by simp, show ("Balls" = "_") = False by simp, show ("Strikes" = "_") = False by simp, show ("Bases" = "_") = False by simp, show ("Next" = "_") = False by simp, show ("Score" = "_") = False by simp, show ("Over" = "_") = False by simp, if_false]
  by_cases h1 : a1 = b1 <;> simp only [h1, decide_true, decide_false, true_and, false_and]
  by_cases h2 : a2 = b2 <;> simp only [h2, decide_true, decide_false, true_and, false_and]
  by_cases h3 : a3 = b3 <;> simp only [h3, decide_true, decide_false, true_and, false_and]
  by_cases h4 : a4 = b4 <;> simp only [h4, decide_true, decide_false, true_and, false_and]
  by_cases h5 : a5 = b5 <;> simp only [h5, decide_true, decide_false, true_and, false_and]
  by_cases h6 : a6 = b6 <;> simp only [h6, decide_true, decide_false, true_and, false_and]
  by_cases h7 : a7 = b7 <;> simp only [h7, decide_true, decide_false, true_and, false_and]
  by_cases h8 : a8 = b8 <;> simp only [h8, decide_true, decide_false, true_and, false_and]
  by_cases h9 : a9 = b9 <;> simp only [h9, decide_true, decide_false, true_and, false_and]
  by_cases h10 : a10 = b10 <;> simp only [h10, decide_true, decide_false, true_and, false_and]
  by_cases h11 : a11 = b11 <;> simp only [h11, decide_true, decide_false, true_and, false_and]
  by_cases h12 : a12 = b12 <;> simp only [h12, decide_true, decide_false, true_and, false_and]
  cases a13 <;> cases b13 <;> rfl

def overB (s : St) : Bool := decide (s = clr s) && lastB s
def F1119 : List EVal → Option EVal := onSt fun s => some (.bool (overB s))
theorem e1119 {s : St} : F1119 [.agg (eSt s)] = some (.bool (overB s)) := rfl
theorem fn1119 : FnT 119 F1119 := by
  refine Fn.intro mixed aK Tryz.func119 rfl [(175, F1175), (176, F1176)] (by simp only [List.forall_mem_cons]; exact ⟨fn1175, fn1176, fun _ h => by cases h⟩) ?_
  intro args v hF0
  obtain ⟨s, rfl, hF⟩ := onSt_inv hF0
  clear hF0
  cases hF
  intro Q hV
  have hQ := aV.of hV
  refine Top.view (aH.start (n := 11) rfl (by simp)) (aC aK _ _ _ _ ?_)
  have e1 := e1175 (s := s)
  have e2 := e1176 (s := s)
  have e3 := eqSt (s := s) (t := clr s)
  have hov : overB s = (decide (s = clr s) && lastB s) := rfl
  rw [hov] at hQ
  clear hov
  have u : eSt s = [.int .i64 s.inn, .int .i64 s.half, .int .i64 s.outs, .int .i64 s.balls, .int .i64 s.strikes, .int .i64 s.b1, .int .i64 s.b2, .int .i64 s.b3, .int .i64 s.n0, .int .i64 s.n1, .int .i64 s.c0, .int .i64 s.c1, .bool s.over] := rfl
  simp only [u] at e1 e2 e3
  generalize clr s = t at e1 e3 hQ
  (try simp only [aT, SS, aA, Nat.reduceLT, u])
  refine wp_of_draw (Top.draw mixed aK (by kernel_rfl) ?_)
  ((try simp only [aT, SS, TF119StC, aE, setRange, bF, aA, aF, aQ, aP, aJ, aB, Nat.reduceLT, Nat.reduceEqDiff, Nat.reduceAdd, Nat.reduceMul, Nat.reduceSub, Nat.reduceLeDiff, Nat.reduceBEq, reduceCtorEq, BND, e1, e2, e3, eOther]); (repeat' ((first | apply wpStep_not | apply wpStep_sym | apply wpCond_not | apply wpCond_sym | apply wpDStep_not | apply wpDStep_sym) <;> intro h <;> simp only [h, SS, TF119StC, aE, setRange, bF, aA, aF, aQ, aP, aJ, aB, Nat.reduceLT, Nat.reduceEqDiff, Nat.reduceAdd, Nat.reduceMul, Nat.reduceSub, Nat.reduceLeDiff, Nat.reduceBEq, reduceCtorEq, BND, e1, e2, e3, eOther])))
  all_goals (refine ⟨by kernel_rfl, ?_⟩)
  all_goals ((try simp only [aT, SS, TF119StC, aE, setRange, bF, aA, aF, aQ, aP, aJ, aB, Nat.reduceLT, Nat.reduceEqDiff, Nat.reduceAdd, Nat.reduceMul, Nat.reduceSub, Nat.reduceLeDiff, Nat.reduceBEq, reduceCtorEq]))
  all_goals ((refine hQ _ _ _ (aD (by first | exact .inl rfl | exact .inr rfl) ?_); simp only [SS, TF119StC, Nat.reduceLT, Nat.reduceEqDiff, reduceCtorEq]))
  all_goals (simp_all)

def endE (s : St) : Int := if (s.over && !overB s || !s.over && decB s) = true then 19 else 0
def F1072 : List EVal → Option EVal := onSt fun s => some (.int .i64 (endE s))
theorem fn1072 : FnT 72 F1072 := by
  refine Fn.intro mixed aK Tryz.func72 rfl [(119, F1119), (120, F1120)] (by simp only [List.forall_mem_cons]; exact ⟨fn1119, fn1120, fun _ h => by cases h⟩) ?_
  intro args v hF0
  obtain ⟨s, rfl, hF⟩ := onSt_inv hF0
  clear hF0
  cases hF
  intro Q hV
  have hQ := aV.of hV
  refine Top.view (aH.start (n := 19) rfl (by simp)) (aC aK _ _ _ _ ?_)
  have e1 := e1119 (s := s)
  have e2 := e1120 (s := s)
  have u : eSt s = [.int .i64 s.inn, .int .i64 s.half, .int .i64 s.outs, .int .i64 s.balls, .int .i64 s.strikes, .int .i64 s.b1, .int .i64 s.b2, .int .i64 s.b3, .int .i64 s.n0, .int .i64 s.n1, .int .i64 s.c0, .int .i64 s.c1, .bool s.over] := rfl
  cases ho : s.over with
  | true =>
    simp only [u, ho] at e1 e2
    ((try simp only [aT, SS, TF72StC, aE, setRange, bF, aA, aF, aQ, aP, aJ, aB, Nat.reduceLT, Nat.reduceEqDiff, Nat.reduceAdd, Nat.reduceMul, Nat.reduceSub, Nat.reduceLeDiff, Nat.reduceBEq, reduceCtorEq, u, ho, BND, e1, e2]); (repeat' ((first | apply wpStep_not | apply wpStep_sym | apply wpCond_not | apply wpCond_sym | apply wpDStep_not | apply wpDStep_sym) <;> intro h <;> simp only [h, SS, TF72StC, aE, setRange, bF, aA, aF, aQ, aP, aJ, aB, Nat.reduceLT, Nat.reduceEqDiff, Nat.reduceAdd, Nat.reduceMul, Nat.reduceSub, Nat.reduceLeDiff, Nat.reduceBEq, reduceCtorEq, u, ho, BND, e1, e2])))
    all_goals ((refine hQ _ _ _ (aD (by first | exact .inl rfl | exact .inr rfl) ?_); simp only [SS, TF72StC, aE, setRange, bF, aA, aF, aQ, aP, aJ, aB, Nat.reduceLT, Nat.reduceEqDiff, Nat.reduceAdd, Nat.reduceMul, Nat.reduceSub, Nat.reduceLeDiff, Nat.reduceBEq, reduceCtorEq]))
    all_goals (simp_all [endE])
  | false =>
    simp only [u, ho] at e1 e2
    ((try simp only [aT, SS, TF72StC, aE, setRange, bF, aA, aF, aQ, aP, aJ, aB, Nat.reduceLT, Nat.reduceEqDiff, Nat.reduceAdd, Nat.reduceMul, Nat.reduceSub, Nat.reduceLeDiff, Nat.reduceBEq, reduceCtorEq, u, ho, BND, e1, e2]); (repeat' ((first | apply wpStep_not | apply wpStep_sym | apply wpCond_not | apply wpCond_sym | apply wpDStep_not | apply wpDStep_sym) <;> intro h <;> simp only [h, SS, TF72StC, aE, setRange, bF, aA, aF, aQ, aP, aJ, aB, Nat.reduceLT, Nat.reduceEqDiff, Nat.reduceAdd, Nat.reduceMul, Nat.reduceSub, Nat.reduceLeDiff, Nat.reduceBEq, reduceCtorEq, u, ho, BND, e1, e2])))
    all_goals ((refine hQ _ _ _ (aD (by first | exact .inl rfl | exact .inr rfl) ?_); simp only [SS, TF72StC, aE, setRange, bF, aA, aF, aQ, aP, aJ, aB, Nat.reduceLT, Nat.reduceEqDiff, Nat.reduceAdd, Nat.reduceMul, Nat.reduceSub, Nat.reduceLeDiff, Nat.reduceBEq, reduceCtorEq]))
    all_goals (simp_all [endE])
end Go.Ev
