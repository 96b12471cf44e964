import Derived.Test.YtcdmpceicmbckaaGreatDoorEvD
import Derived.Test.YtcdmpceicmbckaaGreatDoorStB
set_option linter.unusedSimpArgs false
set_option linter.unusedVariables false
namespace Go.Ev
open Go.RowKit Go.Proofs
set_option linter.defProp false
def TF69StD := And.intro (And.intro (And.intro (And.intro (And.intro (@Tryz.underlying3) (@sz3)) (And.intro (@bP) (@I3s))) (And.intro (And.intro (@I3b) (@bN)) (And.intro (@bQ) (And.intro (@Tryz.underlying4) (@sz4))))) (And.intro (And.intro (And.intro (@info4) (@I4s)) (And.intro (@I4b) (And.intro (@zero4) (@grow4)))) (And.intro (And.intro (@Tryz.underlying22) (@sz22)) (And.intro (@info22) (And.intro (@I22s) (@I22b)))))) (And.intro (And.intro (And.intro (And.intro (@zero22) (@grow22)) (And.intro (@Tryz.underlying23) (@sz23))) (And.intro (And.intro (@info23) (@I23s)) (And.intro (@I23b) (And.intro (@zero23) (@grow23))))) (And.intro (And.intro (And.intro (@Tryz.underlying26) (@sz26)) (And.intro (@fok26) (And.intro (@info26) (@I26s)))) (And.intro (And.intro (@I26b) (@zero26)) (And.intro (@grow26) (And.intro (@call118) (@Tryz.results69))))))
def TF70StD := And.intro (And.intro (And.intro (And.intro (And.intro (@Tryz.underlying3) (@sz3)) (And.intro (@bP) (@I3s))) (And.intro (And.intro (@I3b) (@bN)) (And.intro (@bQ) (And.intro (@Tryz.underlying4) (@sz4))))) (And.intro (And.intro (And.intro (@info4) (@I4s)) (And.intro (@I4b) (And.intro (@zero4) (@grow4)))) (And.intro (And.intro (@Tryz.underlying22) (@sz22)) (And.intro (@info22) (And.intro (@I22s) (@I22b)))))) (And.intro (And.intro (And.intro (And.intro (@zero22) (@grow22)) (And.intro (@Tryz.underlying23) (@sz23))) (And.intro (And.intro (@info23) (@I23s)) (And.intro (@I23b) (And.intro (@zero23) (@grow23))))) (And.intro (And.intro (And.intro (@Tryz.underlying26) (@sz26)) (And.intro (@fok26) (And.intro (@info26) (@I26s)))) (And.intro (And.intro (@I26b) (@zero26)) (And.intro (@grow26) (And.intro (@call118) (@Tryz.results70))))))
def TF71StD := And.intro (And.intro (And.intro (And.intro (And.intro (@Tryz.underlying3) (@sz3)) (And.intro (@bP) (@I3s))) (And.intro (And.intro (@I3b) (@bN)) (And.intro (@bQ) (And.intro (@Tryz.underlying4) (@sz4))))) (And.intro (And.intro (And.intro (@info4) (@I4s)) (And.intro (@I4b) (And.intro (@zero4) (@grow4)))) (And.intro (And.intro (@Tryz.underlying22) (@sz22)) (And.intro (@info22) (And.intro (@I22s) (@I22b)))))) (And.intro (And.intro (And.intro (And.intro (@zero22) (@grow22)) (And.intro (@Tryz.underlying23) (@sz23))) (And.intro (And.intro (@info23) (@I23s)) (And.intro (@I23b) (And.intro (@zero23) (@grow23))))) (And.intro (And.intro (And.intro (@Tryz.underlying26) (@sz26)) (And.intro (@fok26) (And.intro (@info26) (@I26s)))) (And.intro (And.intro (@I26b) (@zero26)) (And.intro (@grow26) (And.intro (@call118) (@Tryz.results71))))))
set_option maxRecDepth 20000
set_option maxHeartbeats 4000000

def innE (s : St) : Int := if inB s.inn 1 30 = true then 0 else 3
def F1069 : List EVal → Option EVal := onSt fun s => some (.int .i64 (innE s))
theorem fn1069 : FnT 69 F1069 := by
  refine Fn.intro mixed aK Tryz.func69 rfl [(118, F1118)] (by simp only [List.forall_mem_cons]; exact ⟨fn1118, fun _ h => by cases h⟩) ?_
  intro args v hF0
  obtain ⟨s, rfl, hF⟩ := onSt_inv hF0
  clear hF0
  cases hF
  intro Q hV
  have hQ := aV.of hV
  refine Top.view (aH.start (n := 7) rfl (by simp)) (aC aK _ _ _ _ ?_)
  ((try simp only [aT, SS, TF69StD, aE, setRange, bF, aA, aF, aQ, aP, aJ, aB, Nat.reduceLT, Nat.reduceEqDiff, Nat.reduceAdd, Nat.reduceMul, Nat.reduceSub, Nat.reduceLeDiff, Nat.reduceBEq, reduceCtorEq, eSt, BND, e1118]); (repeat' ((first | apply wpStep_not | apply wpStep_sym | apply wpCond_not | apply wpCond_sym | apply wpDStep_not | apply wpDStep_sym) <;> intro h <;> simp only [h, SS, TF69StD, aE, setRange, bF, aA, aF, aQ, aP, aJ, aB, Nat.reduceLT, Nat.reduceEqDiff, Nat.reduceAdd, Nat.reduceMul, Nat.reduceSub, Nat.reduceLeDiff, Nat.reduceBEq, reduceCtorEq, eSt, BND, e1118])))
  all_goals ((refine hQ _ _ _ (aD (by first | exact .inl rfl | exact .inr rfl) ?_); simp only [SS, TF69StD, aE, setRange, bF, aA, aF, aQ, aP, aJ, aB, Nat.reduceLT, Nat.reduceEqDiff, Nat.reduceAdd, Nat.reduceMul, Nat.reduceSub, Nat.reduceLeDiff, Nat.reduceBEq, reduceCtorEq]))
  all_goals (simp_all [innE])
def halfE (s : St) : Int := if inB s.half 0 1 = true then 0 else 17
def F1070 : List EVal → Option EVal := onSt fun s => some (.int .i64 (halfE s))
theorem fn1070 : FnT 70 F1070 := by
  refine Fn.intro mixed aK Tryz.func70 rfl [(118, F1118)] (by simp only [List.forall_mem_cons]; exact ⟨fn1118, fun _ h => by cases h⟩) ?_
  intro args v hF0
  obtain ⟨s, rfl, hF⟩ := onSt_inv hF0
  clear hF0
  cases hF
  intro Q hV
  have hQ := aV.of hV
  refine Top.view (aH.start (n := 7) rfl (by simp)) (aC aK _ _ _ _ ?_)
  ((try simp only [aT, SS, TF70StD, aE, setRange, bF, aA, aF, aQ, aP, aJ, aB, Nat.reduceLT, Nat.reduceEqDiff, Nat.reduceAdd, Nat.reduceMul, Nat.reduceSub, Nat.reduceLeDiff, Nat.reduceBEq, reduceCtorEq, eSt, BND, e1118]); (repeat' ((first | apply wpStep_not | apply wpStep_sym | apply wpCond_not | apply wpCond_sym | apply wpDStep_not | apply wpDStep_sym) <;> intro h <;> simp only [h, SS, TF70StD, aE, setRange, bF, aA, aF, aQ, aP, aJ, aB, Nat.reduceLT, Nat.reduceEqDiff, Nat.reduceAdd, Nat.reduceMul, Nat.reduceSub, Nat.reduceLeDiff, Nat.reduceBEq, reduceCtorEq, eSt, BND, e1118])))
  all_goals ((refine hQ _ _ _ (aD (by first | exact .inl rfl | exact .inr rfl) ?_); simp only [SS, TF70StD, aE, setRange, bF, aA, aF, aQ, aP, aJ, aB, Nat.reduceLT, Nat.reduceEqDiff, Nat.reduceAdd, Nat.reduceMul, Nat.reduceSub, Nat.reduceLeDiff, Nat.reduceBEq, reduceCtorEq]))
  all_goals (simp_all [halfE])

/-! the numbers -/
def cnB (s : St) : Bool := inB s.outs 0 2 && inB s.balls 0 3 && inB s.strikes 0 2
def baB (s : St) : Nat → Bool
  | 0 => cnB s
  | 1 => cnB s && inB s.b1 0 9
  | 2 => cnB s && inB s.b1 0 9 && inB s.b2 0 9
  | _ => cnB s && inB s.b1 0 9 && inB s.b2 0 9 && inB s.b3 0 9
def nuB (s : St) : Nat → Bool
  | 0 => baB s 3
  | 1 => baB s 3 && inB s.n0 1 9 && inB s.c0 0 9999
  | _ => baB s 3 && inB s.n0 1 9 && inB s.c0 0 9999 && inB s.n1 1 9 && inB s.c1 0 9999
def numE (s : St) : Int := if nuB s 2 = true then 0 else 3
def F1071 : List EVal → Option EVal := onSt fun s => some (.int .i64 (numE s))
theorem up0 : IntKind.i64.wrap ((0 : Int) + 1) = 1 := by decide
theorem uq0 : IntKind.i64.wrap (1 : Int) = 1 := by decide
theorem up1 : IntKind.i64.wrap ((1 : Int) + 1) = 2 := by decide
theorem uq1 : IntKind.i64.wrap (2 : Int) = 2 := by decide
theorem up2 : IntKind.i64.wrap ((2 : Int) + 1) = 3 := by decide
theorem uq2 : IntKind.i64.wrap (3 : Int) = 3 := by decide
theorem up3 : IntKind.i64.wrap ((3 : Int) + 1) = 4 := by decide
theorem uq3 : IntKind.i64.wrap (4 : Int) = 4 := by decide
theorem up4 : IntKind.i64.wrap ((4 : Int) + 1) = 5 := by decide
theorem uq4 : IntKind.i64.wrap (5 : Int) = 5 := by decide
theorem lt0_2 : decide ((0 : Int) < 2) = true := by decide
theorem lt1_2 : decide ((1 : Int) < 2) = true := by decide
theorem lt2_2 : decide ((2 : Int) < 2) = false := by decide
theorem lt0_3 : decide ((0 : Int) < 3) = true := by decide
theorem lt1_3 : decide ((1 : Int) < 3) = true := by decide
theorem lt2_3 : decide ((2 : Int) < 3) = true := by decide
theorem lt3_3 : decide ((3 : Int) < 3) = false := by decide
theorem lt0_5 : decide ((0 : Int) < 5) = true := by decide
theorem lt1_5 : decide ((1 : Int) < 5) = true := by decide
theorem lt2_5 : decide ((2 : Int) < 5) = true := by decide
theorem lt3_5 : decide ((3 : Int) < 5) = true := by decide
theorem lt4_5 : decide ((4 : Int) < 5) = true := by decide
theorem lt5_5 : decide ((5 : Int) < 5) = false := by decide
theorem nc1 : ((1 : Nat) : Int) = 1 := by rfl
theorem nc2 : ((2 : Nat) : Int) = 2 := by rfl
theorem nc3 : ((3 : Nat) : Int) = 3 := by rfl
theorem nc4 : ((4 : Nat) : Int) = 4 := by rfl
theorem nc5 : ((5 : Nat) : Int) = 5 := by rfl
theorem z1 : ((0 : Int) ≤ 1) = True := by simp
theorem tn1 : Int.toNat 1 = 1 := by rfl
theorem z2 : ((0 : Int) ≤ 2) = True := by simp
theorem tn2 : Int.toNat 2 = 2 := by rfl
theorem z3 : ((0 : Int) ≤ 3) = True := by simp
theorem tn3 : Int.toNat 3 = 3 := by rfl
theorem z4 : ((0 : Int) ≤ 4) = True := by simp
theorem tn4 : Int.toNat 4 = 4 := by rfl
theorem bb0_2 : ((0 : Int) < 2) = True := by simp
theorem bb1_2 : ((1 : Int) < 2) = True := by simp
theorem bb0_3 : ((0 : Int) < 3) = True := by simp
theorem bb1_3 : ((1 : Int) < 3) = True := by simp
theorem bb2_3 : ((2 : Int) < 3) = True := by simp
theorem bb0_5 : ((0 : Int) < 5) = True := by simp
theorem bb1_5 : ((1 : Int) < 5) = True := by simp
theorem bb2_5 : ((2 : Int) < 5) = True := by simp
theorem bb3_5 : ((3 : Int) < 5) = True := by simp
theorem bb4_5 : ((4 : Int) < 5) = True := by simp
set_option linter.defProp false
def UP := (And.intro (And.intro (And.intro (And.intro (And.intro up0 uq0) (And.intro up1 (And.intro uq1 up2))) (And.intro (And.intro uq2 (And.intro up3 uq3)) (And.intro up4 (And.intro uq4 lt0_2)))) (And.intro (And.intro (And.intro lt1_2 (And.intro lt2_2 lt0_3)) (And.intro lt1_3 (And.intro lt2_3 lt3_3))) (And.intro (And.intro lt0_5 (And.intro lt1_5 lt2_5)) (And.intro lt3_5 (And.intro lt4_5 lt5_5))))) (And.intro (And.intro (And.intro (And.intro nc1 nc2) (And.intro nc3 (And.intro nc4 nc5))) (And.intro (And.intro z1 (And.intro tn1 z2)) (And.intro tn2 (And.intro z3 tn3)))) (And.intro (And.intro (And.intro z4 (And.intro tn4 bb0_2)) (And.intro bb1_2 (And.intro bb0_3 bb1_3))) (And.intro (And.intro bb2_3 (And.intro bb0_5 bb1_5)) (And.intro bb2_5 (And.intro bb3_5 bb4_5))))))
theorem fn1071 : FnT 71 F1071 := by
  refine Fn.intro mixed aK Tryz.func71 rfl [(118, F1118)] (by simp only [List.forall_mem_cons]; exact ⟨fn1118, fun _ h => by cases h⟩) ?_
  intro args v hF0
  obtain ⟨s, rfl, hF⟩ := onSt_inv hF0
  clear hF0
  cases hF
  intro Q hV
  have hQ := aV.of hV
  refine Top.view (aH.start (n := 52) rfl (by simp)) ?_
  refine Top.seam (σ := Unit) aK (fun _ => mkF 52 [(1, .ptr 0 0)]) (fun _ => mkH 1 [(0, some (.row [.int .i64 s.inn, .int .i64 s.half, .int .i64 s.outs, .int .i64 s.balls, .int .i64 s.strikes, .int .i64 s.b1, .int .i64 s.b2, .int .i64 s.b3, .int .i64 s.n0, .int .i64 s.n1, .int .i64 s.c0, .int .i64 s.c1, .bool s.over] 26 0 0 false))] 0 []) ?_ ?_
  · intro R hR
    (try simp only [aT, SS, aA, Nat.reduceLT, eSt])
    exact hR () _ _ (aH.drop (by simp [aX, below]) (by simp [aG, belowO, below, aN]) (by simp [aG]))
  intro _
  refine Top.seam (σ := Unit) aK (fun _ => mkF 52 [(3, .bool (baB s 0)), (1, .ptr 0 0)]) (fun _ => mkH 1 [(0, some (.row [.int .i64 s.inn, .int .i64 s.half, .int .i64 s.outs, .int .i64 s.balls, .int .i64 s.strikes, .int .i64 s.b1, .int .i64 s.b2, .int .i64 s.b3, .int .i64 s.n0, .int .i64 s.n1, .int .i64 s.c0, .int .i64 s.c1, .bool s.over] 26 0 0 false))] 0 []) ?_ ?_
  · intro R hR
    have hb : baB s 0 = (inB s.outs 0 2 && inB s.balls 0 3 && inB s.strikes 0 2) := rfl
    cases h1 : inB s.outs 0 2 <;> cases h2 : inB s.balls 0 3 <;> cases h3 : inB s.strikes 0 2 <;> simp only [h1, h2, h3, Bool.and_true, Bool.and_false] at hb <;> simp only [hb] at hR
    all_goals ((try simp only [SS, TF71StD, aE, aA, Nat.reduceLT, Nat.reduceEqDiff, reduceCtorEq, e1118, h1, h2, h3]))
    all_goals (exact hR () _ _ (aH.drop (by simp [aX, below]) (by simp [aG, belowO, below, aN]) (by simp [aG])))
  intro _
  refine Top.seam (σ := Unit) aK (fun _ => mkF 52 [(3, .bool (baB s 3)), (1, .ptr 0 0)]) (fun _ => mkH 1 [(0, some (.row [.int .i64 s.inn, .int .i64 s.half, .int .i64 s.outs, .int .i64 s.balls, .int .i64 s.strikes, .int .i64 s.b1, .int .i64 s.b2, .int .i64 s.b3, .int .i64 s.n0, .int .i64 s.n1, .int .i64 s.c0, .int .i64 s.c1, .bool s.over] 26 0 0 false))] 0 []) ?_ ?_
  · intro R hR
    (try simp only [SS, TF71StD, aA, Nat.reduceLT, Nat.reduceEqDiff, Nat.reduceAdd, reduceCtorEq])
    refine wp_of_top (Top.loop (I := fun x : { k : Nat // k ≤ 3 } => (mkF 52 [(22, .int .i64 ((x.1 : Nat) : Int)), (21, .agg [.int .i64 s.b1, .int .i64 s.b2, .int .i64 s.b3]), (3, .bool (baB s x.1)), (1, .ptr 0 0)], mkH 1 [(0, some (.row [.int .i64 s.inn, .int .i64 s.half, .int .i64 s.outs, .int .i64 s.balls, .int .i64 s.strikes, .int .i64 s.b1, .int .i64 s.b2, .int .i64 s.b3, .int .i64 s.n0, .int .i64 s.n1, .int .i64 s.c0, .int .i64 s.c1, .bool s.over] 26 0 0 false))] 0 [])) (μ := fun x => 3 - x.1) ⟨0, by omega⟩ (aH.sub (by simp [aX])) ?_)
    rintro ⟨k, hk⟩
    refine aC aK _ _ _ _ ?_
    dsimp only
    obtain rfl | rfl | rfl | rfl : k = 0 ∨ k = 1 ∨ k = 2 ∨ k = 3 := by omega
    · have hn : baB s 1 = (baB s 0 && inB s.b1 0 9) := rfl
      cases hb : baB s 0
      all_goals (rw [hb] at hn; simp only [Bool.true_and, Bool.false_and] at hn)
      all_goals ((try simp only [SS, TF71StD, aE, aA, Nat.reduceLT, Nat.reduceEqDiff, Nat.reduceSub, UP, e1118]))
      all_goals (refine ⟨⟨1, by omega⟩, by simp, ?_⟩; rw [hn]; exact (aH.drop (by simp [aX, below, aN]) (by simp [aG, belowO, below, aN]) (by simp [aG])))
    · have hn : baB s 2 = (baB s 1 && inB s.b2 0 9) := rfl
      cases hb : baB s 1
      all_goals (rw [hb] at hn; simp only [Bool.true_and, Bool.false_and] at hn)
      all_goals ((try simp only [SS, TF71StD, aE, aA, Nat.reduceLT, Nat.reduceEqDiff, Nat.reduceSub, UP, BND, e1118]))
      all_goals (refine ⟨⟨2, by omega⟩, by simp, ?_⟩; rw [hn]; exact (aH.drop (by simp [aX, below, aN]) (by simp [aG, belowO, below, aN]) (by simp [aG])))
    · have hn : baB s 3 = (baB s 2 && inB s.b3 0 9) := rfl
      cases hb : baB s 2
      all_goals (rw [hb] at hn; simp only [Bool.true_and, Bool.false_and] at hn)
      all_goals ((try simp only [SS, TF71StD, aE, aA, Nat.reduceLT, Nat.reduceEqDiff, Nat.reduceSub, UP, BND, e1118]))
      all_goals (refine ⟨⟨3, by omega⟩, by simp, ?_⟩; rw [hn]; exact (aH.drop (by simp [aX, below, aN]) (by simp [aG, belowO, below, aN]) (by simp [aG])))
    · (try simp only [SS, aA, Nat.reduceLT, Nat.reduceEqDiff, UP])
      exact hR () _ _ (aH.drop (by simp [aX, below]) (by simp [aG, belowO, below, aN]) (by simp [aG]))
  intro _
  refine Top.seam (σ := Unit) aK (fun _ => mkF 52 [(3, .bool (nuB s 2))]) (fun _ => mkH 1 [(0, some (.row [.int .i64 s.inn, .int .i64 s.half, .int .i64 s.outs, .int .i64 s.balls, .int .i64 s.strikes, .int .i64 s.b1, .int .i64 s.b2, .int .i64 s.b3, .int .i64 s.n0, .int .i64 s.n1, .int .i64 s.c0, .int .i64 s.c1, .bool s.over] 26 0 0 false))] 0 []) ?_ ?_
  · intro R hR
    (try simp only [SS, aA, Nat.reduceLT])
    refine wp_of_top (Top.loop (I := fun x : { k : Nat // k ≤ 2 } => (mkF 52 [(31, .int .i64 ((x.1 : Nat) : Int)), (3, .bool (nuB s x.1)), (1, .ptr 0 0)], mkH 1 [(0, some (.row [.int .i64 s.inn, .int .i64 s.half, .int .i64 s.outs, .int .i64 s.balls, .int .i64 s.strikes, .int .i64 s.b1, .int .i64 s.b2, .int .i64 s.b3, .int .i64 s.n0, .int .i64 s.n1, .int .i64 s.c0, .int .i64 s.c1, .bool s.over] 26 0 0 false))] 0 [])) (μ := fun x => 2 - x.1) ⟨0, by omega⟩ (aH.sub (by simp [aX, show nuB s 0 = baB s 3 from rfl])) ?_)
    rintro ⟨k, hk⟩
    refine aC aK _ _ _ _ ?_
    dsimp only
    obtain rfl | rfl | rfl : k = 0 ∨ k = 1 ∨ k = 2 := by omega
    · have hn : nuB s 1 = (nuB s 0 && inB s.n0 1 9 && inB s.c0 0 9999) := rfl
      cases hb : nuB s 0 <;> cases h1 : inB s.n0 1 9
      all_goals (rw [hb, h1] at hn; simp only [Bool.true_and, Bool.false_and] at hn)
      all_goals ((try simp only [SS, TF71StD, aE, aA, Nat.reduceLT, Nat.reduceEqDiff, Nat.reduceAdd, Nat.reduceSub, reduceCtorEq, UP, e1118, h1]))
      all_goals (refine ⟨⟨1, by omega⟩, by simp, ?_⟩; rw [hn]; exact (aH.drop (by simp [aX, below]) (by simp [aG, belowO, below, aN]) (by simp [aG])))
    · have hn : nuB s 2 = (nuB s 1 && inB s.n1 1 9 && inB s.c1 0 9999) := rfl
      cases hb : nuB s 1 <;> cases h1 : inB s.n1 1 9
      all_goals (rw [hb, h1] at hn; simp only [Bool.true_and, Bool.false_and] at hn)
      all_goals ((try simp only [SS, TF71StD, aE, aA, Nat.reduceLT, Nat.reduceEqDiff, Nat.reduceAdd, Nat.reduceSub, reduceCtorEq, UP, BND, e1118, h1]))
      all_goals (refine ⟨⟨2, by omega⟩, by simp, ?_⟩; rw [hn]; exact (aH.drop (by simp [aX, below]) (by simp [aG, belowO, below, aN]) (by simp [aG])))
    · (try simp only [SS, aA, Nat.reduceLT, Nat.reduceEqDiff, UP])
      exact hR () _ _ (aH.drop (by simp [aX, below]) (by simp [aG, belowO, below, aN]) (by simp [aG]))
  intro _
  refine aC aK _ _ _ _ ?_
  have hn : numE s = if nuB s 2 = true then 0 else 3 := rfl
  rw [hn] at hQ
  cases hb : nuB s 2
  all_goals ((try simp only [SS, aA, Nat.reduceLT, Nat.reduceEqDiff]))
  all_goals ((refine hQ _ _ _ (aD (by first | exact .inl rfl | exact .inr rfl) ?_); simp only [SS, TF71StD, Nat.reduceLT, Nat.reduceEqDiff]))
  all_goals (simp [hb])
end Go.Ev
