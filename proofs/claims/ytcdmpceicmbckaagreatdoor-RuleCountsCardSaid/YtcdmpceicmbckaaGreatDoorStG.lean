import Derived.Test.YtcdmpceicmbckaaGreatDoorStF
set_option linter.unusedSimpArgs false
set_option linter.unusedVariables false
namespace Go.Ev
open Go.RowKit Go.Proofs
set_option linter.defProp false
def TF18StG := And.intro (And.intro (And.intro (And.intro (And.intro (@Tryz.underlying3) (And.intro (@sz3) (@bP))) (And.intro (And.intro (@I3s) (@I3b)) (And.intro (@bN) (@bQ)))) (And.intro (And.intro (@Tryz.underlying4) (And.intro (@sz4) (@info4))) (And.intro (And.intro (@I4s) (@I4b)) (And.intro (@zero4) (@grow4))))) (And.intro (And.intro (And.intro (@Tryz.underlying22) (And.intro (@sz22) (@info22))) (And.intro (And.intro (@I22s) (@I22b)) (And.intro (@zero22) (@grow22)))) (And.intro (And.intro (@Tryz.underlying23) (And.intro (@sz23) (@info23))) (And.intro (And.intro (@I23s) (@I23b)) (And.intro (@zero23) (@grow23)))))) (And.intro (And.intro (And.intro (And.intro (@Tryz.underlying26) (And.intro (@sz26) (@fok26))) (And.intro (And.intro (@info26) (@I26s)) (And.intro (@I26b) (@zero26)))) (And.intro (And.intro (@grow26) (And.intro (@Tryz.underlying37) (@sz37))) (And.intro (And.intro (@info37) (@I37s)) (And.intro (@I37b) (@zero37))))) (And.intro (And.intro (And.intro (@grow37) (And.intro (@Tryz.underlying162) (@sz162))) (And.intro (And.intro (@info162) (@I162s)) (And.intro (@I162b) (@zero162)))) (And.intro (And.intro (And.intro (@grow162) (@call60)) (And.intro (@call69) (@call70))) (And.intro (And.intro (@call71) (@call72)) (And.intro (@call73) (@Tryz.results18))))))
set_option maxRecDepth 20000
set_option maxHeartbeats 4000000

theorem e1060a {s : St} : F1060 [69, 70, 71, 72, 73] (fun _ => true) vals5 [.agg (eSt s), .lsl [[.func 69 []], [.func 70 []], [.func 71 []], [.func 72 []], [.func 73 []]]] = some (.int .i64 (stE s)) := rfl
def F1018 : List EVal → Option EVal := onSt fun s => some (.int .i64 (stE s))
theorem fn1018 : FnT 18 F1018 := by
  refine Fn.intro mixed aK Tryz.func18 rfl [(60, F1060 [69, 70, 71, 72, 73] (fun _ => true) vals5)] (by simp only [List.forall_mem_cons]; exact ⟨fn1060a, fun _ h => by cases h⟩) ?_
  intro args v hF0
  obtain ⟨s, rfl, hF⟩ := onSt_inv hF0
  cases hF
  clear hF0
  intro Q hV
  have hQ := aV.of hV
  have u : eSt s = [.int .i64 s.inn, .int .i64 s.half, .int .i64 s.outs, .int .i64 s.balls, .int .i64 s.strikes, .int .i64 s.b1, .int .i64 s.b2, .int .i64 s.b3, .int .i64 s.n0, .int .i64 s.n1, .int .i64 s.c0, .int .i64 s.c1, .bool s.over] := rfl
  have e := e1060a (s := s)
  simp only [u] at e
  refine Top.view (aH.start (n := 6) rfl (by simp)) (aC aK _ _ _ _ ?_)
  (try simp only [aT, SS, TF18StG, aE, setRange, bF, aA, aB, Nat.reduceLT, Nat.reduceEqDiff, Nat.reduceAdd, Nat.reduceLeDiff, reduceCtorEq, u, e])
  (refine hQ _ _ _ (aD (by first | exact .inl rfl | exact .inr rfl) ?_); simp only [SS, TF18StG, Nat.reduceLT, Nat.reduceEqDiff, reduceCtorEq])

/-! and that the game goes on -/
def vals2 (s : St) : List Int := [stE s, if s.over = true then 20 else 0]
def onE (s : St) : Int := bL (vals2 s)
def F1060b : List EVal → Option EVal := F1060 [18, 61] (fun _ => true) vals2
theorem fn1060b : FnT 60 F1060b := by
  refine fn1060 [(18, F1018), (61, F1061)] (by simp only [List.forall_mem_cons]; exact ⟨fn1018, fn1061, fun _ h => by cases h⟩) (by decide) (fun _ => rfl) ?_ ?_
  · intro k f hf
    match k, hf with
    | 0, hf => cases hf; exact fun h args => call18
    | 1, hf => cases hf; exact fun h args => call61
    | k + 2, hf => simp at hf
  · intro s _ k f x hf hx hfi
    match k, hf, hx, hfi with
    | 0, hf, hx, _ => cases hf; cases hx; rfl
    | 1, hf, hx, _ => cases hf; cases hx; rfl
    | k + 2, hf, _, _ => simp at hf
theorem e1060b {s : St} : F1060b [.agg (eSt s), .lsl [[.func 18 []], [.func 61 []]]] = some (.int .i64 (onE s)) := rfl
theorem onE_eq (s : St) : onE s = if stE s = 0 then (if s.over = true then 20 else 0) else stE s := by
  unfold onE vals2
  simp only [bL]
  split
  · split <;> simp_all
  · rfl

/-! the batter -/
end Go.Ev
