import Derived.Test.YtcdmpceicmbckaaGreatDoorStF
set_option linter.unusedSimpArgs false
set_option linter.unusedVariables false
namespace Go.Ev
open Go.RowKit Go.Proofs
set_option linter.defProp false
def TF14StG := And.intro (And.intro (And.intro (And.intro (And.intro (@Tryz.underlying3) (And.intro (@sz3) (@bP))) (And.intro (And.intro (@I3s) (@I3b)) (And.intro (@bM) (@bQ)))) (And.intro (And.intro (And.intro (@Tryz.underlying4) (@sz4)) (And.intro (@bW) (@I4s))) (And.intro (And.intro (@I4b) (@bU)) (And.intro (@bX) (@Tryz.underlying22))))) (And.intro (And.intro (And.intro (And.intro (@cE) (@bJ)) (And.intro (@cH) (@cI))) (And.intro (And.intro (@bH) (@bL)) (And.intro (@Tryz.underlying23) (@cD)))) (And.intro (And.intro (And.intro (@bI) (@cF)) (And.intro (@cG) (@bG))) (And.intro (And.intro (@bK) (@Tryz.underlying26)) (And.intro (@sz26) (@fok26)))))) (And.intro (And.intro (And.intro (And.intro (@info26) (And.intro (@I26s) (@I26b))) (And.intro (And.intro (@zero26) (@grow26)) (And.intro (@Tryz.underlying27) (@sz27)))) (And.intro (And.intro (And.intro (@info27) (@I27s)) (And.intro (@I27b) (@zero27))) (And.intro (And.intro (@grow27) (@Tryz.underlying37)) (And.intro (@sz37) (@info37))))) (And.intro (And.intro (And.intro (And.intro (@I37s) (@I37b)) (And.intro (@zero37) (@grow37))) (And.intro (And.intro (@Tryz.underlying162) (@sz162)) (And.intro (@info162) (@I162s)))) (And.intro (And.intro (And.intro (@I162b) (@zero162)) (And.intro (@grow162) (@call18))) (And.intro (And.intro (@call60) (@call61)) (And.intro (@call62) (@Tryz.results14))))))
def TF18StG := And.intro (And.intro (And.intro (And.intro (And.intro (@Tryz.underlying3) (And.intro (@sz3) (@bP))) (And.intro (And.intro (@I3s) (@I3b)) (And.intro (@bM) (@bQ)))) (And.intro (And.intro (@Tryz.underlying4) (And.intro (@sz4) (@bW))) (And.intro (And.intro (@I4s) (@I4b)) (And.intro (@bU) (@bX))))) (And.intro (And.intro (And.intro (@Tryz.underlying22) (And.intro (@cE) (@bJ))) (And.intro (And.intro (@cH) (@cI)) (And.intro (@bH) (@bL)))) (And.intro (And.intro (@Tryz.underlying23) (And.intro (@cD) (@bI))) (And.intro (And.intro (@cF) (@cG)) (And.intro (@bG) (@bK)))))) (And.intro (And.intro (And.intro (And.intro (@Tryz.underlying26) (And.intro (@sz26) (@fok26))) (And.intro (And.intro (@info26) (@I26s)) (And.intro (@I26b) (@zero26)))) (And.intro (And.intro (@grow26) (And.intro (@Tryz.underlying37) (@sz37))) (And.intro (And.intro (@info37) (@I37s)) (And.intro (@I37b) (@zero37))))) (And.intro (And.intro (And.intro (@grow37) (And.intro (@Tryz.underlying162) (@sz162))) (And.intro (And.intro (@info162) (@I162s)) (And.intro (@I162b) (@zero162)))) (And.intro (And.intro (And.intro (@grow162) (@call60)) (And.intro (@call69) (@call70))) (And.intro (And.intro (@call71) (@call72)) (And.intro (@call73) (@Tryz.results18))))))
set_option maxRecDepth 20000
set_option maxHeartbeats 4000000

theorem e1060a {s : St} : F1060 [69, 70, 71, 72, 73] (fun _ => true) vals5 [.agg (eSt s), .lsl [[.func 69 []], [.func 70 []], [.func 71 []], [.func 72 []], [.func 73 []]]] = some (.int .i64 (stE s)) := rfl
def F1018 : List EVal → Option EVal := cJ fun s => some (.int .i64 (stE s))
theorem e1018 {s : St} : F1018 [.agg (eSt s)] = some (.int .i64 (stE s)) := rfl
theorem fn1018 : FnT 18 F1018 := by
  refine Fn.intro mixed aK Tryz.func18 rfl [(60, F1060 [69, 70, 71, 72, 73] (fun _ => true) vals5)] (by simp only [List.forall_mem_cons]; exact ⟨fn1060a, fun _ h => by cases h⟩) ?_
  intro args v hF0
  obtain ⟨s, rfl, hF⟩ := onSt_inv hF0
  cases hF
  clear hF0
  intro Q hV
  have hQ := aY.of hV
  have u : eSt s = [.int .i64 s.inn, .int .i64 s.half, .int .i64 s.outs, .int .i64 s.balls, .int .i64 s.strikes, .int .i64 s.b1, .int .i64 s.b2, .int .i64 s.b3, .int .i64 s.n0, .int .i64 s.n1, .int .i64 s.c0, .int .i64 s.c1, .bool s.over] := rfl
  have e := e1060a (s := s)
  simp only [u] at e
  refine Top.view (aF.start (n := 6) rfl (by simp)) (aH aK _ _ _ _ ?_)
  (try simp only [aV, SS, TF18StG, aI, setRange, bA, aA, aC, Nat.reduceLT, Nat.reduceEqDiff, Nat.reduceAdd, Nat.reduceLeDiff, reduceCtorEq, u, e])
  (refine hQ _ _ _ (aJ (by first | exact .inl rfl | exact .inr rfl) ?_); simp only [SS, TF18StG, Nat.reduceLT, Nat.reduceEqDiff, reduceCtorEq])

/-! and that the game goes on -/
def vals2 (s : St) : List Int := [stE s, if s.over = true then 20 else 0]
def onE (s : St) : Int := bN (vals2 s)
def F1060b : List EVal → Option EVal := F1060 [18, 61] (fun _ => true) vals2
theorem fn1060b : FnT 60 F1060b := by
  refine fn1060 [(18, F1018), (61, F1061)] (by simp only [List.forall_mem_cons]; exact ⟨fn1018, fn1061, fun _ h => by cases h⟩) (by decide) (fun _ => rfl) ?_ ?_
  · intro k f hf
    match k, hf with
    | 0, hf => cases hf; exact fun h args => call18
    | 1, hf => cases hf; exact fun h args => call61
    | k + 2, hf => simp at hf
  · intro s _ k f x hf hx hfi
    match k, hf, hx, hfi with
    | 0, hf, hx, _ => cases hf; cases hx; rfl
    | 1, hf, hx, _ => cases hf; cases hx; rfl
    | k + 2, hf, _, _ => simp at hf
theorem e1060b {s : St} : F1060b [.agg (eSt s), .lsl [[.func 18 []], [.func 61 []]]] = some (.int .i64 (onE s)) := rfl
/-- a state without an error -/
theorem stE_zero {s : St} (h : stE s = 0) : inB s.inn 1 30 = true ∧ inB s.half 0 1 = true ∧ nuB s 2 = true ∧ endE s = 0 ∧ fitB s = true := by
  unfold stE vals5 at h
  simp only [bN] at h
  by_cases h1 : innE s = 0
  · rw [if_pos h1] at h
    by_cases h2 : halfE s = 0
    · rw [if_pos h2] at h
      by_cases h3 : numE s = 0
      · rw [if_pos h3] at h
        by_cases h4 : endE s = 0
        · rw [if_pos h4] at h
          by_cases h5 : runE s = 0
          · refine ⟨?_, ?_, ?_, h4, ?_⟩
            · unfold innE at h1; split at h1 <;> first | assumption | omega
            · unfold halfE at h2; split at h2 <;> first | assumption | omega
            · unfold numE at h3; split at h3 <;> first | assumption | omega
            · unfold runE at h5; split at h5 <;> first | assumption | omega
          · rw [if_neg h5] at h; exact absurd h h5
        · rw [if_neg h4] at h; exact absurd h h4
      · rw [if_neg h3] at h; exact absurd h h3
    · rw [if_neg h2] at h; exact absurd h h2
  · rw [if_neg h1] at h; exact absurd h h1
theorem good_ok {s : St} (h : stE s = 0) : Good s := by
  obtain ⟨_, h2, h3, _, _⟩ := stE_zero h
  refine good_of ?_
  simp only [goodS, h3, Bool.and_true, halfOK, Bool.or_eq_true, decide_eq_true_eq]
  simp only [inB, Bool.and_eq_true, decide_eq_true_eq] at h2
  omega
theorem onE_eq (s : St) : onE s = if stE s = 0 then (if s.over = true then 20 else 0) else stE s := by
  unfold onE vals2
  simp only [bN]
  split
  · split <;> simp_all
  · rfl

/-! the batter -/
def batT (s : St) : EVal := if onE s = 0 then .tup [.int .i64 (cC s), .int .i64 0] else .tup [.int .i64 0, .int .i64 (onE s)]
def F1014 : List EVal → Option EVal := cJ fun s => some (batT s)
theorem e1014 {s : St} : F1014 [.agg (eSt s)] = some (batT s) := rfl
theorem onE_good {s : St} (h : onE s = 0) : Good s := by
  rw [onE_eq] at h
  split at h
  · rename_i h0; exact good_ok h0
  · contradiction
theorem fn1014 : FnT 14 F1014 := by
  refine Fn.intro mixed aK Tryz.func14 rfl [(60, F1060b), (62, F1062)] (by simp only [List.forall_mem_cons]; exact ⟨fn1060b, fn1062, fun _ h => by cases h⟩) ?_
  intro args v hF0
  obtain ⟨s, rfl, hF⟩ := onSt_inv hF0
  cases hF
  clear hF0
  intro Q hV
  have hQ := aY.of hV
  have u : eSt s = [.int .i64 s.inn, .int .i64 s.half, .int .i64 s.outs, .int .i64 s.balls, .int .i64 s.strikes, .int .i64 s.b1, .int .i64 s.b2, .int .i64 s.b3, .int .i64 s.n0, .int .i64 s.n1, .int .i64 s.c0, .int .i64 s.c1, .bool s.over] := rfl
  have e := e1060b (s := s)
  simp only [u] at e
  refine Top.view (aF.start (n := 13) rfl (by simp)) (aH aK _ _ _ _ ?_)
  by_cases h0 : onE s = 0
  · have e2 := e1062 (onE_good h0)
    simp only [u] at e2
    have c0 : (onE s == 0) = true := by simp [h0]
    (try simp only [aV, SS, TF14StG, aI, setRange, bA, aA, aC, Nat.reduceLT, Nat.reduceEqDiff, Nat.reduceAdd, Nat.reduceLeDiff, reduceCtorEq, u, e, e2, c0])
    (refine hQ _ _ _ (aJ (by first | exact .inl rfl | exact .inr rfl) ?_); simp only [SS, TF14StG, Nat.reduceLT, Nat.reduceEqDiff, reduceCtorEq])
    simp [batT, h0]
  · have c0 : (onE s == 0) = false := by simp [h0]
    (try simp only [aV, SS, TF14StG, aI, setRange, bA, aA, aC, Nat.reduceLT, Nat.reduceEqDiff, Nat.reduceAdd, Nat.reduceLeDiff, reduceCtorEq, u, e, c0])
    (refine hQ _ _ _ (aJ (by first | exact .inl rfl | exact .inr rfl) ?_); simp only [SS, TF14StG, Nat.reduceLT, Nat.reduceEqDiff, reduceCtorEq])
    simp [batT, h0]
end Go.Ev
