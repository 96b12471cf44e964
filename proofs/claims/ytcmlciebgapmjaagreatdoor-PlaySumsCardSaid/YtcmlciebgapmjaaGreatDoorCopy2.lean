import Derived.Test.YtcmlciebgapmjaaGreatDoorCopy
set_option linter.unusedSimpArgs false
set_option linter.unusedVariables false
namespace Go.Ev
open Go.RowKit Go.Proofs
set_option linter.defProp false
def TF19Copy2 := And.intro (And.intro (And.intro (And.intro (And.intro (@Tryz.underlying3) (And.intro (@sz3) (@bT))) (And.intro (@I3s) (And.intro (@I3b) (@bS)))) (And.intro (And.intro (@bV) (And.intro (@Tryz.underlying4) (@sz4))) (And.intro (And.intro (@cV) (@I4s)) (And.intro (@I4b) (@cU))))) (And.intro (And.intro (And.intro (@cW) (And.intro (@Tryz.underlying9) (@sz9))) (And.intro (@cL) (And.intro (@I9s) (@I9b)))) (And.intro (And.intro (@cI) (And.intro (@cM) (@Tryz.underlying22))) (And.intro (And.intro (@sz22) (@info22)) (And.intro (@I22s) (@I22b)))))) (And.intro (And.intro (And.intro (And.intro (@zero22) (And.intro (@grow22) (@Tryz.underlying24))) (And.intro (@sz24) (And.intro (@fok24) (@info24)))) (And.intro (And.intro (@I24s) (And.intro (@I24b) (@zero24))) (And.intro (And.intro (@grow24) (@Tryz.underlying25)) (And.intro (@dF) (@bZ))))) (And.intro (And.intro (And.intro (@dG) (And.intro (@dH) (@bX))) (And.intro (And.intro (@cA) (@Tryz.underlying27)) (And.intro (@dQ) (@dB)))) (And.intro (And.intro (@cN) (And.intro (@dR) (@dS))) (And.intro (And.intro (@cK) (@cO)) (And.intro (@call83) (@Tryz.results19))))))
def TF83Copy2 := And.intro (And.intro (And.intro (And.intro (And.intro (@Tryz.underlying3) (And.intro (@sz3) (@bT))) (And.intro (@I3s) (And.intro (@I3b) (@bS)))) (And.intro (And.intro (@bV) (And.intro (@Tryz.underlying4) (@sz4))) (And.intro (And.intro (@cV) (@I4s)) (And.intro (@I4b) (@cU))))) (And.intro (And.intro (And.intro (@cW) (And.intro (@Tryz.underlying9) (@sz9))) (And.intro (@cL) (And.intro (@I9s) (@I9b)))) (And.intro (And.intro (@cI) (And.intro (@cM) (@Tryz.underlying22))) (And.intro (And.intro (@sz22) (@info22)) (And.intro (@I22s) (@I22b)))))) (And.intro (And.intro (And.intro (And.intro (@zero22) (And.intro (@grow22) (@Tryz.underlying24))) (And.intro (@sz24) (And.intro (@fok24) (@info24)))) (And.intro (And.intro (@I24s) (And.intro (@I24b) (@zero24))) (And.intro (And.intro (@grow24) (@Tryz.underlying25)) (And.intro (@dF) (@bZ))))) (And.intro (And.intro (And.intro (@dG) (And.intro (@dH) (@bX))) (And.intro (And.intro (@cA) (@Tryz.underlying27)) (And.intro (@dQ) (@dB)))) (And.intro (And.intro (@cN) (And.intro (@dR) (@dS))) (And.intro (And.intro (@cK) (@cO)) (And.intro (@call22) (@Tryz.results83))))))
set_option maxRecDepth 20000
set_option maxHeartbeats 8000000

def F83 : List EVal → Option EVal
  | [.agg [.str p, .str e, .bool late, ms]] => (bR ms).bind fun l => if copyOK l = true then some (.agg [.str p, .str e, .bool late, .lsl (bF l)]) else none
  | _ => none
theorem e22 {l : List Mv} (hlen : l.length < 9223372036854775808) (hok : ∀ m ∈ l, okMv m) (hc : copyOK l = true) : F22 [.lsl (bF l)] = some (.lsl (bF l)) := by
  simp only [F22, dMoves_e hlen hok, Option.bind_some]; rw [if_pos hc]
theorem fn83 : FnT 83 F83 := by
  refine Fn.intro mixed bA Tryz.func83 rfl [(22, F22)] (by simp only [List.forall_mem_cons]; exact ⟨fn22, fun _ h => by cases h⟩) ?_
  intro args v hF
  unfold F83 at hF
  split at hF
  rotate_left
  · cases hF
  intro Q hV
  have hQ := bL.of hV
  rename_i p e late ms
  cases ha : bR ms with
  | none => rw [ha] at hF; cases hF
  | some l =>
  rw [ha] at hF
  simp only [Option.bind_some] at hF
  split at hF
  rotate_left
  · cases hF
  rename_i hc
  cases hF
  obtain ⟨rfl, hlen, hok⟩ := bU ha
  clear ha
  have h22 := e22 hlen hok hc
  refine Top.view (aX.start (n := 8) rfl (by simp)) (aS bA _ _ _ _ ?_)
  ((try simp only [aO, SS, TF83Copy2, aM, setRange, aN, aC, aB, aF, aE, aD, aA, Nat.reduceLT, Nat.reduceEqDiff, Nat.reduceAdd, Nat.reduceMul, Nat.reduceSub, Nat.reduceLeDiff, Nat.reduceBEq, reduceCtorEq, h22]); (repeat' ((first | apply aJ | apply aI | apply aL | apply aK | apply aH | apply aG) <;> intro h <;> simp only [h, SS, TF83Copy2, aM, setRange, aN, aC, aB, aF, aE, aD, aA, Nat.reduceLT, Nat.reduceEqDiff, Nat.reduceAdd, Nat.reduceMul, Nat.reduceSub, Nat.reduceLeDiff, Nat.reduceBEq, reduceCtorEq, h22])))
  (refine hQ _ _ _ (aR (by first | exact .inl rfl | exact .inr rfl) ?_); simp only [SS, TF83Copy2, aM, setRange, aN, aC, aB, aF, aE, aD, aA, Nat.reduceLT, Nat.reduceEqDiff, Nat.reduceAdd, Nat.reduceMul, Nat.reduceSub, Nat.reduceLeDiff, Nat.reduceBEq, reduceCtorEq])
theorem e83 {p e : List Nat} {late : Bool} {l : List Mv} (hlen : l.length < 9223372036854775808) (hok : ∀ m ∈ l, okMv m) (hc : copyOK l = true) : F83 [.agg [.str p, .str e, .bool late, .lsl (bF l)]] = some (.agg [.str p, .str e, .bool late, .lsl (bF l)]) := by
  simp only [F83, dMoves_e hlen hok, Option.bind_some]; rw [if_pos hc]
def F19 : List EVal → Option EVal
  | [.agg [.str p, .str e, .bool late, ms]] => (bR ms).bind fun l => if copyOK l = true then some (.agg [.str p, .str e, .bool late, .lsl (bF l)]) else none
  | _ => none
theorem fn19 : FnT 19 F19 := by
  refine Fn.intro mixed bA Tryz.func19 rfl [(83, F83)] (by simp only [List.forall_mem_cons]; exact ⟨fn83, fun _ h => by cases h⟩) ?_
  intro args v hF
  unfold F19 at hF
  split at hF
  rotate_left
  · cases hF
  intro Q hV
  have hQ := bL.of hV
  rename_i p e late ms
  cases ha : bR ms with
  | none => rw [ha] at hF; cases hF
  | some l =>
  rw [ha] at hF
  simp only [Option.bind_some] at hF
  split at hF
  rotate_left
  · cases hF
  rename_i hc
  cases hF
  obtain ⟨rfl, hlen, hok⟩ := bU ha
  clear ha
  have h83 := e83 (p := p) (e := e) (late := late) hlen hok hc
  refine Top.view (aX.start (n := 5) rfl (by simp)) (aS bA _ _ _ _ ?_)
  ((try simp only [aO, SS, TF19Copy2, aM, setRange, aN, aC, aB, aF, aE, aD, aA, Nat.reduceLT, Nat.reduceEqDiff, Nat.reduceAdd, Nat.reduceMul, Nat.reduceSub, Nat.reduceLeDiff, Nat.reduceBEq, reduceCtorEq, h83]); (repeat' ((first | apply aJ | apply aI | apply aL | apply aK | apply aH | apply aG) <;> intro h <;> simp only [h, SS, TF19Copy2, aM, setRange, aN, aC, aB, aF, aE, aD, aA, Nat.reduceLT, Nat.reduceEqDiff, Nat.reduceAdd, Nat.reduceMul, Nat.reduceSub, Nat.reduceLeDiff, Nat.reduceBEq, reduceCtorEq, h83])))
  (refine hQ _ _ _ (aR (by first | exact .inl rfl | exact .inr rfl) ?_); simp only [SS, TF19Copy2, aM, setRange, aN, aC, aB, aF, aE, aD, aA, Nat.reduceLT, Nat.reduceEqDiff, Nat.reduceAdd, Nat.reduceMul, Nat.reduceSub, Nat.reduceLeDiff, Nat.reduceBEq, reduceCtorEq])
theorem e19 {p e : List Nat} {late : Bool} {l : List Mv} (hlen : l.length < 9223372036854775808) (hok : ∀ m ∈ l, okMv m) (hc : copyOK l = true) : F19 [.agg [.str p, .str e, .bool late, .lsl (bF l)]] = some (.agg [.str p, .str e, .bool late, .lsl (bF l)]) := by
  simp only [F19, dMoves_e hlen hok, Option.bind_some]; rw [if_pos hc]

theorem short_copy3 {p e : List Nat} {l : List Mv} (h : shortB p e l = true) : copyOK l = true := by
  simp only [shortB, Bool.and_eq_true, decide_eq_true_eq, List.all_eq_true] at h
  obtain ⟨⟨_, h1⟩, h2⟩ := h
  simp only [copyOK, Bool.and_eq_true, decide_eq_true_eq, List.all_eq_true]
  refine ⟨by omega, fun m hm => ?_⟩
  have := h2 m hm
  simp only [shortMv, Bool.and_eq_true, decide_eq_true_eq] at this
  omega
end Go.Ev
