import Derived.Test.YtdhnjbgggkdiiaaGreatDoorCopy
set_option linter.unusedSimpArgs false
set_option linter.unusedVariables false
namespace Go.Ev
open Go.RowKit Go.Proofs
set_option linter.defProp false
def TF19Copy2 := And.intro (And.intro (And.intro (And.intro (And.intro (@Tryz.underlying3) (And.intro (@sz3) (@bI))) (And.intro (@I3s) (And.intro (@I3b) (@bH)))) (And.intro (And.intro (@bJ) (And.intro (@Tryz.underlying4) (@sz4))) (And.intro (And.intro (@cO) (@I4s)) (And.intro (@I4b) (@cN))))) (And.intro (And.intro (And.intro (@cP) (And.intro (@Tryz.underlying9) (@sz9))) (And.intro (@bW) (And.intro (@I9s) (@I9b)))) (And.intro (And.intro (@bV) (And.intro (@bX) (@Tryz.underlying22))) (And.intro (And.intro (@sz22) (@info22)) (And.intro (@I22s) (@I22b)))))) (And.intro (And.intro (And.intro (And.intro (@cX) (And.intro (@grow22) (@Tryz.underlying24))) (And.intro (@sz24) (And.intro (@fok24) (@info24)))) (And.intro (And.intro (@I24s) (And.intro (@I24b) (@zero24))) (And.intro (And.intro (@grow24) (@Tryz.underlying25)) (And.intro (@dB) (@bQ))))) (And.intro (And.intro (And.intro (@dD) (And.intro (@dE) (@bN))) (And.intro (And.intro (@bR) (@Tryz.underlying27)) (And.intro (@dG) (@cT)))) (And.intro (And.intro (@cD) (And.intro (@dI) (@dJ))) (And.intro (And.intro (@cC) (@cE)) (And.intro (@call83) (@Tryz.results19))))))
def TF83Copy2 := And.intro (And.intro (And.intro (And.intro (And.intro (@Tryz.underlying3) (And.intro (@sz3) (@bI))) (And.intro (@I3s) (And.intro (@I3b) (@bH)))) (And.intro (And.intro (@bJ) (And.intro (@Tryz.underlying4) (@sz4))) (And.intro (And.intro (@cO) (@I4s)) (And.intro (@I4b) (@cN))))) (And.intro (And.intro (And.intro (@cP) (And.intro (@Tryz.underlying9) (@sz9))) (And.intro (@bW) (And.intro (@I9s) (@I9b)))) (And.intro (And.intro (@bV) (And.intro (@bX) (@Tryz.underlying22))) (And.intro (And.intro (@sz22) (@info22)) (And.intro (@I22s) (@I22b)))))) (And.intro (And.intro (And.intro (And.intro (@cX) (And.intro (@grow22) (@Tryz.underlying24))) (And.intro (@sz24) (And.intro (@fok24) (@info24)))) (And.intro (And.intro (@I24s) (And.intro (@I24b) (@zero24))) (And.intro (And.intro (@grow24) (@Tryz.underlying25)) (And.intro (@dB) (@bQ))))) (And.intro (And.intro (And.intro (@dD) (And.intro (@dE) (@bN))) (And.intro (And.intro (@bR) (@Tryz.underlying27)) (And.intro (@dG) (@cT)))) (And.intro (And.intro (@cD) (And.intro (@dI) (@dJ))) (And.intro (And.intro (@cC) (@cE)) (And.intro (@call22) (@Tryz.results83))))))
set_option maxRecDepth 20000
set_option maxHeartbeats 8000000

def F83 : List EVal → Option EVal
  | [.agg [.str p, .str e, .bool late, ms]] => (bL ms).bind fun l => if copyOK l = true then some (.agg [.str p, .str e, .bool late, .lsl (aK l)]) else none
  | _ => none
theorem e22 {l : List Mv} (hlen : l.length < 9223372036854775808) (hok : ∀ m ∈ l, dN m) (hc : copyOK l = true) : F22 [.lsl (aK l)] = some (.lsl (aK l)) := by
  simp only [F22, dMoves_e hlen hok, Option.bind_some]; rw [if_pos hc]
theorem fn83 : FnT 83 F83 := by
  refine Fn.intro mixed aI Tryz.func83 rfl [(22, F22)] (by simp only [List.forall_mem_cons]; exact ⟨fn22, fun _ h => by cases h⟩) ?_
  intro args v hF
  unfold F83 at hF
  split at hF
  rotate_left
  · cases hF
  intro Q hV
  have hQ := aW.of hV
  rename_i p e late ms
  cases ha : bL ms with
  | none => rw [ha] at hF; cases hF
  | some l =>
  rw [ha] at hF
  simp only [Option.bind_some] at hF
  split at hF
  rotate_left
  · cases hF
  rename_i hc
  cases hF
  obtain ⟨rfl, hlen, hok⟩ := dMoves_inv ha
  clear ha
  have h22 := e22 hlen hok hc
  refine Top.view (aF.start (n := 8) rfl (by simp)) (aD aI _ _ _ _ ?_)
  (try simp only [aH, SS, TF83Copy2, aG, setRange, aA, Nat.reduceLT, Nat.reduceEqDiff, Nat.reduceAdd, reduceCtorEq, h22])
  (refine hQ _ _ _ (aC (by first | exact .inl rfl | exact .inr rfl) ?_); simp only [SS, TF83Copy2, Nat.reduceLT, Nat.reduceEqDiff, Nat.reduceAdd, reduceCtorEq])
theorem e83 {p e : List Nat} {late : Bool} {l : List Mv} (hlen : l.length < 9223372036854775808) (hok : ∀ m ∈ l, dN m) (hc : copyOK l = true) : F83 [.agg [.str p, .str e, .bool late, .lsl (aK l)]] = some (.agg [.str p, .str e, .bool late, .lsl (aK l)]) := by
  simp only [F83, dMoves_e hlen hok, Option.bind_some]; rw [if_pos hc]
def F19 : List EVal → Option EVal
  | [.agg [.str p, .str e, .bool late, ms]] => (bL ms).bind fun l => if copyOK l = true then some (.agg [.str p, .str e, .bool late, .lsl (aK l)]) else none
  | _ => none
theorem fn19 : FnT 19 F19 := by
  refine Fn.intro mixed aI Tryz.func19 rfl [(83, F83)] (by simp only [List.forall_mem_cons]; exact ⟨fn83, fun _ h => by cases h⟩) ?_
  intro args v hF
  unfold F19 at hF
  split at hF
  rotate_left
  · cases hF
  intro Q hV
  have hQ := aW.of hV
  rename_i p e late ms
  cases ha : bL ms with
  | none => rw [ha] at hF; cases hF
  | some l =>
  rw [ha] at hF
  simp only [Option.bind_some] at hF
  split at hF
  rotate_left
  · cases hF
  rename_i hc
  cases hF
  obtain ⟨rfl, hlen, hok⟩ := dMoves_inv ha
  clear ha
  have h83 := e83 (p := p) (e := e) (late := late) hlen hok hc
  refine Top.view (aF.start (n := 5) rfl (by simp)) (aD aI _ _ _ _ ?_)
  (try simp only [aH, SS, TF19Copy2, aG, setRange, aA, Nat.reduceLT, Nat.reduceEqDiff, Nat.reduceAdd, reduceCtorEq, h83])
  (refine hQ _ _ _ (aC (by first | exact .inl rfl | exact .inr rfl) ?_); simp only [SS, TF19Copy2, Nat.reduceLT, Nat.reduceEqDiff, Nat.reduceAdd, reduceCtorEq])
theorem e19 {p e : List Nat} {late : Bool} {l : List Mv} (hlen : l.length < 9223372036854775808) (hok : ∀ m ∈ l, dN m) (hc : copyOK l = true) : F19 [.agg [.str p, .str e, .bool late, .lsl (aK l)]] = some (.agg [.str p, .str e, .bool late, .lsl (aK l)]) := by
  simp only [F19, dMoves_e hlen hok, Option.bind_some]; rw [if_pos hc]

theorem short_copy3 {p e : List Nat} {l : List Mv} (h : shortB p e l = true) : copyOK l = true := by
  simp only [shortB, Bool.and_eq_true, decide_eq_true_eq, List.all_eq_true] at h
  obtain ⟨⟨_, h1⟩, h2⟩ := h
  simp only [copyOK, Bool.and_eq_true, decide_eq_true_eq, List.all_eq_true]
  refine ⟨by omega, fun m hm => ?_⟩
  have := h2 m hm
  simp only [shortMv, Bool.and_eq_true, decide_eq_true_eq] at this
  omega
end Go.Ev
