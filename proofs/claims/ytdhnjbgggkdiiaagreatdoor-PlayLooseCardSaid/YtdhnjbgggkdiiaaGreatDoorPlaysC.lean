import Derived.Test.YtdhnjbgggkdiiaaGreatDoorCopy
import Derived.Test.YtdhnjbgggkdiiaaGreatDoorBackV
import Derived.Test.YtdhnjbgggkdiiaaGreatDoorSame
set_option linter.unusedSimpArgs false
set_option linter.unusedVariables false
namespace Go.Ev
open Go.RowKit Go.Proofs
set_option linter.defProp false
def TF19Copy2 := And.intro (And.intro (And.intro (And.intro (And.intro (@Tryz.underlying3) (And.intro (@sz3) (@bK))) (And.intro (@I3s) (And.intro (@I3b) (@bJ)))) (And.intro (And.intro (@bL) (And.intro (@Tryz.underlying4) (@sz4))) (And.intro (And.intro (@cT) (@I4s)) (And.intro (@I4b) (@cS))))) (And.intro (And.intro (And.intro (@cU) (And.intro (@Tryz.underlying9) (@sz9))) (And.intro (@bZ) (And.intro (@I9s) (@I9b)))) (And.intro (And.intro (@bX) (And.intro (@cA) (@Tryz.underlying22))) (And.intro (And.intro (@dX) (@cZ)) (And.intro (@dY) (@dZ)))))) (And.intro (And.intro (And.intro (And.intro (@cX) (And.intro (@dA) (@Tryz.underlying24))) (And.intro (@sz24) (And.intro (@fok24) (@info24)))) (And.intro (And.intro (@I24s) (And.intro (@I24b) (@zero24))) (And.intro (And.intro (@grow24) (@Tryz.underlying25)) (And.intro (@dI) (@bQ))))) (And.intro (And.intro (And.intro (@dJ) (And.intro (@dK) (@bP))) (And.intro (And.intro (@bR) (@Tryz.underlying27)) (And.intro (@dN) (@cV)))) (And.intro (And.intro (@cF) (And.intro (@dO) (@dP))) (And.intro (And.intro (@cC) (@cG)) (And.intro (@call83) (@Tryz.results19))))))
def TF83Copy2 := And.intro (And.intro (And.intro (And.intro (And.intro (@Tryz.underlying3) (And.intro (@sz3) (@bK))) (And.intro (@I3s) (And.intro (@I3b) (@bJ)))) (And.intro (And.intro (@bL) (And.intro (@Tryz.underlying4) (@sz4))) (And.intro (And.intro (@cT) (@I4s)) (And.intro (@I4b) (@cS))))) (And.intro (And.intro (And.intro (@cU) (And.intro (@Tryz.underlying9) (@sz9))) (And.intro (@bZ) (And.intro (@I9s) (@I9b)))) (And.intro (And.intro (@bX) (And.intro (@cA) (@Tryz.underlying22))) (And.intro (And.intro (@dX) (@cZ)) (And.intro (@dY) (@dZ)))))) (And.intro (And.intro (And.intro (And.intro (@cX) (And.intro (@dA) (@Tryz.underlying24))) (And.intro (@sz24) (And.intro (@fok24) (@info24)))) (And.intro (And.intro (@I24s) (And.intro (@I24b) (@zero24))) (And.intro (And.intro (@grow24) (@Tryz.underlying25)) (And.intro (@dI) (@bQ))))) (And.intro (And.intro (And.intro (@dJ) (And.intro (@dK) (@bP))) (And.intro (And.intro (@bR) (@Tryz.underlying27)) (And.intro (@dN) (@cV)))) (And.intro (And.intro (@cF) (And.intro (@dO) (@dP))) (And.intro (And.intro (@cC) (@cG)) (And.intro (@call22) (@Tryz.results83))))))
set_option maxRecDepth 20000
set_option maxHeartbeats 8000000

def F83 : List EVal → Option EVal
  | [.agg [.str p, .str e, .bool late, ms]] => (bH ms).bind fun l => if copyOK l = true then some (.agg [.str p, .str e, .bool late, .lsl (aG l)]) else none
  | _ => none
theorem e22 {l : List Mv} (hlen : l.length < 9223372036854775808) (hok : ∀ m ∈ l, eA m) (hc : copyOK l = true) : F22 [.lsl (aG l)] = some (.lsl (aG l)) := by
  simp only [F22, cB hlen hok, Option.bind_some]; rw [if_pos hc]
theorem fn83 : FnT 83 F83 := by
  refine Fn.intro mixed aJ Tryz.func83 rfl [(22, F22)] (by simp only [List.forall_mem_cons]; exact ⟨fn22, fun _ h => by cases h⟩) ?_
  intro args v hF
  unfold F83 at hF
  split at hF
  rotate_left
  · cases hF
  intro Q hV
  have hQ := aW.of hV
  rename_i p e late ms
  cases ha : bH ms with
  | none => rw [ha] at hF; cases hF
  | some l =>
  rw [ha] at hF
  simp only [Option.bind_some] at hF
  split at hF
  rotate_left
  · cases hF
  rename_i hc
  cases hF
  obtain ⟨rfl, hlen, hok⟩ := bE ha
  clear ha
  have h22 := e22 hlen hok hc
  refine Top.view (aF.start (n := 8) rfl (by simp)) (aD aJ _ _ _ _ ?_)
  (try simp only [aI, SS, TF83Copy2, aH, setRange, aA, Nat.reduceLT, Nat.reduceEqDiff, Nat.reduceAdd, reduceCtorEq, h22])
  (refine hQ _ _ _ (aC (by first | exact .inl rfl | exact .inr rfl) ?_); simp only [SS, TF83Copy2, Nat.reduceLT, Nat.reduceEqDiff, Nat.reduceAdd, reduceCtorEq])
theorem e83 {p e : List Nat} {late : Bool} {l : List Mv} (hlen : l.length < 9223372036854775808) (hok : ∀ m ∈ l, eA m) (hc : copyOK l = true) : F83 [.agg [.str p, .str e, .bool late, .lsl (aG l)]] = some (.agg [.str p, .str e, .bool late, .lsl (aG l)]) := by
  simp only [F83, cB hlen hok, Option.bind_some]; rw [if_pos hc]
def F19 : List EVal → Option EVal
  | [.agg [.str p, .str e, .bool late, ms]] => (bH ms).bind fun l => if copyOK l = true then some (.agg [.str p, .str e, .bool late, .lsl (aG l)]) else none
  | _ => none
theorem fn19 : FnT 19 F19 := by
  refine Fn.intro mixed aJ Tryz.func19 rfl [(83, F83)] (by simp only [List.forall_mem_cons]; exact ⟨fn83, fun _ h => by cases h⟩) ?_
  intro args v hF
  unfold F19 at hF
  split at hF
  rotate_left
  · cases hF
  intro Q hV
  have hQ := aW.of hV
  rename_i p e late ms
  cases ha : bH ms with
  | none => rw [ha] at hF; cases hF
  | some l =>
  rw [ha] at hF
  simp only [Option.bind_some] at hF
  split at hF
  rotate_left
  · cases hF
  rename_i hc
  cases hF
  obtain ⟨rfl, hlen, hok⟩ := bE ha
  clear ha
  have h83 := e83 (p := p) (e := e) (late := late) hlen hok hc
  refine Top.view (aF.start (n := 5) rfl (by simp)) (aD aJ _ _ _ _ ?_)
  (try simp only [aI, SS, TF19Copy2, aH, setRange, aA, Nat.reduceLT, Nat.reduceEqDiff, Nat.reduceAdd, reduceCtorEq, h83])
  (refine hQ _ _ _ (aC (by first | exact .inl rfl | exact .inr rfl) ?_); simp only [SS, TF19Copy2, Nat.reduceLT, Nat.reduceEqDiff, Nat.reduceAdd, reduceCtorEq])
theorem e19 {p e : List Nat} {late : Bool} {l : List Mv} (hlen : l.length < 9223372036854775808) (hok : ∀ m ∈ l, eA m) (hc : copyOK l = true) : F19 [.agg [.str p, .str e, .bool late, .lsl (aG l)]] = some (.agg [.str p, .str e, .bool late, .lsl (aG l)]) := by
  simp only [F19, cB hlen hok, Option.bind_some]; rw [if_pos hc]

end Go.Ev
namespace Go.Ev
open Go.RowKit Go.Proofs
set_option maxRecDepth 20000
set_option maxHeartbeats 8000000

/-! what is read without an error is the string of the play that is read -/
end Go.Ev
namespace Go.Ev
open Go.RowKit Go.Proofs
set_option linter.defProp false
set_option maxRecDepth 20000
set_option maxHeartbeats 8000000

/-! lists of plays -/
def ePl (q : Pl) : List EVal := [.str q.p, .str q.e, .bool q.l, .lsl (aG q.m)]
def okPl (q : Pl) : Prop := q.m.length < 9223372036854775808 ∧ ∀ m ∈ q.m, eA m
end Go.Ev
namespace Go.Ev
open Go.RowKit Go.Proofs
set_option linter.defProp false
set_option maxRecDepth 20000
set_option maxHeartbeats 8000000

/-! the play of a line -/
end Go.Ev
namespace Go.Ev
open Go.RowKit Go.Proofs
set_option linter.defProp false
set_option maxRecDepth 20000
set_option maxHeartbeats 8000000

/-! the lines of a string, gone over -/
section
variable {c : Nat}
end
end Go.Ev
namespace Go.Ev
open Go.RowKit Go.Proofs
set_option linter.defProp false
set_option maxRecDepth 20000
set_option maxHeartbeats 8000000

/-! lists of plays: copied, compared, short -/
def samePl (a b : Pl) : Bool := sameP a.p a.e a.l a.m b.p b.e b.l b.m
theorem samePl_rfl (a : Pl) : samePl a a = true := by simp [samePl, sameP, sameL_iff.2 rfl]
theorem e34 {a b : Pl} (ha : okPl a) (hb : okPl b) : F34 [.agg [.str a.p, .str a.e, .bool a.l, .lsl (aG a.m)], .agg [.str b.p, .str b.e, .bool b.l, .lsl (aG b.m)]] = some (.bool (samePl a b)) := by
  simp only [F34, cB ha.1 ha.2, cB hb.1 hb.2]; rfl
end Go.Ev
