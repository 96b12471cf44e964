import Derived.Test.YtdhnjbgggkdiiaaGreatDoorSame
set_option linter.unusedSimpArgs false
set_option linter.unusedVariables false
namespace Go.Ev
open Go.RowKit Go.Proofs
set_option linter.defProp false
def TF64MoveOf := And.intro (And.intro (And.intro (And.intro (And.intro (@Tryz.underlying3) (And.intro (@sz3) (@bK))) (And.intro (@I3s) (And.intro (@I3b) (@bJ)))) (And.intro (And.intro (@bL) (And.intro (@Tryz.underlying4) (@sz4))) (And.intro (And.intro (@cT) (@I4s)) (And.intro (@I4b) (@cS))))) (And.intro (And.intro (And.intro (@cU) (And.intro (@Tryz.underlying9) (@sz9))) (And.intro (@bZ) (And.intro (@I9s) (@I9b)))) (And.intro (And.intro (@bX) (And.intro (@cA) (@Tryz.underlying22))) (And.intro (And.intro (@dX) (@cZ)) (And.intro (@dY) (@dZ)))))) (And.intro (And.intro (And.intro (And.intro (@cX) (And.intro (@dA) (@Tryz.underlying24))) (And.intro (@sz24) (And.intro (@fok24) (@info24)))) (And.intro (And.intro (@I24s) (And.intro (@I24b) (@zero24))) (And.intro (And.intro (@grow24) (@Tryz.underlying25)) (And.intro (@dI) (@bQ))))) (And.intro (And.intro (And.intro (@dJ) (And.intro (@dK) (@bP))) (And.intro (@bR) (And.intro (@Tryz.underlying27) (@dN)))) (And.intro (And.intro (@cV) (And.intro (@cF) (@dO))) (And.intro (And.intro (@dP) (@cC)) (And.intro (@cG) (@Tryz.results64))))))
set_option maxRecDepth 20000
set_option maxHeartbeats 8000000

/-! the move of a runner -/
def mvIx (c : Int) (l : List Mv) : Int := match l.findIdx? (fun m => m.f == c) with | some k => (k : Int) | none => -1
theorem mvIx_step {c : Int} {l : List Mv} {k : Nat} {m : Mv} (h : l[k]? = some m) (hn : ∀ x ∈ l.take k, (x.f == c) = false) (hm : (m.f == c) = false) : ∀ x ∈ l.take (k + 1), (x.f == c) = false := by
  obtain ⟨hk, rfl⟩ := List.getElem?_eq_some_iff.1 h
  intro x hx
  rw [List.take_succ_eq_append_getElem hk] at hx
  rcases List.mem_append.1 hx with h1 | h1
  · exact hn x h1
  · rw [List.mem_singleton.1 h1]; exact hm
theorem mvIx_hit {c : Int} {l : List Mv} {k : Nat} {m : Mv} (h : l[k]? = some m) (hn : ∀ x ∈ l.take k, (x.f == c) = false) (hm : (m.f == c) = true) : mvIx c l = (k : Int) := by
  obtain ⟨hk, rfl⟩ := List.getElem?_eq_some_iff.1 h
  have e : l.findIdx? (fun m => m.f == c) = some k := by
    rw [List.findIdx?_eq_some_iff_getElem]
    refine ⟨hk, hm, fun j hj => ?_⟩
    have h1 := hn (l[j]'(by omega)) (by rw [List.mem_take_iff_getElem]; exact ⟨j, by omega, rfl⟩)
    simp [h1]
  simp only [mvIx, e]
theorem mvIx_none {c : Int} {l : List Mv} (hn : ∀ x ∈ l.take l.length, (x.f == c) = false) : mvIx c l = -1 := by
  rw [List.take_length] at hn
  have e : l.findIdx? (fun m => m.f == c) = none := by
    rw [List.findIdx?_eq_none_iff]; exact hn
  simp only [mvIx, e]
def F64 : List EVal → Option EVal
  | [.agg [.str _, .str _, .bool _, ms], .int .i64 c] => (bH ms).map fun l => .int .i64 (mvIx c l)
  | _ => none
theorem fn64 : FnT 64 F64 := by
  refine Fn.intro mixed aJ Tryz.func64 rfl [] (fun _ h => by cases h) ?_
  intro args v hF
  unfold F64 at hF
  split at hF
  rotate_left
  · cases hF
  intro Q hV
  have hQ := aW.of hV
  rename_i p e late ms c
  cases ha : bH ms with
  | none => rw [ha] at hF; cases hF
  | some l =>
  rw [ha] at hF
  cases hF
  obtain ⟨rfl, hlen, hok⟩ := bE ha
  clear ha
  dsimp only at hQ hV
  refine Top.view (aF.start (n := 22) rfl (by simp)) (aD aJ _ _ _ _ ?_)
  (try simp only [aI, SS, aA, Nat.reduceLT, reduceCtorEq])
  refine aT (Top.loop (I := fun s : { k : Nat // k ≤ l.length ∧ ∀ x ∈ l.take k, (x.f == c) = false } => (mkF 22 [(5, .int .i64 (s.1 : Nat)), (2, .ptr 0 0), (1, .int .i64 c)], mkH 1 [(0, some (.row [.str p, .str e, .bool late, .lsl (aG l)] 24 0 0 false))] 0 [])) (μ := fun s => l.length - s.1) ⟨0, by simp, by simp⟩ (aF.drop (by simp [look, below]) (by simp [aB, aR, below, aX]) (by simp [aB])) ?_)
  rintro ⟨k, hk, hf⟩
  refine aD aJ _ _ _ _ ?_
  by_cases hlt : k < l.length
  rotate_left
  · obtain rfl : k = l.length := by omega
    have q1 : decide ((l.length : Int) < (l.length : Int)) = false := by simp
    (try simp only [SS, TF64MoveOf, aA, Nat.reduceLT, Nat.reduceEqDiff, reduceCtorEq, aL, q1])
    (refine hQ _ _ _ (aC (by first | exact .inl rfl | exact .inr rfl) ?_); simp only [SS, TF64MoveOf, Nat.reduceLT, Nat.reduceEqDiff])
    rw [mvIx_none hf]
  obtain ⟨m, hx⟩ : ∃ m, l[k]? = some m := ⟨l[k], List.getElem?_eq_getElem hlt⟩
  have q1 : decide ((k : Int) < (l.length : Int)) = true := by simp; omega
  have q2 : IntKind.i64.wrap ((k : Int) + 1) = ((k + 1 : Nat) : Int) := by rw [aP] <;> omega
  cases hc : (m.f == c) with
  | true =>
    (try simp only [SS, TF64MoveOf, aA, Nat.reduceLT, Nat.reduceEqDiff, Nat.reduceAdd, reduceCtorEq, aL, q1, aZ, bT, hx, hc])
    (refine hQ _ _ _ (aC (by first | exact .inl rfl | exact .inr rfl) ?_); simp only [SS, TF64MoveOf, Nat.reduceLT, Nat.reduceEqDiff])
    rw [mvIx_hit hx hf hc]
  | false =>
    (try simp only [SS, TF64MoveOf, aA, Nat.reduceLT, Nat.reduceEqDiff, Nat.reduceAdd, reduceCtorEq, aL, q1, q2, aZ, bT, hx, hc])
    exact ⟨⟨k + 1, hlt, mvIx_step hx hf hc⟩, by simp; omega, (aF.drop (by simp [look, below]) (by simp [aB, aR, below, aX]) (by simp [aB]))⟩
end Go.Ev
