import Derived.Test.YtdhnjbgggkdiiaaGreatDoorForm6
set_option linter.unusedSimpArgs false
set_option linter.unusedVariables false
namespace Go.Ev
open Go.RowKit Go.Proofs
set_option linter.defProp false
set_option maxRecDepth 20000
set_option maxHeartbeats 4000000

/-! short plays -/
/-! what is counted in a play -/
/-- the bases of a move are those of one -/
def baseMv (m : Mv) : Bool := decide (0 ≤ m.f) && decide (m.f ≤ 3) && decide (1 ≤ m.t) && decide (m.t ≤ 4)
end Go.Ev
namespace Go.Ev
open Go.RowKit Go.Proofs
set_option linter.defProp false
set_option maxRecDepth 20000
set_option maxHeartbeats 4000000

/-! outs and runs, filtered -/
theorem lensOK_eMoves (l : List Mv) : dU 5 (bG l) = true := by simp [dU, bG, eM]
theorem eMoves_snoc (l : List Mv) (m : Mv) : bG l ++ [[.int .i64 m.f, .int .i64 m.t, .bool m.o, .str m.h, .lsl (cM m.b)]] = bG (l ++ [m]) := by simp [bG, eM]
theorem playE_zero {p e : List Nat} {l : List Mv} (h : playE p e l = 0) : pitchE p = 0 ∧ eventE e = 0 ∧ movesE l = 0 := by
  simp only [playE, dJ] at h
  by_cases h1 : pitchE p = 0 <;> by_cases h2 : eventE e = 0 <;> by_cases h3 : movesE l = 0 <;> simp [h1, h2, h3] at h ⊢
theorem mvGo_zero : ∀ {l : List Mv} {p : Option Int}, mvGo p l = 0 → ∀ m ∈ l, mvE m = 0
  | [], _, _, _, hm => by cases hm
  | m :: l, p, h, x, hx => by
    simp only [mvGo] at h
    split at h
    · rename_i h1; exact absurd h h1
    · rename_i h1
      split at h
      · cases h
      · rcases List.mem_cons.1 hx with rfl | hx
        · simpa using h1
        · exact mvGo_zero h x hx
theorem movesE_zero {l : List Mv} (h : movesE l = 0) : l.length ≤ 4 ∧ ∀ m ∈ l, mvE m = 0 := by
  unfold movesE at h
  split at h
  · cases h
  · exact ⟨by omega, mvGo_zero h⟩
theorem mvE_base {m : Mv} (h : mvE m = 0) : baseMv m = true := by
  unfold mvE moveE at h
  simp only [dJ] at h
  unfold baseMv
  by_cases hf : 0 ≤ m.f ∧ m.f ≤ 3
  · by_cases ht : 1 ≤ m.t ∧ m.t ≤ 4
    · simp; omega
    · rw [rangeE_in hf, rangeE_out ht] at h; simp at h
  · rw [rangeE_out hf] at h; simp at h
theorem e18 {p e : List Nat} {late : Bool} {l : List Mv} (hb : aZ p = true ∧ aZ e = true) (hlen : l.length < 9223372036854775808) (hok : ∀ m ∈ l, eP m) : F18 [.agg [.str p, .str e, .bool late, .lsl (bG l)]] = some (.int .i64 (playE p e l)) := by
  simp only [F18]; rw [if_pos hb, dMoves_e hlen hok]; rfl
end Go.Ev
