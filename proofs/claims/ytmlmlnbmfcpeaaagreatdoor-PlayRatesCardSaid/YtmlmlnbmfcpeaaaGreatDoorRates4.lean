import Derived.Test.YtmlmlnbmfcpeaaaGreatDoorRates3
namespace Go.Proofs.YtmlmlnbmfcpeaaaGreatDoor
open Go.RowKit

theorem tg_nonneg : ∀ (n : Nat) (a b : Int), b.natAbs ≤ n → 0 ≤ a → 0 ≤ b → 0 ≤ tg a b
  | n, a, b, h, ha, hb => by
    by_cases hb0 : b = 0
    · subst hb0; rw [tg_zero]; exact ha
    · rw [tg_step a b hb0]
      cases n with
      | zero => omega
      | succ n =>
        have hlt : (a.tmod b).natAbs < b.natAbs := by rw [Int.natAbs_tmod]; exact Nat.mod_lt _ (by omega)
        exact tg_nonneg n b (a.tmod b) (by omega) hb (Int.tmod_nonneg b ha)

theorem absI_nat (a : Int) : (absI a).natAbs = a.natAbs ∧ 0 ≤ absI a := by unfold absI; split <;> omega

theorem dv_eq (a b : Int) (h0 : b ≠ 0) : dv a b = if b < 0 then -(tg (absI a) (absI b)) else tg (absI a) (absI b) := by
  have h1 := tg_natAbs b.natAbs a b (Nat.le_refl _)
  have h2 := tg_natAbs (absI b).natAbs (absI a) (absI b) (Nat.le_refl _)
  rw [(absI_nat a).1, (absI_nat b).1] at h2
  have h3 := tg_nonneg (absI b).natAbs (absI a) (absI b) (Nat.le_refl _) (absI_nat a).2 (absI_nat b).2
  have h4 : 0 < Nat.gcd a.natAbs b.natAbs := Nat.gcd_pos_of_pos_right _ (by omega)
  unfold dv
  by_cases hb : b < 0 <;> by_cases hg : tg a b < 0 <;> simp only [hb, hg, decide_true, decide_false, if_true, if_false, Bool.true_eq_false, Bool.false_eq_true] <;> omega

set_option maxHeartbeats 400000 in
theorem refRate_good (a b : Int) (w : World) (ha : goodN a) (hb : goodN b) (h0 : b ≠ 0) :
    Calls Tryz.prog 71 #[.int .i64 a, .int .i64 b] w fun e w' => e = .returned (.agg #[.int .i64 (a.tdiv (dv a b)), .int .i64 (b.tdiv (dv a b))]) ∧ Below w.heap.size w w' := by
  unfold goodN at ha hb
  have hA := absI_nat a
  have hB := absI_nat b
  have hg := tg_bounds (absI a) (absI b) (by omega) (by omega) (by omega)
  have hd := dv_eq a b h0
  have C1 : ∀ w, Calls Tryz.prog 76 #[.int .i64 a] w fun e w' => e = .returned (.int .i64 (absI a)) ∧ w = w' := fun w => abs_any a w (by omega)
  have C2 : ∀ w, Calls Tryz.prog 76 #[.int .i64 b] w fun e w' => e = .returned (.int .i64 (absI b)) ∧ w = w' := fun w => abs_any b w (by omega)
  have C3 : ∀ w : World, Calls Tryz.prog 129 #[.int .i64 (absI a), .int .i64 (absI b)] w fun e w' => e = .returned (.int .i64 (tg (absI a) (absI b))) ∧ Below w.heap.size w w' := fun w => gcdRef_any _ _ w (by omega) (by omega)
  clear hA hB
  generalize tg (absI a) (absI b) = g at hg hd C3
  generalize absI a = x at C1 C3
  generalize absI b = y at C2 C3
  have hq1 := tdiv_bounds a g 999999999 ha
  have hq2 := tdiv_bounds b g 999999999 hb
  have HQ := Lib.hid hq1
  have HQ2 := Lib.hid hq2
  have HD := Lib.hid hd
  have H1 := Lib.hid C1
  have H2 := Lib.hid C2
  have H3 := Lib.hid C3
  clear C1 C2 C3 hd hq1 hq2
  cases hbd : decide (b < 0)
  all_goals
    go_enter Tryz.func71, Tryz.ntmps71
    go_wp2_with fail
    refine (H1.out _).mono ?_
    rintro e w' ⟨rfl, rfl⟩
    go_wp2_with fail
    refine (H2.out _).mono ?_
    rintro e w' ⟨rfl, rfl⟩
    go_wp2_with fail
    refine (H3.out _).mono ?_
    rintro e w1 ⟨rfl, hbw⟩
    obtain ⟨hc, hf⟩ := bcell hbw
    have hz : w.heap.size < w1.heap.size := by have := hbw.size; simp at this; omega
    go_wp2
    go_region
    go_wp2
    refine bodyPost_ret (v := .agg #[.int .i64 _, .int .i64 _]) (by simp [results, Tryz.results71, go_sem, hc, hz]; exact ⟨rfl, rfl⟩) rfl ⟨?_, (((((Below.refl _ _).alloc (Nat.le_refl _) _).trans (hbw.mono (by simp))).setCell (Nat.le_refl _) _).setCell (Nat.le_refl _) _).drew⟩
    have hb0 := hbd
    simp only [decide_eq_true_eq, decide_eq_false_iff_not] at hb0
    have q1 := HQ.out
    have q2 := HQ2.out
    have hd := HD.out
    first
      | (rw [if_pos hb0] at hd; rw [hd, Int.tdiv_neg, Int.tdiv_neg]; exact agg2 (wrap_small _ (by omega)) (wrap_small _ (by omega)))
      | (rw [if_neg hb0] at hd; rw [hd]; exact agg2 (wrap_small _ (by omega)) (wrap_small _ (by omega)))
end Go.Proofs.YtmlmlnbmfcpeaaaGreatDoor
