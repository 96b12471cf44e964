import Derived.Test.YtmlmlnbmfcpeaaaGreatDoorGcd
import Derived.OpenShut
import Derived.ProofKit
namespace Go.Proofs.YtmlmlnbmfcpeaaaGreatDoor
open Go.RowKit

theorem tg_bounds (a b : Int) (ha : -2000000000 ≤ a ∧ a ≤ 2000000000) (hb : -2000000000 ≤ b ∧ b ≤ 2000000000) (h0 : b ≠ 0) : -2000000000 ≤ tg a b ∧ tg a b ≤ 2000000000 ∧ tg a b ≠ 0 := by
  have h := tg_natAbs b.natAbs a b (Nat.le_refl _)
  have h1 : Nat.gcd a.natAbs b.natAbs ≤ b.natAbs := Nat.gcd_le_right _ (by omega)
  have h2 : 0 < Nat.gcd a.natAbs b.natAbs := Nat.gcd_pos_of_pos_right _ (by omega)
  omega

theorem bcell {W w1 : World} (hb : Below W.heap.size W w1) : (∀ b o, b < W.heap.size → w1.cell? ⟨b, o, none⟩ = W.cell? ⟨b, o, none⟩) ∧ (∀ b o, b < W.heap.size → w1.frozen? ⟨b, o, none⟩ = W.frozen? ⟨b, o, none⟩) :=
  ⟨fun b o h => hb.cell (p := ⟨b, o, none⟩) h, fun b o h => hb.frozen (p := ⟨b, o, none⟩) h⟩

theorem tdiv_bounds (a g : Int) (m : Int) (ha : -m ≤ a ∧ a ≤ m) : -m ≤ a.tdiv g ∧ a.tdiv g ≤ m := by
  have h1 : (a.tdiv g).natAbs = a.natAbs / g.natAbs := Int.natAbs_tdiv a g
  have h2 : a.natAbs / g.natAbs ≤ a.natAbs := Nat.div_le_self _ _
  omega

theorem wrap_small (a : Int) (ha : -2000000000 ≤ a ∧ a ≤ 2000000000) : wrap64 a = a := by
  unfold wrap64
  omega

/-- the divisor with the sign of b -/
def dv (a b : Int) : Int := if decide (tg a b < 0) = decide (b < 0) then tg a b else -tg a b

set_option maxHeartbeats 400000 in
theorem within_any (n lo hi : Int) (w : World) : Calls Tryz.prog 93 #[.int .i64 n, .int .i64 lo, .int .i64 hi] w fun e w' => e = .returned (.bool (decide (lo ≤ n ∧ n ≤ hi))) ∧ w = w' := by
  by_cases h1 : lo ≤ n
  · by_cases h2 : n ≤ hi
    · go_enter Tryz.func93, Tryz.ntmps93
      go_wp2
      all_goals go_ret
      all_goals simp [h1, h2]
    · go_enter Tryz.func93, Tryz.ntmps93
      go_wp2
      all_goals go_ret
      all_goals simp [h1, h2]
  · go_enter Tryz.func93, Tryz.ntmps93
    go_wp2
    all_goals go_ret
    all_goals (simp; intro h; omega)

theorem agg2 {a b c d : Int} (h1 : a = c) (h2 : b = d) : Ending.returned (.agg #[.int .i64 a, .int .i64 b]) = Ending.returned (.agg #[.int .i64 c, .int .i64 d]) := by rw [h1, h2]

set_option maxHeartbeats 400000 in
theorem lowest_any (a b : Int) (w : World) (ha : -999999999 ≤ a ∧ a ≤ 999999999) (hb : -999999999 ≤ b ∧ b ≤ 999999999) (h0 : b ≠ 0) :
    Calls Tryz.prog 127 #[.int .i64 a, .int .i64 b] w fun e w' => e = .returned (.agg #[.int .i64 (a.tdiv (dv a b)), .int .i64 (b.tdiv (dv a b))]) ∧ Below w.heap.size w w' := by
  have hg := tg_bounds a b (by omega) (by omega) h0
  have hdv : dv a b = (if decide (tg a b < 0) = decide (b < 0) then tg a b else -tg a b) := rfl
  generalize hgg : tg a b = g at hg hdv
  have HG := Lib.hid hgg
  clear hgg
  have hq1 := tdiv_bounds a g 999999999 ha
  have hq2 := tdiv_bounds b g 999999999 hb
  have hq3 := tdiv_bounds a (-g) 999999999 ha
  have hq4 := tdiv_bounds b (-g) 999999999 hb
  cases hbd : decide (b < 0) <;> cases hgd : decide (g < 0)
  all_goals
    have hd : dv a b = g ∨ dv a b = -g := by
      rw [hdv]
      split
      · exact .inl rfl
      · exact .inr rfl
    have hd1 : (dv a b = g ∧ (g < 0 ↔ b < 0)) ∨ (dv a b = -g ∧ ¬ (g < 0 ↔ b < 0)) := by
      rw [hdv]
      split
      · rename_i h; exact .inl ⟨rfl, by simpa using h⟩
      · rename_i h; exact .inr ⟨rfl, by simpa using h⟩
    have HD := Lib.hid hd1
    clear hd hd1 hdv
    have HQ := Lib.hid hq1
    have HQ2 := Lib.hid hq2
    have HQ3 := Lib.hid hq3
    have HQ4 := Lib.hid hq4
    clear hq1 hq2 hq3 hq4
    go_enter Tryz.func127, Tryz.ntmps127
    go_wp2_with ((go_at_call 158; refine (gcd_any _ _ _ (by omega) (by omega)).mono ?_; rintro e w1 ⟨rfl, hbw⟩; rw [HG.out]; obtain ⟨hc, hf⟩ := bcell hbw; have hz : w.heap.size < w1.heap.size := by (have := hbw.size; simp at this; omega)))
    go_region
    go_wp2
    refine bodyPost_ret (v := .agg #[.int .i64 _, .int .i64 _]) (by simp [results, Tryz.results127, go_sem, hc, hz]; exact ⟨rfl, rfl⟩) rfl ⟨?_, (((((Below.refl _ _).alloc (Nat.le_refl _) _).trans (hbw.mono (by simp))).setCell (by simp) _).setCell (by simp) _).drew⟩
    have hd := HD.out
    have hb0 := hbd
    have hg0 := hgd
    simp only [decide_eq_true_eq, decide_eq_false_iff_not] at hb0 hg0
    have q1 := HQ.out
    have q2 := HQ2.out
    rcases hd with ⟨hd, hs⟩ | ⟨hd, hs⟩
    all_goals
      first
      | (exfalso; omega)
      | (rw [hd]; exact agg2 (wrap_small _ (by omega)) (wrap_small _ (by omega)))
      | (rw [hd, Int.tdiv_neg, Int.tdiv_neg]; exact agg2 (wrap_small _ (by omega)) (wrap_small _ (by omega)))
end Go.Proofs.YtmlmlnbmfcpeaaaGreatDoor
