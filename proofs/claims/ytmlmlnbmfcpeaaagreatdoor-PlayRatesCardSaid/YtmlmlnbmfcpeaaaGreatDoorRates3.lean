import Derived.Test.YtmlmlnbmfcpeaaaGreatDoorRates2
namespace Go.Proofs.YtmlmlnbmfcpeaaaGreatDoor
open Go.RowKit

def rat (a b : Int) : Value := .agg #[.int .i64 a, .int .i64 b]

def goodN (n : Int) : Prop := -999999999 ≤ n ∧ n ≤ 999999999

theorem within_no (n lo hi : Int) (w : World) (h : ¬ (lo ≤ n ∧ n ≤ hi)) : Calls Tryz.prog 93 #[.int .i64 n, .int .i64 lo, .int .i64 hi] w fun e w' => e = .returned (.bool false) ∧ w = w' :=
  (within_any n lo hi w).mono fun e w' ⟨h1, h2⟩ => ⟨by rw [h1, decide_eq_false h], h2⟩
theorem within_yes (n lo hi : Int) (w : World) (h : lo ≤ n ∧ n ≤ hi) : Calls Tryz.prog 93 #[.int .i64 n, .int .i64 lo, .int .i64 hi] w fun e w' => e = .returned (.bool true) ∧ w = w' :=
  (within_any n lo hi w).mono fun e w' ⟨h1, h2⟩ => ⟨by rw [h1, decide_eq_true h], h2⟩

set_option maxHeartbeats 400000 in
theorem rate_out1 (a b : Int) (w : World) (ha : ¬ goodN a) : Calls Tryz.prog 67 #[.int .i64 a, .int .i64 b] w fun e w' => e = .returned (.tuple #[.agg #[.int .i64 0, .int .i64 0], .int .i64 3]) ∧ Below w.heap.size w w' := by
  have C1 : ∀ w, Calls Tryz.prog 93 #[.int .i64 a, .int .i64 (-999999999), .int .i64 999999999] w fun e w' => e = .returned (.bool false) ∧ w = w' := fun w => within_no a _ _ w ha
  have H1 := Lib.hid C1
  clear C1 ha
  go_enter Tryz.func67, Tryz.ntmps67
  go_wp2_with fail
  refine (H1.out _).mono ?_
  rintro e w' ⟨rfl, rfl⟩
  go_wp2
  refine bodyPost_ret (v := .tuple #[.agg #[.int .i64 0, .int .i64 0], .int .i64 3]) (by simp [results, Tryz.results67, go_sem]) rfl ⟨rfl, (by first | exact (Below.refl _ _).alloc (Nat.le_refl _) _ | exact ((((Below.refl _ _).alloc (Nat.le_refl _) _).setCell (Nat.le_refl _) _).setCell (Nat.le_refl _) _))⟩

set_option maxHeartbeats 400000 in
theorem rate_out2 (a b : Int) (w : World) (ha : goodN a) (hb : ¬ goodN b) : Calls Tryz.prog 67 #[.int .i64 a, .int .i64 b] w fun e w' => e = .returned (.tuple #[.agg #[.int .i64 0, .int .i64 0], .int .i64 3]) ∧ Below w.heap.size w w' := by
  have C1 : ∀ w, Calls Tryz.prog 93 #[.int .i64 a, .int .i64 (-999999999), .int .i64 999999999] w fun e w' => e = .returned (.bool true) ∧ w = w' := fun w => within_yes a _ _ w ha
  have C2 : ∀ w, Calls Tryz.prog 93 #[.int .i64 b, .int .i64 (-999999999), .int .i64 999999999] w fun e w' => e = .returned (.bool false) ∧ w = w' := fun w => within_no b _ _ w hb
  have H1 := Lib.hid C1
  have H2 := Lib.hid C2
  clear C1 C2 ha hb
  go_enter Tryz.func67, Tryz.ntmps67
  go_wp2_with fail
  refine (H1.out _).mono ?_
  rintro e w' ⟨rfl, rfl⟩
  go_wp2_with fail
  refine (H2.out _).mono ?_
  rintro e w' ⟨rfl, rfl⟩
  go_wp2
  refine bodyPost_ret (v := .tuple #[.agg #[.int .i64 0, .int .i64 0], .int .i64 3]) (by simp [results, Tryz.results67, go_sem]) rfl ⟨rfl, (by first | exact (Below.refl _ _).alloc (Nat.le_refl _) _ | exact ((((Below.refl _ _).alloc (Nat.le_refl _) _).setCell (Nat.le_refl _) _).setCell (Nat.le_refl _) _))⟩

set_option maxHeartbeats 400000 in
theorem rate_zero (a : Int) (w : World) (ha : goodN a) : Calls Tryz.prog 67 #[.int .i64 a, .int .i64 0] w fun e w' => e = .returned (.tuple #[.agg #[.int .i64 0, .int .i64 0], .int .i64 6]) ∧ Below w.heap.size w w' := by
  have C1 : ∀ w, Calls Tryz.prog 93 #[.int .i64 a, .int .i64 (-999999999), .int .i64 999999999] w fun e w' => e = .returned (.bool true) ∧ w = w' := fun w => within_yes a _ _ w ha
  have C2 : ∀ w, Calls Tryz.prog 93 #[.int .i64 0, .int .i64 (-999999999), .int .i64 999999999] w fun e w' => e = .returned (.bool true) ∧ w = w' := fun w => within_yes 0 _ _ w (by omega)
  have H1 := Lib.hid C1
  have H2 := Lib.hid C2
  clear C1 C2 ha
  go_enter Tryz.func67, Tryz.ntmps67
  go_wp2_with fail
  refine (H1.out _).mono ?_
  rintro e w' ⟨rfl, rfl⟩
  go_wp2_with fail
  refine (H2.out _).mono ?_
  rintro e w' ⟨rfl, rfl⟩
  go_wp2
  refine bodyPost_ret (v := .tuple #[.agg #[.int .i64 0, .int .i64 0], .int .i64 6]) (by simp [results, Tryz.results67, go_sem]) rfl ⟨rfl, (by first | exact (Below.refl _ _).alloc (Nat.le_refl _) _ | exact ((((Below.refl _ _).alloc (Nat.le_refl _) _).setCell (Nat.le_refl _) _).setCell (Nat.le_refl _) _))⟩

set_option maxHeartbeats 400000 in
theorem rate_good (a b : Int) (w : World) (ha : goodN a) (hb : goodN b) (h0 : b ≠ 0) : Calls Tryz.prog 67 #[.int .i64 a, .int .i64 b] w fun e w' => e = .returned (.tuple #[.agg #[.int .i64 (a.tdiv (dv a b)), .int .i64 (b.tdiv (dv a b))], .int .i64 0]) ∧ Below w.heap.size w w' := by
  have C1 : ∀ w, Calls Tryz.prog 93 #[.int .i64 a, .int .i64 (-999999999), .int .i64 999999999] w fun e w' => e = .returned (.bool true) ∧ w = w' := fun w => within_yes a _ _ w ha
  have C2 : ∀ w, Calls Tryz.prog 93 #[.int .i64 b, .int .i64 (-999999999), .int .i64 999999999] w fun e w' => e = .returned (.bool true) ∧ w = w' := fun w => within_yes b _ _ w hb
  have C3 : ∀ w : World, Calls Tryz.prog 127 #[.int .i64 a, .int .i64 b] w fun e w' => e = .returned (.agg #[.int .i64 (a.tdiv (dv a b)), .int .i64 (b.tdiv (dv a b))]) ∧ Below w.heap.size w w' := fun w => lowest_any a b w ha hb h0
  generalize a.tdiv (dv a b) = x at C3
  generalize b.tdiv (dv a b) = y at C3
  have H1 := Lib.hid C1
  have H2 := Lib.hid C2
  have H3 := Lib.hid C3
  clear C1 C2 C3 ha hb
  go_enter Tryz.func67, Tryz.ntmps67
  go_wp2_with fail
  refine (H1.out _).mono ?_
  rintro e w' ⟨rfl, rfl⟩
  go_wp2_with fail
  refine (H2.out _).mono ?_
  rintro e w' ⟨rfl, rfl⟩
  go_wp2_with fail
  refine (H3.out _).mono ?_
  rintro e w1 ⟨rfl, hbw⟩
  obtain ⟨hc, hf⟩ := bcell hbw
  have hz : w.heap.size < w1.heap.size := by have := hbw.size; simp at this; omega
  go_wp2
  refine bodyPost_ret (v := .tuple #[.agg #[.int .i64 x, .int .i64 y], .int .i64 0]) (by simp [results, Tryz.results67, go_sem, hc, hz]) rfl ⟨rfl, (((((Below.refl _ _).alloc (Nat.le_refl _) _).trans (hbw.mono (by simp))).setCell (Nat.le_refl _) _).setCell (Nat.le_refl _) _)⟩
end Go.Proofs.YtmlmlnbmfcpeaaaGreatDoor
