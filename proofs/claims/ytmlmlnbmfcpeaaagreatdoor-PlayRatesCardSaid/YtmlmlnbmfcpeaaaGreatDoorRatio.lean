import Derived.Test.YtmlmlnbmfcpeaaaGreatDoorRates4
import Derived.Deep.RegionHeld3
namespace Go.Proofs.YtmlmlnbmfcpeaaaGreatDoor
open Go.RowKit

set_option maxHeartbeats 400000 in
theorem checkRatio_out1 (n d : Int) (w : World) (hn : ¬ goodN n) : Calls Tryz.prog 73 #[.agg #[.int .i64 n, .int .i64 d]] w fun e w' => e = .returned (.int .i64 3) ∧ Below w.heap.size w w' := by
  have C1 : ∀ w, Calls Tryz.prog 93 #[.int .i64 n, .int .i64 (-999999999), .int .i64 999999999] w fun e w' => e = .returned (.bool false) ∧ w = w' := fun w => within_no n _ _ w hn
  have H1 := Lib.hid C1
  clear C1 hn
  go_enter Tryz.func73, Tryz.ntmps73
  go_wp2_with fail
  refine (H1.out _).mono ?_
  rintro e w' ⟨rfl, rfl⟩
  go_wp2
  go_ret
  exact ⟨rfl, (Below.refl _ _).alloc (Nat.le_refl _) _⟩

set_option maxHeartbeats 400000 in
theorem checkRatio_out2 (n d : Int) (w : World) (hn : goodN n) (hd : ¬ (1 ≤ d ∧ d ≤ 999999999)) : Calls Tryz.prog 73 #[.agg #[.int .i64 n, .int .i64 d]] w fun e w' => e = .returned (.int .i64 3) ∧ Below w.heap.size w w' := by
  have C1 : ∀ w, Calls Tryz.prog 93 #[.int .i64 n, .int .i64 (-999999999), .int .i64 999999999] w fun e w' => e = .returned (.bool true) ∧ w = w' := fun w => within_yes n _ _ w hn
  have C2 : ∀ w, Calls Tryz.prog 93 #[.int .i64 d, .int .i64 1, .int .i64 999999999] w fun e w' => e = .returned (.bool false) ∧ w = w' := fun w => within_no d _ _ w hd
  have H1 := Lib.hid C1
  have H2 := Lib.hid C2
  clear C1 C2 hn hd
  go_enter Tryz.func73, Tryz.ntmps73
  go_wp2_with fail
  refine (H1.out _).mono ?_
  rintro e w' ⟨rfl, rfl⟩
  go_wp2_with fail
  refine (H2.out _).mono ?_
  rintro e w' ⟨rfl, rfl⟩
  go_wp2
  go_ret
  exact ⟨rfl, (Below.refl _ _).alloc (Nat.le_refl _) _⟩

theorem beqd (n x : Int) : (n == x) = decide (x = n) := by
  rw [Bool.eq_iff_iff, beq_iff_eq, decide_eq_true_eq]
  exact ⟨Eq.symm, Eq.symm⟩

/-- the quotient stands in lowest terms -/
def inLow (n d : Int) : Bool := decide (n.tdiv (dv n d) = n) && decide (d.tdiv (dv n d) = d)

set_option maxHeartbeats 800000 in
theorem checkRatio_in (n d : Int) (w : World) (hn : goodN n) (hd : 1 ≤ d ∧ d ≤ 999999999) : Calls Tryz.prog 73 #[.agg #[.int .i64 n, .int .i64 d]] w fun e w' => e = .returned (.int .i64 (if inLow n d then 0 else 1)) ∧ Below w.heap.size w w' := by
  have C1 : ∀ w, Calls Tryz.prog 93 #[.int .i64 n, .int .i64 (-999999999), .int .i64 999999999] w fun e w' => e = .returned (.bool true) ∧ w = w' := fun w => within_yes n _ _ w hn
  have C2 : ∀ w, Calls Tryz.prog 93 #[.int .i64 d, .int .i64 1, .int .i64 999999999] w fun e w' => e = .returned (.bool true) ∧ w = w' := fun w => within_yes d _ _ w hd
  have C3 : ∀ w : World, Calls Tryz.prog 127 #[.int .i64 n, .int .i64 d] w fun e w' => e = .returned (.agg #[.int .i64 (n.tdiv (dv n d)), .int .i64 (d.tdiv (dv n d))]) ∧ Below w.heap.size w w' := fun w => lowest_any n d w hn (by omega) (by omega)
  have hl : inLow n d = (decide (n.tdiv (dv n d) = n) && decide (d.tdiv (dv n d) = d)) := rfl
  generalize n.tdiv (dv n d) = x at C3 hl
  generalize d.tdiv (dv n d) = y at C3 hl
  have HL := Lib.hid hl
  have H1 := Lib.hid C1
  have H2 := Lib.hid C2
  have H3 := Lib.hid C3
  clear C1 C2 C3 hn hd hl
  have walk : ∀ q : Bool, (n == x && d == y) = q → Calls Tryz.prog 73 #[.agg #[.int .i64 n, .int .i64 d]] w fun e w' => e = .returned (.int .i64 (if q then 0 else 1)) ∧ Below w.heap.size w w' := by
    intro q hq
    by_cases hx : n = x
    · subst hx
      by_cases hy : d = y
      · subst hy
        obtain rfl : q = true := by simpa using hq.symm
        clear hq HL
        go_enter Tryz.func73, Tryz.ntmps73
        go_wp2_with fail
        refine (H1.out _).mono ?_
        rintro e w' ⟨rfl, rfl⟩
        go_wp2_with fail
        refine (H2.out _).mono ?_
        rintro e w' ⟨rfl, rfl⟩
        go_wp2_with fail
        go_region_held3 (fun w' => w'.cell? ⟨w.heap.size, 0, none⟩ = some (.int .i64 n) ∧ w'.cell? ⟨w.heap.size, 1, none⟩ = some (.int .i64 d))
          (first | go_keep | (obtain ⟨hc, hf⟩ := bcell hbw; refine ⟨?_, ?_⟩ <;> (rw [hc _ _ (by simp)]; simp)))
          (first | (go_at_call 127; refine (H3.out _).mono ?_; rintro e w1 ⟨rfl, hbw⟩))
        go_wp2
        go_ret
        exact ⟨rfl, (((Below.refl _ _).alloc (Nat.le_refl _) _).drew).trans (hbw.mono (by simp))⟩
      · have e1 : (d == y) = false := by simpa using hy
        have e2 : decide (d = y) = false := by simpa using hy
        obtain rfl : q = false := by rw [← hq, e1]; simp
        clear hq HL
        go_enter Tryz.func73, Tryz.ntmps73
        go_wp2_with fail
        refine (H1.out _).mono ?_
        rintro e w' ⟨rfl, rfl⟩
        go_wp2_with fail
        refine (H2.out _).mono ?_
        rintro e w' ⟨rfl, rfl⟩
        go_wp2_with fail
        go_region_held3 (fun w' => w'.cell? ⟨w.heap.size, 0, none⟩ = some (.int .i64 n) ∧ w'.cell? ⟨w.heap.size, 1, none⟩ = some (.int .i64 d))
          (first | go_keep | (obtain ⟨hc, hf⟩ := bcell hbw; refine ⟨?_, ?_⟩ <;> (rw [hc _ _ (by simp)]; simp)))
          (first | (go_at_call 127; refine (H3.out _).mono ?_; rintro e w1 ⟨rfl, hbw⟩))
        go_wp2
        go_ret
        exact ⟨rfl, (((Below.refl _ _).alloc (Nat.le_refl _) _).drew).trans (hbw.mono (by simp))⟩
    · have e1 : (n == x) = false := by simpa using hx
      have e2 : decide (n = x) = false := by simpa using hx
      obtain rfl : q = false := by rw [← hq, e1]; simp
      clear hq HL
      go_enter Tryz.func73, Tryz.ntmps73
      go_wp2_with fail
      refine (H1.out _).mono ?_
      rintro e w' ⟨rfl, rfl⟩
      go_wp2_with fail
      refine (H2.out _).mono ?_
      rintro e w' ⟨rfl, rfl⟩
      go_wp2_with fail
      go_region_held3 (fun w' => w'.cell? ⟨w.heap.size, 0, none⟩ = some (.int .i64 n) ∧ w'.cell? ⟨w.heap.size, 1, none⟩ = some (.int .i64 d))
        (first | go_keep | (obtain ⟨hc, hf⟩ := bcell hbw; refine ⟨?_, ?_⟩ <;> (rw [hc _ _ (by simp)]; simp)))
        (first | (go_at_call 127; refine (H3.out _).mono ?_; rintro e w1 ⟨rfl, hbw⟩))
      go_wp2
      go_ret
      exact ⟨rfl, (((Below.refl _ _).alloc (Nat.le_refl _) _).drew).trans (hbw.mono (by simp))⟩
  refine (walk (inLow n d) ?_).mono fun e w' h => h
  rw [HL.out]
  rw [beqd, beqd]
end Go.Proofs.YtmlmlnbmfcpeaaaGreatDoor
