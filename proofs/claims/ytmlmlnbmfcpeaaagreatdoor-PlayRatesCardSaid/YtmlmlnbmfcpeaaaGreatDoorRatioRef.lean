import Derived.Test.YtmlmlnbmfcpeaaaGreatDoorRatio
namespace Go.Proofs.YtmlmlnbmfcpeaaaGreatDoor
open Go.RowKit

def ratioE (n d : Int) : Int :=
  if firstE (rangeE n (-999999999) 999999999) (rangeE d 1 999999999) ≠ 0 then firstE (rangeE n (-999999999) 999999999) (rangeE d 1 999999999) else if tg (absI n) d ≠ 1 then 1 else 0

set_option maxHeartbeats 800000 in
theorem refCheckRatio_any (n d : Int) (w : World) : Calls Tryz.prog 70 #[.agg #[.int .i64 n, .int .i64 d]] w fun e w' => e = .returned (.int .i64 (ratioE n d)) ∧ Below w.heap.size w w' := by
  have hr : ratioE n d = if firstE (rangeE n (-999999999) 999999999) (rangeE d 1 999999999) ≠ 0 then firstE (rangeE n (-999999999) 999999999) (rangeE d 1 999999999) else if tg (absI n) d ≠ 1 then 1 else 0 := rfl
  have C1 : ∀ w, Calls Tryz.prog 61 #[.int .i64 n, .int .i64 (-999999999), .int .i64 999999999] w fun e w' => e = .returned (.int .i64 (rangeE n (-999999999) 999999999)) ∧ w = w' := fun w => checkRange_any _ _ _ w
  have C2 : ∀ w, Calls Tryz.prog 61 #[.int .i64 d, .int .i64 1, .int .i64 999999999] w fun e w' => e = .returned (.int .i64 (rangeE d 1 999999999)) ∧ w = w' := fun w => checkRange_any _ _ _ w
  have C3 : firstE (rangeE n (-999999999) 999999999) (rangeE d 1 999999999) = 0 → ∀ w, Calls Tryz.prog 76 #[.int .i64 n] w fun e w' => e = .returned (.int .i64 (absI n)) ∧ w = w' := fun h w => abs_any n w (by
    unfold firstE rangeE at h; split at h <;> (try split at h) <;> (try split at h) <;> omega)
  have C4 : firstE (rangeE n (-999999999) 999999999) (rangeE d 1 999999999) = 0 → ∀ w : World, Calls Tryz.prog 129 #[.int .i64 (absI n), .int .i64 d] w fun e w' => e = .returned (.int .i64 (tg (absI n) d)) ∧ Below w.heap.size w w' := fun h w => gcdRef_any _ _ w (by
    have := absI_nat n
    unfold firstE rangeE at h; split at h <;> (try split at h) <;> (try split at h) <;> omega) (by
    unfold firstE rangeE at h; split at h <;> (try split at h) <;> (try split at h) <;> omega)
  generalize rangeE n (-999999999) 999999999 = x at hr C1 C3 C4
  generalize rangeE d 1 999999999 = y at hr C2 C3 C4
  have CF : ∀ (bl : Nat) (w : World), w.cell? ⟨bl, 0, none⟩ = some (.int .i64 x) → w.cell? ⟨bl, 1, none⟩ = some (.int .i64 y) → Calls Tryz.prog 47 #[.slice (some ⟨bl, 0, none⟩) 2 2] w fun e w' => e = .returned (.int .i64 (firstE x y)) ∧ w = w' := fun bl w h1 h2 => firstRef_any x y bl w h1 h2
  generalize firstE x y = z at hr CF C3 C4
  generalize tg (absI n) d = g at hr C4
  generalize absI n = an at C3 C4
  have HR := Lib.hid hr
  have H1 := Lib.hid C1
  have H2 := Lib.hid C2
  have HF := Lib.hid CF
  clear hr C1 C2 CF
  by_cases hz : z = 0
  · subst hz
    have H3 := Lib.hid (C3 rfl)
    have H4 := Lib.hid (C4 rfl)
    clear C3 C4
    have e : ((g != 1) = true) ∨ ((g != 1) = false) := by cases g != 1 <;> simp
    rcases e with e | e
    all_goals
      go_enter Tryz.func70, Tryz.ntmps70
      go_wp2_with fail
      go_region_held3 (fun w' => w'.cell? ⟨w.heap.size, 0, none⟩ = some (.int .i64 n) ∧ w'.cell? ⟨w.heap.size, 1, none⟩ = some (.int .i64 d))
        (first | go_keep)
        (first
          | (go_at_call 61; with_reducible refine (H1.out _).mono ?_; rintro e w' ⟨rfl, rfl⟩)
          | (go_at_call 61; with_reducible refine (H2.out _).mono ?_; rintro e w' ⟨rfl, rfl⟩)
          | (go_at_call 47; refine (HF.out _ _ ?_ ?_).mono ?_; (simp); (simp); rintro e w' ⟨rfl, rfl⟩))
      go_wp2_with fail
      go_region_held3 (fun w' => w'.cell? ⟨w.heap.size, 0, none⟩ = some (.int .i64 n) ∧ w'.cell? ⟨w.heap.size, 1, none⟩ = some (.int .i64 d))
        (first | go_keep | (obtain ⟨hc, hf⟩ := bcell hbw; refine ⟨?_, ?_⟩ <;> (rw [hc _ _ (by simp; try omega)]; simp)))
        (first
          | (go_at_call 76; refine (H3.out _).mono ?_; rintro e w' ⟨rfl, rfl⟩)
          | (go_at_call 129; refine (H4.out _).mono ?_; rintro e w1 ⟨rfl, hbw⟩))
      go_wp2
      go_ret
      refine ⟨ret_int ?_, ((((((Below.refl _ _).alloc (Nat.le_refl _) _).alloc (by simp) _).drew).drew).trans (hbw.mono (by simp; try omega)))⟩
      rw [HR.out]
      first
        | (have hg : g ≠ 1 := by simpa using e
           simp [hg])
        | (have hg : g = 1 := by simpa using e
           simp [hg])
  · clear C3 C4
    go_enter Tryz.func70, Tryz.ntmps70
    go_wp2_with fail
    go_region_held3 (fun w' => w'.cell? ⟨w.heap.size, 0, none⟩ = some (.int .i64 n) ∧ w'.cell? ⟨w.heap.size, 1, none⟩ = some (.int .i64 d))
      (first | go_keep)
      (first
        | (go_at_call 61; with_reducible refine (H1.out _).mono ?_; rintro e w' ⟨rfl, rfl⟩)
        | (go_at_call 61; with_reducible refine (H2.out _).mono ?_; rintro e w' ⟨rfl, rfl⟩)
        | (go_at_call 47; refine (HF.out _ _ ?_ ?_).mono ?_; (simp); (simp); rintro e w' ⟨rfl, rfl⟩))
    go_wp2
    go_ret
    exact ⟨ret_int (by rw [HR.out]; simp [hz]), ((((Below.refl _ _).alloc (Nat.le_refl _) _).alloc (by simp) _).drew)⟩
end Go.Proofs.YtmlmlnbmfcpeaaaGreatDoor
