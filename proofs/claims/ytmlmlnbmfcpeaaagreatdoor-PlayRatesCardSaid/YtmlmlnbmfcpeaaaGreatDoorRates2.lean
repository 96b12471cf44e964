import Derived.Test.YtmlmlnbmfcpeaaaGreatDoorSmall
namespace Go.Proofs.YtmlmlnbmfcpeaaaGreatDoor
open Go.RowKit

def rateE (a b : Int) : Int := if firstE (rangeE a (-999999999) 999999999) (rangeE b (-999999999) 999999999) ≠ 0 then firstE (rangeE a (-999999999) 999999999) (rangeE b (-999999999) 999999999) else if b = 0 then 6 else 0

theorem ret_int {k : IntKind} {a b : Int} (h : a = b) : Ending.returned (.int k a) = .returned (.int k b) := by rw [h]

set_option maxHeartbeats 400000 in
theorem checkRate_any (a b : Int) (w : World) : Calls Tryz.prog 69 #[.int .i64 a, .int .i64 b] w fun e w' => e = .returned (.int .i64 (rateE a b)) ∧ Below w.heap.size w w' := by
  have hr : rateE a b = if firstE (rangeE a (-999999999) 999999999) (rangeE b (-999999999) 999999999) ≠ 0 then firstE (rangeE a (-999999999) 999999999) (rangeE b (-999999999) 999999999) else if b = 0 then 6 else 0 := rfl
  have C1 : ∀ w, Calls Tryz.prog 61 #[.int .i64 a, .int .i64 (-999999999), .int .i64 999999999] w fun e w' => e = .returned (.int .i64 (rangeE a (-999999999) 999999999)) ∧ w = w' := fun w => checkRange_any _ _ _ w
  have C2 : ∀ w, Calls Tryz.prog 61 #[.int .i64 b, .int .i64 (-999999999), .int .i64 999999999] w fun e w' => e = .returned (.int .i64 (rangeE b (-999999999) 999999999)) ∧ w = w' := fun w => checkRange_any _ _ _ w
  generalize rangeE a (-999999999) 999999999 = x at hr C1
  generalize rangeE b (-999999999) 999999999 = y at hr C2
  have CF : ∀ (bl : Nat) (w : World), w.cell? ⟨bl, 0, none⟩ = some (.int .i64 x) → w.cell? ⟨bl, 1, none⟩ = some (.int .i64 y) → Calls Tryz.prog 47 #[.slice (some ⟨bl, 0, none⟩) 2 2] w fun e w' => e = .returned (.int .i64 (firstE x y)) ∧ w = w' := fun bl w h1 h2 => firstRef_any x y bl w h1 h2
  generalize hz : firstE x y = z at hr CF
  clear hz
  have HR := Lib.hid hr
  have H1 := Lib.hid C1
  have H2 := Lib.hid C2
  have HF := Lib.hid CF
  clear hr C1 C2 CF
  by_cases hz : z = 0
  · subst hz
    by_cases hb : b = 0
    · subst hb
      go_enter Tryz.func69, Tryz.ntmps69
      go_wp2_with fail
      refine (H1.out _).mono ?_
      rintro e w' ⟨rfl, rfl⟩
      go_wp2_with fail
      refine (H2.out _).mono ?_
      rintro e w' ⟨rfl, rfl⟩
      go_wp2_with fail
      refine (HF.out _ _ (by simp) (by simp)).mono ?_
      rintro e w' ⟨rfl, rfl⟩
      go_wp2
      go_ret
      exact ⟨ret_int (by rw [HR.out]; simp), (Below.refl _ _).alloc (Nat.le_refl _) _⟩
    · go_enter Tryz.func69, Tryz.ntmps69
      go_wp2_with fail
      refine (H1.out _).mono ?_
      rintro e w' ⟨rfl, rfl⟩
      go_wp2_with fail
      refine (H2.out _).mono ?_
      rintro e w' ⟨rfl, rfl⟩
      go_wp2_with fail
      refine (HF.out _ _ (by simp) (by simp)).mono ?_
      rintro e w' ⟨rfl, rfl⟩
      go_wp2
      go_ret
      exact ⟨ret_int (by rw [HR.out]; simp [hb]), (Below.refl _ _).alloc (Nat.le_refl _) _⟩
  · go_enter Tryz.func69, Tryz.ntmps69
    go_wp2_with fail
    refine (H1.out _).mono ?_
    rintro e w' ⟨rfl, rfl⟩
    go_wp2_with fail
    refine (H2.out _).mono ?_
    rintro e w' ⟨rfl, rfl⟩
    go_wp2_with fail
    refine (HF.out _ _ (by simp) (by simp)).mono ?_
    rintro e w' ⟨rfl, rfl⟩
    go_wp2
    go_ret
    exact ⟨ret_int (by rw [HR.out]; simp [hz]), (Below.refl _ _).alloc (Nat.le_refl _) _⟩
end Go.Proofs.YtmlmlnbmfcpeaaaGreatDoor
