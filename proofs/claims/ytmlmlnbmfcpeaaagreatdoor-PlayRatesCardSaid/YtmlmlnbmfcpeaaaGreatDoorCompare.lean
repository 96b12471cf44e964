import Derived.Test.YtmlmlnbmfcpeaaaGreatDoorCmp
namespace Go.Proofs.YtmlmlnbmfcpeaaaGreatDoor
open Go.RowKit

noncomputable def ratioP (n d : Int) : Int := if (-999999999 ≤ n ∧ n ≤ 999999999) ∧ (1 ≤ d ∧ d ≤ 999999999) then (if inLow n d then 0 else 1) else 3

theorem checkRatio_any (n d : Int) (w : World) : Calls Tryz.prog 73 #[.agg #[.int .i64 n, .int .i64 d]] w fun e w' => e = .returned (.int .i64 (ratioP n d)) ∧ Below w.heap.size w w' := by
  unfold ratioP
  by_cases hn : goodN n
  · by_cases hd : 1 ≤ d ∧ d ≤ 999999999
    · rw [if_pos ⟨hn, hd⟩]; exact checkRatio_in n d w hn hd
    · rw [if_neg (fun h => hd h.2)]; exact checkRatio_out2 n d w hn hd
  · rw [if_neg (fun h => hn h.1)]; exact checkRatio_out1 n d w hn

theorem ratioP_zero {n d : Int} (h : ratioP n d = 0) : goodN n ∧ 1 ≤ d ∧ d ≤ 999999999 ∧ inLow n d = true := by
  unfold ratioP at h
  split at h
  · rename_i h1
    split at h
    · rename_i h2; exact ⟨h1.1, h1.2.1, h1.2.2, h2⟩
    · cases h
  · cases h

def ret2 (c e : Int) : Value := .tuple #[.int .i64 c, .int .i64 e]

set_option maxHeartbeats 1600000 in
theorem compare_bad (a b c d z : Int) (w : World) (hz : firstE (ratioP a b) (ratioP c d) = z) (hne : z ≠ 0) :
    Calls Tryz.prog 68 #[.agg #[.int .i64 a, .int .i64 b], .agg #[.int .i64 c, .int .i64 d]] w fun e w' => e = .returned (.tuple #[.int .i64 0, .int .i64 z]) ∧ Below w.heap.size w w' := by
  have C1 : ∀ w, Calls Tryz.prog 73 #[.agg #[.int .i64 a, .int .i64 b]] w fun e w' => e = .returned (.int .i64 (ratioP a b)) ∧ Below w.heap.size w w' := fun w => checkRatio_any a b w
  have C2 : ∀ w, Calls Tryz.prog 73 #[.agg #[.int .i64 c, .int .i64 d]] w fun e w' => e = .returned (.int .i64 (ratioP c d)) ∧ Below w.heap.size w w' := fun w => checkRatio_any c d w
  generalize ratioP a b = x at C1 hz
  generalize ratioP c d = y at C2 hz
  have CF : ∀ (bl : Nat) (w : World), w.cell? ⟨bl, 0, none⟩ = some (.int .i64 x) → w.cell? ⟨bl, 1, none⟩ = some (.int .i64 y) → Calls Tryz.prog 79 #[.slice (some ⟨bl, 0, none⟩) 2 2] w fun e w' => e = .returned (.int .i64 z) ∧ w = w' := fun bl w h1 h2 => hz ▸ first_any x y bl w h1 h2
  clear hz
  have H1 := Lib.hid C1
  have H2 := Lib.hid C2
  have HF := Lib.hid CF
  clear C1 C2 CF
  go_enter Tryz.func68, Tryz.ntmps68
  go_wp2_with fail
  go_region_held3 (fun w' => w'.cell? ⟨w.heap.size, 0, none⟩ = some (.int .i64 a) ∧ w'.cell? ⟨w.heap.size, 1, none⟩ = some (.int .i64 b) ∧ w'.cell? ⟨w.heap.size + 1, 0, none⟩ = some (.int .i64 c) ∧ w'.cell? ⟨w.heap.size + 1, 1, none⟩ = some (.int .i64 d))
    (first | go_keep | (obtain ⟨hc, hf⟩ := bcell hbw; refine ⟨?_, ?_, ?_, ?_⟩ <;> (rw [hc _ _ (by first | omega | (simp; try omega))]; simp [*])))
    (first
      | (go_at_call 73; with_reducible refine (H1.out _).mono ?_; rintro e w1 ⟨rfl, hbw⟩; have hz1 : w.heap.size + 1 < w1.heap.size := (by have := hbw.size; simp at this; omega); have hb1 := hbw)
      | (go_at_call 73; with_reducible refine (H2.out _).mono ?_; rintro e w2 ⟨rfl, hbw⟩; have hz2 : w.heap.size + 1 < w2.heap.size := (by have := hbw.size; omega); have hb2 := hbw)
      | (go_at_call 79; refine (HF.out _ _ ?_ ?_).mono ?_; (simp); (simp); rintro e w' ⟨rfl, rfl⟩))
  go_wp2
  go_ret2
  exact ⟨rfl, ((((((Below.refl _ _).alloc (Nat.le_refl _) _).alloc (by simp) _).drew).trans (hb1.mono (by simp; try omega))).trans (hb2.mono (by omega))).alloc (by omega) _⟩
set_option maxHeartbeats 1600000 in
theorem compare_good (a b c d : Int) (w : World) (hz : firstE (ratioP a b) (ratioP c d) = 0) :
    Calls Tryz.prog 68 #[.agg #[.int .i64 a, .int .i64 b], .agg #[.int .i64 c, .int .i64 d]] w fun e w' => e = .returned (.tuple #[.int .i64 (cmpI (a * d) (c * b)), .int .i64 0]) ∧ Below w.heap.size w w' := by
  have hg : goodN a ∧ goodN b ∧ goodN c ∧ goodN d := by
    have h1 : ratioP a b = 0 ∧ ratioP c d = 0 := by unfold firstE at hz; split at hz <;> omega
    have h2 := ratioP_zero h1.1
    have h3 := ratioP_zero h1.2
    unfold goodN at *
    omega
  obtain ⟨ha, hb, hcc, hd⟩ := hg
  have hm : ∀ x y : Int, goodN x → goodN y → -1000000000000000000 ≤ x * y ∧ x * y ≤ 1000000000000000000 := fun x y hx hy => by
    unfold goodN at hx hy
    have h1 : (x * y).natAbs = x.natAbs * y.natAbs := Int.natAbs_mul x y
    have h2 : x.natAbs * y.natAbs ≤ 1000000000 * 1000000000 := Nat.mul_le_mul (by omega) (by omega)
    omega
  have m1 := hm a d ha hd
  have m2 := hm c b hcc hb
  have w1 : wrap64 (a * d) = a * d := by unfold wrap64; omega
  have w2 : wrap64 (c * b) = c * b := by unfold wrap64; omega
  have W1 := Lib.hid w1
  have W2 := Lib.hid w2
  clear hm ha hb hcc hd w1 w2 m1 m2
  have C1 : ∀ w, Calls Tryz.prog 73 #[.agg #[.int .i64 a, .int .i64 b]] w fun e w' => e = .returned (.int .i64 (ratioP a b)) ∧ Below w.heap.size w w' := fun w => checkRatio_any a b w
  have C2 : ∀ w, Calls Tryz.prog 73 #[.agg #[.int .i64 c, .int .i64 d]] w fun e w' => e = .returned (.int .i64 (ratioP c d)) ∧ Below w.heap.size w w' := fun w => checkRatio_any c d w
  generalize ratioP a b = x at C1 hz
  generalize ratioP c d = y at C2 hz
  have CF : ∀ (bl : Nat) (w : World), w.cell? ⟨bl, 0, none⟩ = some (.int .i64 x) → w.cell? ⟨bl, 1, none⟩ = some (.int .i64 y) → Calls Tryz.prog 79 #[.slice (some ⟨bl, 0, none⟩) 2 2] w fun e w' => e = .returned (.int .i64 0) ∧ w = w' := fun bl w h1 h2 => hz ▸ first_any x y bl w h1 h2
  clear hz
  have H1 := Lib.hid C1
  have H2 := Lib.hid C2
  have HF := Lib.hid CF
  clear C1 C2 CF
  go_enter Tryz.func68, Tryz.ntmps68
  go_wp2_with fail
  go_region_held3 (fun w' => w'.cell? ⟨w.heap.size, 0, none⟩ = some (.int .i64 a) ∧ w'.cell? ⟨w.heap.size, 1, none⟩ = some (.int .i64 b) ∧ w'.cell? ⟨w.heap.size + 1, 0, none⟩ = some (.int .i64 c) ∧ w'.cell? ⟨w.heap.size + 1, 1, none⟩ = some (.int .i64 d))
    (first | go_keep | (obtain ⟨hc, hf⟩ := bcell hbw; refine ⟨?_, ?_, ?_, ?_⟩ <;> (rw [hc _ _ (by first | omega | (simp; try omega))]; simp [*])))
    (first
      | (go_at_call 73; with_reducible refine (H1.out _).mono ?_; rintro e w1 ⟨rfl, hbw⟩; have hz1 : w.heap.size + 1 < w1.heap.size := (by have := hbw.size; simp at this; omega); have hb1 := hbw)
      | (go_at_call 73; with_reducible refine (H2.out _).mono ?_; rintro e w2 ⟨rfl, hbw⟩; have hz2 : w.heap.size + 1 < w2.heap.size := (by have := hbw.size; omega); have hb2 := hbw)
      | (go_at_call 79; refine (HF.out _ _ ?_ ?_).mono ?_; (simp); (simp); rintro e w' ⟨rfl, rfl⟩))
  obtain ⟨hc, hf⟩ := bcell hb2
  obtain ⟨hc1, hf1⟩ := bcell hb1
  have q1 : w2.cell? ⟨w.heap.size, 0, none⟩ = some (.int .i64 a) := by rw [hc _ _ (by omega), hc1 _ _ (by simp; try omega)]; simp
  have q2 : w2.cell? ⟨w.heap.size, 1, none⟩ = some (.int .i64 b) := by rw [hc _ _ (by omega), hc1 _ _ (by simp; try omega)]; simp
  have q3 : w2.cell? ⟨w.heap.size + 1, 0, none⟩ = some (.int .i64 c) := by rw [hc _ _ (by omega), hc1 _ _ (by simp; try omega)]; simp
  have q4 : w2.cell? ⟨w.heap.size + 1, 1, none⟩ = some (.int .i64 d) := by rw [hc _ _ (by omega), hc1 _ _ (by simp; try omega)]; simp
  clear hc hf hc1 hf1
  go_wp2_with fail
  rw [W1.out, W2.out]
  refine (cmp_any _ _ _).mono ?_
  rintro e w' ⟨rfl, rfl⟩
  go_wp2
  go_ret2
  exact ⟨rfl, ((((((Below.refl _ _).alloc (Nat.le_refl _) _).alloc (by simp) _).drew).trans (hb1.mono (by simp; try omega))).trans (hb2.mono (by omega))).alloc (by omega) _⟩
end Go.Proofs.YtmlmlnbmfcpeaaaGreatDoor
