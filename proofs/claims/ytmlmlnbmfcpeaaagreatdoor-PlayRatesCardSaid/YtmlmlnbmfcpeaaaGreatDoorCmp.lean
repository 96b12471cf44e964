import Derived.Test.YtmlmlnbmfcpeaaaGreatDoorRatioRef
import Derived.IntWalk
namespace Go.Proofs.YtmlmlnbmfcpeaaaGreatDoor
open Go.RowKit

def cmpI (x y : Int) : Int := if x < y then -1 else if y < x then 1 else 0

set_option maxHeartbeats 400000 in
theorem isNaN_any (x : Int) (w : World) : Calls Tryz.prog 159 #[.int .i64 x] w fun e w' => e = .returned (.bool false) ∧ w = w' := by
  go_enter Tryz.func159, Tryz.ntmps159
  go_wp2
  go_ret
  exact ⟨by simp, rfl⟩

set_option maxHeartbeats 400000 in
theorem cmp_any (x y : Int) (w : World) : Calls Tryz.prog 128 #[.int .i64 x, .int .i64 y] w fun e w' => e = .returned (.int .i64 (cmpI x y)) ∧ w = w' := by
  have hc : cmpI x y = if x < y then -1 else if y < x then 1 else 0 := rfl
  have HC := Lib.hid hc
  clear hc
  rcases Int.lt_trichotomy x y with h | h | h
  · have e1 : decide (x < y) = true := by simpa using h
    go_enter Tryz.func128, Tryz.ntmps128
    go_wp2_with (go_at_call 159; refine (isNaN_any _ _).mono ?_; rintro e w' ⟨rfl, rfl⟩)
    go_ret
    exact ⟨ret_int (by rw [HC.out, if_pos h]), rfl⟩
  · subst h
    go_enter Tryz.func128, Tryz.ntmps128
    go_wp2_with (go_at_call 159; refine (isNaN_any _ _).mono ?_; rintro e w' ⟨rfl, rfl⟩)
    go_ret
    exact ⟨ret_int (by rw [HC.out, if_neg (by omega), if_neg (by omega)]), rfl⟩
  · have e1 : decide (x < y) = false := by simp; omega
    have e2 : decide (y < x) = true := by simpa using h
    go_enter Tryz.func128, Tryz.ntmps128
    go_wp2_with (go_at_call 159; refine (isNaN_any _ _).mono ?_; rintro e w' ⟨rfl, rfl⟩)
    go_ret
    exact ⟨ret_int (by rw [HC.out, if_neg (by omega), if_pos h]), rfl⟩

set_option maxHeartbeats 800000 in
theorem refCompare_any (a b c d : Int) (w : World) (ha : goodN a) (hb : goodN b) (hc : goodN c) (hd : goodN d) :
    Calls Tryz.prog 72 #[.agg #[.int .i64 a, .int .i64 b], .agg #[.int .i64 c, .int .i64 d]] w fun e w' => e = .returned (.int .i64 (cmpI (a * d) (c * b))) ∧ Below w.heap.size w w' := by
  have hm : ∀ x y : Int, goodN x → goodN y → -1000000000000000000 ≤ x * y ∧ x * y ≤ 1000000000000000000 := fun x y hx hy => by
    unfold goodN at hx hy
    have h1 : (x * y).natAbs = x.natAbs * y.natAbs := Int.natAbs_mul x y
    have h2 : x.natAbs * y.natAbs ≤ 1000000000 * 1000000000 := Nat.mul_le_mul (by omega) (by omega)
    omega
  have m1 := hm a d ha hd
  have m2 := hm c b hc hb
  have w1 : IntKind.i64.wrap (a * d) = a * d := IntWalk.i64_in _ (by omega)
  have w2 : IntKind.i64.wrap (c * b) = c * b := IntWalk.i64_in _ (by omega)
  have W1 := Lib.hid w1
  have W2 := Lib.hid w2
  have hcm : cmpI (a * d) (c * b) = if a * d < c * b then -1 else if c * b < a * d then 1 else 0 := rfl
  have HC := Lib.hid hcm
  clear hm ha hb hc hd w1 w2 hcm m1 m2
  go_enter Tryz.func72, Tryz.ntmps72
  go_wp2_with fail
  go_region_held3 (fun w' => w'.cell? ⟨w.heap.size, 0, none⟩ = some (.int .i64 a) ∧ w'.cell? ⟨w.heap.size, 1, none⟩ = some (.int .i64 b) ∧ w'.cell? ⟨w.heap.size + 1, 0, none⟩ = some (.int .i64 c) ∧ w'.cell? ⟨w.heap.size + 1, 1, none⟩ = some (.int .i64 d))
    (first | go_keep) (fail)
  rw [W1.out, W2.out]
  clear W1 W2
  clear HC
  obtain ⟨p, hp⟩ : ∃ p, a * d = p := ⟨_, rfl⟩
  obtain ⟨q, hq⟩ : ∃ q, c * b = q := ⟨_, rfl⟩
  rw [hp, hq]
  have HP := Lib.hid hp
  have HQ := Lib.hid hq
  have hcm : cmpI p q = if p < q then -1 else if q < p then 1 else 0 := rfl
  have HC := Lib.hid hcm
  clear hp hq hcm
  rcases Int.lt_trichotomy p q with h | h | h
  · have e1 : decide (p < q) = true := by simpa using h
    go_wp2
    go_ret
    exact ⟨ret_int (by rw [HP.out, HQ.out, HC.out, if_pos h]), ((((Below.refl _ _).alloc (Nat.le_refl _) _).alloc (by simp) _).drew)⟩
  · subst h
    go_wp2
    go_ret
    exact ⟨ret_int (by rw [HP.out, HQ.out, HC.out, if_neg (by omega), if_neg (by omega)]), ((((Below.refl _ _).alloc (Nat.le_refl _) _).alloc (by simp) _).drew)⟩
  · have e1 : decide (p < q) = false := by simp; omega
    have e2 : decide (q < p) = true := by simpa using h
    go_wp2
    go_ret
    exact ⟨ret_int (by rw [HP.out, HQ.out, HC.out, if_neg (by omega), if_pos h]), ((((Below.refl _ _).alloc (Nat.le_refl _) _).alloc (by simp) _).drew)⟩

set_option maxHeartbeats 400000 in
theorem first_any (x y : Int) (b : Nat) (w : World) (hx : w.cell? ⟨b, 0, none⟩ = some (.int .i64 x)) (hy : w.cell? ⟨b, 1, none⟩ = some (.int .i64 y)) :
    Calls Tryz.prog 79 #[.slice (some ⟨b, 0, none⟩) 2 2] w fun e w' => e = .returned (.int .i64 (firstE x y)) ∧ w = w' := by
  have hf : firstE x y = if x ≠ 0 then x else y := rfl
  have HF := Lib.hid hf
  clear hf
  go_enter Tryz.func79, Tryz.ntmps79
  go_wp2
  go_loop [7] (fun i => ∃ k : Nat, k ≤ 2 ∧ i = .int .i64 k ∧ (0 < k → x = 0) ∧ (1 < k → y = 0)) (fun i => 2 - (intOf i).toNat)
  case atStart => exact ⟨0, by omega, rfl, fun h => by omega, fun h => by omega⟩
  case round =>
    obtain ⟨k, hk, rfl, h1, h2⟩ := hrel
    obtain rfl | rfl | rfl : k = 0 ∨ k = 1 ∨ k = 2 := by omega
    · clear h1 h2
      by_cases hx0 : x = 0
      · subst hx0
        go_wp2
        go_round
        case rel => exact ⟨1, by omega, rfl, fun _ => by trivial, fun h => by omega⟩
        case measure => simp [intOf]
      · go_wp2
        go_ret
        exact ⟨by rw [HF.out, if_pos hx0]; rfl, rfl⟩
    · have := h1 (by omega)
      subst this
      clear h1 h2
      by_cases hy0 : y = 0
      · subst hy0
        go_wp2
        go_round
        case rel => exact ⟨2, by omega, rfl, fun _ => by trivial, fun _ => by trivial⟩
        case measure => simp [intOf]
      · go_wp2
        go_ret
        exact ⟨by rw [HF.out, if_neg (by omega)]; rfl, rfl⟩
    · have := h1 (by omega)
      subst this
      have := h2 (by omega)
      subst this
      clear h1 h2
      go_wp2
      go_ret
      exact ⟨by rw [HF.out, if_neg (by omega)]; rfl, rfl⟩
end Go.Proofs.YtmlmlnbmfcpeaaaGreatDoor
