import Derived.Test.YtmlmlnbmfcpeaaaGreatDoorRate
namespace Go.Proofs.YtmlmlnbmfcpeaaaGreatDoor
open Go.RowKit

set_option maxHeartbeats 400000 in
theorem gcdRef_any (a b : Int) (w : World) (ha : -2000000000 ≤ a ∧ a ≤ 2000000000) (hb : -2000000000 ≤ b ∧ b ≤ 2000000000) :
    Calls Tryz.prog 129 #[.int .i64 a, .int .i64 b] w fun e w' => e = .returned (.int .i64 (tg a b)) ∧ Below w.heap.size w w' := by
  go_enter Tryz.func129, Tryz.ntmps129
  go_wp2
  go_loopw [0, 1] (fun u v wr => ∃ x y : Int, u = .int .i64 x ∧ v = .int .i64 y ∧ -2000000000 ≤ x ∧ x ≤ 2000000000 ∧ -2000000000 ≤ y ∧ y ≤ 2000000000 ∧ Hid (tg x y = tg a b) ∧ Below w.heap.size w wr) (fun _ v _ => (intOf v).natAbs)
  case atStart => exact ⟨a, b, rfl, rfl, ha.1, ha.2, hb.1, hb.2, rfl, Below.refl _ _⟩
  case round =>
    obtain ⟨x, y, rfl, rfl, h1, h2, h3, h4, HT, hbw⟩ := hrel
    by_cases hy : y = 0
    · subst hy
      go_wp2
      go_ret
      exact ⟨by rw [← HT.out, tg_zero]; rfl, hbw⟩
    · have hm : -2000000000 ≤ x.tmod y ∧ x.tmod y ≤ 2000000000 := by
        have := Int.natAbs_tmod x y
        have h5 : x.natAbs % y.natAbs < y.natAbs := Nat.mod_lt _ (by omega)
        omega
      have H2 : Hid (tg y (x.tmod y) = tg a b) := by
        have := HT.out
        rw [tg_step x y hy] at this
        exact this
      have H3 : Hid ((x.tmod y).natAbs < y.natAbs) := by
        show _ < _
        rw [Int.natAbs_tmod]; exact Nat.mod_lt _ (by omega)
      clear HT
      go_wp2
      go_region
      all_goals
        go_roundw
        case rel => exact ⟨_, _, _, _, _, _, _, _, ⟨y, x.tmod y, rfl, rfl, h3, h4, hm.1, hm.2, H2, hbw.drew⟩, rfl⟩
        case measure => simpa [intOf] using H3.out

def absI (n : Int) : Int := if n < 0 then -n else n

set_option maxHeartbeats 400000 in
theorem abs_any (n : Int) (w : World) (h : -2000000000 ≤ n ∧ n ≤ 2000000000) : Calls Tryz.prog 76 #[.int .i64 n] w fun e w' => e = .returned (.int .i64 (absI n)) ∧ w = w' := by
  have hn : absI n = if n < 0 then -n else n := rfl
  have HN := Lib.hid hn
  clear hn
  by_cases h0 : n < 0
  · go_enter Tryz.func76, Tryz.ntmps76
    go_wp2
    go_ret
    exact ⟨by rw [HN.out, if_pos h0]; first | rfl | (congr 2; show wrap64 _ = _; rw [wrap_small _ (by omega)]; omega), rfl⟩
  · go_enter Tryz.func76, Tryz.ntmps76
    go_wp2
    go_ret
    exact ⟨by rw [HN.out, if_neg (by omega)]; rfl, rfl⟩

/-- the error of a range -/
def rangeE (n lo hi : Int) : Int := if lo ≤ n ∧ n ≤ hi then 0 else 3

set_option maxHeartbeats 400000 in
theorem checkRange_any (n lo hi : Int) (w : World) : Calls Tryz.prog 61 #[.int .i64 n, .int .i64 lo, .int .i64 hi] w fun e w' => e = .returned (.int .i64 (rangeE n lo hi)) ∧ w = w' := by
  have hr : rangeE n lo hi = if lo ≤ n ∧ n ≤ hi then 0 else 3 := rfl
  have HR := Lib.hid hr
  clear hr
  by_cases h1 : n < lo
  · go_enter Tryz.func61, Tryz.ntmps61
    go_wp2
    go_ret
    exact ⟨by rw [HR.out, if_neg (by omega)]; rfl, rfl⟩
  · by_cases h2 : hi < n
    · go_enter Tryz.func61, Tryz.ntmps61
      go_wp2
      go_ret
      exact ⟨by rw [HR.out, if_neg (by omega)]; rfl, rfl⟩
    · go_enter Tryz.func61, Tryz.ntmps61
      go_wp2
      go_ret
      exact ⟨by rw [HR.out, if_pos (by omega)]; rfl, rfl⟩

/-- the first of two errors -/
def firstE (x y : Int) : Int := if x ≠ 0 then x else y

set_option maxHeartbeats 400000 in
theorem firstRef_any (x y : Int) (b : Nat) (w : World) (hx : w.cell? ⟨b, 0, none⟩ = some (.int .i64 x)) (hy : w.cell? ⟨b, 1, none⟩ = some (.int .i64 y)) :
    Calls Tryz.prog 47 #[.slice (some ⟨b, 0, none⟩) 2 2] w fun e w' => e = .returned (.int .i64 (firstE x y)) ∧ w = w' := by
  have hf : firstE x y = if x ≠ 0 then x else y := rfl
  have HF := Lib.hid hf
  clear hf
  go_enter Tryz.func47, Tryz.ntmps47
  go_wp2
  go_loop [3] (fun i => ∃ k : Nat, k ≤ 2 ∧ i = .int .i64 k ∧ (0 < k → x = 0) ∧ (1 < k → y = 0)) (fun i => 2 - (intOf i).toNat)
  case atStart => exact ⟨0, by omega, rfl, fun h => by omega, fun h => by omega⟩
  case round =>
    obtain ⟨k, hk, rfl, h1, h2⟩ := hrel
    obtain rfl | rfl | rfl : k = 0 ∨ k = 1 ∨ k = 2 := by omega
    · clear h1 h2
      by_cases hx0 : x = 0
      · subst hx0
        go_wp2
        go_round
        case rel => exact ⟨1, by omega, rfl, fun _ => by trivial, fun h => by omega⟩
        case measure => simp [intOf]
      · go_wp2
        go_ret
        exact ⟨by rw [HF.out, if_pos hx0]; rfl, rfl⟩
    · have := h1 (by omega)
      subst this
      clear h1 h2
      by_cases hy0 : y = 0
      · subst hy0
        go_wp2
        go_round
        case rel => exact ⟨2, by omega, rfl, fun _ => by trivial, fun _ => by trivial⟩
        case measure => simp [intOf]
      · go_wp2
        go_ret
        exact ⟨by rw [HF.out, if_neg (by omega)]; rfl, rfl⟩
    · have := h1 (by omega)
      subst this
      have := h2 (by omega)
      subst this
      clear h1 h2
      go_wp2
      go_ret
      exact ⟨by rw [HF.out, if_neg (by omega)]; rfl, rfl⟩
end Go.Proofs.YtmlmlnbmfcpeaaaGreatDoor
