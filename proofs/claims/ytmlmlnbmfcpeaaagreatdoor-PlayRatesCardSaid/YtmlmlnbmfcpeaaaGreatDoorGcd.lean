import Derived.Test.YtmlmlnbmfcpeaaaGreatDoorProg
import Derived.WalkKit
import Derived.Deep.QuietTactic
import Derived.BigQuiet
import Derived.Lib.Hide
namespace Go.Proofs.YtmlmlnbmfcpeaaaGreatDoor
open Go.RowKit

/-- the last number of the remainders that is not 0, as Go's remainder goes -/
def tg (a b : Int) : Int := if h : b = 0 then a else tg b (a.tmod b)
termination_by b.natAbs
decreasing_by
  rw [Int.natAbs_tmod]
  exact Nat.mod_lt _ (by omega)

theorem tg_zero (a : Int) : tg a 0 = a := by rw [tg]; simp
theorem tg_step (a b : Int) (h : b ≠ 0) : tg a b = tg b (a.tmod b) := by rw [tg]; simp [h]

theorem tg_natAbs : ∀ (n : Nat) (a b : Int), b.natAbs ≤ n → (tg a b).natAbs = Nat.gcd a.natAbs b.natAbs
  | n, a, b, h => by
    by_cases hb : b = 0
    · subst hb; rw [tg_zero]; simp
    · rw [tg_step a b hb]
      cases n with
      | zero => omega
      | succ n =>
        have hlt : (a.tmod b).natAbs < b.natAbs := by rw [Int.natAbs_tmod]; exact Nat.mod_lt _ (by omega)
        rw [tg_natAbs n b (a.tmod b) (by omega), Int.natAbs_tmod, Nat.gcd_comm, ← Nat.gcd_rec, Nat.gcd_comm]

set_option maxHeartbeats 400000 in
theorem gcd_any (a b : Int) (w : World) (ha : -2000000000 ≤ a ∧ a ≤ 2000000000) (hb : -2000000000 ≤ b ∧ b ≤ 2000000000) :
    Calls Tryz.prog 158 #[.int .i64 a, .int .i64 b] w fun e w' => e = .returned (.int .i64 (tg a b)) ∧ Below w.heap.size w w' := by
  go_enter Tryz.func158, Tryz.ntmps158
  go_wp2
  go_loopw [0, 1] (fun u v wr => ∃ x y : Int, u = .int .i64 x ∧ v = .int .i64 y ∧ -2000000000 ≤ x ∧ x ≤ 2000000000 ∧ -2000000000 ≤ y ∧ y ≤ 2000000000 ∧ Hid (tg x y = tg a b) ∧ Below w.heap.size w wr) (fun _ v _ => (intOf v).natAbs)
  case atStart => exact ⟨a, b, rfl, rfl, ha.1, ha.2, hb.1, hb.2, rfl, Below.refl _ _⟩
  case round =>
    obtain ⟨x, y, rfl, rfl, h1, h2, h3, h4, HT, hbw⟩ := hrel
    by_cases hy : y = 0
    · subst hy
      go_wp2
      go_ret
      exact ⟨by rw [← HT.out, tg_zero]; rfl, hbw⟩
    · have hm : -2000000000 ≤ x.tmod y ∧ x.tmod y ≤ 2000000000 := by
        have := Int.natAbs_tmod x y
        have h5 : x.natAbs % y.natAbs < y.natAbs := Nat.mod_lt _ (by omega)
        omega
      have H2 : Hid (tg y (x.tmod y) = tg a b) := by
        have := HT.out
        rw [tg_step x y hy] at this
        exact this
      have H3 : Hid ((x.tmod y).natAbs < y.natAbs) := by
        show _ < _
        rw [Int.natAbs_tmod]; exact Nat.mod_lt _ (by omega)
      clear HT
      go_wp2
      go_region
      all_goals
        go_roundw
        case rel => exact ⟨_, _, _, _, _, _, _, _, ⟨y, x.tmod y, rfl, rfl, h3, h4, hm.1, hm.2, H2, hbw.drew⟩, rfl⟩
        case measure => simpa [intOf] using H3.out
end Go.Proofs.YtmlmlnbmfcpeaaaGreatDoor
