import Derived.Test.YtahijjbkefmdpaaGreatDoorLuM3
set_option linter.unusedSimpArgs false
set_option linter.unusedVariables false
namespace Go.Ev
open Go.RowKit Go.Proofs
set_option maxRecDepth 100000
set_option maxHeartbeats 4000000
set_option linter.unusedSimpArgs false
noncomputable section
def dz : Dv := ⟨0, [], [], []⟩
theorem w6i {n : Int} (h : -1000000 ≤ n ∧ n ≤ 1000000) : w6 n = n := by unfold w6; rw [wrapI] <;> omega
theorem nx_e {p : Int} (h : 0 ≤ p) : nx p = p % 9 + 1 := by unfold nx; rw [Int.tmod_eq_emod_of_nonneg h]
theorem aqN {s : Lu} {t : Int} {u : List (List Nat)} {k : Int} {f : Lz6 → Option (Dv × Int × Unit)} {p : Int} (hp : 1 ≤ p ∧ p ≤ 9) :
  (Tz6J s t u (.k10 p k)).d f = cond (decide (k < ((u.length : Nat) : Int))) (cond (inR k u.length) (cond (decide ((u.getD k.toNat []) = bt s (p - 1))) (f (.k10 (nx p) (w6 (k + 1)))) (cond (k == ((u.length : Nat) : Int)) (some (dz, 7, ())) (cond (inR k u.length) (some ((⟨k, bt s (p - 1), u.getD k.toNat [], bt s (nx p - 1)⟩ : Dv), 0, ())) none))) none) (cond (k == ((u.length : Nat) : Int)) (some (dz, 7, ())) (cond (inR k u.length) (some ((⟨k, bt s (p - 1), u.getD k.toNat [], bt s (nx p - 1)⟩ : Dv), 0, ())) none)) := by
 simp only [Tz6J, TS, s31 s hp, s32 (show 0 ≤ p ∧ p ≤ 9 by omega), s31 s (nx_in (show 0 ≤ p ∧ p ≤ 9 by omega)), aE]; rfl
theorem ieq_f {k n : Nat} (h : k < n) : (((k : Nat) : Int) == ((n : Nat) : Int)) = false := by rw [beq_eq_false_iff_ne]; omega
theorem wT {s : Lu} {t : Int} {u : List (List Nat)} {k p : Int} {a : List Int} {f : Lz7 → Option (List Int × Int × Unit)} :
  (Tz7J s t u (.k14 p k a)).d f = cond (decide (k < ((u.length : Nat) : Int))) (cond (inR k u.length) (cond (!(sl s (u.getD k.toNat []) == p)) (cond (Nat.ble (8 * ((a.map uJ.v).length + 1)) 1000000) (f (.k14 (nx (sl s (u.getD k.toNat []))) (w6 (k + 1)) (a ++ [k]))) none) (f (.k14 (nx (sl s (u.getD k.toNat []))) (w6 (k + 1)) a))) none) (some (a, 0, ())) := by
 simp only [Tz7J, TS, s33', s32 (sl_in _ _), aE]
theorem same_j (l : List Int) (hl : l.length < 1000) : ∀ j n k, k + j = l.length → ajQ l l (n + j + 1) (.k8 (k : Int)) = some true := by
 intro j
 induction j with
 | zero =>
   intro n k hk
   rw [ajP]
   simp only [ajH, TS, vC (show ¬ k < l.length by omega), cond_false]
 | succ j ih =>
   intro n k hk
   have hlt : k < l.length := by omega
   rw [ajP]
   simp only [ajH, TS, oW hlt, mB hlt, cond_true, beq_self_eq_true, Bool.not_true, cond_false, w6s (show k < 9223372036854775807 by omega)]
   rw [show n + (j + 1) = n + j + 1 by omega, ih n (k + 1) (by omega)]
theorem same (l : List Int) (hl : l.length < 1000) : Sf26 (l, l, ()) = some true := by
 show (Tf26 l l).d (ajQ l l (l.length + l.length + 64)) = _
 simp only [Tf26, TS, beq_self_eq_true, Bool.not_true, cond_false]
 have := same_j l hl l.length (l.length + 63) 0 (by omega)
 rw [nc0] at this
 rw [show l.length + l.length + 64 = l.length + 63 + l.length + 1 by omega]; exact this
end
end Go.Ev
