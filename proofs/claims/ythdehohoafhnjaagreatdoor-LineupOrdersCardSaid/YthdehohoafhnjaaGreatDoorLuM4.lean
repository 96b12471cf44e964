import Derived.Test.YthdehohoafhnjaaGreatDoorLuM3
set_option linter.unusedSimpArgs false
set_option linter.unusedVariables false
namespace Go.Ev
open Go.RowKit Go.Proofs
set_option maxRecDepth 100000
set_option maxHeartbeats 4000000
set_option linter.unusedSimpArgs false
noncomputable section
def dz : Dv := ⟨0, [], [], []⟩
theorem w6i {n : Int} (h : -1000000 ≤ n ∧ n ≤ 1000000) : w6 n = n := by unfold w6; rw [wrapI] <;> omega
theorem nx_e {p : Int} (h : 0 ≤ p) : nx p = p % 9 + 1 := by unfold nx; rw [Int.tmod_eq_emod_of_nonneg h]
theorem k4_at {s : Lu} {t : Int} {u : List (List Nat)} {k : Int} {f : Lz9 → Option (Dv × Bool × Unit)} {Q : Int} (hQ : 0 ≤ Q ∧ Q ≤ 8) (h : (w6 ((w6 (t - 1)) + k)).tmod 9 = Q) :
  (Tz9J s t u (.k4 k)).d f = cond (decide (k < ((u.length : Nat) : Int))) (cond (inR k u.length) (f (.k13 Q (!decide ((u.getD k.toNat []) = bt s Q)) k)) none) (some (dz, false, ())) := by
 simp only [Tz9J, TS, h]
 rcases nine0 hQ with rfl | rfl | rfl | rfl | rfl | rfl | rfl | rfl | rfl <;> rfl
theorem k13_at {s : Lu} {t : Int} {u : List (List Nat)} {k : Int} {f : Lz9 → Option (Dv × Bool × Unit)} {Q : Int} (hQ : 0 ≤ Q ∧ Q ≤ 8) {x : Bool} :
  (Tz9J s t u (.k13 Q x k)).d f = cond x (cond (inR k u.length) (some ((⟨k, bt s Q, u.getD k.toNat [], bt s ((Q + 1).tmod 9)⟩ : Dv), true, ())) none) (f (.k4 (w6 (k + 1)))) := by
 simp only [Tz9J, TS]
 rcases nine0 hQ with rfl | rfl | rfl | rfl | rfl | rfl | rfl | rfl | rfl <;> rfl
theorem axD {s : Lu} {t : Int} {u : List (List Nat)} {k : Int} {f : Lz5 → Option (Dv × Int × Unit)} {p : Int} (hp : 1 ≤ p ∧ p ≤ 9) :
  (Tz5J s t u (.k10 p k)).d f = cond (decide (k < ((u.length : Nat) : Int))) (cond (inR k u.length) (cond (decide ((u.getD k.toNat []) = bt s (p - 1))) (f (.k10 (nx p) (w6 (k + 1)))) (cond (k == ((u.length : Nat) : Int)) (some (dz, 7, ())) (cond (inR k u.length) (some ((⟨k, bt s (p - 1), u.getD k.toNat [], bt s (nx p - 1)⟩ : Dv), 0, ())) none))) none) (cond (k == ((u.length : Nat) : Int)) (some (dz, 7, ())) (cond (inR k u.length) (some ((⟨k, bt s (p - 1), u.getD k.toNat [], bt s (nx p - 1)⟩ : Dv), 0, ())) none)) := by
 simp only [Tz5J, TS, s31 s hp, s32 (show 0 ≤ p ∧ p ≤ 9 by omega), s31 s (nx_in (show 0 ≤ p ∧ p ≤ 9 by omega)), aB]; rfl
theorem ieq_f {k n : Nat} (h : k < n) : (((k : Nat) : Int) == ((n : Nat) : Int)) = false := by rw [beq_eq_false_iff_ne]; omega
theorem dev_eq (s : Lu) (t : Int) (u : List (List Nat)) (ht : 1 ≤ t ∧ t ≤ 9) (hl : u.length < 1000) : ∀ j n m k p, k + j = u.length → 1 ≤ p ∧ p ≤ 9 → (t - 1 + (k : Int)) % 9 = p - 1 →
  ∃ o : Option Dv, Ez5J s t u (n + j + 1) (.k10 p (k : Int)) = some (match o with | none => (dz, 7, ()) | some d => (d, 0, ())) ∧
   Ez9J s t u (m + 2 * j + 1) (.k4 (k : Int)) = some (match o with | none => (dz, false, ()) | some d => (d, true, ())) := by
 intro j
 induction j with
 | zero =>
   intro n m k p hk hp hq
   have e1 : (w6 ((w6 (t - 1)) + (k : Int))).tmod 9 = p - 1 := by rw [w6i (n := t - 1) (by omega), w6i (by omega), Int.tmod_eq_emod_of_nonneg (by omega)]; exact hq
   refine ⟨none, ?_, ?_⟩
   · rw [axW, axD hp, q4 (show ¬ k < u.length by omega), show k = u.length by omega, beq_self_eq_true]; rfl
   · rw [aqn, k4_at (by omega) e1, q4 (show ¬ k < u.length by omega)]; rfl
 | succ j ih =>
   intro n m k p hk hp hq
   have hlt : k < u.length := by omega
   have e1 : (w6 ((w6 (t - 1)) + (k : Int))).tmod 9 = p - 1 := by rw [w6i (n := t - 1) (by omega), w6i (by omega), Int.tmod_eq_emod_of_nonneg (by omega)]; exact hq
   have e2 : (p - 1 + 1).tmod 9 = nx p - 1 := by rw [nx_e (by omega), show p - 1 + 1 = p by omega, Int.tmod_eq_emod_of_nonneg (by omega)]; omega
   rw [axW, axD hp, tD hlt, oK hlt, ieq_f hlt, w6s (show k < 9223372036854775807 by omega), show m + 2 * (j + 1) + 1 = (m + 2 * j + 1 + 1) + 1 by omega, aqn, k4_at (by omega) e1, tD hlt, oK hlt]
   simp only [cond_true]
   rw [aqn, k13_at (by omega), oK hlt, e2, w6s (show k < 9223372036854775807 by omega)]
   cases hc : decide ((u.getD ((k : Int)).toNat []) = bt s (p - 1)) with
   | true =>
     simp only [cond_true, cond_false, Bool.not_true]
     exact ih n m (k + 1) (nx p) (by omega) (nx_in (by omega)) (by rw [nx_e (by omega)]; omega)
   | false =>
     exact ⟨some _, rfl, rfl⟩
theorem axC {s : Lu} {t : Int} {u : List (List Nat)} {k p : Int} {a : List Int} {f : Lz6 → Option (List Int × Int × Unit)} :
  (Tz6J s t u (.k14 p k a)).d f = cond (decide (k < ((u.length : Nat) : Int))) (cond (inR k u.length) (cond (!(sl s (u.getD k.toNat []) == p)) (cond (Nat.ble (8 * ((a.map fR.v).length + 1)) 1000000) (f (.k14 (nx (sl s (u.getD k.toNat []))) (w6 (k + 1)) (a ++ [k]))) none) (f (.k14 (nx (sl s (u.getD k.toNat []))) (w6 (k + 1)) a))) none) (some (a, 0, ())) := by
 simp only [Tz6J, TS, s33', s32 (sl_in _ _), aB]
theorem k6_at {s : Lu} {t : Int} {u : List (List Nat)} {k p : Int} (hp : 1 ≤ p ∧ p ≤ 9) {a : List Int} {f : axT → Option (List Int)} :
  (aqj s t u (.k6 p k a)).d f = cond (decide (k < ((u.length : Nat) : Int))) (cond (inR k u.length) (cond (!decide ((u.getD k.toNat []) = bt s (p - 1))) (cond (Nat.ble (8 * ((a.map fR.v).length + 1)) 1000000) (cond (inR k u.length) (f (.k6 (w6 (nx (sl s (u.getD k.toNat [])))) (w6 (k + 1)) (a ++ [k]))) none) none) (cond (inR k u.length) (f (.k6 (w6 (nx (sl s (u.getD k.toNat [])))) (w6 (k + 1)) a)) none)) none) (some a) := by
 simp only [aqj, TS, s36, s33', aB]
 rcases nine hp with rfl | rfl | rfl | rfl | rfl | rfl | rfl | rfl | rfl <;> rfl
theorem imp_eq (s : Lu) (t : Int) (u : List (List Nat)) (hl : u.length < 1000) {X : Option Int} (hv : f8 s (some 8) (some 9) X = some 0) : ∀ j n k p (a : List Int), k + j = u.length → 1 ≤ p ∧ p ≤ 9 → a.length ≤ k → qU s (u.drop k) = true →
  ∃ l : List Int, l.length ≤ u.length ∧ Ez6J s t u (n + j + 1) (.k14 p (k : Int) a) = some (l, 0, ()) ∧ aqs s t u (n + j + 1) (.k6 p (k : Int) a) = some l := by
 intro j
 induction j with
 | zero =>
   intro n k p a hk hp ha hf
   exact ⟨a, by omega, by rw [axV, axC, q4 (show ¬ k < u.length by omega)]; rfl, by rw [aqr, k6_at hp, q4 (show ¬ k < u.length by omega)]; rfl⟩
 | succ j ih =>
   intro n k p a hk hp ha hf
   have hlt : k < u.length := by omega
   obtain ⟨x, hx⟩ := vO hlt
   rw [kE hx, Bool.and_eq_true] at hf
   have h0 : sl s x ≠ 0 := by simpa using hf.1
   have hn := nx_in (sl_in s x)
   have key : (!(sl s x == p)) = !decide (x = bt s (p - 1)) := by
    by_cases e : x = bt s (p - 1)
    · have := sl_at hv hp
      rw [← e] at this
      rw [this, show decide (x = bt s (p - 1)) = true by simpa using e, beq_self_eq_true]
    · have : sl s x ≠ p := fun q => e (by have := sl_bt h0; rw [q] at this; exact this.symm)
      rw [show decide (x = bt s (p - 1)) = false by simpa using e, show (sl s x == p) = false by simpa using this]
   have hb : Nat.ble (8 * ((a.map fR.v).length + 1)) 1000000 = true := by rw [Nat.ble_eq, List.length_map]; omega
   rw [axV, axC, aqr, k6_at hp, tD hlt, oK hlt, Int.toNat_natCast, nF hx, key, hb, w6s (show k < 9223372036854775807 by omega), w6i (n := nx (sl s x)) (by omega)]
   simp only [cond_true]
   rw [show n + (j + 1) = n + j + 1 by omega]
   cases decide (x = bt s (p - 1)) with
   | true => exact ih n (k + 1) _ a (by omega) hn (by omega) hf.2
   | false => exact ih n (k + 1) _ (a ++ [(k : Int)]) (by omega) hn (by simp; omega) hf.2
theorem same_j (l : List Int) (hl : l.length < 1000) : ∀ j n k, k + j = l.length → aqu l l (n + j + 1) (.k8 (k : Int)) = some true := by
 intro j
 induction j with
 | zero =>
   intro n k hk
   rw [aqt]
   simp only [aqk, TS, q4 (show ¬ k < l.length by omega), cond_false]
 | succ j ih =>
   intro n k hk
   have hlt : k < l.length := by omega
   rw [aqt]
   simp only [aqk, TS, tD hlt, oK hlt, cond_true, beq_self_eq_true, Bool.not_true, cond_false, w6s (show k < 9223372036854775807 by omega)]
   rw [show n + (j + 1) = n + j + 1 by omega, ih n (k + 1) (by omega)]
theorem same (l : List Int) (hl : l.length < 1000) : aqx (l, l, ()) = some true := by
 show (Tf26 l l).d (aqu l l (l.length + l.length + 64)) = _
 simp only [Tf26, TS, beq_self_eq_true, Bool.not_true, cond_false]
 have := same_j l hl l.length (l.length + 63) 0 (by omega)
 rw [nc0] at this
 rw [show l.length + l.length + 64 = l.length + 63 + l.length + 1 by omega]; exact this
end
end Go.Ev
