import Derived.Test.YtahijjbkefmdpaaGreatDoorLuM4
set_option linter.unusedSimpArgs false
set_option linter.unusedVariables false
namespace Go.Ev
open Go.RowKit Go.Proofs
set_option maxRecDepth 100000
set_option maxHeartbeats 4000000
set_option linter.unusedSimpArgs false
noncomputable section
def bn (s : Lu) (b : Nat) : List Nat := bt s ((b % 9 : Nat) : Int)
def pn (b : Nat) : Int := ((b % 9 + 1 : Nat) : Int)
theorem oP (b : Nat) : 1 ≤ pn b ∧ pn b ≤ 9 := by unfold pn; omega
theorem axD (s : Lu) (b : Nat) : bt s (pn b - 1) = bn s b := by
 unfold bn
 rw [show pn b - 1 = ((b % 9 : Nat) : Int) by unfold pn; omega]
theorem aj3 (b : Nat) : nx (pn b) = pn (b + 1) := by
 rw [nx_e (by have := oP b; omega)]; unfold pn; omega
theorem bn_eq {s : Lu} {b c : Nat} (h : b % 9 = c % 9) : bn s b = bn s c := by unfold bn; rw [h]
structure Ok (s : Lu) : Prop where
 B : LuB s
 v : Sz5 (s, ()) = some 0
theorem Ok.n {s : Lu} (h : Ok s) : jX s (some (8 : Int)) (some 9) (posT s (some 3) (some 29) (some 0)) = some 0 := by
 have := h.v; rw [s7 s h.B] at this; exact this
theorem Ok.sl {s : Lu} (h : Ok s) (b : Nat) : sl s (bn s b) = pn b := by
 have := sl_at h.n (oP b); rw [axD] at this; exact this
theorem wV {s : Lu} (h : Ok s) : ∀ {u : List (List Nat)}, (∀ x ∈ u, ∃ b, x = bn s b) → u1 s u = true
 | [], _ => rfl
 | x :: l, hx => by
   obtain ⟨b, rfl⟩ := hx x List.mem_cons_self
   rw [u1, h.sl b, wV h fun y hy => hx y (List.mem_cons_of_mem _ hy), show (pn b == 0) = false by have := oP b; simp; omega]; rfl
theorem cm0 {s : Lu} (h : Ok s) {u : List (List Nat)} (hx : ∀ x ∈ u, ∃ b, x = bn s b) (hl : u.length ≤ 256) : cm s u = 0 := by
 unfold cm
 rw [wV h hx, show decide (256 < ((u.length : Nat) : Int)) = false by simp; omega]; rfl
theorem dev0 {s : Lu} (h : Ok s) {u : List (List Nat)} (b : Nat) (hx : ∀ x ∈ u, ∃ b, x = bn s b) (hl : u.length ≤ 256) :
  Sz6 (s, pn b, u, ()) = Ez6J s (pn b) u (u.length + 64) (.k10 (pn b) 0) := by
 show (Tz6 s (pn b) u).d (Ez6J s (pn b) u (u.length + 64)) = _
 have hr : rg (pn b) = true := by have := oP b; unfold rg; simp; omega
 simp only [Tz6, TS, s28 s h.B, h.v, s29, s30 s u (by omega), aE, s27_3, hr, cm0 h hx hl]; rfl
theorem imp0 {s : Lu} (h : Ok s) {u : List (List Nat)} (b : Nat) (hx : ∀ x ∈ u, ∃ b, x = bn s b) (hl : u.length ≤ 256) :
  Sz7 (s, pn b, u, ()) = ajK s (pn b) u (u.length + 64) (.k14 (pn b) 0 []) := by
 show (Tz7 s (pn b) u).d (ajK s (pn b) u (u.length + 64)) = _
 have hr : rg (pn b) = true := by have := oP b; unfold rg; simp; omega
 simp only [Tz7, TS, s28 s h.B, h.v, s29, s30 s u (by omega), aE, s27_3, hr, cm0 h hx hl]; rfl
section
variable {s : Lu} {t : Int} {u : List (List Nat)}
theorem dev_w (hl : u.length ≤ 256) : ∀ j n b k, k + j ≤ u.length → (∀ i, i < j → u.getD (k + i) [] = bn s (b + i)) → Ez6J s t u (n + j) (.k10 (pn b) ((k : Nat) : Int)) = Ez6J s t u n (.k10 (pn (b + j)) ((k + j : Nat) : Int)) := by
 intro j
 induction j with
 | zero => intro n b k _ _; rfl
 | succ j ih =>
   intro n b k hk hu
   have hlt : k < u.length := by omega
   have h0 := hu 0 (by omega)
   rw [Nat.add_zero, Nat.add_zero] at h0
   rw [show n + (j + 1) = n + j + 1 by omega, ajL, aqN (oP b), oW hlt, mB hlt, Int.toNat_natCast, h0, axD, decide_eq_true rfl, aj3, w6s (show k < 9223372036854775807 by omega)]
   simp only [cond_true]
   rw [ih n (b + 1) (k + 1) (by omega) fun i hi => by rw [show k + 1 + i = k + (i + 1) by omega, show b + 1 + i = b + (i + 1) by omega]; exact hu (i + 1) (by omega)]
   rw [show b + 1 + j = b + (j + 1) by omega, show k + 1 + j = k + (j + 1) by omega]
theorem wZ (h : Ok s) (b : Nat) (hl : u.length ≤ 256) (hu : ∀ i, i < u.length → u.getD i [] = bn s (b + i)) : Sz6 (s, pn b, u, ()) = some (dz, 7, ()) := by
 rw [dev0 h b (fun x hx => by
  obtain ⟨i, hi, rfl⟩ := List.getElem_of_mem hx
  exact ⟨b + i, by rw [← hu i hi, List.getD_eq_getElem?_getD, List.getElem?_eq_getElem hi]; rfl⟩) hl]
 rw [show u.length + 64 = 64 + u.length by omega]
 have := dev_w (s := s) (t := pn b) hl u.length 64 b 0 (by omega) fun i hi => by rw [Nat.zero_add]; exact hu i hi
 rw [nc0] at this
 rw [this, show (64 : Nat) = 63 + 1 from rfl, ajL, aqN (oP _), Nat.zero_add, vC (show ¬ u.length < u.length by omega), beq_self_eq_true]; rfl
theorem dev_at (h : Ok s) (b d : Nat) (hl : u.length ≤ 256) (hx : ∀ x ∈ u, ∃ b, x = bn s b) (hd : d < u.length) (hu : ∀ i, i < d → u.getD i [] = bn s (b + i)) (hne : u.getD d [] ≠ bn s (b + d)) :
  Sz6 (s, pn b, u, ()) = some (⟨((d : Nat) : Int), bn s (b + d), u.getD d [], bn s (b + d + 1)⟩, 0, ()) := by
 rw [dev0 h b hx hl, show u.length + 64 = (u.length + 63 - d) + 1 + d by omega]
 have := dev_w (s := s) (t := pn b) hl d (u.length + 63 - d + 1) b 0 (by omega) fun i hi => by rw [Nat.zero_add]; exact hu i hi
 rw [nc0] at this
 rw [this, ajL, aqN (oP _), Nat.zero_add, oW hd, mB hd, Int.toNat_natCast, axD, aj3, axD, decide_eq_false hne, ieq_f hd]
 rfl
theorem imp_w (h : Ok s) (hl : u.length ≤ 256) : ∀ j n b k a, k + j ≤ u.length → (∀ i, i < j → u.getD (k + i) [] = bn s (b + i)) → ajK s t u (n + j) (.k14 (pn b) ((k : Nat) : Int) a) = ajK s t u n (.k14 (pn (b + j)) ((k + j : Nat) : Int) a) := by
 intro j
 induction j with
 | zero => intro n b k a _ _; rfl
 | succ j ih =>
   intro n b k a hk hu
   have hlt : k < u.length := by omega
   have h0 := hu 0 (by omega)
   rw [Nat.add_zero, Nat.add_zero] at h0
   rw [show n + (j + 1) = n + j + 1 by omega, xM, wT, oW hlt, mB hlt, Int.toNat_natCast, h0, h.sl, beq_self_eq_true, aj3, w6s (show k < 9223372036854775807 by omega)]
   simp only [cond_true, Bool.not_true, cond_false]
   rw [ih n (b + 1) (k + 1) a (by omega) fun i hi => by rw [show k + 1 + i = k + (i + 1) by omega, show b + 1 + i = b + (i + 1) by omega]; exact hu (i + 1) (by omega)]
   rw [show b + 1 + j = b + (j + 1) by omega, show k + 1 + j = k + (j + 1) by omega]
theorem u0 {p : Int} {a : List Int} {n : Nat} : ajK s t u (n + 1) (.k14 p ((u.length : Nat) : Int) a) = some (a, 0, ()) := by
 rw [xM, wT, vC (show ¬ u.length < u.length by omega)]; rfl
theorem axY (h : Ok s) (b : Nat) (hl : u.length ≤ 256) (hu : ∀ i, i < u.length → u.getD i [] = bn s (b + i)) : Sz7 (s, pn b, u, ()) = some ([], 0, ()) := by
 rw [imp0 h b (fun x hx => by
  obtain ⟨i, hi, rfl⟩ := List.getElem_of_mem hx
  exact ⟨b + i, by rw [← hu i hi, List.getD_eq_getElem?_getD, List.getElem?_eq_getElem hi]; rfl⟩) hl]
 rw [show u.length + 64 = 64 + u.length by omega]
 have := imp_w (t := pn b) h hl u.length 64 b 0 [] (by omega) fun i hi => by rw [Nat.zero_add]; exact hu i hi
 rw [nc0] at this
 rw [this, Nat.zero_add]; exact u0
theorem imp_any (h : Ok s) (hl : u.length ≤ 256) (hx : ∀ x ∈ u, ∃ b, x = bn s b) : ∀ j n k p (a : List Int), k + j = u.length → a.length ≤ k → ∃ r, ajK s t u (n + j + 1) (.k14 p ((k : Nat) : Int) a) = some (a ++ r, 0, ()) := by
 intro j
 induction j with
 | zero =>
   intro n k p a hk ha
   exact ⟨[], by rw [show k = u.length by omega, List.append_nil]; exact u0⟩
 | succ j ih =>
   intro n k p a hk ha
   have hlt : k < u.length := by omega
   have hb : Nat.ble (8 * ((a.map uJ.v).length + 1)) 1000000 = true := by rw [Nat.ble_eq, List.length_map]; omega
   rw [xM, wT, oW hlt, mB hlt, hb, w6s (show k < 9223372036854775807 by omega), show n + (j + 1) = n + j + 1 by omega]
   simp only [cond_true]
   cases (sl s (u.getD ((k : Int)).toNat []) == p) with
   | true => exact ih n (k + 1) _ a (by omega) (by omega)
   | false =>
     obtain ⟨r, hr⟩ := ih n (k + 1) (nx (sl s (u.getD ((k : Int)).toNat []))) (a ++ [(k : Int)]) (by omega) (by simp; omega)
     exact ⟨(k : Int) :: r, by simp only [Bool.not_false, cond_true]; rw [hr, List.append_assoc]; rfl⟩
theorem axX (h : Ok s) (b d : Nat) (hl : u.length ≤ 256) (hx : ∀ x ∈ u, ∃ b, x = bn s b) (hd : d < u.length) (hu : ∀ i, i < d → u.getD i [] = bn s (b + i)) (hne : u.getD d [] ≠ bn s (b + d)) (n : Nat) :
  ajK s t u (n + 1 + d) (.k14 (pn b) 0 []) = ajK s t u n (.k14 (nx (sl s (u.getD d []))) ((d + 1 : Nat) : Int) [(d : Int)]) := by
 have := imp_w (t := t) h hl d (n + 1) b 0 [] (by omega) fun i hi => by rw [Nat.zero_add]; exact hu i hi
 rw [nc0] at this
 have hne2 : (sl s (u.getD d []) == pn (b + d)) = false := by
  obtain ⟨c, hc⟩ := hx (u.getD d []) (by rw [List.getD_eq_getElem?_getD, List.getElem?_eq_getElem hd]; exact List.getElem_mem hd)
  rw [hc, h.sl]
  rw [hc] at hne
  cases hq : (pn c == pn (b + d)) with
  | false => rfl
  | true =>
    have hq := eq_of_beq hq
    refine absurd (bn_eq ?_) hne
    unfold pn at hq; omega
 rw [this, xM, wT, Nat.zero_add, oW hd, mB hd, Int.toNat_natCast, hne2, w6s (show d < 9223372036854775807 by omega)]
 rfl
theorem imp_at (h : Ok s) (b d : Nat) (hl : u.length ≤ 256) (hx : ∀ x ∈ u, ∃ b, x = bn s b) (hd : d < u.length) (hu : ∀ i, i < d → u.getD i [] = bn s (b + i)) (hne : u.getD d [] ≠ bn s (b + d)) :
  ∃ r, Sz7 (s, pn b, u, ()) = some ((d : Int) :: r, 0, ()) := by
 rw [imp0 h b hx hl, show u.length + 64 = (62 + (u.length - (d + 1)) + 1 + 1) + 1 + d by omega, axX h b d hl hx hd hu hne]
 obtain ⟨r, hr⟩ := imp_any (t := pn b) h hl hx (u.length - (d + 1)) (62 + 1) (d + 1) (nx (sl s (u.getD d []))) [(d : Int)] (by omega) (by simp)
 refine ⟨r, ?_⟩
 rw [show 62 + (u.length - (d + 1)) + 1 + 1 = 62 + 1 + (u.length - (d + 1)) + 1 by omega, hr]; rfl
theorem imp_one (h : Ok s) (b d c : Nat) (hl : u.length ≤ 256) (hx : ∀ x ∈ u, ∃ b, x = bn s b) (hd : d < u.length) (hu : ∀ i, i < d → u.getD i [] = bn s (b + i)) (hc : u.getD d [] = bn s c) (hne : bn s c ≠ bn s (b + d))
  (hr : ∀ i, d + 1 + i < u.length → u.getD (d + 1 + i) [] = bn s (c + 1 + i)) : Sz7 (s, pn b, u, ()) = some ([(d : Int)], 0, ()) := by
 rw [imp0 h b hx hl, show u.length + 64 = (62 + 1 + (u.length - (d + 1)) + 1) + 1 + d by omega, axX h b d hl hx hd hu (by rw [hc]; exact hne), hc, h.sl, aj3]
 rw [show 62 + 1 + (u.length - (d + 1)) + 1 = 64 + (u.length - (d + 1)) by omega]
 rw [imp_w (t := pn b) h hl (u.length - (d + 1)) 64 (c + 1) (d + 1) [(d : Int)] (by omega) fun i hi => hr i (by omega)]
 rw [show d + 1 + (u.length - (d + 1)) = u.length by omega]; exact u0
end
end
end Go.Ev
