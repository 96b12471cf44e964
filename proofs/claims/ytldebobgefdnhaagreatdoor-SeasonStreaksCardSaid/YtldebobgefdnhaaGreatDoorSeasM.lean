import Derived.Test.YtldebobgefdnhaaGreatDoorEvD
import Derived.Test.YtldebobgefdnhaaGreatDoorDS1
set_option linter.unusedSimpArgs false
set_option linter.unusedVariables false
namespace Go.Ev
open Go.RowKit Go.Proofs
set_option maxRecDepth 100000
noncomputable section
theorem s59 (n : Int) : Sz59 (n, ()) = some ⟨n, n, n, n⟩ := rfl
theorem s60 (a b c : Int) : Sz60 (a, b, c, ()) = some (decide (b ≤ a) && decide (a ≤ c)) := by
 show (Tz60 a b c).d noE = _
 simp only [Tz60, TS]
 cases decide (b ≤ a) <;> rfl
theorem inR0 {n : Nat} (h : 0 < n) : inR (0 : Int) n = true := by simp only [inR]; simp; omega
theorem s27 (lo hi n : Int) : Sz27 (lo, hi, [n], ()) = some (if lo ≤ n ∧ n ≤ hi then 0 else 3) := by
 show (Tz27 lo hi [n]).d (ajB lo hi [n] (63 + 1 + 1)) = _
 simp only [Tz27, TS]
 rw [aqF]
 simp only [aqD, TS]
 rw [show (decide ((0 : Int) < (([n].length : Nat) : Int))) = true from rfl, inR0 (by simp), show [n].getD (0 : Int).toNat 0 = n from rfl, s60]
 simp only [cond_true, c9]
 rw [aqF]
 simp only [aqD, TS]
 rw [show (decide (w6 (0 + 1) < (([n].length : Nat) : Int))) = false from rfl]
 simp only [cond_false]
 by_cases h1 : lo ≤ n <;> by_cases h2 : n ≤ hi <;> simp [h1, h2]
theorem pV {k n : Nat} (h : k < n) : inR (k : Int) n = true := by simp only [inR]; simp; omega
def lS : List Int → Int
 | [] => 0
 | x :: l => if x = 0 then lS l else x
theorem s26L (l : List Int) (hl : l.length < 1000) : ∀ (n k : Nat), k ≤ l.length → l.length - k < n → aqG l n (.k4 k) = some (lS (l.drop k))
 | 0, k, _, h => by omega
 | n + 1, k, hk, hn => by
   rw [Ez26J_s]
   simp only [aqy, TS]
   by_cases h : k < l.length
   · rw [show decide ((k : Int) < ((l.length : Nat) : Int)) = true by simp; omega, pV h, Int.toNat_natCast]
     have hw : w6 ((k : Int) + 1) = ((k + 1 : Nat) : Int) := by rw [show (k : Int) + 1 = ((k + 1 : Nat) : Int) by omega]; exact aN (by omega) (by omega)
     rw [hw, s26L l hl n (k + 1) (by omega) (by omega)]
     have hd : l.drop k = l.getD k 0 :: l.drop (k + 1) := by rw [List.drop_eq_getElem_cons h]; simp [h]
     rw [hd]
     simp only [cond_true, lS]
     by_cases hx : l.getD k 0 = 0 <;> simp only [hx, if_true, if_false, beq_self_eq_true, Bool.not_true, cond_false]
     rw [show ((l.getD k 0) == 0) = false by simpa using hx]; rfl
   · rw [show decide ((k : Int) < ((l.length : Nat) : Int)) = false by simp; omega, List.drop_eq_nil_of_le (by omega)]
     rfl
theorem s26 (l : List Int) (hl : l.length < 1000) : Sz26 (l, ()) = some (lS l) := by
 show (Tz26 l).d (aqG l (l.length + 64)) = _
 simp only [Tz26, TS]
 exact s26L l hl (l.length + 64) 0 (by omega) (by omega)
theorem s9L (l : List Int) (hl : l.length < 1000) : ∀ (n k : Nat), k ≤ l.length → l.length - k < n → Ez9J l n (.k4 k) = some (lS (l.drop k))
 | 0, k, _, h => by omega
 | n + 1, k, hk, hn => by
   rw [Ez9J_s]
   simp only [Tz9J, TS]
   by_cases h : k < l.length
   · rw [show decide ((k : Int) < ((l.length : Nat) : Int)) = true by simp; omega, pV h, Int.toNat_natCast]
     have hw : w6 ((k : Int) + 1) = ((k + 1 : Nat) : Int) := by rw [show (k : Int) + 1 = ((k + 1 : Nat) : Int) by omega]; exact aN (by omega) (by omega)
     rw [hw, s9L l hl n (k + 1) (by omega) (by omega)]
     have hd : l.drop k = l.getD k 0 :: l.drop (k + 1) := by rw [List.drop_eq_getElem_cons h]; simp [h]
     rw [hd]
     simp only [cond_true, lS]
     by_cases hx : l.getD k 0 = 0 <;> simp only [hx, if_true, if_false, beq_self_eq_true, Bool.not_true, cond_false]
     rw [show ((l.getD k 0) == 0) = false by simpa using hx]; rfl
   · rw [show decide ((k : Int) < ((l.length : Nat) : Int)) = false by simp; omega, List.drop_eq_nil_of_le (by omega)]
     rfl
theorem s9 (l : List Int) (hl : l.length < 1000) : Sz9 (l, ()) = some (lS l) := by
 show (Tz9 l).d (Ez9J l (l.length + 64)) = _
 simp only [Tz9, TS]
 exact s9L l hl (l.length + 64) 0 (by omega) (by omega)
def skB (s : Sk) : Bool := decide (0 ≤ s.f ∧ s.f ≤ s.m ∧ 0 ≤ s.l ∧ s.l ≤ s.m ∧ s.m ≤ s.g) && (if s.m = s.g then decide (s.f = s.g ∧ s.l = s.g) else decide (s.f + s.l + 1 ≤ s.g ∧ (s.m ≤ max s.f s.l ∨ s.f + s.l + s.m + 2 ≤ s.g)))
def chk (s : Sk) : Int := if 0 ≤ s.g ∧ s.g ≤ 999999999 then (if skB s = true then 0 else 1) else 3
structure Okk (s : Sk) : Prop where
 g0 : 0 ≤ s.g
 g1 : s.g ≤ 999999999
 f0 : 0 ≤ s.f
 f1 : s.f ≤ s.m
 l0 : 0 ≤ s.l
 l1 : s.l ≤ s.m
 m1 : s.m ≤ s.g
 all : s.m = s.g → s.f = s.g ∧ s.l = s.g
 some : s.m ≠ s.g → s.f + s.l + 1 ≤ s.g ∧ (s.m ≤ max s.f s.l ∨ s.f + s.l + s.m + 2 ≤ s.g)
theorem Okk.of {s : Sk} (h : chk s = 0) : Okk s := by
 unfold chk at h
 split at h
 · rename_i hg
   split at h
   · rename_i hb
     simp only [skB, Bool.and_eq_true, decide_eq_true_eq] at hb
     obtain ⟨⟨h1, h2, h3, h4, h5⟩, h6⟩ := hb
     refine ⟨hg.1, hg.2, h1, h2, h3, h4, h5, fun he => ?_, fun hne => ?_⟩
     · rw [if_pos he] at h6; simpa using h6
     · rw [if_neg hne] at h6; simpa using h6
   · cases h
 · cases h
theorem bmax (a b : Int) : (bif decide (a < b) then b else a) = max a b := by
 by_cases h : a < b <;> simp [h] <;> omega
theorem s30 (s : Sk) (hg : 0 ≤ s.g ∧ s.g ≤ 999999999) : Sz30 (s, ()) = some (skB s) := by
 show (Tz30 s).d noE = _
 simp only [Tz30, TS, s60, s59, c9, skB, bmax]
 by_cases h1 : 0 ≤ s.f ∧ s.f ≤ s.m
 · by_cases h2 : 0 ≤ s.l ∧ s.l ≤ s.m
   · by_cases h3 : s.m ≤ s.g
     · have w1 : w6 (s.f + s.l) = s.f + s.l := aN (by omega) (by omega)
       have w2 : w6 (s.f + s.l + 1) = s.f + s.l + 1 := aN (by omega) (by omega)
       have w3 : w6 (s.m + 1) = s.m + 1 := aN (by omega) (by omega)
       have w4 : w6 (s.f + s.l + 1 + (s.m + 1)) = s.f + s.l + 1 + (s.m + 1) := aN (by omega) (by omega)
       simp only [h1, h2, h3, w1, w2, w3, w4, and_self, decide_true, Bool.and_self, Bool.not_true, cond_false, show ¬ s.g < s.m by omega, decide_false, Bool.true_and]
       by_cases h4 : s.m = s.g
       · simp [h4]; rfl
       · simp only [show (s.m == s.g) = false by simpa using h4, cond_false, if_neg h4]
         by_cases h5 : max s.f s.l < s.m
         · simp only [h5, decide_true, cond_true]
           congr 1
           rw [decide_eq_decide]
           omega
         · simp only [h5, decide_false, cond_false]
           congr 1
           rw [decide_eq_decide]
           omega
     · simp [h1, h2, h3, show s.g < s.m by omega]
   · have : (decide (0 ≤ s.l) && decide (s.l ≤ s.m)) = false := by simp; omega
     have h3 : ¬ (0 ≤ s.f ∧ s.f ≤ s.m ∧ 0 ≤ s.l ∧ s.l ≤ s.m ∧ s.m ≤ s.g) := by omega
     rw [decide_eq_false h3]
     simp only [h1, this, decide_true, Bool.and_self, Bool.not_true, Bool.not_false, cond_false, cond_true, Bool.false_and]
 · have : (decide (0 ≤ s.f) && decide (s.f ≤ s.m)) = false := by simp; omega
   have h3 : ¬ (0 ≤ s.f ∧ s.f ≤ s.m ∧ 0 ≤ s.l ∧ s.l ≤ s.m ∧ s.m ≤ s.g) := by omega
   simp only [this, Bool.not_false, cond_true, h3, decide_false, Bool.false_and]
theorem s12 (s : Sk) : Sz12 (s, ()) = some (chk s) := by
 show (Tz12 s).d noE = _
 simp only [Tz12, TS, s27, c9, chk]
 by_cases hg : 0 ≤ s.g ∧ s.g ≤ 999999999
 · simp only [hg, and_self, if_true, s30 s hg]
   cases skB s <;> rfl
 · simp only [hg, if_false]; rfl
theorem s29 (n lo hi : Int) : Sz29 (n, lo, hi, ()) = some (if lo ≤ n ∧ n ≤ hi then 0 else 3) := by
 show (Tz29 n lo hi).d noE = _
 simp only [Tz29, TS]
 by_cases h1 : n < lo
 · simp [h1, show ¬ lo ≤ n by omega]
 · by_cases h2 : hi < n
   · simp [h1, h2, show ¬ n ≤ hi by omega]
   · simp [h1, h2, show lo ≤ n ∧ n ≤ hi by omega]
theorem s10 (s : Sk) : Sz10 (s, ()) = some (chk s) := by
 show (Tz10 s).d noE = _
 simp only [Tz10, TS, s29, c9, chk]
 by_cases hg : 0 ≤ s.g ∧ s.g ≤ 999999999
 · simp only [hg, and_self, if_true, beq_self_eq_true, Bool.not_true, cond_false, skB, bmax]
   by_cases h1 : 0 ≤ s.f ∧ s.f ≤ s.m ∧ 0 ≤ s.l ∧ s.l ≤ s.m ∧ s.m ≤ s.g
   · have w1 : w6 (s.f + s.l) = s.f + s.l := aN (by omega) (by omega)
     have w2 : w6 (s.g - 1) = s.g - 1 := aN (by omega) (by omega)
     have w3 : w6 (s.g - 2) = s.g - 2 := aN (by omega) (by omega)
     have w4 : w6 (s.f + s.l + s.m) = s.f + s.l + s.m := aN (by omega) (by omega)
     simp only [w1, w2, w3, w4, show ¬ s.f < 0 by omega, show ¬ s.l < 0 by omega, show ¬ s.m < s.f by omega, show ¬ s.m < s.l by omega, show ¬ s.g < s.m by omega, h1, and_self, decide_true, decide_false, cond_false, Bool.true_and]
     by_cases h4 : s.m = s.g
     · simp only [h4, beq_self_eq_true, cond_true, if_true]
       by_cases h5 : s.f = s.g
       · by_cases h6 : s.l = s.g
         · simp [h5, h6]
         · simp [h5, h6, show (s.l == s.g) = false by simpa using h6]
       · simp [h5, show (s.f == s.g) = false by simpa using h5]
     · simp only [show (s.m == s.g) = false by simpa using h4, cond_false, if_neg h4]
       by_cases h5 : s.g - 1 < s.f + s.l
       · simp [h5, show ¬ s.f + s.l + 1 ≤ s.g by omega]
       · by_cases h6 : max s.f s.l < s.m
         · by_cases h7 : s.g - 2 < s.f + s.l + s.m
           · have : ¬ (s.f + s.l + 1 ≤ s.g ∧ (s.m ≤ max s.f s.l ∨ s.f + s.l + s.m + 2 ≤ s.g)) := by omega
             simp only [h5, h6, h7, this, decide_true, decide_false, cond_true, cond_false, Bool.false_eq_true, if_false]
           · have : (s.f + s.l + 1 ≤ s.g ∧ (s.m ≤ max s.f s.l ∨ s.f + s.l + s.m + 2 ≤ s.g)) := by omega
             simp only [h5, h6, h7, this, and_self, decide_true, decide_false, cond_true, cond_false, if_true]
         · have : (s.f + s.l + 1 ≤ s.g ∧ (s.m ≤ max s.f s.l ∨ s.f + s.l + s.m + 2 ≤ s.g)) := by omega
           simp only [h5, h6, this, and_self, decide_true, decide_false, cond_false, if_true]
   · simp only [h1, decide_false, Bool.false_and, Bool.false_eq_true, if_false]
     by_cases a1 : s.f < 0
     · simp [a1]
     · by_cases a2 : s.l < 0
       · simp [a1, a2]
       · by_cases a3 : s.m < s.f
         · simp [a1, a2, a3]
         · by_cases a4 : s.m < s.l
           · simp [a1, a2, a3, a4]
           · simp [a1, a2, a3, a4, show s.g < s.m by omega]
 · simp only [hg, if_false]; rfl
end
end Go.Ev
