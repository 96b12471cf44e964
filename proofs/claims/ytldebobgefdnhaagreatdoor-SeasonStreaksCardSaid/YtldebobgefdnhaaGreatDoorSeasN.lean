import Derived.Test.YtldebobgefdnhaaGreatDoorSeasM
import Derived.Test.YtldebobgefdnhaaGreatDoorDS3
set_option linter.unusedSimpArgs false
set_option linter.unusedVariables false
namespace Go.Ev
open Go.RowKit Go.Proofs
set_option maxRecDepth 100000
noncomputable section
def jn (s t : Sk) : Sk := ⟨s.g + t.g, if s.f = s.g then s.f + t.f else s.f, if t.l = t.g then t.l + s.l else t.l, max (max s.m t.m) (s.l + t.f)⟩
theorem unb {s : Sk} (h : Okk s) : ((s.g == s.g) && ((s.f == s.g) && ((s.l == s.g) && ((s.m == s.g) && true)))) = decide (s.f = s.g) := by
 by_cases hf : s.f = s.g
 · have hm : s.m = s.g := by have := h.f1; have := h.m1; omega
   have hl := (h.all hm).2
   rw [hf, hl, hm]; simp
 · rw [show (s.f == s.g) = false by simpa using hf]; simp [hf]
theorem unb2 {s : Sk} (h : Okk s) : decide (s.f = s.g) = decide (s.l = s.g) := by
 rw [decide_eq_decide]
 have h1 := h.f1; have h2 := h.m1; have h3 := h.l1; have h4 := h.all
 constructor
 · intro hf; exact (h4 (by omega)).2
 · intro hf; exact (h4 (by omega)).1
theorem s28 {s t : Sk} (hs : Okk s) (ht : Okk t) : Sz28 (s, t, ()) = some (jn s t) := by
 show (Tz28 s t).d noE = _
 have a1 := hs.g0; have a2 := hs.g1; have a3 := hs.f0; have a4 := hs.f1; have a5 := hs.l0; have a6 := hs.l1; have a7 := hs.m1
 have b1 := ht.g0; have b2 := ht.g1; have b3 := ht.f0; have b4 := ht.f1; have b5 := ht.l0; have b6 := ht.l1; have b7 := ht.m1
 have w1 : w6 (s.g + t.g) = s.g + t.g := aN (by omega) (by omega)
 have w2 : w6 (s.f + t.f) = s.f + t.f := aN (by omega) (by omega)
 have w3 : w6 (t.l + s.l) = t.l + s.l := aN (by omega) (by omega)
 have w4 : w6 (s.l + t.f) = s.l + t.f := aN (by omega) (by omega)
 simp only [Tz28, TS, s59, c9, w1, w2, w3, w4, bmax, unb hs, unb ht, unb2 ht, jn]
 by_cases h1 : s.f = s.g <;> by_cases h2 : t.l = t.g <;> simp only [h1, h2, decide_true, decide_false, cond_true, cond_false, if_true, if_false]
def stk (l : List Bool) : Sk := ⟨l.length, fstL l, lstL l, lngL l⟩
theorem tP {l : List Bool} (h : l.length ≤ 999999999) : Okk (stk l) := by
 have h1 := mW l; have h2 := hJ l; have h3 := mN l; have h4 := qS l; have h5 := gA l; have h6 := pO l; have h7 := yL l
 refine ⟨?_, ?_, ?_, ?_, ?_, ?_, ?_, ?_, ?_⟩ <;> simp only [stk] <;> omega
theorem jn_stk (a b : List Bool) : jn (stk a) (stk b) = stk (a ++ b) := by
 have h1 := dR a b; have h2 := hN a b; have h3 := hO a b
 have e1 : (if (fstL a : Int) = (a.length : Int) then (fstL a : Int) + (fstL b : Int) else (fstL a : Int)) = ((fstL (a ++ b) : Nat) : Int) := by
  rw [h1]
  by_cases h : fstL a = a.length
  · rw [if_pos h, if_pos (by omega)]; omega
  · rw [if_neg h, if_neg (by omega)]
 have e2 : (if (lstL b : Int) = (b.length : Int) then (lstL b : Int) + (lstL a : Int) else (lstL b : Int)) = ((lstL (a ++ b) : Nat) : Int) := by
  rw [h2]
  by_cases h : lstL b = b.length
  · rw [if_pos h, if_pos (by omega)]; omega
  · rw [if_neg h, if_neg (by omega)]
 have e3 : (a.length : Int) + (b.length : Int) = (((a ++ b).length : Nat) : Int) := by simp
 have e4 : max (max (lngL a : Int) (lngL b : Int)) ((lstL a : Int) + (fstL b : Int)) = ((lngL (a ++ b) : Nat) : Int) := by rw [h3]; omega
 show Sk.mk ((a.length : Int) + (b.length : Int)) (if (fstL a : Int) = (a.length : Int) then (fstL a : Int) + (fstL b : Int) else (fstL a : Int)) (if (lstL b : Int) = (b.length : Int) then (lstL b : Int) + (lstL a : Int) else (lstL b : Int)) (max (max (lngL a : Int) (lngL b : Int)) ((lstL a : Int) + (fstL b : Int))) = _
 rw [e1, e2, e3, e4]; rfl
theorem stk_one (b : Bool) : stk [b] = if b = true then ⟨1, 1, 1, 1⟩ else ⟨1, 0, 0, 0⟩ := by cases b <;> rfl
theorem s25L (l : List Bool) (hl : l.length ≤ 999999999) : ∀ (n k : Nat), k ≤ l.length → l.length - k < n → aqH l n (.k6 k (stk (l.take k)).g (stk (l.take k)).f (stk (l.take k)).l (stk (l.take k)).m) = some (stk l)
 | 0, k, _, h => by omega
 | n + 1, k, hk, hn => by
   rw [Ez25J_s]
   simp only [aqz, TS]
   by_cases h : k < l.length
   · rw [show decide ((k : Int) < ((l.length : Nat) : Int)) = true by simp; omega, pV h, Int.toNat_natCast]
     have hw : w6 ((k : Int) + 1) = ((k + 1 : Nat) : Int) := by rw [show (k : Int) + 1 = ((k + 1 : Nat) : Int) by omega]; exact aN (by omega) (by omega)
     have ht : Okk (stk (l.take k)) := tP (by simp; omega)
     have hd : l.take (k + 1) = l.take k ++ [l.getD k false] := by rw [List.take_add_one]; simp [h]
     have ih := s25L l hl n (k + 1) (by omega) (by omega)
     rw [hd, ← jn_stk, stk_one] at ih
     have h1 : Okk (⟨1, 1, 1, 1⟩ : Sk) := tP (l := [true]) (by decide)
     have h0 : Okk (⟨1, 0, 0, 0⟩ : Sk) := tP (l := [false]) (by decide)
     rw [hw]
     cases hb : l.getD k false with
     | true =>
       rw [hb, if_pos rfl] at ih
       simp only [cond_true, s59, c9]
       rw [show (⟨(stk (l.take k)).g, (stk (l.take k)).f, (stk (l.take k)).l, (stk (l.take k)).m⟩ : Sk) = stk (l.take k) from rfl, s28 ht h1]
       exact ih
     | false =>
       rw [hb, if_neg (by simp)] at ih
       simp only [cond_true, cond_false, c9]
       rw [show (⟨(stk (l.take k)).g, (stk (l.take k)).f, (stk (l.take k)).l, (stk (l.take k)).m⟩ : Sk) = stk (l.take k) from rfl, s28 ht h0]
       exact ih
   · obtain rfl : k = l.length := by omega
     rw [show decide (((l.length : Nat) : Int) < ((l.length : Nat) : Int)) = false by simp, List.take_length]
     rfl
theorem s25 (l : List Bool) (hl : l.length ≤ 999999999) : Sz25 (l, ()) = some (stk l) := by
 show (Tz25 l).d (aqH l (l.length + 64)) = _
 simp only [Tz25, TS]
 exact s25L l hl (l.length + 64) 0 (by omega) (by omega)
theorem s6 (l : List Bool) : Sz6 (l, ()) = some (if l.length ≤ 256 then (stk l, 0, ()) else (⟨0, 0, 0, 0⟩, 5, ())) := by
 show (Tz6 l).d noE = _
 simp only [Tz6, TS]
 by_cases h : l.length ≤ 256
 · rw [show decide ((256 : Int) < ((l.length : Nat) : Int)) = false by simp; omega, s25 l (by omega), if_pos h]; rfl
 · rw [show decide ((256 : Int) < ((l.length : Nat) : Int)) = true by simp; omega, if_neg h]; rfl
def xC (s t : Sk) : Int := lS [chk s, chk t, if 0 ≤ w6 (s.g + t.g) ∧ w6 (s.g + t.g) ≤ 999999999 then 0 else 3]
theorem s7 (s t : Sk) : Sz7 (s, t, ()) = some (if xC s t = 0 then (jn s t, 0, ()) else (⟨0, 0, 0, 0⟩, xC s t, ())) := by
 show (Tz7 s t).d noE = _
 simp only [Tz7, TS, s12, s27, s26 _ (show [_, _, _].length < 1000 by simp), c9]
 show (cond (!(xC s t == 0)) _ _) = _
 by_cases h : xC s t = 0
 · have hs : chk s = 0 := by
    by_cases h1 : chk s = 0
    · exact h1
    · simp [xC, lS, h1] at h
   have ht : chk t = 0 := by
    by_cases h1 : chk t = 0
    · exact h1
    · simp [xC, lS, hs, h1] at h
   rw [s28 (Okk.of hs) (Okk.of ht)]
   simp only [h, if_true, beq_self_eq_true, Bool.not_true, cond_false, c9]
 · rw [show (xC s t == 0) = false by simpa using h, if_neg h]; rfl
theorem s11 {s t : Sk} (hs : Okk s) (ht : Okk t) : Sz11 (s, t, ()) = some (jn s t) := by
 show (Tz11 s t).d noE = _
 have a1 := hs.g0; have a2 := hs.g1; have a3 := hs.f0; have a4 := hs.f1; have a5 := hs.l0; have a6 := hs.l1; have a7 := hs.m1
 have b1 := ht.g0; have b2 := ht.g1; have b3 := ht.f0; have b4 := ht.f1; have b5 := ht.l0; have b6 := ht.l1; have b7 := ht.m1
 have w1 : w6 (s.g + t.g) = s.g + t.g := aN (by omega) (by omega)
 have w2 : w6 (s.g + t.f) = s.g + t.f := aN (by omega) (by omega)
 have w3 : w6 (s.l + t.g) = s.l + t.g := aN (by omega) (by omega)
 have w4 : w6 (s.l + t.f) = s.l + t.f := aN (by omega) (by omega)
 simp only [Tz11, TS, w1, w2, w3, w4, bmax, jn]
 by_cases h1 : s.f = s.g <;> by_cases h2 : t.l = t.g
 · simp [h1, h2]; omega
 · simp [h1, h2, show (t.l == t.g) = false by simpa using h2]
 · simp [h1, h2, show (s.f == s.g) = false by simpa using h1]; omega
 · simp [h1, h2, show (t.l == t.g) = false by simpa using h2, show (s.f == s.g) = false by simpa using h1]
theorem aq8 (a : List Bool) (x : Bool) : fstL (a ++ [x]) = if fstL a = a.length then a.length + (if x = true then 1 else 0) else fstL a := by
 rw [dR]; cases x <;> rfl
theorem vF (a : List Bool) (x : Bool) : lstL (a ++ [x]) = if x = true then lstL a + 1 else 0 := by
 rw [hN]; cases x <;> simp [lstL, fstL] <;> omega
theorem aq1 (a : List Bool) (x : Bool) : lngL (a ++ [x]) = max (lngL a) (lstL (a ++ [x])) := by
 have h := hJ a
 rw [hO, vF]; cases x <;> simp [lngL, fstL] <;> omega
theorem s8L (l : List Bool) (hl : l.length ≤ 999999999) : ∀ (n k : Nat), k ≤ l.length → l.length - k < n → Ez8J l n (.k8 (lstL (l.take k)) k (fstL (l.take k)) (lngL (l.take k))) = some (stk l)
 | 0, k, _, h => by omega
 | n + 1, k, hk, hn => by
   rw [Ez8J_s]
   simp only [Tz8J, TS]
   by_cases h : k < l.length
   · rw [show decide ((k : Int) < ((l.length : Nat) : Int)) = true by simp; omega, pV h, Int.toNat_natCast]
     have hw : w6 ((k : Int) + 1) = ((k + 1 : Nat) : Int) := by rw [show (k : Int) + 1 = ((k + 1 : Nat) : Int) by omega]; exact aN (by omega) (by omega)
     have hlk : (l.take k).length = k := by simp; omega
     have b1 := tU (l.take k); have b2 := eV (l.take k); have b3 := gA (l.take k); have b4 := hJ (l.take k)
     have hv : w6 ((lstL (l.take k) : Int) + 1) = ((lstL (l.take k) + 1 : Nat) : Int) := by rw [show (lstL (l.take k) : Int) + 1 = ((lstL (l.take k) + 1 : Nat) : Int) by omega]; exact aN (by omega) (by omega)
     have hd : l.take (k + 1) = l.take k ++ [l.getD k false] := by rw [List.take_add_one]; simp [h]
     have ih := s8L l hl n (k + 1) (by omega) (by omega)
     rw [hd, aq1, vF, aq8] at ih
     rw [hw, hv, bmax, bmax]
     cases hb : l.getD k false with
     | true =>
       rw [hb] at ih
       simp only [if_true] at ih
       simp only [cond_true]
       by_cases hq : lstL (l.take k) = k
       · rw [show (((lstL (l.take k) + 1 : Nat) : Int) == ((k + 1 : Nat) : Int)) = true by simp [hq], cond_true, ← ih, if_pos (by omega)]
         congr 2 <;> omega
       · rw [show (((lstL (l.take k) + 1 : Nat) : Int) == ((k + 1 : Nat) : Int)) = false by simp; omega, cond_false, ← ih, if_neg (by omega)]
         congr 2 <;> omega
     | false =>
       rw [hb] at ih
       simp only [Bool.false_eq_true, if_false] at ih
       simp only [cond_true, cond_false]
       rw [show ((0 : Int) == ((k + 1 : Nat) : Int)) = false by simp; omega, cond_false, ← ih]
       congr 2
       · split <;> omega
       · omega
   · obtain rfl : k = l.length := by omega
     rw [show decide (((l.length : Nat) : Int) < ((l.length : Nat) : Int)) = false by simp, List.take_length]
     rfl
theorem s8 (l : List Bool) (hl : l.length ≤ 999999999) : Sz8 (l, ()) = some (stk l) := by
 show (Tz8 l).d (Ez8J l (l.length + 64)) = _
 simp only [Tz8, TS]
 exact s8L l hl (l.length + 64) 0 (by omega) (by omega)
end
end Go.Ev
