import Derived.Test.YtldebobgefdnhaaGreatDoorSeasN
set_option linter.unusedSimpArgs false
set_option linter.unusedVariables false
namespace Go.Ev
open Go.RowKit Go.Proofs
set_option maxRecDepth 100000
noncomputable section
theorem lR (s : List Bool) (t u : Sk) {n : Nat} {a b c d : Sk} {x y z v : Int} (h1 : a = b) (h2 : c = d) (h3 : x = z) (h4 : y = v) :
  Ez3J s t u (n + 1) (.k31 x y z a.g a.f a.l a.m c.g c.f c.l c.m b.g b.f b.l b.m v d.g d.f d.l d.m) = some true := by
 rw [aqE]
 simp only [Tz3J, TS, s12, s10, c9]
 subst h1; subst h2; subst h3; subst h4
 simp
theorem vJ (s : List Bool) (t u : Sk) {n : Nat} {a b : Sk} {x z : Int} (h1 : a = b) (h3 : x = z) (r : Sk × Int × Unit) (hr : Sz7 (t, u, ()) = some r) :
  Ez3J s t u (n + 2) (.k21 x r.2.1 a.g a.f a.l a.m r.1.g r.1.f r.1.l r.1.m z b.g b.f b.l b.m) = some true := by
 rw [aqE]
 simp only [Tz3J, TS, s10, s9 _ (show [_, _].length < 1000 by simp), c9]
 rw [s7] at hr
 simp only [Option.some.injEq] at hr
 have hj : xC t u = lS [chk t, chk u, if 0 ≤ w6 (t.g + u.g) ∧ w6 (t.g + u.g) ≤ 999999999 then 0 else 3] := rfl
 by_cases ht : chk t = 0
 · by_cases hu : chk u = 0
   · have o1 := Okk.of ht; have o2 := Okk.of hu
     have a1 := o1.g0; have a2 := o1.g1; have b1 := o2.g0; have b2 := o2.g1
     have w1 : w6 (t.g + u.g) = t.g + u.g := aN (by omega) (by omega)
     have e0 : (lS [chk t, chk u] == 0) = true := by simp [lS, ht, hu]
     rw [e0, w1, cond_true]
     by_cases hg : 999999999 < t.g + u.g
     · have he : xC t u = 3 := by rw [hj, w1]; simp [lS, ht, hu]; omega
       rw [show decide (999999999 < t.g + u.g) = true by simpa using hg, cond_true]
       rw [he] at hr
       subst hr
       exact lR s t u (d := ⟨0, 0, 0, 0⟩) h1 rfl h3 rfl
     · have he : xC t u = 0 := by rw [hj, w1]; simp [lS, ht, hu]; omega
       rw [show decide (999999999 < t.g + u.g) = false by simpa using hg, cond_false, s11 o1 o2]
       rw [he] at hr
       simp only [if_true] at hr
       subst hr
       exact lR s t u (d := jn t u) h1 rfl h3 (by simp [lS, ht, hu])
   · have e0 : (lS [chk t, chk u] == 0) = false := by simp [lS, ht, hu]
     have he : xC t u = chk u := by rw [hj]; simp [lS, ht, hu]
     rw [e0, cond_false]
     rw [he, if_neg hu] at hr
     subst hr
     exact lR s t u (d := ⟨0, 0, 0, 0⟩) h1 rfl h3 (by simp [lS, ht, hu])
 · have e0 : (lS [chk t, chk u] == 0) = false := by simp [lS, ht]
   have he : xC t u = chk t := by rw [hj]; simp [lS, ht]
   rw [e0, cond_false]
   rw [he, if_neg ht] at hr
   subst hr
   exact lR s t u (d := ⟨0, 0, 0, 0⟩) h1 rfl h3 (by simp [lS, ht])
theorem yV (s : List Bool) (t u : Sk) {n : Nat} (hs : s.length ≤ 258) : Ez3J s t u (n + 3) .k7 = some true := by
 rw [aqE]
 obtain ⟨r, hr⟩ : ∃ r, Sz7 (t, u, ()) = some r := ⟨_, s7 t u⟩
 simp only [Tz3J, TS, s6, hr, c9]
 rw [show Nat.ble (1 * s.length) 1000000 = true by rw [Nat.ble_eq]; omega, cond_true]
 by_cases h : s.length ≤ 256
 · rw [if_pos h, show decide ((256 : Int) < ((s.length : Nat) : Int)) = false by simp; omega, cond_false, s8 s (by omega)]
   exact vJ s t u (a := stk s) (b := stk s) rfl rfl r hr
 · rw [if_neg h, show decide ((256 : Int) < ((s.length : Nat) : Int)) = true by simp; omega, cond_true]
   exact vJ s t u (a := ⟨0, 0, 0, 0⟩) (b := ⟨0, 0, 0, 0⟩) rfl rfl r hr
theorem law3 (s : List Bool) (t u : Sk) : Sz3 (s, t, u, ()) = some true := by
 show (Tz3 s t u).d (Ez3J s t u (s.length + 61 + 3)) = _
 have sw : Sw5 () = some true := rfl
 simp only [Tz3, TS, sw, c9, Bool.not_true, cond_false]
 by_cases h1 : s.length ≤ 12
 · rw [show decide ((12 : Int) < ((s.length : Nat) : Int)) = false by simp; omega, show decide ((258 : Int) < ((s.length : Nat) : Int)) = false by simp; omega]
   exact yV s t u (n := s.length + 61) (by omega)
 · rw [show decide ((12 : Int) < ((s.length : Nat) : Int)) = true by simp; omega, cond_true]
   by_cases h2 : s.length ≤ 256
   · rw [show decide (((s.length : Nat) : Int) ≤ 256) = true by simp; omega]; rfl
   · rw [show decide (((s.length : Nat) : Int) ≤ 256) = false by simp; omega, cond_false]
     by_cases h3 : s.length ≤ 258
     · rw [show decide ((258 : Int) < ((s.length : Nat) : Int)) = false by simp; omega]
       exact yV s t u (n := s.length + 61) h3
     · rw [show decide ((258 : Int) < ((s.length : Nat) : Int)) = true by simp; omega]; rfl
end
end Go.Ev
