import Derived.Test.YtldebobgefdnhaaGreatDoorSeasN
import Derived.Test.YtldebobgefdnhaaGreatDoorDS4
set_option linter.unusedSimpArgs false
set_option linter.unusedVariables false
namespace Go.Ev
open Go.RowKit Go.Proofs
set_option maxRecDepth 100000
noncomputable section
def q50 (a b c d e f : Sk) (j k : Int) : Lz4 := .k50 a.g a.f a.l a.m b.g b.f b.l b.m c.g c.f c.l c.m d.g d.f d.l d.m e.g e.f e.l e.m f.g f.f f.l f.m j k
def q56 (a b c d e f : Sk) (n i j k : Int) : Lz4 := .k56 a.g a.f a.l a.m b.g b.f b.l b.m c.g c.f c.l c.m d.g d.f d.l d.m e.g e.f e.l e.m f.g f.f f.l f.m n i j k
section
variable {s : List Bool} {t : Int × Int × Unit} {a b c d e f : Sk}
theorem vM {i : Nat} (h : i < s.length) : fstL (s.drop i) = if s.getD i false = true then fstL (s.drop (i + 1)) + 1 else 0 := by
 rw [List.drop_eq_getElem_cons h]; simp [fstL, h]
theorem e56 (hs : s.length ≤ 12) {j k : Nat} : ∀ (n : Nat) (m : Nat) {F : Nat}, j + m ≤ s.length → fstL (s.drop (j + m)) = n →
  xH s t (F + n + 1) (q56 a b c d e f m j j k) = xH s t F (q50 a b c d e f (w6 ((j : Int) + 1)) ((max k (m + n) : Nat) : Int))
 | 0, m, F, hj, hn => by
   rw [Nat.add_zero, jR]
   simp only [q56, q50, xG, TS, bmax]
   have hw : w6 ((j : Int) + (m : Int)) = ((j + m : Nat) : Int) := by rw [show (j : Int) + (m : Int) = ((j + m : Nat) : Int) by omega]; exact aI (by omega) (by omega)
   have hx : max (k : Int) (m : Int) = ((max k (m + 0) : Nat) : Int) := by omega
   rw [hw, hx]
   by_cases h : j + m < s.length
   · rw [show decide (((j + m : Nat) : Int) < ((s.length : Nat) : Int)) = true by simp; omega, m4 h, Int.toNat_natCast]
     rw [vM h] at hn
     cases hb : s.getD (j + m) false with
     | true => rw [hb, if_pos rfl] at hn; omega
     | false => rfl
   · rw [show decide (((j + m : Nat) : Int) < ((s.length : Nat) : Int)) = false by simp; omega]; rfl
 | n + 1, m, F, hj, hn => by
   rw [show F + (n + 1) + 1 = (F + n + 1) + 1 by omega, jR]
   simp only [q56, xG, TS]
   have hw : w6 ((j : Int) + (m : Int)) = ((j + m : Nat) : Int) := by rw [show (j : Int) + (m : Int) = ((j + m : Nat) : Int) by omega]; exact aI (by omega) (by omega)
   have hm : w6 ((m : Int) + 1) = ((m + 1 : Nat) : Int) := by rw [show (m : Int) + 1 = ((m + 1 : Nat) : Int) by omega]; exact aI (by omega) (by omega)
   have h : j + m < s.length := by
    by_cases h : j + m < s.length
    · exact h
    · rw [List.drop_eq_nil_of_le (by omega)] at hn; cases hn
   rw [vM h] at hn
   cases hb : s.getD (j + m) false with
   | false => rw [hb] at hn; simp at hn
   | true =>
     rw [hb, if_pos rfl] at hn
     rw [hw, hm, show decide (((j + m : Nat) : Int) < ((s.length : Nat) : Int)) = true by simp; omega, m4 h, Int.toNat_natCast, hb]
     simp only [cond_true]
     have ih := e56 hs (j := j) (k := k) n (m + 1) (F := F) (by omega) (by rw [show j + (m + 1) = j + m + 1 by omega]; omega)
     rw [show m + (n + 1) = m + 1 + n by omega]
     exact ih
theorem e50 (hs : s.length ≤ 12) (ha : a = stk s) (hb : b = stk s.reverse) (hc : c = stk s) (hd : d = stk s) (he : e = stk s) (hf : f = stk (s ++ [true])) : ∀ (r j k F : Nat), j + r = s.length → max k (lngL (s.drop j)) = lngL s → 1 + 15 * r ≤ F → xH s t F (q50 a b c d e f j k) = some true
 | 0, j, k, F, hj, hk, hF => by
   obtain ⟨F, rfl⟩ : ∃ G, F = G + 1 := ⟨F - 1, by omega⟩
   obtain rfl : j = s.length := by omega
   rw [List.drop_length] at hk
   have hk2 : k = lngL s := by simpa [lngL] using hk
   subst hk2
   rw [jR]
   simp only [q50, xG, TS]
   rw [show decide (((s.length : Nat) : Int) < ((s.length : Nat) : Int)) = false by simp, cond_false]
   subst ha hb hc hd he hf
   have h1 := j8 s; have h2 := tZ s
   have w1 : w6 (((s.length : Nat) : Int) + 1) = ((s.length + 1 : Nat) : Int) := by rw [show ((s.length : Nat) : Int) + 1 = ((s.length + 1 : Nat) : Int) by omega]; exact aI (by omega) (by omega)
   have w2 : w6 ((stk s).l + 1) = ((lstL s + 1 : Nat) : Int) := by rw [show (stk s).l + 1 = ((lstL s + 1 : Nat) : Int) by simp only [stk]; omega]; exact aI (by omega) (by omega)
   have r1 : (stk s.reverse).g = (stk s).g := by simp [stk]
   have r2 : (stk s.reverse).f = (stk s).l := by simp [stk, lstL]
   have r3 : (stk s.reverse).l = (stk s).f := by simp [stk, lstL]
   have r4 : (stk s.reverse).m = (stk s).m := by simp [stk, vI]
   have m1 : (stk (s ++ [true])).g = ((s.length + 1 : Nat) : Int) := by simp [stk]
   have m2 : (stk (s ++ [true])).l = ((lstL s + 1 : Nat) : Int) := by simp only [stk, p4, if_true]
   have m3 : (stk (s ++ [true])).m = max (stk s).m ((lstL s + 1 : Nat) : Int) := by simp only [stk, aq9, p4, if_true]; omega
   have hok := (dA (l := s) (by omega)).chk
   rw [show (⟨(stk s).g, (stk s).f, (stk s).l, (stk s).m⟩ : Sk) = stk s from rfl]
   simp only [s12, hok, dH, bmax, w1, w2, r1, r2, r3, r4, m1, m2, m3, beq_self_eq_true, Bool.and_self, cond_true]
   rw [show ((stk s).m == ((lngL s : Nat) : Int)) = true by simp [stk]]
 | r + 1, j, k, F, hj, hk, hF => by
   have hlt : j < s.length := by omega
   have hle : fstL (s.drop j) ≤ 12 := by have := eX (s.drop j); simp at this; omega
   obtain ⟨G, rfl⟩ : ∃ G, F = G + fstL (s.drop j) + 1 + 1 := ⟨F - fstL (s.drop j) - 2, by omega⟩
   rw [jR]
   have hstep : (xG s t (q50 a b c d e f j k)).d (xH s t (G + fstL (s.drop j) + 1)) = xH s t (G + fstL (s.drop j) + 1) (q56 a b c d e f (0 : Nat) j j k) := by
    simp only [q50, xG, TS]
    rw [show decide ((j : Int) < ((s.length : Nat) : Int)) = true by simp; omega]; rfl
   rw [hstep, e56 hs (fstL (s.drop j)) 0 (by omega) (by rw [Nat.add_zero])]
   have hw : w6 ((j : Int) + 1) = ((j + 1 : Nat) : Int) := by rw [show (j : Int) + 1 = ((j + 1 : Nat) : Int) by omega]; exact aI (by omega) (by omega)
   rw [hw]
   refine e50 hs ha hb hc hd he hf r (j + 1) _ G (by omega) ?_ (by omega)
   have hdr : s.drop j = s.getD j false :: s.drop (j + 1) := by rw [List.drop_eq_getElem_cons hlt]; simp [hlt]
   have : lngL (s.drop j) = max (lngL (s.drop (j + 1))) (fstL (s.drop j)) := by conv => lhs; rw [hdr]
                                                                                rw [lngL, ← hdr]
   omega
theorem decEl (l : List Bool) : Az6.ok [.el (l.map a8.v)] = true ∧ Az6.dec [.el (l.map a8.v)] = (l, ()) := by
 constructor
 · show ((l.map a8.v).all a8.ok && true) = true
   simp [a8.okv]
 · show ((l.map a8.v).map a8.dec, ()) = _
   rw [List.map_map]
   congr 1
   conv => rhs; rw [← List.map_id l]
   apply List.map_congr_left
   intro x _
   exact a8.dv x
theorem decFl (l : List Bool) (n k : Nat) (h : k + n ≤ l.length) : Az6.ok [.fl 1 n fun i => a8.v (l.getD (k + i) false)] = true ∧ Az6.dec [.fl 1 n fun i => a8.v (l.getD (k + i) false)] = ((l.drop k).take n, ()) := by
 constructor
 · show (((List.range n).all fun i => okW 1 (a8.v (l.getD (k + i) false)) && a8.ok (a8.v (l.getD (k + i) false))) && true) = true
   rw [Bool.and_true, List.all_eq_true]
   intro i _
   rw [a8.okv]; rfl
 · show ((List.range n).map fun i => a8.dec (a8.v (l.getD (k + i) false)), ()) = _
   congr 1
   apply List.ext_getElem
   · simp; omega
   · intro i h1 h2
     simp only [List.getElem_map, List.getElem_range, List.getElem_take, List.getElem_drop]
     rw [a8.dv]
     simp at h1
     simp [show k + i < l.length by omega]
theorem e31 (hs : s.length ≤ 12) {l1 l2 l3 : List Bool} (h123 : l1 ++ l2 ++ l3 = s) {F : Nat} (hF : 200 ≤ F) {a b c d e : Sk} (ha : a = stk s) (hb : b = stk s.reverse) (hc : c = stk l1) (hd : d = stk l2) (he : e = stk l3) :
  xH s t (F + 1) (.k31 0 0 0 0 0 a.g a.f a.l a.m b.g b.f b.l b.m c.g c.f c.l c.m d.g d.f d.l d.m e.g e.f e.l e.m) = some true := by
 rw [jR]
 have hlen : l1.length + l2.length + l3.length = s.length := by rw [← h123]; simp; omega
 subst hc hd he
 have o1 := dA (l := l1) (by omega); have o2 := dA (l := l2) (by omega); have o3 := dA (l := l3) (by omega)
 have o12 := dA (l := l1 ++ l2) (by simp; omega); have o23 := dA (l := l2 ++ l3) (by simp; omega)
 have oa : Okk a := by rw [ha]; exact dA (by omega)
 have oz : Okk (⟨0, 0, 0, 0⟩ : Sk) := dA (l := []) (by decide)
 have oo : Okk (⟨1, 1, 1, 1⟩ : Sk) := dA (l := [true]) (by decide)
 simp only [xG, TS]
 have j1 : Sz7 ((⟨(stk l1).g, (stk l1).f, (stk l1).l, (stk l1).m⟩ : Sk), (⟨(stk l2).g, (stk l2).f, (stk l2).l, (stk l2).m⟩ : Sk), ()) = some (stk (l1 ++ l2), 0, ()) := by
  rw [← mZ]; exact wM o1 o2 (by simp only [stk]; omega)
 have j2 : Sz7 ((⟨(stk l2).g, (stk l2).f, (stk l2).l, (stk l2).m⟩ : Sk), (⟨(stk l3).g, (stk l3).f, (stk l3).l, (stk l3).m⟩ : Sk), ()) = some (stk (l2 ++ l3), 0, ()) := by
  rw [← mZ]; exact wM o2 o3 (by simp only [stk]; omega)
 have j3 : Sz7 (stk (l1 ++ l2), (⟨(stk l3).g, (stk l3).f, (stk l3).l, (stk l3).m⟩ : Sk), ()) = some (stk s, 0, ()) := by
  rw [← h123, ← mZ (l1 ++ l2) l3]; exact wM o12 o3 (by simp only [stk, List.length_append]; omega)
 have j4 : Sz7 ((⟨(stk l1).g, (stk l1).f, (stk l1).l, (stk l1).m⟩ : Sk), stk (l2 ++ l3), ()) = some (stk s, 0, ()) := by
  rw [← h123, List.append_assoc, ← mZ l1 (l2 ++ l3)]; exact wM o1 o23 (by simp only [stk, List.length_append]; omega)
 have j5 : Sz7 ((⟨a.g, a.f, a.l, a.m⟩ : Sk), (⟨0, 0, 0, 0⟩ : Sk), ()) = some (stk s, 0, ()) := by
  have := mZ s []
  rw [List.append_nil] at this
  rw [← this, ha]; exact wM (by rw [← ha]; exact oa) oz (by simp only [stk]; omega)
 have j6 : Sz7 ((⟨a.g, a.f, a.l, a.m⟩ : Sk), (⟨1, 1, 1, 1⟩ : Sk), ()) = some (stk (s ++ [true]), 0, ()) := by
  rw [← mZ s [true], ha]; exact wM (by rw [← ha]; exact oa) oo (by simp only [stk]; omega)
 simp only [j1, j2, j3, j4, j5, j6, dH, beq_self_eq_true, Bool.not_true, cond_false]
 exact e50 hs ha hb rfl rfl rfl rfl s.length 0 0 F (by omega) (by rw [List.drop_zero]; omega) (by omega)
theorem e21 (hs : s.length ≤ 12) {i k F : Nat} (hi : i ≤ k) (hk : k ≤ s.length) (hF : 200 ≤ F) : xH s t (F + 2) (.k21 i k s.reverse) = some true := by
 rw [jR]
 have d1 := decEl s.reverse
 have d2 := decFl s (i - 0) 0 (by omega)
 have d3 := decFl s (k - i) i (by omega)
 have d4 := decFl s (s.length - k) k (by omega)
 have f0 : Sz6 (s, ()) = some (stk s, 0, ()) := by rw [s6, if_pos (by omega)]
 have f1 : Sz6 (s.reverse, ()) = some (stk s.reverse, 0, ()) := by rw [s6, if_pos (by simp; omega)]
 have f2 : Sz6 ((s.drop 0).take (i - 0), ()) = some (stk ((s.drop 0).take (i - 0)), 0, ()) := by rw [s6, if_pos (by simp; omega)]
 have f3 : Sz6 ((s.drop i).take (k - i), ()) = some (stk ((s.drop i).take (k - i)), 0, ()) := by rw [s6, if_pos (by simp; omega)]
 have f4 : Sz6 ((s.drop k).take (s.length - k), ()) = some (stk ((s.drop k).take (s.length - k)), 0, ()) := by rw [s6, if_pos (by simp; omega)]
 have g0 : Nat.ble (1 * s.length) 1000000 = true := by rw [Nat.ble_eq]; omega
 have g1 : Nat.ble (1 * (i - 0)) 1000000 = true := by rw [Nat.ble_eq]; omega
 have g2 : Nat.ble (1 * (k - i)) 1000000 = true := by rw [Nat.ble_eq]; omega
 have g3 : Nat.ble (1 * (s.length - k)) 1000000 = true := by rw [Nat.ble_eq]; omega
 have h0 : (decide ((0 : Int) ≤ (i : Int)) && decide ((i : Int) ≤ ((s.length : Nat) : Int))) = true := by simp; omega
 have h1 : (decide ((0 : Int) ≤ (k : Int)) && decide ((k : Int) ≤ ((s.length : Nat) : Int))) = true := by simp; omega
 have h2 : (decide ((0 : Int) ≤ (i : Int)) && decide ((i : Int) ≤ ((k : Nat) : Int))) = true := by simp; omega
 simp only [xG, TS, Tr.d_v, Int.toNat_natCast, d1.1, d1.2, d2.1, d2.2, d3.1, d3.2, d4.1, d4.2, f0, f1, f2, f3, f4, g0, g1, g2, g3, h0, h1, h2, cond_true, dH]
 refine e31 (l1 := (s.drop 0).take (i - 0)) (l2 := (s.drop i).take (k - i)) (l3 := (s.drop k).take (s.length - k)) hs ?_ hF rfl rfl rfl rfl rfl
 have e1 : (s.drop 0).take (i - 0) ++ (s.drop i).take (k - i) = s.take k := by
  rw [List.drop_zero, Nat.sub_zero, ← List.take_add, Nat.add_sub_cancel' hi]
 have e2 : (s.drop k).take (s.length - k) = s.drop k := List.take_of_length_le (by simp)
 rw [e1, e2, List.take_append_drop]
theorem e14 (hs : s.length ≤ 12) {i k : Int} {F : Nat} : ∀ (j : Nat), j ≤ s.length → xH s t (F + j + 1) (.k14 i k ((j : Int) - 1) (s.drop j).reverse) = xH s t F (.k21 i k s.reverse)
 | 0, _ => by
   rw [Nat.add_zero, jR]
   simp only [xG, TS]
   rw [show decide ((0 : Int) ≤ ((0 : Nat) : Int) - 1) = false by simp, List.drop_zero]; rfl
 | j + 1, hj => by
   rw [show F + (j + 1) + 1 = F + j + 1 + 1 by omega, jR]
   simp only [xG, TS]
   rw [show (((j + 1 : Nat) : Int) - 1) = (j : Int) by omega, show decide ((0 : Int) ≤ (j : Int)) = true by simp, m4 (show j < s.length by omega), Int.toNat_natCast]
   have hw : w6 ((j : Int) - 1) = (j : Int) - 1 := aI (by omega) (by omega)
   have hdr : (s.drop (j + 1)).reverse ++ [s.getD j false] = (s.drop j).reverse := by
    rw [List.drop_eq_getElem_cons (show j < s.length by omega), List.reverse_cons]; simp [show j < s.length by omega]
   rw [hw, hdr, show Nat.ble (1 * (((s.drop (j + 1)).reverse.map a8.v).length + 1)) 1000000 = true by rw [Nat.ble_eq]; simp; omega]
   simp only [cond_true]
   exact e14 hs j (by omega)
end
theorem law4 (s : List Bool) (x y : Int) (hx : 0 ≤ x ∧ x < 256) (hy : 0 ≤ y ∧ y < 256) : Sz4 (s, (x, y, ()), ()) = some true := by
 show (Tz4 s (x, y, ())).d (xH s (x, y, ()) (s.length + 400)) = _
 have sw : Sw5 () = some true := rfl
 simp only [Tz4, TS, sw, dH, Bool.not_true, cond_false]
 by_cases h1 : s.length ≤ 12
 · rw [show decide ((12 : Int) < ((s.length : Nat) : Int)) = false by simp; omega, cond_false]
   have w1 : w6 (((s.length : Nat) : Int) + 1) = ((s.length + 1 : Nat) : Int) := by rw [show ((s.length : Nat) : Int) + 1 = ((s.length + 1 : Nat) : Int) by omega]; exact aI (by omega) (by omega)
   have w2 : w6 x = x := aI (by omega) (by omega)
   have w3 : w6 y = y := aI (by omega) (by omega)
   obtain ⟨i, hi⟩ : ∃ i : Nat, x.tmod ((s.length + 1 : Nat) : Int) = i := ⟨(x.tmod ((s.length + 1 : Nat) : Int)).toNat, by have := Int.tmod_nonneg ((s.length + 1 : Nat) : Int) hx.1; omega⟩
   have hi2 : i ≤ s.length := by have := Int.tmod_lt_of_pos x (show (0 : Int) < ((s.length + 1 : Nat) : Int) by omega); omega
   have w4 : w6 (((s.length + 1 : Nat) : Int) - (i : Int)) = ((s.length + 1 - i : Nat) : Int) := by rw [show ((s.length + 1 : Nat) : Int) - (i : Int) = ((s.length + 1 - i : Nat) : Int) by omega]; exact aI (by omega) (by omega)
   obtain ⟨k, hk⟩ : ∃ k : Nat, y.tmod ((s.length + 1 - i : Nat) : Int) = k := ⟨(y.tmod ((s.length + 1 - i : Nat) : Int)).toNat, by have := Int.tmod_nonneg ((s.length + 1 - i : Nat) : Int) hy.1; omega⟩
   have hk2 : k + i ≤ s.length := by have := Int.tmod_lt_of_pos y (show (0 : Int) < ((s.length + 1 - i : Nat) : Int) by omega); omega
   have w5 : w6 ((i : Int) + (k : Int)) = ((i + k : Nat) : Int) := by rw [show (i : Int) + (k : Int) = ((i + k : Nat) : Int) by omega]; exact aI (by omega) (by omega)
   rw [w1, w2, w3, hi, w4, hk, w5, show decide (((s.length + 1 : Nat) : Int) = 0) = false by simp; omega, show decide (((s.length + 1 - i : Nat) : Int) = 0) = false by simp; omega, cond_false, cond_false]
   rw [show s.length + 400 = (396 + 2 + s.length + 1) + 1 by omega, jR]
   simp only [xG, TS]
   have hw : w6 (((s.length : Nat) : Int) - 1) = ((s.length : Nat) : Int) - 1 := aI (by omega) (by omega)
   rw [hw]
   have h14 := e14 (t := (x, y, ())) (i := i) (k := ((i + k : Nat) : Int)) (F := 396 + 2) h1 s.length (Nat.le_refl _)
   rw [List.drop_length, List.reverse_nil] at h14
   rw [h14]
   exact e21 h1 (by omega) (by omega) (by omega)
 · rw [show decide ((12 : Int) < ((s.length : Nat) : Int)) = true by simp; omega]; rfl
end
end Go.Ev
