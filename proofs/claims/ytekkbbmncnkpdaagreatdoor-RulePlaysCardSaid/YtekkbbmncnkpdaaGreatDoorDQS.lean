import Derived.Test.YtekkbbmncnkpdaaGreatDoorDQR
set_option linter.unusedSimpArgs false
set_option linter.unusedVariables false
namespace Go.Ev
open Go.RowKit Go.Proofs
set_option maxRecDepth 100000
set_option maxHeartbeats 8000000
set_option linter.unusedSimpArgs false
noncomputable section
section
variable {s : St} {t : Pl}
def rowL (s : St) (t : Pl) (a : Int) : List Int := lfRa a (cntsB s t) (pl s t 0) (pl s t 1) (pl s t 2) (pl s t 3)
theorem kG (a : Int) (c : Bool) (p f : Int) : (lfR a c p f).length ≤ 1 := by
 unfold lfR
 cases ((p == a) && (decide (a < 4) || !c)) <;> simp
theorem awc (h : aB t.m = 0) (hs : s.half = 0 ∨ s.half = 1) (n : Nat) (l : List Int) (a : Int) (hl : l.length ≤ 16) : hG s t (n + 5) (.k16 3 l a) = hG s t n (.k10 (IntKind.i64.wrap (a - 1)) (l ++ (rowL s t a).map (sl s))) := by
 have w3 : IntKind.i64.wrap (3 - 1) = 2 := by decide
 have w2 : IntKind.i64.wrap (2 - 1) = 1 := by decide
 have w1 : IntKind.i64.wrap (1 - 1) = 0 := by decide
 have w0 : IntKind.i64.wrap (0 - 1) = -1 := by decide
 have l3 := kG a (cntsB s t) (pl s t 3) 3
 have l2 := kG a (cntsB s t) (pl s t 2) 2
 have l1 := kG a (cntsB s t) (pl s t 1) 1
 rw [show n + 5 = (n + 4) + 1 from rfl, st40 h hs _ l a (by omega) (by simp), w3]
 rw [show n + 4 = (n + 3) + 1 from rfl, st40 h hs _ _ a (by simp; omega) (by simp), w2]
 rw [show n + 3 = (n + 2) + 1 from rfl, st40 h hs _ _ a (by simp; omega) (by simp), w1]
 rw [show n + 2 = (n + 1) + 1 from rfl, st40 h hs _ _ a (by simp; omega) (by simp), w0]
 have u : ∀ x, hG s t (n + 1) (.k16 (-1) x a) = hG s t n (.k10 (IntKind.i64.wrap (a - 1)) x) := fun _ => rfl
 rw [u]
 simp [rowL, lfRa]
theorem gG (a : Int) : (rowL s t a).length ≤ 4 := by
 have l3 := kG a (cntsB s t) (pl s t 3) 3
 have l2 := kG a (cntsB s t) (pl s t 2) 2
 have l1 := kG a (cntsB s t) (pl s t 1) 1
 have l0 := kG a (cntsB s t) (pl s t 0) 0
 simp [rowL, lfRa]
 omega
theorem lp40 (h : aB t.m = 0) (hs : s.half = 0 ∨ s.half = 1) (n : Nat) : hG s t (n + 25) (.k10 4 []) = some ((lfRs (cntsB s t) (pl s t 0) (pl s t 1) (pl s t 2) (pl s t 3)).map (sl s)) := by
 have w4 : IntKind.i64.wrap (4 - 1) = 3 := by decide
 have w3 : IntKind.i64.wrap (3 - 1) = 2 := by decide
 have w2 : IntKind.i64.wrap (2 - 1) = 1 := by decide
 have w1 : IntKind.i64.wrap (1 - 1) = 0 := by decide
 have u4 : ∀ m x, hG s t (m + 1) (.k10 4 x) = hG s t m (.k16 3 x 4) := fun _ _ => rfl
 have u3 : ∀ m x, hG s t (m + 1) (.k10 3 x) = hG s t m (.k16 3 x 3) := fun _ _ => rfl
 have u2 : ∀ m x, hG s t (m + 1) (.k10 2 x) = hG s t m (.k16 3 x 2) := fun _ _ => rfl
 have u1 : ∀ m x, hG s t (m + 1) (.k10 1 x) = hG s t m (.k16 3 x 1) := fun _ _ => rfl
 have u0 : ∀ m x, hG s t (m + 1) (.k10 0 x) = some x := fun _ _ => rfl
 have l4 := gG (s := s) (t := t) 4
 have l3 := gG (s := s) (t := t) 3
 have l2 := gG (s := s) (t := t) 2
 rw [show n + 25 = (n + 24) + 1 from rfl, u4, show n + 24 = (n + 19) + 5 from rfl, awc h hs _ _ _ (by simp), w4]
 rw [show n + 19 = (n + 18) + 1 from rfl, u3, show n + 18 = (n + 13) + 5 from rfl, awc h hs _ _ _ (by simp; omega), w3]
 rw [show n + 13 = (n + 12) + 1 from rfl, u2, show n + 12 = (n + 7) + 5 from rfl, awc h hs _ _ _ (by simp; omega), w2]
 rw [show n + 7 = (n + 6) + 1 from rfl, u1, show n + 6 = (n + 1) + 5 from rfl, awc h hs _ _ _ (by simp; omega), w1, u0]
 simp [lfRs, rowL]
def aq1 (s : St) (t : Pl) : List Int := (lfRs (cntsB s t) (pl s t 0) (pl s t 1) (pl s t 2) (pl s t 3)).map (sl s)
theorem s40 (h : aB t.m = 0) (hs : s.half = 0 ∨ s.half = 1) (hl : t.p.length < 9223372036854775808) (g : mO s t) : Sz40 (s, t, ()) = some (if iZ (mvd s t) = 0 then [] else aq1 s t) := by
 show Ez40 (t.m.length + 64) s t = _
 unfold Ez40 Tz40
 simp only [TS, w6]
 rw [s41 h hs hl g, obind_some, show t.m.length + 64 = (t.m.length + 39) + 25 from rfl, lp40 h hs]
 by_cases he : iZ (mvd s t) = 0
 · rw [if_pos he, he]; rfl
 · have c : (iZ (mvd s t) == 0) = false := by simpa using he
   rw [if_neg he, c]; rfl
theorem awr {x : Int} (h : 0 ≤ x ∧ x ≤ 4) : x ∈ [0, 1, 2, 3, 4] := by simp; omega
theorem awg (h : aB t.m = 0) {i : Int} (hi : 0 ≤ i ∧ i ≤ 3) : 0 ≤ pl s t i ∧ pl s t i ≤ 4 := by
 refine ⟨fT h hi.1, ?_⟩
 unfold pl placeB
 split
 · rename_i m hm
   have := fK (oR h hm).2
   split <;> omega
 · split
   · omega
   · split <;> omega
theorem lV (h : aB t.m = 0) {i : Int} (hi : 0 ≤ i ∧ i ≤ 3) (hp : pl s t i = 4) : decide ((0 : Int) < (((fJ (outsI s t) t.l t.m).length : Nat) : Int)) = cntsB s t := by
 have hf : ∃ m ∈ t.m, rnM m = true := by
  unfold pl placeB at hp
  cases hm : mAt t.m i with
  | none =>
    rw [hm] at hp
    simp only at hp
    split at hp
    · omega
    · split at hp <;> omega
  | some m =>
    rw [hm] at hp
    simp only at hp
    cases ho : m.o with
    | true => rw [ho] at hp; simp at hp
    | false =>
      rw [ho] at hp
      refine ⟨m, List.mem_of_find?_eq_some hm, ?_⟩
      have hp : m.t = 4 := by simpa using hp
      simp [rnM, ho, hp]
 have hne : 0 < (t.m.filter rnM).length := by
  obtain ⟨m, h1, h2⟩ := hf
  exact List.length_pos_of_mem (List.mem_filter.2 ⟨h1, h2⟩)
 have hd : decide ((0 : Int) < (((t.m.filter rnM).length : Nat) : Int)) = true := decide_eq_true (by omega)
 unfold fJ cntsB
 by_cases ho : outsI s t = 3
 · have hO : (outsI s t == 3) = true := by simpa using ho
   rw [hO]
   by_cases hc : t.l = true ∨ t.m.any clM = true
   · rw [if_pos ⟨ho, hc⟩]
     rcases hc with hc | hc <;> rw [hc] <;> simp
   · rw [if_neg fun h => hc h.2, hd]
     have h1 : t.l = false := by cases hl : t.l <;> simp_all
     have h2 : t.m.any clM = false := by cases hl : t.m.any clM <;> simp_all
     rw [h1, h2]; rfl
 · have hO : (outsI s t == 3) = false := by simpa using ho
   rw [if_neg fun h => ho h.1, hd, hO]; rfl
theorem left_eq (h : aB t.m = 0) (g : mO s t) : (bqb (decide ((0 : Int) < (((fJ (outsI s t) t.l t.m).length : Nat) : Int))) (pl s t 0) (pl s t 1) (pl s t 2) (pl s t 3)).map (sl s) = aq1 s t := by
 have hb : ∀ b : Bool, b ∈ [true, false] := by decide
 have c := List.all_eq_true.1 (List.all_eq_true.1 (List.all_eq_true.1 (List.all_eq_true.1 (List.all_eq_true.1 ay1 (pl s t 0) (awr (awg h (by omega)))) (pl s t 1) (awr (awg h (by omega)))) (pl s t 2) (awr (awg h (by omega)))) (pl s t 3) (awr (awg h (by omega)))) (cntsB s t) (hb _)
 have ho : av6 (pl s t 0) (pl s t 1) (pl s t 2) (pl s t 3) = false := g.order
 unfold chkL at c
 rw [ho] at c
 simp only [Bool.false_or, Bool.and_eq_true, Bool.or_eq_true, beq_iff_eq] at c
 obtain ⟨c1, c2⟩ := c
 unfold aq1
 rw [← c1]
 congr 1
 have same : ∀ {x : Bool}, x = cntsB s t → bqb x (pl s t 0) (pl s t 1) (pl s t 2) (pl s t 3) = bqb (cntsB s t) (pl s t 0) (pl s t 1) (pl s t 2) (pl s t 3) := by rintro _ rfl; rfl
 rcases c2 with c2 | c2 | c2 | c2 | c2
 · exact same (lV h (by omega) c2)
 · exact same (lV h (by omega) c2)
 · exact same (lV h (by omega) c2)
 · exact same (lV h (by omega) c2)
 · cases hx : decide ((0 : Int) < (((fJ (outsI s t) t.l t.m).length : Nat) : Int)) <;> cases hc : cntsB s t <;> rw [hc] at c2 <;> first | rfl | exact c2 | exact c2.symm
theorem s93 (h : aB t.m = 0) (hs : s.half = 0 ∨ s.half = 1) (g : mO s t) : Sz93 (dN s t, ()) = some (aq1 s t) := by
 have e152 : akx (dN s t, ()) = some (pl s t 0, pl s t 1, pl s t 2, pl s t 3, ()) := s152 (s := dN s t) h
 have e89 : z5 (dN s t, ()) = some (fJ (outsI s t) t.l t.m) := s89 (s := dN s t) h
 show Ez93 (t.m.length + 64) (dN s t) = _
 unfold Ez93 Tz93
 simp only [TS, w6]
 rw [e152, obind_some, e89, obind_some, show t.m.length + 64 = (t.m.length + 59) + 5 from rfl]
 refine (lp93 (tn := dN s t) hs _ _ _ _ _ _).trans ?_
 rw [← left_eq h g]; rfl
theorem s35 {k : Int} (ok : okP t) (hk : hX s t = 0 → sV (dN s t, ()) = some k) (hg : k = 0 → hX s t = 0 → mO s t) : Sz35 (s, t, ()) = some (if mS s t k ≠ 0 then ([], mS s t k, ()) else (if iZ (mvd s t) = 0 then [] else aq1 s t, 0, ())) := by
 show Ez35 s t = _
 unfold Ez35 Tz35
 simp only [TS, w6]
 rw [s85 ok hk, obind_some]
 rcases acc_cases s t k with ⟨h1, h2⟩ | ⟨h1, h2, h3, h4⟩
 · rw [h2, if_pos h1]
   have c : (!(mS s t k == 0)) = true := by simpa using h1
   show cond (!(mS s t k == 0)) _ _ = _
   rw [c]; rfl
 · rw [h4, if_neg (by simpa using h1)]
   obtain ⟨e1, e2, e3⟩ := eW h2
   have hm := (playE_zero e2).2.2
   have g := hg h3 h2
   show (aJ (bqx (dN s t, ())) fun r11 => (cond (r11 == (0 : Int)) (some ([], (0 : Int), ())) (aJ (Sz93 (dN s t, ())) fun r12 => (some (r12, (0 : Int), ()))))) = _
   rw [s92 hm (iT e1).half e3 g, obind_some, s93 hm (iT e1).half g, obind_some]
   by_cases he : iZ (mvd s t) = 0
   · rw [if_pos he, he]; rfl
   · have c : (iZ (mvd s t) == 0) = false := by simpa using he
     rw [if_neg he, c]; rfl
end
end
end Go.Ev
