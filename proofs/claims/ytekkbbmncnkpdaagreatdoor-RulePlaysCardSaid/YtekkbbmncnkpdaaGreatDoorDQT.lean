import Derived.Test.YtekkbbmncnkpdaaGreatDoorDQS
set_option linter.unusedSimpArgs false
set_option linter.unusedVariables false
namespace Go.Ev
open Go.RowKit Go.Proofs
set_option maxRecDepth 100000
set_option maxHeartbeats 8000000
set_option linter.unusedSimpArgs false
noncomputable section
theorem lp26 (l : List Int) (hl : l.length < 1000000) : ∀ (j k n : Nat), l.length = k + j → awR l l (n + j + 1) (.k8 (k : Int)) = some true
 | 0, k, n, hk => by
   have c1 : decide ((k : Int) < ((l.length : Nat) : Int)) = false := by simp; omega
   simp only [awQ, aks, TS, w6, c1, cond_false]
 | j + 1, k, n, hk => by
   have ih := lp26 l hl j (k + 1) n (by omega)
   have c1 : decide ((k : Int) < ((l.length : Nat) : Int)) = true := by simp; omega
   have c2 : inR (k : Int) l.length = true := fX (by omega) (by omega)
   have w4 : IntKind.i64.wrap ((k : Int) + 1) = ((k + 1 : Nat) : Int) := by rw [cY] <;> omega
   rw [show n + (j + 1) + 1 = (n + j + 1) + 1 from rfl]
   generalize n + j + 1 = N at ih ⊢
   simp only [awQ, aks, TS, w6, c1, c2, cond_true, w4, ih, beq_self_eq_true, Bool.not_true, cond_false]
theorem s26 (l : List Int) (hl : l.length < 1000000) : Sz26 (l, l, ()) = some true := by
 show Ez26 (l.length + l.length + 64) l l = _
 unfold Ez26 Tz26
 simp only [TS, w6]
 rw [show l.length + l.length + 64 = (l.length + 63) + l.length + 1 by omega]
 have e := lp26 l hl l.length 0 (l.length + 63) (by omega)
 have e' : awR l l (l.length + 63 + l.length + 1) (.k8 0) = some true := e
 rw [e']
 simp
def shM (m : Mv) : Bool := decide (m.h.length ≤ 20) && decide (m.b.length ≤ 40)
def shP (t : Pl) : Bool := decide (t.p.length ≤ 26) && (decide (t.e.length ≤ 20) && (decide (t.m.length ≤ 6) && t.m.all shM))
theorem lp84 (t : Pl) (hl : t.m.length ≤ 6) : ∀ (j k n : Nat), t.m.length = k + j → awM t (n + j + 1) (.k8 (k : Int)) = some ((t.m.drop k).all shM)
 | 0, k, n, hk => by
   have c1 : decide ((k : Int) < ((t.m.length : Nat) : Int)) = false := by simp; omega
   rw [List.drop_eq_nil_of_le (by omega)]
   simp only [awL, akq, TS, w6, c1, cond_false, List.all_nil]
 | j + 1, k, n, hlk => by
   have hk : k < t.m.length := by omega
   obtain ⟨m, hm⟩ : ∃ m, t.m[k]? = some m := ⟨t.m[k], List.getElem?_eq_getElem hk⟩
   have ih := lp84 t hl j (k + 1) n (by omega)
   have c1 : decide ((k : Int) < ((t.m.length : Nat) : Int)) = true := by simp; omega
   have c2 : inR (k : Int) t.m.length = true := fX (by omega) (by omega)
   have w4 : IntKind.i64.wrap ((k : Int) + 1) = ((k + 1 : Nat) : Int) := by rw [cY] <;> omega
   have a1 : decide ((20 : Int) < ((m.h.length : Nat) : Int)) = !decide (m.h.length ≤ 20) := by rw [Bool.eq_iff_iff]; simp; omega
   have a2 : decide ((40 : Int) < ((m.b.length : Nat) : Int)) = !decide (m.b.length ≤ 40) := by rw [Bool.eq_iff_iff]; simp; omega
   rw [bK hm, show n + (j + 1) + 1 = (n + j + 1) + 1 from rfl]
   generalize n + j + 1 = N at ih ⊢
   simp only [awL, akq, TS, w6, c1, c2, cond_true, Int.toNat_natCast, aO hm, w4, ih, List.all_cons, shM, a1, a2]
   cases decide (m.h.length ≤ 20) <;> cases decide (m.b.length ≤ 40) <;> rfl
theorem s31 (t : Pl) : Sz31 (t, ()) = some (shP t) := by
 have e84 : Sz84 (t, ()) = some (shP t) := by
  show Ez84 (t.m.length + 64) t = _
  unfold Ez84 Tz84 shP
  simp only [TS, w6]
  have a1 : decide ((26 : Int) < ((t.p.length : Nat) : Int)) = !decide (t.p.length ≤ 26) := by rw [Bool.eq_iff_iff]; simp; omega
  have a2 : decide ((20 : Int) < ((t.e.length : Nat) : Int)) = !decide (t.e.length ≤ 20) := by rw [Bool.eq_iff_iff]; simp; omega
  have a3 : decide ((6 : Int) < ((t.m.length : Nat) : Int)) = !decide (t.m.length ≤ 6) := by rw [Bool.eq_iff_iff]; simp; omega
  rw [a1, a2, a3]
  by_cases h : t.m.length ≤ 6
  · have e := lp84 t h t.m.length 0 63 (by omega)
    rw [← iU, List.drop_zero] at e
    have e' : awM t (t.m.length + 64) (.k8 0) = some (t.m.all shM) := e
    rw [e']
    cases decide (t.p.length ≤ 26) <;> cases decide (t.e.length ≤ 20) <;> simp [h]
  · cases decide (t.p.length ≤ 26) <;> cases decide (t.e.length ≤ 20) <;> simp [h]
 show Ez31 t = _
 unfold Ez31 Tz31
 simp only [TS, w6]
 rw [e84, obind_some]
theorem law5 (s : St) (t : Pl) (hp : bR t.p = true) (he : bR t.e = true) : Sz5 (s, t, ()) = some true := by
 show Ez5 s t = _
 have sw : Sw27 () = some true := rfl
 unfold Ez5 Tz5
 simp only [TS, w6]
 rw [s31, obind_some]
 cases hs : shP t with
 | false => rw [sw]; rfl
 | true =>
 simp only [shP, Bool.and_eq_true, decide_eq_true_eq, List.all_eq_true] at hs
 obtain ⟨h1, h2, h3, h4⟩ := hs
 have hb : ∀ m ∈ t.m, m.b.length ≤ 40 := fun m hm => by
  have := h4 m hm
  simp only [shM, Bool.and_eq_true, decide_eq_true_eq] at this
  exact this.2
 have okp : okPl t = true := by
  simp only [okPl, Bool.and_eq_true, decide_eq_true_eq, List.all_eq_true]
  exact ⟨by omega, fun m hm => by have := hb m hm; omega⟩
 have okc : rJ t.m = true := by
  simp only [rJ, Bool.and_eq_true, decide_eq_true_eq, List.all_eq_true]
  exact ⟨by omega, fun m hm => by have := hb m hm; omega⟩
 have ok : okP t := ⟨okp, hp, he, by omega⟩
 have e33 : S33 (t, ()) = some t := by unfold S33; rw [if_pos ⟨okp, okc⟩]
 obtain ⟨k, hk1, hk2, hg⟩ : ∃ k, (hX s t = 0 → sV (dN s t, ()) = some k) ∧ (hX s t = 0 → Sz94 (s, t, ()) = some k) ∧ (k = 0 → hX s t = 0 → mO s t) := by
  by_cases hc : hX s t = 0
  · obtain ⟨e1, e2, e3⟩ := eW hc
    obtain ⟨p1, p2, p3⟩ := playE_zero e2
    obtain ⟨k, a, b, c⟩ := akc (s := s) p3 p2 hp (by omega)
    exact ⟨k, fun _ => a, fun _ => b, fun h _ => c h⟩
  · exact ⟨0, fun h => absurd h hc, fun h => absurd h hc, fun _ h => absurd h hc⟩
 rw [e33, obind_some, s32 ok hk1 hg, obind_some, obind_some, s34 ok hk1, obind_some, obind_some, s35 ok hk1 hg, obind_some, obind_some, s36 ok hk1 hg, obind_some, s37 ok hk2 hg, obind_some]
 by_cases ha : mS s t k = 0
 · have hcs := acc_cases s t k
   obtain ⟨hc, hk0⟩ : hX s t = 0 ∧ k = 0 := by
    rcases hcs with ⟨x, _⟩ | ⟨_, x, y, _⟩
    · exact absurd ha x
    · exact ⟨x, y⟩
   obtain ⟨e1, e2, e3⟩ := eW hc
   obtain ⟨p1, p2, p3⟩ := playE_zero e2
   have hh := (iT e1).half
   have g := hg hk0 hc
   have hbig : awX s t = false := by
    unfold mS at ha
    cases hx : awX s t with
    | false => rfl
    | true => simp [hc, hk0, hx] at ha
   have e38 : Sz38 (s, t, ()) = some (nxt (mvd s t), 0, 0, ()) := by
    rw [s38 p3 hh e3 (c_ok e1) (by omega) (hk2 hc) (fun h => hg h hc)]
    simp [hk0, hbig]
   have hn : awV s t k = 0 := by simp [awV, hc, hk0]
   have r1 : ((fJ (outsI s t) t.l t.m).map (bq2 s)).length < 1000000 := by
    have := (pW (o := outsI s t) (b := t.l) (l := t.m)).1
    simp; omega
   have r2 : (if iZ (mvd s t) = 0 then [] else aq1 s t).length < 1000000 := by
    split
    · simp
    · have l4 := gG (s := s) (t := t) 4
      have l3 := gG (s := s) (t := t) 3
      have l2 := gG (s := s) (t := t) 2
      have l1 := gG (s := s) (t := t) 1
      simp only [aq1, lfRs, List.length_map, List.length_append]
      simp only [rowL] at l4 l3 l2 l1
      omega
   simp only [ha, hn, ne_eq, not_true_eq_false, if_false]
   rw [e38, obind_some, s39 p3 hh, obind_some, s40 p3 hh (by omega) g, obind_some, s41 p3 hh (by omega) g, obind_some]
   simp only [beq_self_eq_true, Bool.and_self, Bool.and_true, cond_true]
   rw [s26 _ r1, obind_some, s26 _ r2, obind_some, sw]
   rfl
 · have ha' : (mS s t k == 0) = false := by simpa using ha
   simp only [ne_eq, ha, not_false_eq_true, if_true, ha', cond_false, zSt]
   rw [s26 [] (by simp), obind_some, sw]
   simp
   rfl
end
end Go.Ev
