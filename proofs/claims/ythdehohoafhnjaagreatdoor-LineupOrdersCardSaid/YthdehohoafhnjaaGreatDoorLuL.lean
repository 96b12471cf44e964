import Derived.Test.YthdehohoafhnjaaGreatDoorLuM4
set_option linter.unusedSimpArgs false
set_option linter.unusedVariables false
namespace Go.Ev
open Go.RowKit Go.Proofs
set_option maxRecDepth 100000
set_option maxHeartbeats 4000000
set_option linter.unusedSimpArgs false
noncomputable section
def er (s : Lu) (t : Int) (u : List (List Nat)) (b : Int) : Int := cond (b == 0) (cond ((cond (rg t) (0 : Int) 3) == 0) (cm s u) (cond (rg t) (0 : Int) 3)) b
theorem s5 (s : Lu) (t : Int) (u : List (List Nat)) (hB : LuB s) (hl : u.length < 1000) {b : Int} (hb : Sz7 (s, ()) = some b) :
  Sz5 (s, t, u, ()) = cond (!(er s t u b == 0)) (some (dz, er s t u b, ())) (Ez5J s t u (u.length + 64) (.k10 t 0)) := by
 show (Tz5 s t u).d (Ez5J s t u (u.length + 64)) = _
 simp only [Tz5, TS, s28 s hB, hb, s29, s30 s u hl, aB, s27_3]; rfl
theorem s6 (s : Lu) (t : Int) (u : List (List Nat)) (hB : LuB s) (hl : u.length < 1000) {b : Int} (hb : Sz7 (s, ()) = some b) :
  Sz6 (s, t, u, ()) = cond (!(er s t u b == 0)) (some ([], er s t u b, ())) (Ez6J s t u (u.length + 64) (.k14 t 0 [])) := by
 show (Tz6 s t u).d (Ez6J s t u (u.length + 64)) = _
 simp only [Tz6, TS, s28 s hB, hb, s29, s30 s u hl, aB, s27_3]; rfl
theorem uO (s : Lu) : ∃ b : Int, f8 s (some 8) (some 9) (ajy s (some 3) (some 29) (some 0)) = some b := by
 have this : ∀ {c : Bool} {a b : Option Int}, (∃ v, a = some v) → (∃ v, b = some v) → ∃ v, cond c a b = some v := fun {c} _ _ h1 h2 => by cases c <;> assumption
 unfold f8 ajy
 repeat' first | exact ⟨_, rfl⟩ | apply this
theorem cl {c : Bool} {X : Option Bool} (h : c = false → X = some true) : cond c (some true) X = some true := by
 cases c
 · exact h rfl
 · rfl
theorem ajP {n : Nat} (h : decide ((60 : Int) < ((n : Nat) : Int)) = false) : n < 1000 := by simp at h; omega
def LuY (s : Lu) : Prop := bH s.b0 = true ∧ bH s.b1 = true ∧ bH s.b2 = true ∧ bH s.b3 = true ∧ bH s.b4 = true ∧ bH s.b5 = true ∧ bH s.b6 = true ∧ bH s.b7 = true ∧ bH s.b8 = true
theorem law_end (s : Lu) (t : Int) (u : List (List Nat)) (hy : LuY s) (hl : u.length ≤ 258) (hs : u.length ≤ 20 ∨ 256 < u.length) (f : Lz3 → Option Bool) (k : Int) (hk : decide (k < ((u.length : Nat) : Int)) = false) : (Tz3J s t u (.k8 k)).d f = some true := by
 have hl' : u.length < 1000 := by omega
 simp only [Tz3J, TS, Sw4, aB, hk, cond_false]
 refine cl fun h0 => cl fun h1 => cl fun h2 => cl fun h3 => cl fun h4 => cl fun h5 => cl fun h6 => cl fun h7 => cl fun h8 => ?_
 have hB : LuB s := ⟨hy, ajP h0, ajP h1, ajP h2, ajP h3, ajP h4, ajP h5, ajP h6, ajP h7, ajP h8⟩
 rw [show Nat.ble (16 * u.length) 1000000 = true by rw [Nat.ble_eq]; omega]
 obtain ⟨b, hn⟩ := uO s
 have hb : Sz7 (s, ()) = some b := by rw [s7 s hB]; exact hn
 rw [s5 s t u hB hl' hb, s6 s t u hB hl' hb, hb, s8 s t u hl']
 simp only [cond_true]
 by_cases hb0 : b = 0
 · subst hb0
   by_cases hv : cond (rg t) (cm s u) 3 = 0
   · have hr : rg t = true := by
      cases h : rg t
      · rw [h] at hv; simp at hv
      · rfl
     rw [hr] at hv
     have hc : cm s u = 0 := hv
     have he : er s t u 0 = 0 := by unfold er; rw [hr, hc]; rfl
     have ht : 1 ≤ t ∧ t ≤ 9 := by unfold rg at hr; simpa using hr
     have hf : qU s u = true := by
      unfold cm at hc
      cases hq : decide (256 < ((u.length : Nat) : Int)) with
      | true => rw [hq] at hc; simp at hc
      | false =>
        rw [hq] at hc
        cases hf : qU s u with
        | true => rfl
        | false => rw [hf] at hc; simp at hc
     have h20 : u.length ≤ 20 := by
      rcases hs with h | h
      · exact h
      · unfold cm at hc
        rw [show decide (256 < ((u.length : Nat) : Int)) = true by simp; omega] at hc
        simp at hc
     obtain ⟨o, d1, d2⟩ := dev_eq s t u ht hl' u.length 63 (63 - u.length) 0 t (by omega) ht (by omega)
     have hv0 : f8 s (some (8 : Int)) (some 9) (ajy s (some 3) (some 29) (some 0)) = some 0 := hn
     obtain ⟨l, hll, i1, i2⟩ := imp_eq s t u hl' hv0 u.length 63 0 t [] (by omega) ht (Nat.le_refl _) (by rw [List.drop_zero]; exact hf)
     rw [← fu, nc0] at d1 i1 i2
     rw [show 63 - u.length + 2 * u.length + 1 = u.length + 64 by omega, nc0] at d2
     have h9 : Sz9 (s, t, u, ()) = Ez9J s t u (u.length + 64) (.k4 0) := by
      show (Tz9 s t u).d (Ez9J s t u (u.length + 64)) = _
      simp only [Tz9, TS]
     have h11 : aqw (s, t, u, ()) = some l := by
      show (Tz11 s t u).d (aqs s t u (u.length + 64)) = _
      simp only [Tz11, TS]
      exact i2
     rw [he, d1, i1, h9, d2, h11, hr, hc]
     have hsm := same l (by omega)
     cases o with
     | none =>
       simp only [cond_true, cond_false, aB, beq_self_eq_true, Bool.not_true, Bool.not_false, hsm]
       simp [dz]
     | some d =>
       simp only [cond_true, cond_false, aB, beq_self_eq_true, Bool.not_true, Bool.not_false, hsm, decide_true, Bool.and_true]
   · have he : er s t u 0 = cond (rg t) (cm s u) 3 := by
      unfold er
      cases rg t <;> rfl
     generalize hw : cond (rg t) (cm s u) 3 = w at *
     rw [he, show (w == 0) = false by simpa using hv]
     simp only [cond_true, cond_false, aB, beq_self_eq_true, Bool.not_true, Bool.not_false, show (w == 0) = false by simpa using hv]
     simp [dz]
 · have hb1 : (b == 0) = false := by simpa using hb0
   have he : er s t u b = b := by unfold er; rw [hb1]; rfl
   rw [he]
   simp only [hb1, Bool.not_false, cond_true, cond_false, aB]
   simp [dz, hb0]
theorem law_j (s : Lu) (t : Int) (u : List (List Nat)) (hy : LuY s) (hl : u.length ≤ 258) (hs : u.length ≤ 20 ∨ 256 < u.length) : ∀ j n k, k + j = u.length → Ez3J s t u (n + j + 1) (.k8 (k : Int)) = some true := by
 intro j
 induction j with
 | zero =>
   intro n k hk
   rw [axX]
   exact law_end s t u hy hl hs _ _ (q4 (show ¬ k < u.length by omega))
 | succ j ih =>
   intro n k hk
   have hlt : k < u.length := by omega
   rw [axX]
   simp only [Tz3J, TS, tD hlt, oK hlt, cond_true, Sw4, aB, w6s (show k < 9223372036854775807 by omega)]
   rw [show n + (j + 1) = n + j + 1 by omega, ih n (k + 1) (by omega)]
   cases decide (60 < (((u.getD ((k : Int)).toNat []).length : Nat) : Int)) <;> rfl
theorem law3 (s : Lu) (t : Int) (u : List (List Nat)) (hy : LuY s) : Sz3 (s, t, u, ()) = some true := by
 show (Tz3 s t u).d (Ez3J s t u (u.length + 64)) = _
 have go : u.length ≤ 258 → (u.length ≤ 20 ∨ 256 < u.length) → Ez3J s t u (u.length + 64) (.k8 0) = some true := fun h1 h2 => by
  have := law_j s t u hy h1 h2 u.length 63 0 (by omega)
  rw [fu, ← nc0]; exact this
 simp only [Tz3, TS, Sw4, aB, Bool.not_true, cond_false]
 by_cases h20 : u.length ≤ 20
 · rw [show decide ((20 : Int) < ((u.length : Nat) : Int)) = false by simp; omega, show decide ((258 : Int) < ((u.length : Nat) : Int)) = false by simp; omega]
   exact go (by omega) (.inl h20)
 · rw [show decide ((20 : Int) < ((u.length : Nat) : Int)) = true by simp; omega]
   by_cases h256 : u.length ≤ 256
   · rw [show decide (((u.length : Nat) : Int) ≤ 256) = true by simp; omega]; rfl
   · rw [show decide (((u.length : Nat) : Int) ≤ 256) = false by simp; omega]
     by_cases h258 : u.length ≤ 258
     · rw [show decide ((258 : Int) < ((u.length : Nat) : Int)) = false by simp; omega]
       exact go h258 (.inr (by omega))
     · rw [show decide ((258 : Int) < ((u.length : Nat) : Int)) = true by simp; omega]; rfl
end
end Go.Ev
