import Derived.Test.YtmlmlnbmfcpeaaaGreatDoorCompare
namespace Go.Proofs.YtmlmlnbmfcpeaaaGreatDoor
open Go.RowKit

noncomputable def rnE (a b : Int) : Int := if rateE a b = 0 then a.tdiv (dv a b) else 0
noncomputable def rdE (a b : Int) : Int := if rateE a b = 0 then b.tdiv (dv a b) else 0

theorem rateE_zero {a b : Int} (h : rateE a b = 0) : goodN a ∧ goodN b ∧ b ≠ 0 := by
  unfold goodN
  by_cases p : -999999999 ≤ a ∧ a ≤ 999999999
  · by_cases q : -999999999 ≤ b ∧ b ≤ 999999999
    · by_cases r : b = 0
      · exfalso
        have h1 : rateE a b = 6 := by unfold rateE firstE rangeE; rw [if_pos p, if_pos q]; simp [r]
        omega
      · exact ⟨p, q, r⟩
    · exfalso
      have h1 : rateE a b = 3 := by unfold rateE firstE rangeE; rw [if_pos p, if_neg q]; simp
      omega
  · exfalso
    have h1 : rateE a b = 3 := by unfold rateE firstE rangeE; rw [if_neg p]; simp
    omega

theorem rate_all (a b : Int) (w : World) : Calls Tryz.prog 67 #[.int .i64 a, .int .i64 b] w fun e w' => e = .returned (.tuple #[.agg #[.int .i64 (rnE a b), .int .i64 (rdE a b)], .int .i64 (rateE a b)]) ∧ Below w.heap.size w w' := by
  by_cases ha : goodN a
  · by_cases hb : goodN b
    · by_cases h0 : b = 0
      · subst h0
        have h1 : rateE a 0 = 6 := by unfold rateE firstE rangeE; unfold goodN at ha hb; simp [ha]
        refine (rate_zero a w ha).mono fun e w' ⟨h, h2⟩ => ⟨?_, h2⟩
        rw [h]; unfold rnE rdE; simp [h1]
      · have h1 : rateE a b = 0 := by unfold rateE firstE rangeE; unfold goodN at ha hb; simp [ha, hb, h0]
        refine (rate_good a b w ha hb h0).mono fun e w' ⟨h, h2⟩ => ⟨?_, h2⟩
        rw [h]; unfold rnE rdE; simp [h1]
    · have h1 : rateE a b = 3 := by unfold rateE firstE rangeE; unfold goodN at ha hb; simp [ha, hb]
      refine (rate_out2 a b w ha hb).mono fun e w' ⟨h, h2⟩ => ⟨?_, h2⟩
      rw [h]; unfold rnE rdE; simp [h1]
  · have h1 : rateE a b = 3 := by unfold rateE firstE rangeE; unfold goodN at ha; simp [ha]
    refine (rate_out1 a b w ha).mono fun e w' ⟨h, h2⟩ => ⟨?_, h2⟩
    rw [h]; unfold rnE rdE; simp [h1]

theorem refRate_all (a b : Int) (w : World) (h0 : rateE a b = 0) : Calls Tryz.prog 71 #[.int .i64 a, .int .i64 b] w fun e w' => e = .returned (.agg #[.int .i64 (rnE a b), .int .i64 (rdE a b)]) ∧ Below w.heap.size w w' := by
  obtain ⟨ha, hb, hne⟩ := rateE_zero h0
  refine (refRate_good a b w ha hb hne).mono fun e w' ⟨h, h2⟩ => ⟨?_, h2⟩
  rw [h]; unfold rnE rdE; simp [h0]

theorem ratio_eq (n d : Int) : ratioE n d = ratioP n d := by
  unfold ratioE ratioP
  by_cases h : (-999999999 ≤ n ∧ n ≤ 999999999) ∧ (1 ≤ d ∧ d ≤ 999999999)
  · have h1 : firstE (rangeE n (-999999999) 999999999) (rangeE d 1 999999999) = 0 := by unfold firstE rangeE; simp [h.1, h.2]
    rw [h1, if_neg (by simp), if_pos h]
    have hd := dv_eq n d (by omega)
    have hab : absI d = d := by unfold absI; rw [if_neg (by omega)]
    rw [if_neg (by omega), hab] at hd
    have hA := absI_nat n
    have hg := tg_bounds (absI n) d (by omega) (by omega) (by omega)
    have hp := tg_nonneg d.natAbs (absI n) d (Nat.le_refl _) hA.2 (by omega)
    unfold inLow
    rw [hd]
    generalize tg (absI n) d = g at *
    by_cases h1 : g = 1
    · subst h1; simp
    · have h2 : d.tdiv g ≠ d := by
        intro he
        have h3 : (d.tdiv g).natAbs = d.natAbs / g.natAbs := Int.natAbs_tdiv d g
        have h4 : d.natAbs / g.natAbs < d.natAbs := Nat.div_lt_self (by omega) (by omega)
        rw [he] at h3
        omega
      simp [h1, h2]
  · have h1 : firstE (rangeE n (-999999999) 999999999) (rangeE d 1 999999999) = 3 := by
      unfold firstE rangeE
      by_cases p : -999999999 ≤ n ∧ n ≤ 999999999 <;> by_cases q : 1 ≤ d ∧ d ≤ 999999999 <;> simp [p, q] <;> exact absurd ⟨p, q⟩ h
    rw [h1, if_pos (by decide), if_neg h]

noncomputable def cmpE (a b c d : Int) : Int := if firstE (ratioP a b) (ratioP c d) = 0 then cmpI (a * d) (c * b) else 0

theorem compare_all (a b c d : Int) (w : World) :
    Calls Tryz.prog 68 #[.agg #[.int .i64 a, .int .i64 b], .agg #[.int .i64 c, .int .i64 d]] w fun e w' => e = .returned (.tuple #[.int .i64 (cmpE a b c d), .int .i64 (firstE (ratioP a b) (ratioP c d))]) ∧ Below w.heap.size w w' := by
  unfold cmpE
  by_cases h : firstE (ratioP a b) (ratioP c d) = 0
  · rw [if_pos h, h]; exact compare_good a b c d w h
  · rw [if_neg h]; exact compare_bad a b c d _ w rfl h

theorem refCompare_all (a b c d : Int) (w : World) (h : firstE (ratioP a b) (ratioP c d) = 0) :
    Calls Tryz.prog 72 #[.agg #[.int .i64 a, .int .i64 b], .agg #[.int .i64 c, .int .i64 d]] w fun e w' => e = .returned (.int .i64 (cmpE a b c d)) ∧ Below w.heap.size w w' := by
  have h1 : ratioP a b = 0 ∧ ratioP c d = 0 := by unfold firstE at h; split at h <;> omega
  have h2 := ratioP_zero h1.1
  have h3 := ratioP_zero h1.2
  unfold cmpE
  rw [if_pos h]
  unfold goodN at *
  exact refCompare_any a b c d w (by unfold goodN; omega) (by unfold goodN; omega) (by unfold goodN; omega) (by unfold goodN; omega)

theorem refCheckRatio_all (n d : Int) (w : World) : Calls Tryz.prog 70 #[.agg #[.int .i64 n, .int .i64 d]] w fun e w' => e = .returned (.int .i64 (ratioP n d)) ∧ Below w.heap.size w w' :=
  ratio_eq n d ▸ refCheckRatio_any n d w
end Go.Proofs.YtmlmlnbmfcpeaaaGreatDoor
