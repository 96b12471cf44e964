import Derived.Test.YtmlmlnbmfcpeaaaGreatDoorMath
namespace Go.Proofs.YtmlmlnbmfcpeaaaGreatDoor
open Go.RowKit

set_option maxRecDepth 100000 in
set_option maxHeartbeats 3200000 in
theorem rates_walk (a b c d : Int) (W : World)
    (hA : ∀ w1 : World, Below W.heap.size W w1 → W.heap.size ≤ w1.heap.size → Calls Tryz.prog 16 #[] w1 fun e w' => e = .returned (.bool true) ∧ Below w1.heap.size w1 w') :
    Calls Tryz.prog 10 #[.agg #[.int .i64 a, .int .i64 b], .agg #[.int .i64 c, .int .i64 d]] W fun e w' => e = .returned (.bool true) ∧ Below W.heap.size W w' := by
  have HA := Lib.hid hA
  have C1 : ∀ w, Calls Tryz.prog 67 #[.int .i64 a, .int .i64 b] w fun e w' => e = .returned (.tuple #[.agg #[.int .i64 (rnE a b), .int .i64 (rdE a b)], .int .i64 (rateE a b)]) ∧ Below w.heap.size w w' := rate_all a b
  have C2 : ∀ w, Calls Tryz.prog 68 #[.agg #[.int .i64 a, .int .i64 b], .agg #[.int .i64 c, .int .i64 d]] w fun e w' => e = .returned (.tuple #[.int .i64 (cmpE a b c d), .int .i64 (firstE (ratioP a b) (ratioP c d))]) ∧ Below w.heap.size w w' := compare_all a b c d
  have C3 : ∀ w, Calls Tryz.prog 69 #[.int .i64 a, .int .i64 b] w fun e w' => e = .returned (.int .i64 (rateE a b)) ∧ Below w.heap.size w w' := checkRate_any a b
  have C4 : ∀ w, Calls Tryz.prog 70 #[.agg #[.int .i64 a, .int .i64 b]] w fun e w' => e = .returned (.int .i64 (ratioP a b)) ∧ Below w.heap.size w w' := refCheckRatio_all a b
  have C5 : ∀ w, Calls Tryz.prog 70 #[.agg #[.int .i64 c, .int .i64 d]] w fun e w' => e = .returned (.int .i64 (ratioP c d)) ∧ Below w.heap.size w w' := refCheckRatio_all c d
  have C6 : ∀ (bl : Nat) (w : World), w.cell? ⟨bl, 0, none⟩ = some (.int .i64 (ratioP a b)) → w.cell? ⟨bl, 1, none⟩ = some (.int .i64 (ratioP c d)) → Calls Tryz.prog 47 #[.slice (some ⟨bl, 0, none⟩) 2 2] w fun e w' => e = .returned (.int .i64 (firstE (ratioP a b) (ratioP c d))) ∧ w = w' := fun bl w h1 h2 => firstRef_any _ _ bl w h1 h2
  have C7 : rateE a b = 0 → ∀ w, Calls Tryz.prog 71 #[.int .i64 a, .int .i64 b] w fun e w' => e = .returned (.agg #[.int .i64 (rnE a b), .int .i64 (rdE a b)]) ∧ Below w.heap.size w w' := fun h w => refRate_all a b w h
  have C8 : firstE (ratioP a b) (ratioP c d) = 0 → ∀ w, Calls Tryz.prog 72 #[.agg #[.int .i64 a, .int .i64 b], .agg #[.int .i64 c, .int .i64 d]] w fun e w' => e = .returned (.int .i64 (cmpE a b c d)) ∧ Below w.heap.size w w' := fun h w => refCompare_all a b c d w h
  have C9 : ∀ w, Calls Tryz.prog 73 #[.agg #[.int .i64 a, .int .i64 b]] w fun e w' => e = .returned (.int .i64 (ratioP a b)) ∧ Below w.heap.size w w' := checkRatio_any a b
  have z1 : rateE a b ≠ 0 → rnE a b = 0 ∧ rdE a b = 0 := fun h => by unfold rnE rdE; rw [if_neg h, if_neg h]; exact ⟨rfl, rfl⟩
  have z2 : firstE (ratioP a b) (ratioP c d) ≠ 0 → cmpE a b c d = 0 := fun h => by unfold cmpE; rw [if_neg h]
  generalize firstE (ratioP a b) (ratioP c d) = two at *
  generalize ratioP a b = p at *
  generalize ratioP c d = q at *
  generalize rateE a b = bad at *
  generalize rnE a b = rn at *
  generalize rdE a b = rd at *
  generalize cmpE a b c d = sg at *
  have H1 := Lib.hid C1
  have H2 := Lib.hid C2
  have H3 := Lib.hid C3
  have H4 := Lib.hid C4
  have H5 := Lib.hid C5
  have H6 := Lib.hid C6
  have H9 := Lib.hid C9
  have H7 := Lib.hid C7
  have H8 := Lib.hid C8
  have Z1 := Lib.hid z1
  have Z2 := Lib.hid z2
  clear C1 C2 C3 C4 C5 C6 C7 C8 C9 z1 z2 hA
  go_enter Tryz.func10, Tryz.ntmps10
  go_wp2_with fail
  refine (HA.out _ (((Below.refl _ _).alloc (Nat.le_refl _) _).alloc (by simp) _) (by simp; try omega)).mono ?_
  rintro e w1 ⟨rfl, hbw⟩
  have B1 : Hid (Below W.heap.size W w1) := ((((Below.refl _ _).alloc (Nat.le_refl _) _).alloc (by simp) _).trans (hbw.mono (by simp; try omega)))
  have s1 : W.heap.size + 1 < w1.heap.size := by have := hbw.size; simp at this; omega
  obtain ⟨hc, hf⟩ := bcell hbw
  have q1 : w1.cell? ⟨W.heap.size, 0, none⟩ = some (.int .i64 a) := by rw [hc _ _ (by simp; try omega)]; simp
  have q2 : w1.cell? ⟨W.heap.size, 1, none⟩ = some (.int .i64 b) := by rw [hc _ _ (by simp; try omega)]; simp
  have q3 : w1.cell? ⟨W.heap.size + 1, 0, none⟩ = some (.int .i64 c) := by rw [hc _ _ (by simp; try omega)]; simp
  have q4 : w1.cell? ⟨W.heap.size + 1, 1, none⟩ = some (.int .i64 d) := by rw [hc _ _ (by simp; try omega)]; simp
  clear hc hf hbw
  go_wp2_with fail
  refine (H1.out _).mono ?_
  rintro e w2 ⟨rfl, hbw⟩
  have B2 : Hid (Below W.heap.size W w2) := B1.out.trans (hbw.mono (by omega))
  have s2 : W.heap.size + 1 < w2.heap.size := by have := hbw.size; omega
  obtain ⟨hc, hf⟩ := bcell hbw
  rw [← hc _ _ (by omega)] at q1 q2 q3 q4
  clear hc hf hbw B1 s1
  have n1 : ∀ (o : Obj) (i : Nat), (w2.alloc o).cell? ⟨W.heap.size, i, none⟩ = w2.cell? ⟨W.heap.size, i, none⟩ := fun o i => World.cell?_alloc_lt w2 o _ (by show W.heap.size < _; omega)
  have n2 : ∀ (o : Obj) (i : Nat), (w2.alloc o).cell? ⟨W.heap.size + 1, i, none⟩ = w2.cell? ⟨W.heap.size + 1, i, none⟩ := fun o i => World.cell?_alloc_lt w2 o _ (by show W.heap.size + 1 < _; omega)
  go_wp2_with fail
  refine (H2.out _).mono ?_
  rintro e w3 ⟨rfl, hbw⟩
  have B3 : Hid (Below W.heap.size W w3) := (B2.out.alloc (by omega) _).trans (hbw.mono (by simp; try omega))
  have s3 : w2.heap.size < w3.heap.size := by have := hbw.size; simp at this; omega
  obtain ⟨hc, hf⟩ := bcell hbw
  have r1 : w3.cell? ⟨W.heap.size, 0, none⟩ = some (.int .i64 a) := by rw [hc _ _ (by simp; try omega)]; simp [n1, q1]
  have r2 : w3.cell? ⟨W.heap.size, 1, none⟩ = some (.int .i64 b) := by rw [hc _ _ (by simp; try omega)]; simp [n1, q2]
  have r3 : w3.cell? ⟨W.heap.size + 1, 0, none⟩ = some (.int .i64 c) := by rw [hc _ _ (by simp; try omega)]; simp [n2, q3]
  have r4 : w3.cell? ⟨W.heap.size + 1, 1, none⟩ = some (.int .i64 d) := by rw [hc _ _ (by simp; try omega)]; simp [n2, q4]
  have r5 : w3.cell? ⟨w2.heap.size, 0, none⟩ = some (.int .i64 rn) := by rw [hc _ _ (by simp; try omega)]; simp
  have r6 : w3.cell? ⟨w2.heap.size, 1, none⟩ = some (.int .i64 rd) := by rw [hc _ _ (by simp; try omega)]; simp
  clear hc hf hbw B2 q1 q2 q3 q4 n1 n2
  obtain ⟨k5, hk5⟩ : ∃ k5, w2.heap.size = k5 := ⟨_, rfl⟩
  rw [hk5] at s2 s3 r5 r6
  rw [hk5]
  clear hk5 w2
  go_wp2_with fail
  refine (H3.out _).mono ?_
  rintro e w4 ⟨rfl, hbw⟩
  have B4 : Hid (Below W.heap.size W w4) := B3.out.trans (hbw.mono (by omega))
  have s4 : k5 < w4.heap.size := by have := hbw.size; omega
  obtain ⟨hc, hf⟩ := bcell hbw
  rw [← hc _ _ (by omega)] at r1 r2 r3 r4 r5 r6
  clear hc hf hbw B3 s3
  go_wp2_with fail
  go_region_held3 (fun w' => w'.cell? ⟨W.heap.size, 0, none⟩ = some (.int .i64 a) ∧ w'.cell? ⟨W.heap.size, 1, none⟩ = some (.int .i64 b) ∧ w'.cell? ⟨W.heap.size + 1, 0, none⟩ = some (.int .i64 c) ∧ w'.cell? ⟨W.heap.size + 1, 1, none⟩ = some (.int .i64 d))
    (first | go_keep | (obtain ⟨hc, hf⟩ := bcell hbw; refine ⟨?_, ?_, ?_, ?_⟩ <;> (rw [hc _ _ (by first | omega | (simp; try omega))]; simp [*])))
    (first
      | (go_at_call 70; with_reducible refine (H4.out _).mono ?_; rintro e w5 ⟨rfl, hbw⟩; have s5 : k5 < w5.heap.size := (by have := hbw.size; simp at this; omega); have hb5 := hbw)
      | (go_at_call 70; with_reducible refine (H5.out _).mono ?_; rintro e w6 ⟨rfl, hbw⟩; have s6 : k5 < w6.heap.size := (by have := hbw.size; first | omega | (simp at this; omega)); have hb6 := hbw)
      | (go_at_call 47; refine (H6.out _ _ ?_ ?_).mono ?_; (simp); (simp); rintro e w' ⟨rfl, rfl⟩))
  have s7 : k5 < (w6.alloc (Obj.cells #[Value.int IntKind.i64 p, Value.int IntKind.i64 q] 3)).heap.size := by simp; omega
  have t : ∀ (b o : Nat), b < w4.heap.size → (w6.alloc (Obj.cells #[Value.int IntKind.i64 p, Value.int IntKind.i64 q] 3)).cell? ⟨b, o, none⟩ = w4.cell? ⟨b, o, none⟩ := fun b o hb => by
    rw [World.cell?_alloc_lt w6 _ _ (by show b < _; have := hb6.size; have := hb5.size; simp at this; omega), (bcell hb6).1 _ _ (by have := hb5.size; simp at this; omega), (bcell hb5).1 _ _ (by simp; omega)]
    simp
  rw [← t _ _ (by omega)] at r1 r2 r3 r4 r5 r6
  have B7 : Hid (Below W.heap.size W (w6.alloc (Obj.cells #[Value.int IntKind.i64 p, Value.int IntKind.i64 q] 3))) := ((B4.out.drew.trans (hb5.mono (by simp; omega))).trans (hb6.mono (by omega))).alloc (by omega) _
  clear t
  generalize w6.alloc (Obj.cells #[Value.int IntKind.i64 p, Value.int IntKind.i64 q] 3) = w7 at *
  clear hb5 hb6 B4 s4 s5 s6
  have m1 : ∀ (o : Obj) (i : Nat), (w7.alloc o).cell? ⟨W.heap.size, i, none⟩ = w7.cell? ⟨W.heap.size, i, none⟩ := fun o i => World.cell?_alloc_lt w7 o _ (by show W.heap.size < _; omega)
  have m2 : ∀ (o : Obj) (i : Nat), (w7.alloc o).cell? ⟨W.heap.size + 1, i, none⟩ = w7.cell? ⟨W.heap.size + 1, i, none⟩ := fun o i => World.cell?_alloc_lt w7 o _ (by show W.heap.size + 1 < _; omega)
  have m3 : ∀ (o : Obj) (i : Nat), (w7.alloc o).cell? ⟨k5, i, none⟩ = w7.cell? ⟨k5, i, none⟩ := fun o i => World.cell?_alloc_lt w7 o _ (by show k5 < _; omega)
  by_cases hbad : bad = 0
  · subst hbad
    have H7' := Lib.hid (H7.out rfl)
    clear H7 Z1
    go_wp2_with fail
    refine (H7'.out _).mono ?_
    rintro e w8 ⟨rfl, hbw⟩
    have B8 : Hid (Below W.heap.size W w8) := (B7.out.alloc (by omega) _).trans (hbw.mono (by simp; omega))
    have s8 : w7.heap.size < w8.heap.size := by have := hbw.size; simp at this; omega
    obtain ⟨hc, hf⟩ := bcell hbw
    have f1 : w8.cell? ⟨w7.heap.size, 0, none⟩ = some (.int .i64 0) := by rw [hc _ _ (by simp)]; simp
    have f2 : w8.cell? ⟨w7.heap.size, 1, none⟩ = some (.int .i64 0) := by rw [hc _ _ (by simp)]; simp
    have f3 : w8.frozen? ⟨w7.heap.size, 0, none⟩ = false := by rw [hf _ _ (by simp)]; simp
    have f4 : w8.frozen? ⟨w7.heap.size, 1, none⟩ = false := by rw [hf _ _ (by simp)]; simp
    have u1 : w8.cell? ⟨W.heap.size, 0, none⟩ = some (.int .i64 a) := by rw [hc _ _ (by simp; omega), m1]; exact r1
    have u2 : w8.cell? ⟨W.heap.size, 1, none⟩ = some (.int .i64 b) := by rw [hc _ _ (by simp; omega), m1]; exact r2
    have u3 : w8.cell? ⟨W.heap.size + 1, 0, none⟩ = some (.int .i64 c) := by rw [hc _ _ (by simp; omega), m2]; exact r3
    have u4 : w8.cell? ⟨W.heap.size + 1, 1, none⟩ = some (.int .i64 d) := by rw [hc _ _ (by simp; omega), m2]; exact r4
    have u5 : w8.cell? ⟨k5, 0, none⟩ = some (.int .i64 rn) := by rw [hc _ _ (by simp; omega), m3]; exact r5
    have u6 : w8.cell? ⟨k5, 1, none⟩ = some (.int .i64 rd) := by rw [hc _ _ (by simp; omega), m3]; exact r6
    clear hc hf hbw r1 r2 r3 r4 r5 r6 m1 m2 m3 B7
    obtain ⟨k11, hk⟩ : ∃ k, w7.heap.size = k := ⟨_, rfl⟩
    rw [hk] at f1 f2 f3 f4 s8 s7
    rw [hk]
    clear hk
    have g1 : W.heap.size ≠ k11 := by omega
    have g2 : W.heap.size + 1 ≠ k11 := by omega
    have g3 : k5 ≠ k11 := by omega
    by_cases htwo : two = 0
    · subst htwo
      have H8' := Lib.hid (H8.out rfl)
      clear H8 Z2
      go_wp2_with fail
      have x1 : ((w8.setCell ⟨k11, 0, none⟩ (.int .i64 rn)).setCell ⟨k11, 1, none⟩ (.int .i64 rd)).cell? ⟨W.heap.size, 0, none⟩ = some (.int .i64 a) := by simp [World.cell?_setCell_far, u1, g1, Ne.symm g1]
      have x2 : ((w8.setCell ⟨k11, 0, none⟩ (.int .i64 rn)).setCell ⟨k11, 1, none⟩ (.int .i64 rd)).cell? ⟨W.heap.size, 1, none⟩ = some (.int .i64 b) := by simp [World.cell?_setCell_far, u2, g1, Ne.symm g1]
      have x5 : ((w8.setCell ⟨k11, 0, none⟩ (.int .i64 rn)).setCell ⟨k11, 1, none⟩ (.int .i64 rd)).cell? ⟨k5, 0, none⟩ = some (.int .i64 rn) := by simp [World.cell?_setCell_far, u5, g3, Ne.symm g3]
      have x6 : ((w8.setCell ⟨k11, 0, none⟩ (.int .i64 rn)).setCell ⟨k11, 1, none⟩ (.int .i64 rd)).cell? ⟨k5, 1, none⟩ = some (.int .i64 rd) := by simp [World.cell?_setCell_far, u6, g3, Ne.symm g3]
      have x7 : ((w8.setCell ⟨k11, 0, none⟩ (.int .i64 rn)).setCell ⟨k11, 1, none⟩ (.int .i64 rd)).cell? ⟨k11, 0, none⟩ = some (.int .i64 rn) := by
        have e0 : (⟨k11, 1, none⟩ : Addr) ≠ ⟨k11, 0, none⟩ := by intro h; cases h
        exact (World.cell?_setCell_other _ _ _ _ e0).trans (World.cell?_setCell_same _ _ _ f1)
      have x8 : ((w8.setCell ⟨k11, 0, none⟩ (.int .i64 rn)).setCell ⟨k11, 1, none⟩ (.int .i64 rd)).cell? ⟨k11, 1, none⟩ = some (.int .i64 rd) := by
        have e0 : (⟨k11, 0, none⟩ : Addr) ≠ ⟨k11, 1, none⟩ := by intro h; cases h
        exact World.cell?_setCell_same _ _ _ ((World.cell?_setCell_other _ _ _ _ e0).trans f2)
      have xs : k11 < ((w8.setCell ⟨k11, 0, none⟩ (.int .i64 rn)).setCell ⟨k11, 1, none⟩ (.int .i64 rd)).heap.size := by simp; omega
      have BX : Hid (Below W.heap.size W ((w8.setCell ⟨k11, 0, none⟩ (.int .i64 rn)).setCell ⟨k11, 1, none⟩ (.int .i64 rd))) := (B8.out.setCell (by show W.heap.size ≤ k11; omega) _).setCell (by show W.heap.size ≤ k11; omega) _
      generalize (w8.setCell ⟨k11, 0, none⟩ (.int .i64 rn)).setCell ⟨k11, 1, none⟩ (.int .i64 rd) = w9 at *
      clear u1 u2 u3 u4 u5 u6 f1 f2 f3 f4 B8 s8 g1 g2 g3
      refine (H8'.out _).mono ?_
      rintro e wA ⟨rfl, hbw⟩
      have BA : Hid (Below W.heap.size W wA) := BX.out.trans (hbw.mono (by omega))
      have sA : k11 < wA.heap.size := by have := hbw.size; omega
      obtain ⟨hc, hf⟩ := bcell hbw
      rw [← hc _ _ (by omega)] at x1 x2 x5 x6 x7 x8
      clear hc hf hbw BX xs
      go_wp2_with fail
      go_region_held3 (fun w' => w'.cell? ⟨W.heap.size, 0, none⟩ = some (.int .i64 a) ∧ w'.cell? ⟨W.heap.size, 1, none⟩ = some (.int .i64 b) ∧ w'.cell? ⟨k5, 0, none⟩ = some (.int .i64 rn) ∧ w'.cell? ⟨k5, 1, none⟩ = some (.int .i64 rd) ∧ w'.cell? ⟨k11, 0, none⟩ = some (.int .i64 rn) ∧ w'.cell? ⟨k11, 1, none⟩ = some (.int .i64 rd))
        (first | go_keep | (obtain ⟨hc, hf⟩ := bcell hbw; refine ⟨?_, ?_, ?_, ?_, ?_, ?_⟩ <;> (rw [hc _ _ (by first | omega | (simp; omega))]; simp [*])))
        (first
          | (go_at_call 73; refine (H9.out _).mono ?_; rintro e wB ⟨rfl, hbw⟩; have sB : k11 < wB.heap.size := (by have := hbw.size; first | omega | (simp at this; omega)); have hbB := hbw)
          | (go_at_call 70; with_reducible refine (H4.out _).mono ?_; rintro e wC ⟨rfl, hbw⟩; have sC : k11 < wC.heap.size := (by have := hbw.size; first | omega | (simp at this; omega)); have hbC := hbw))
      go_wp2
      go_ret
      exact ⟨by simp, by first | exact (BA.out.trans (hbB.mono (by omega))).trans (hbC.mono (by omega)) | exact (BA.out.drew.trans (hbB.mono (by simp; omega))).trans (hbC.mono (by omega))⟩
    · have hz := Z2.out htwo
      subst hz
      have e2 : (two == 0) = false := by simpa using htwo
      have e3 : decide (two = 0) = false := by simpa using htwo
      clear H8 Z2 htwo
      go_wp2_with fail
      have x1 : ((w8.setCell ⟨k11, 0, none⟩ (.int .i64 rn)).setCell ⟨k11, 1, none⟩ (.int .i64 rd)).cell? ⟨W.heap.size, 0, none⟩ = some (.int .i64 a) := by simp [World.cell?_setCell_far, u1, g1, Ne.symm g1]
      have x2 : ((w8.setCell ⟨k11, 0, none⟩ (.int .i64 rn)).setCell ⟨k11, 1, none⟩ (.int .i64 rd)).cell? ⟨W.heap.size, 1, none⟩ = some (.int .i64 b) := by simp [World.cell?_setCell_far, u2, g1, Ne.symm g1]
      have x5 : ((w8.setCell ⟨k11, 0, none⟩ (.int .i64 rn)).setCell ⟨k11, 1, none⟩ (.int .i64 rd)).cell? ⟨k5, 0, none⟩ = some (.int .i64 rn) := by simp [World.cell?_setCell_far, u5, g3, Ne.symm g3]
      have x6 : ((w8.setCell ⟨k11, 0, none⟩ (.int .i64 rn)).setCell ⟨k11, 1, none⟩ (.int .i64 rd)).cell? ⟨k5, 1, none⟩ = some (.int .i64 rd) := by simp [World.cell?_setCell_far, u6, g3, Ne.symm g3]
      have x7 : ((w8.setCell ⟨k11, 0, none⟩ (.int .i64 rn)).setCell ⟨k11, 1, none⟩ (.int .i64 rd)).cell? ⟨k11, 0, none⟩ = some (.int .i64 rn) := by
        have e0 : (⟨k11, 1, none⟩ : Addr) ≠ ⟨k11, 0, none⟩ := by intro h; cases h
        exact (World.cell?_setCell_other _ _ _ _ e0).trans (World.cell?_setCell_same _ _ _ f1)
      have x8 : ((w8.setCell ⟨k11, 0, none⟩ (.int .i64 rn)).setCell ⟨k11, 1, none⟩ (.int .i64 rd)).cell? ⟨k11, 1, none⟩ = some (.int .i64 rd) := by
        have e0 : (⟨k11, 0, none⟩ : Addr) ≠ ⟨k11, 1, none⟩ := by intro h; cases h
        exact World.cell?_setCell_same _ _ _ ((World.cell?_setCell_other _ _ _ _ e0).trans f2)
      have xs : k11 < ((w8.setCell ⟨k11, 0, none⟩ (.int .i64 rn)).setCell ⟨k11, 1, none⟩ (.int .i64 rd)).heap.size := by simp; omega
      have BX : Hid (Below W.heap.size W ((w8.setCell ⟨k11, 0, none⟩ (.int .i64 rn)).setCell ⟨k11, 1, none⟩ (.int .i64 rd))) := (B8.out.setCell (by show W.heap.size ≤ k11; omega) _).setCell (by show W.heap.size ≤ k11; omega) _
      generalize (w8.setCell ⟨k11, 0, none⟩ (.int .i64 rn)).setCell ⟨k11, 1, none⟩ (.int .i64 rd) = wA at *
      have BA := BX
      have sA := xs
      clear BX xs
      clear u1 u2 u3 u4 u5 u6 f1 f2 f3 f4 B8 s8 g1 g2 g3
      go_region_held3 (fun w' => w'.cell? ⟨W.heap.size, 0, none⟩ = some (.int .i64 a) ∧ w'.cell? ⟨W.heap.size, 1, none⟩ = some (.int .i64 b) ∧ w'.cell? ⟨k5, 0, none⟩ = some (.int .i64 rn) ∧ w'.cell? ⟨k5, 1, none⟩ = some (.int .i64 rd) ∧ w'.cell? ⟨k11, 0, none⟩ = some (.int .i64 rn) ∧ w'.cell? ⟨k11, 1, none⟩ = some (.int .i64 rd))
        (first | go_keep | (obtain ⟨hc, hf⟩ := bcell hbw; refine ⟨?_, ?_, ?_, ?_, ?_, ?_⟩ <;> (rw [hc _ _ (by first | omega | (simp; omega))]; simp [*])))
        (first
          | (go_at_call 73; refine (H9.out _).mono ?_; rintro e wB ⟨rfl, hbw⟩; have sB : k11 < wB.heap.size := (by have := hbw.size; first | omega | (simp at this; omega)); have hbB := hbw)
          | (go_at_call 70; with_reducible refine (H4.out _).mono ?_; rintro e wC ⟨rfl, hbw⟩; have sC : k11 < wC.heap.size := (by have := hbw.size; first | omega | (simp at this; omega)); have hbC := hbw))
      go_wp2
      go_ret
      exact ⟨by simp, by first | exact (BA.out.trans (hbB.mono (by omega))).trans (hbC.mono (by omega)) | exact (BA.out.drew.trans (hbB.mono (by simp; omega))).trans (hbC.mono (by omega))⟩
  · have hz := Z1.out hbad
    obtain ⟨rfl, rfl⟩ := hz
    have e2 : (bad == 0) = false := by simpa using hbad
    have e3 : decide (bad = 0) = false := by simpa using hbad
    clear H7 Z1 hbad
    by_cases htwo : two = 0
    · subst htwo
      have H8' := Lib.hid (H8.out rfl)
      clear H8 Z2
      go_wp2_with fail
      have x1 : (w7.alloc (Obj.cells #[Value.int IntKind.i64 0, Value.int IntKind.i64 0] 99)).cell? ⟨W.heap.size, 0, none⟩ = some (.int .i64 a) := by rw [m1]; exact r1
      have x2 : (w7.alloc (Obj.cells #[Value.int IntKind.i64 0, Value.int IntKind.i64 0] 99)).cell? ⟨W.heap.size, 1, none⟩ = some (.int .i64 b) := by rw [m1]; exact r2
      have x5 : (w7.alloc (Obj.cells #[Value.int IntKind.i64 0, Value.int IntKind.i64 0] 99)).cell? ⟨k5, 0, none⟩ = some (.int .i64 0) := by rw [m3]; exact r5
      have x6 : (w7.alloc (Obj.cells #[Value.int IntKind.i64 0, Value.int IntKind.i64 0] 99)).cell? ⟨k5, 1, none⟩ = some (.int .i64 0) := by rw [m3]; exact r6
      have x7 : (w7.alloc (Obj.cells #[Value.int IntKind.i64 0, Value.int IntKind.i64 0] 99)).cell? ⟨w7.heap.size, 0, none⟩ = some (.int .i64 0) := by simp
      have x8 : (w7.alloc (Obj.cells #[Value.int IntKind.i64 0, Value.int IntKind.i64 0] 99)).cell? ⟨w7.heap.size, 1, none⟩ = some (.int .i64 0) := by simp
      have xs : w7.heap.size < (w7.alloc (Obj.cells #[Value.int IntKind.i64 0, Value.int IntKind.i64 0] 99)).heap.size := by simp
      have BX : Hid (Below W.heap.size W (w7.alloc (Obj.cells #[Value.int IntKind.i64 0, Value.int IntKind.i64 0] 99))) := B7.out.alloc (by omega) _
      obtain ⟨k11, hk⟩ : ∃ k, w7.heap.size = k := ⟨_, rfl⟩
      rw [hk] at x7 x8 xs s7
      rw [hk]
      clear hk
      clear r1 r2 r3 r4 r5 r6 m1 m2 m3 B7
      generalize (w7.alloc (Obj.cells #[Value.int IntKind.i64 0, Value.int IntKind.i64 0] 99)) = w9 at *
      refine (H8'.out _).mono ?_
      rintro e wA ⟨rfl, hbw⟩
      have BA : Hid (Below W.heap.size W wA) := BX.out.trans (hbw.mono (by omega))
      have sA : k11 < wA.heap.size := by have := hbw.size; omega
      obtain ⟨hc, hf⟩ := bcell hbw
      rw [← hc _ _ (by omega)] at x1 x2 x5 x6 x7 x8
      clear hc hf hbw BX xs
      go_wp2_with fail
      go_region_held3 (fun w' => w'.cell? ⟨W.heap.size, 0, none⟩ = some (.int .i64 a) ∧ w'.cell? ⟨W.heap.size, 1, none⟩ = some (.int .i64 b) ∧ w'.cell? ⟨k5, 0, none⟩ = some (.int .i64 0) ∧ w'.cell? ⟨k5, 1, none⟩ = some (.int .i64 0) ∧ w'.cell? ⟨k11, 0, none⟩ = some (.int .i64 0) ∧ w'.cell? ⟨k11, 1, none⟩ = some (.int .i64 0))
        (first | go_keep | (obtain ⟨hc, hf⟩ := bcell hbw; refine ⟨?_, ?_, ?_, ?_, ?_, ?_⟩ <;> (rw [hc _ _ (by first | omega | (simp; omega))]; simp [*])))
        (first
          | (go_at_call 73; refine (H9.out _).mono ?_; rintro e wB ⟨rfl, hbw⟩; have sB : k11 < wB.heap.size := (by have := hbw.size; first | omega | (simp at this; omega)); have hbB := hbw)
          | (go_at_call 70; with_reducible refine (H4.out _).mono ?_; rintro e wC ⟨rfl, hbw⟩; have sC : k11 < wC.heap.size := (by have := hbw.size; first | omega | (simp at this; omega)); have hbC := hbw))
      go_wp2
      go_ret
      exact ⟨by simp, by first | exact (BA.out.trans (hbB.mono (by omega))).trans (hbC.mono (by omega)) | exact (BA.out.drew.trans (hbB.mono (by simp; omega))).trans (hbC.mono (by omega))⟩
    · have hz := Z2.out htwo
      subst hz
      have e4 : (two == 0) = false := by simpa using htwo
      have e5 : decide (two = 0) = false := by simpa using htwo
      clear H8 Z2 htwo
      go_wp2_with fail
      have x1 : (w7.alloc (Obj.cells #[Value.int IntKind.i64 0, Value.int IntKind.i64 0] 99)).cell? ⟨W.heap.size, 0, none⟩ = some (.int .i64 a) := by rw [m1]; exact r1
      have x2 : (w7.alloc (Obj.cells #[Value.int IntKind.i64 0, Value.int IntKind.i64 0] 99)).cell? ⟨W.heap.size, 1, none⟩ = some (.int .i64 b) := by rw [m1]; exact r2
      have x5 : (w7.alloc (Obj.cells #[Value.int IntKind.i64 0, Value.int IntKind.i64 0] 99)).cell? ⟨k5, 0, none⟩ = some (.int .i64 0) := by rw [m3]; exact r5
      have x6 : (w7.alloc (Obj.cells #[Value.int IntKind.i64 0, Value.int IntKind.i64 0] 99)).cell? ⟨k5, 1, none⟩ = some (.int .i64 0) := by rw [m3]; exact r6
      have x7 : (w7.alloc (Obj.cells #[Value.int IntKind.i64 0, Value.int IntKind.i64 0] 99)).cell? ⟨w7.heap.size, 0, none⟩ = some (.int .i64 0) := by simp
      have x8 : (w7.alloc (Obj.cells #[Value.int IntKind.i64 0, Value.int IntKind.i64 0] 99)).cell? ⟨w7.heap.size, 1, none⟩ = some (.int .i64 0) := by simp
      have xs : w7.heap.size < (w7.alloc (Obj.cells #[Value.int IntKind.i64 0, Value.int IntKind.i64 0] 99)).heap.size := by simp
      have BX : Hid (Below W.heap.size W (w7.alloc (Obj.cells #[Value.int IntKind.i64 0, Value.int IntKind.i64 0] 99))) := B7.out.alloc (by omega) _
      obtain ⟨k11, hk⟩ : ∃ k, w7.heap.size = k := ⟨_, rfl⟩
      rw [hk] at x7 x8 xs s7
      rw [hk]
      clear hk
      clear r1 r2 r3 r4 r5 r6 m1 m2 m3 B7
      generalize (w7.alloc (Obj.cells #[Value.int IntKind.i64 0, Value.int IntKind.i64 0] 99)) = wA at *
      have BA := BX
      have sA := xs
      clear BX xs
      go_region_held3 (fun w' => w'.cell? ⟨W.heap.size, 0, none⟩ = some (.int .i64 a) ∧ w'.cell? ⟨W.heap.size, 1, none⟩ = some (.int .i64 b) ∧ w'.cell? ⟨k5, 0, none⟩ = some (.int .i64 0) ∧ w'.cell? ⟨k5, 1, none⟩ = some (.int .i64 0) ∧ w'.cell? ⟨k11, 0, none⟩ = some (.int .i64 0) ∧ w'.cell? ⟨k11, 1, none⟩ = some (.int .i64 0))
        (first | go_keep | (obtain ⟨hc, hf⟩ := bcell hbw; refine ⟨?_, ?_, ?_, ?_, ?_, ?_⟩ <;> (rw [hc _ _ (by first | omega | (simp; omega))]; simp [*])))
        (first
          | (go_at_call 73; refine (H9.out _).mono ?_; rintro e wB ⟨rfl, hbw⟩; have sB : k11 < wB.heap.size := (by have := hbw.size; first | omega | (simp at this; omega)); have hbB := hbw)
          | (go_at_call 70; with_reducible refine (H4.out _).mono ?_; rintro e wC ⟨rfl, hbw⟩; have sC : k11 < wC.heap.size := (by have := hbw.size; first | omega | (simp at this; omega)); have hbC := hbw))
      go_wp2
      go_ret
      exact ⟨by simp, by first | exact (BA.out.trans (hbB.mono (by omega))).trans (hbC.mono (by omega)) | exact (BA.out.drew.trans (hbB.mono (by simp; omega))).trans (hbC.mono (by omega))⟩
end Go.Proofs.YtmlmlnbmfcpeaaaGreatDoor
