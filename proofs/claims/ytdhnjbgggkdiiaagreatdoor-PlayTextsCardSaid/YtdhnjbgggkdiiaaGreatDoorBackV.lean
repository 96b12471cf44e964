import Derived.Test.YtdhnjbgggkdiiaaGreatDoorParse
import Derived.Test.YtdhnjbgggkdiiaaGreatDoorPrint
set_option linter.unusedSimpArgs false
set_option linter.unusedVariables false
namespace Go.Ev
open Go.RowKit Go.Proofs
set_option maxRecDepth 20000
set_option maxHeartbeats 8000000

/-! a valid play's string, read again -/
theorem blk_join (w : List Nat) (r : List (List Nat)) : joinB (w :: r) = if r = [] then w else w ++ 32 :: joinB r := by
  cases r with
  | nil => simp [joinB, blk]
  | cons x r => simp [joinB, blk]
theorem split_join : ∀ {ws : List (List Nat)}, ws ≠ [] → (∀ w ∈ ws, ∀ x ∈ w, x ≠ 32) → aT 32 (joinB ws) = ws
  | [], h, _ => absurd rfl h
  | w :: r, _, h => by
    have hw := h w List.mem_cons_self
    rw [blk_join]
    split
    · rename_i hr
      rw [hr, splitC_word hw]
    · rename_i hr
      rw [splitC_cut hw, split_join hr fun x hx => h x (List.mem_cons_of_mem _ hx)]
theorem dig_digN {n : Int} (h : 0 ≤ n ∧ n ≤ 9) : dQ (dig n) = true := by
  have e : ((dig n : Nat) : Int) = n + 48 := by unfold dig; omega
  simp only [dQ, digitB, e, Bool.and_eq_true, decide_eq_true_eq]; omega
theorem valN_dig {n : Int} (h : 0 ≤ n) : bT (dig n) = n := by unfold bT dig; omega
theorem digN_32 {x : Nat} (h : dQ x = true) : x ≠ 32 := by
  intro e; subst e; revert h; decide
theorem lowN_32 {x : Nat} (h : eJ x = true) : x ≠ 32 := by
  intro e; subst e; revert h; decide
theorem isP_32 {x : Nat} (h : isP x = true) : x ≠ 32 ∧ x ≠ 45 := by
  constructor <;> (intro e; subst e; revert h; decide)
theorem way_low : ∀ w ∈ wayT, w.2.1.length = 1 ∧ (w.2.1.all eJ) = true := by decide
theorem mvE_low {m : Mv} (h : mvE m = 0) : ∃ d, m.h = [d] ∧ eJ d = true := by
  have hw : wayE m.f m.t m.o m.h = 0 := by
    unfold mvE moveE at h
    simp only [cV] at h
    repeat' split at h
    all_goals simp_all
  unfold wayE at hw
  split at hw
  · rename_i w hf
    obtain ⟨h1, h2⟩ := findL_mem hf
    obtain ⟨a, b⟩ := way_low w h1
    rw [h2] at a b
    match hm : m.h, a, b with
    | [d], _, b => exact ⟨d, rfl, by simpa using b⟩
  · cases hw
theorem moveStr_back {m : Mv} (h : mvE m = 0) : mvW (bM m) = true ∧ eL (bM m) = m ∧ ∀ x ∈ bM m, x ≠ 32 := by
  obtain ⟨d, hd, hl⟩ := mvE_low h
  obtain ⟨hf, ht, -, -, hb, -⟩ := prB_iff (mvE_pr h)
  have hms : bM m = dig m.f :: signC m.o :: dig m.t :: d :: dM m.b := by simp [bM, hd]
  have hs : signC m.o = 45 ∨ signC m.o = 120 := by unfold signC; split <;> simp
  have hbd : (m.b.map dig).all dQ = true := by
    simp only [List.all_map, List.all_eq_true, Function.comp_apply]
    exact fun n hn => dig_digN (hb n hn)
  rw [hms]
  refine ⟨?_, ?_, ?_⟩
  · have h1 : ((signC m.o == 45) || (signC m.o == 120)) = true := by rcases hs with e | e <;> rw [e] <;> rfl
    simp only [mvW, h1, dig_digN hf, dig_digN ht, hl, Bool.true_and, Bool.and_self]
    unfold dM
    split
    · rfl
    · rename_i hne
      simp only [cS, hbd]
      simp [hne]
  · have h2 : ((dM m.b).drop 1).map bT = m.b := by
      unfold dM
      split
      · rename_i he; rw [he]; rfl
      · show (m.b.map dig).map bT = m.b
        rw [List.map_map]
        conv => rhs; rw [← List.map_id m.b]
        exact List.map_congr_left fun n hn => valN_dig (hb n hn).1
    have h3 : (signC m.o == 120) = m.o := by unfold signC; cases m.o <;> rfl
    show (⟨bT (dig m.f), bT (dig m.t), signC m.o == 120, [d], ((dM m.b).drop 1).map bT⟩ : Mv) = m
    rw [h2, h3, valN_dig hf.1, valN_dig ht.1, ← hd]
  · intro x hx
    simp only [List.mem_cons] at hx
    rcases hx with rfl | rfl | rfl | rfl | hx
    · exact digN_32 (dig_digN hf)
    · rcases hs with e | e <;> rw [e] <;> decide
    · exact digN_32 (dig_digN ht)
    · exact lowN_32 hl
    · unfold dM at hx
      split at hx
      · cases hx
      · rcases List.mem_cons.1 hx with rfl | hx
        · decide
        · exact digN_32 (List.all_eq_true.1 hbd x hx)
theorem pitches_all : ∀ {p : List Nat}, pitchesOK p = true → ∀ x ∈ p, isP x = true
  | [], _, x, hx => by cases hx
  | a :: p, h, x, hx => by
    simp only [pitchesOK, Bool.and_eq_true] at h
    rcases List.mem_cons.1 hx with rfl | hx
    · exact h.1.1
    · exact pitches_all h.2 x hx
/-- moves read again, from the third word on -/
theorem moves_back {L : List Mv} : ∀ {l : List Mv} {i : Nat} {q : Pl} {a : Nat}, 2 ≤ i → (∀ m ∈ l, mvE m = 0) → cO i a (l.map bM) = none ∧ cL i q (l.map bM) = ⟨q.p, q.e, q.l, q.m ++ l⟩
  | [], _, q, _, _, _ => by simp [cO, cL]
  | m :: l, i, q, a, hi, h => by
    obtain ⟨h1, h2, -⟩ := moveStr_back (h m List.mem_cons_self)
    have hnl : bM m ≠ lateB := by
      intro e; rw [e] at h1; revert h1; decide
    have hr : cR i (bM m) = true := by
      unfold cR
      rw [if_neg (by omega), if_neg (by omega)]
      split
      · rw [h1, Bool.or_true]
      · exact h1
    have hs : dB i q (bM m) = ⟨q.p, q.e, q.l, q.m ++ [m]⟩ := by
      unfold dB
      rw [if_neg (by omega), if_neg (by omega), if_neg (by rintro ⟨_, h⟩; exact hnl h), h2]
    obtain ⟨i1, i2⟩ := moves_back (L := L) (l := l) (i := i + 1) (q := ⟨q.p, q.e, q.l, q.m ++ [m]⟩) (a := a + (bM m).length + 1) (by omega) (fun x hx => h x (List.mem_cons_of_mem _ hx))
    rw [List.map_cons]
    refine ⟨?_, ?_⟩
    · unfold cO; rw [if_pos hr]; exact i1
    · unfold cL; rw [hs, i2]; simp
theorem lenS_bound {B : Nat} : ∀ {ws : List (List Nat)}, (∀ w ∈ ws, w.length ≤ B) → dT ws ≤ ws.length * B
  | [], _ => by simp [dT]
  | w :: ws, h => by
    have ih := lenS_bound (ws := ws) fun x hx => h x (List.mem_cons_of_mem _ hx)
    have hw := h w List.mem_cons_self
    simp only [dT, List.flatten_cons, List.length_append, List.length_cons] at ih ⊢
    rw [Nat.succ_mul]; omega
theorem dash_pit {p : List Nat} (h : pitchesOK p = true) : pitW (bR p) = true ∧ undash (bR p) = p ∧ ∀ x ∈ bR p, x ≠ 32 := by
  by_cases hp : p = []
  · subst hp; refine ⟨by decide, by decide, by decide⟩
  · have ha := pitches_all h
    have e : bR p = p := by simp [bR, hp]
    have hn : p ≠ [45] := by
      intro e2; subst e2
      exact (isP_32 (ha 45 (by simp))).2 rfl
    rw [e]
    refine ⟨?_, by simp [undash, hn], fun x hx => (isP_32 (ha x hx)).1⟩
    simp only [pitW, cS, Bool.or_eq_true, Bool.and_eq_true, List.all_eq_true, decide_eq_true_eq]
    exact .inr ⟨ha, hp⟩
theorem dash_ev {e : List Nat} (h : eventE e = 0) : (decide (bR e = [45]) || isEv (bR e)) = true ∧ undash (bR e) = e ∧ (∀ x ∈ bR e, x ≠ 32) ∧ (bR e).length ≤ 1 := by
  unfold eventE at h
  split at h
  · rename_i hc
    simp only [Bool.or_eq_true, decide_eq_true_eq] at hc
    rcases hc with rfl | hc
    · refine ⟨by decide, by decide, by decide, by decide⟩
    · match e, hc with
      | [x], hc =>
        have e1 : bR [x] = [x] := rfl
        rw [e1, hc, Bool.or_true]
        refine ⟨rfl, ?_, ?_, by simp⟩
        · unfold undash
          rw [if_neg]
          intro e2; rw [e2] at hc; revert hc; decide
        · intro y hy e2
          rw [List.mem_singleton] at hy
          subst hy; subst e2; revert hc; decide
      | [], hc => cases hc
      | _ :: _ :: _, hc => cases hc
  · cases h
theorem back {p e : List Nat} {late : Bool} {l : List Mv} (h : playE p e l = 0) : cI (playStr p e late l) = (⟨p, e, late, l⟩, 0, 0) := by
  obtain ⟨h1, h2, h3⟩ := playE_zero h
  obtain ⟨h4, h5⟩ := movesE_zero h3
  have hp : p.length ≤ 24 ∧ pitchesOK p = true := by
    unfold pitchE at h1
    split at h1
    · split at h1
      · exact ⟨by assumption, by assumption⟩
      · cases h1
    · cases h1
  obtain ⟨p1, p2, p3⟩ := dash_pit hp.2
  obtain ⟨e1, e2, e3, e4⟩ := dash_ev h2
  have hpl : (bR p).length ≤ 24 := by
    unfold bR; split
    · simp
    · exact hp.1
  obtain ⟨ws, hws⟩ : ∃ ws, ws = cD p e late l := ⟨_, rfl⟩
  have hw1 : ws = bR p :: bR e :: ((if late = true then [late0] else []) ++ l.map bM) := by rw [hws]; simp [cD, headW]
  have hmem : ∀ w ∈ ws, (∀ x ∈ w, x ≠ 32) ∧ w.length ≤ 210 := by
    intro w hw
    rw [hw1] at hw
    rcases List.mem_cons.1 hw with rfl | hw
    · exact ⟨p3, by omega⟩
    rcases List.mem_cons.1 hw with rfl | hw
    · exact ⟨e3, by omega⟩
    rcases List.mem_append.1 hw with hw | hw
    · split at hw
      · rw [List.mem_singleton.1 hw]; exact ⟨by decide, by decide⟩
      · cases hw
    · obtain ⟨m, hm, rfl⟩ := List.mem_map.1 hw
      exact ⟨(moveStr_back (h5 m hm)).2.2, moveStr_len (mvE_pr (h5 m hm))⟩
  have hne : ws ≠ [] := by rw [hw1]; simp
  have hsp : aT 32 (playStr p e late l) = ws := by
    unfold playStr
    rw [← hws]
    exact split_join hne fun w hw => (hmem w hw).1
  have hwl : ws.length ≤ 7 := by
    rw [hw1]
    simp only [List.length_cons, List.length_append, List.length_map]
    split <;> simp <;> omega
  have hln : ¬ 4096 < (playStr p e late l).length := by
    have a := split_len (c := 32) (playStr p e late l)
    have b := lenS_bound (fun w hw => (hmem w hw).2)
    rw [hsp] at a
    have : ws.length * 210 ≤ 7 * 210 := Nat.mul_le_mul_right _ hwl
    omega
  have hrd : cO 0 0 ws = none ∧ cL 0 pl0 ws = ⟨p, e, late, l⟩ := by
    rw [hw1]
    have r0 : cR 0 (bR p) = true := p1
    have r1 : cR (0 + 1) (bR e) = true := e1
    have s0 : dB 0 pl0 (bR p) = ⟨p, [], false, []⟩ := by show (⟨undash (bR p), _, _, _⟩ : Pl) = _; rw [p2]; rfl
    have s1 : dB (0 + 1) ⟨p, [], false, []⟩ (bR e) = ⟨p, e, false, []⟩ := by show (⟨_, undash (bR e), _, _⟩ : Pl) = _; rw [e2]
    simp only [cO, cL, r0, r1, if_true, s0, s1]
    cases late with
    | true =>
      have r2 : cR (0 + 1 + 1) late0 = true := by decide
      have s2 : dB (0 + 1 + 1) ⟨p, e, false, []⟩ late0 = ⟨p, e, true, []⟩ := rfl
      simp only [if_true, List.singleton_append, cO, cL, r2, s2]
      obtain ⟨a, b⟩ := moves_back (L := l) (l := l) (i := 0 + 1 + 1 + 1) (q := ⟨p, e, true, []⟩) (a := 0 + (bR p).length + 1 + (bR e).length + 1 + late0.length + 1) (by omega) h5
      exact ⟨a, by rw [b]; rfl⟩
    | false =>
      obtain ⟨a, b⟩ := moves_back (L := l) (l := l) (i := 0 + 1 + 1) (q := ⟨p, e, false, []⟩) (a := 0 + (bR p).length + 1 + (bR e).length + 1) (by omega) h5
      exact ⟨a, by show cL _ _ (l.map bM) = _; rw [b]; rfl⟩
  unfold cI
  rw [if_neg hln, hsp, hrd.1]
  show (if ws.length < 2 then _ else _) = _
  rw [if_neg (by rw [hw1]; simp), hrd.2]
  show (if playE p e l ≠ 0 then _ else _) = _
  rw [if_neg (by simpa using h)]
theorem split_play {p e : List Nat} {late : Bool} {l : List Mv} (h : playE p e l = 0) : aT 32 (playStr p e late l) = cD p e late l := by
  obtain ⟨h1, h2, h3⟩ := playE_zero h
  obtain ⟨h4, h5⟩ := movesE_zero h3
  have hp : pitchesOK p = true := by
    unfold pitchE at h1
    split at h1
    · split at h1
      · assumption
      · cases h1
    · cases h1
  unfold playStr
  refine split_join (by simp [cD, headW]) fun w hw => ?_
  have hw1 : cD p e late l = bR p :: bR e :: ((if late = true then [late0] else []) ++ l.map bM) := by simp [cD, headW]
  rw [hw1] at hw
  rcases List.mem_cons.1 hw with rfl | hw
  · exact (dash_pit hp).2.2
  rcases List.mem_cons.1 hw with rfl | hw
  · exact (dash_ev h2).2.2.1
  rcases List.mem_append.1 hw with hw | hw
  · split at hw
    · rw [List.mem_singleton.1 hw]; decide
    · cases hw
  · obtain ⟨m, hm, rfl⟩ := List.mem_map.1 hw
    exact (moveStr_back (h5 m hm)).2.2
theorem words_count {p e : List Nat} {late : Bool} {l : List Mv} : (cD p e late l).length = 2 + l.length + (if late = true then 1 else 0) := by
  cases late <;> simp [cD, headW] <;> omega
end Go.Ev
