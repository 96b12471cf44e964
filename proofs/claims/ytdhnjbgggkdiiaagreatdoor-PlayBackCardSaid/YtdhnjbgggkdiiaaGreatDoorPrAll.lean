import Derived.Test.YtdhnjbgggkdiiaaGreatDoorPlaysC
set_option linter.unusedSimpArgs false
set_option linter.unusedVariables false
namespace Go.Ev
open Go.RowKit Go.Proofs
set_option linter.defProp false
set_option maxRecDepth 20000
set_option maxHeartbeats 8000000

/-! the text of plays -/
def dA (q : Pl) : List Nat := playStr q.p q.e q.l q.m
def eY (q : Pl) : Int := playE q.p q.e q.m
def plB (q : Pl) : Bool := aZ q.p && aZ q.e
def prAll (l : List Pl) : List Nat := (l.map fun q => dA q ++ [10]).flatten
theorem prAll_cons {q : Pl} {l : List Pl} : prAll (q :: l) = dA q ++ 10 :: prAll l := by simp [prAll]
theorem prAll_snoc {q : Pl} {l : List Pl} : prAll (l ++ [q]) = prAll l ++ dA q ++ [10] := by simp [prAll]
theorem digN_10 {x : Nat} (h : eT x = true) : x ≠ 10 := by
  intro e; subst e; revert h; decide
theorem lowN_10 {x : Nat} (h : lowN x = true) : x ≠ 10 := by
  intro e; subst e; revert h; decide
theorem isP_10 {x : Nat} (h : isP x = true) : x ≠ 10 := by
  intro e; subst e; revert h; decide
theorem mvW_10 : ∀ {w : List Nat}, mvW w = true → ∀ x ∈ w, x ≠ 10
  | a :: b :: c :: d :: r, h, x, hx => by
    simp only [mvW, Bool.and_eq_true, Bool.or_eq_true, beq_iff_eq, decide_eq_true_eq] at h
    obtain ⟨⟨hb, ha, hc, hd⟩, hr⟩ := h
    simp only [List.mem_cons] at hx
    rcases hx with rfl | rfl | rfl | rfl | hx
    · exact digN_10 ha
    · rcases hb with e | e <;> rw [e] <;> decide
    · exact digN_10 hc
    · exact lowN_10 hd
    · match r, hr, hx with
      | [], _, hx => cases hx
      | e :: r2, hr, hx =>
        simp only [reduceCtorEq, false_or, Bool.and_eq_true, beq_iff_eq, madeOf] at hr
        rcases List.mem_cons.1 hx with rfl | hx
        · rw [hr.1]; decide
        · exact digN_10 (List.all_eq_true.1 hr.2.1 x hx)
theorem pitW_10 {w : List Nat} (h : pitW w = true) : ∀ x ∈ w, x ≠ 10 := by
  simp only [pitW, Bool.or_eq_true, decide_eq_true_eq, madeOf, Bool.and_eq_true] at h
  rcases h with rfl | h
  · decide
  · exact fun x hx => isP_10 (List.all_eq_true.1 h.1 x hx)
theorem evW_10 {w : List Nat} (h : (decide (w = [45]) || isEv w) = true) : ∀ x ∈ w, x ≠ 10 := by
  simp only [Bool.or_eq_true, decide_eq_true_eq] at h
  rcases h with rfl | h
  · decide
  · match w, h with
    | [y], h =>
      intro x hx e
      rw [List.mem_singleton] at hx
      subst hx; subst e; revert h; decide
    | [], h => cases h
    | _ :: _ :: _, h => cases h
theorem joinB_mem {ws : List (List Nat)} {x : Nat} (h : x ∈ joinB ws) : x = 32 ∨ ∃ w ∈ ws, x ∈ w := by
  cases ws with
  | nil => cases h
  | cons w r =>
    rcases List.mem_append.1 h with h | h
    · exact .inr ⟨w, List.mem_cons_self, h⟩
    · obtain ⟨y, hy, hx⟩ := List.mem_flatten.1 h
      obtain ⟨v, hv, rfl⟩ := List.mem_map.1 hy
      rcases List.mem_cons.1 hx with rfl | hx
      · exact .inl rfl
      · exact .inr ⟨v, List.mem_cons_of_mem _ hv, hx⟩
theorem moveStr_len2 {m : Mv} (h : mvE m = 0) : (cH m).length ≤ 24 := by
  obtain ⟨d, hd, -⟩ := mvE_low h
  have h2 := mvE_short h
  have : (byStr m.b).length ≤ m.b.length + 1 := by unfold byStr; split <;> simp
  simp only [cH, hd, List.length_append, List.length_cons, List.length_nil]
  omega
theorem pl_pitch {p e : List Nat} {l : List Mv} (h : playE p e l = 0) : p.length ≤ 24 ∧ pitchesOK p = true := by
  have h1 := (playE_zero h).1
  unfold pitchE at h1
  split at h1
  · split at h1
    · exact ⟨by assumption, by assumption⟩
    · cases h1
  · cases h1
theorem words_mem {p e : List Nat} {late : Bool} {l : List Mv} (h : playE p e l = 0) : ∀ w ∈ cI p e late l, (∀ x ∈ w, x ≠ 10) ∧ w.length ≤ 24 := by
  obtain ⟨h1, h2, h3⟩ := playE_zero h
  obtain ⟨h4, h5⟩ := movesE_zero h3
  obtain ⟨hpl, hp⟩ := pl_pitch h
  obtain ⟨e1, -, -, e4⟩ := dash_ev h2
  intro w hw
  have hw1 : cI p e late l = cQ p :: cQ e :: ((if late = true then [late0] else []) ++ l.map cH) := by simp [cI, headW]
  rw [hw1] at hw
  rcases List.mem_cons.1 hw with rfl | hw
  · exact ⟨pitW_10 (dash_pit hp).1, by
      unfold cQ; split
      · simp
      · omega⟩
  rcases List.mem_cons.1 hw with rfl | hw
  · exact ⟨evW_10 e1, by omega⟩
  rcases List.mem_append.1 hw with hw | hw
  · split at hw
    · rw [List.mem_singleton.1 hw]; exact ⟨by decide, by decide⟩
    · cases hw
  · obtain ⟨m, hm, rfl⟩ := List.mem_map.1 hw
    exact ⟨mvW_10 (moveStr_back (h5 m hm)).1, moveStr_len2 (h5 m hm)⟩
theorem plStr_10 {q : Pl} (h : eY q = 0) : ∀ x ∈ dA q, x ≠ 10 := by
  intro x hx
  rcases joinB_mem (ws := cI q.p q.e q.l q.m) hx with rfl | ⟨w, hw, hx⟩
  · decide
  · exact (words_mem h w hw).1 x hx
theorem plStr_len {q : Pl} (h : eY q = 0) : (dA q).length ≤ 175 ∧ 0 < (dA q).length := by
  have hs := split_play (late := q.l) h
  have a := split_len (c := 32) (dA q)
  unfold dA at a ⊢
  rw [hs] at a
  have b := lenS_bound fun w hw => (words_mem (late := q.l) h w hw).2
  have c := words_count (p := q.p) (e := q.e) (late := q.l) (l := q.m)
  have d := (movesE_zero (playE_zero h).2.2).1
  have e : (if q.l = true then 1 else 0) ≤ 1 := by split <;> omega
  have f : (cI q.p q.e q.l q.m).length * 24 ≤ 7 * 24 := Nat.mul_le_mul_right _ (by omega)
  have g : 0 < eK (cI q.p q.e q.l q.m) := by
    have hw1 : cI q.p q.e q.l q.m = cQ q.p :: cQ q.e :: ((if q.l = true then [late0] else []) ++ q.m.map cH) := by simp [cI, headW]
    rw [hw1]
    have : 0 < (cQ q.p).length := by
      unfold cQ; split
      · simp
      · rename_i hne; exact List.length_pos_iff.2 hne
    simp only [eK, List.flatten_cons, List.length_append]; omega
  omega
theorem plStr_bytes {q : Pl} (hb : plB q = true) (h : eY q = 0) : aZ (dA q) = true := by
  simp only [plB, Bool.and_eq_true] at hb
  exact joinB_bytes (words_bytes (playE_pr hb h))
theorem prAll_len : ∀ {l : List Pl}, (∀ q ∈ l, eY q = 0) → (prAll l).length ≤ 176 * l.length
  | [], _ => by simp [prAll]
  | q :: l, h => by
    have ih := prAll_len (l := l) fun x hx => h x (List.mem_cons_of_mem _ hx)
    have := (plStr_len (h q List.mem_cons_self)).1
    rw [prAll_cons]
    simp only [List.length_append, List.length_cons]; omega
theorem prAll_bytes : ∀ {l : List Pl}, (∀ q ∈ l, plB q = true) → (∀ q ∈ l, eY q = 0) → aZ (prAll l) = true
  | [], _, _ => rfl
  | q :: l, hb, h => by
    have ih := prAll_bytes (l := l) (fun x hx => hb x (List.mem_cons_of_mem _ hx)) fun x hx => h x (List.mem_cons_of_mem _ hx)
    have := plStr_bytes (hb q List.mem_cons_self) (h q List.mem_cons_self)
    rw [prAll_cons]
    simp only [aZ, List.all_append, List.all_cons, Bool.and_eq_true] at ih this ⊢
    exact ⟨this, by decide, ih⟩
theorem checkL_take : ∀ {l : List Pl}, checkL l = 0 → ∀ q ∈ l, eY q = 0
  | [], _, _, hq => by cases hq
  | a :: l, h, q, hq => by
    unfold checkL at h
    split at h
    · rename_i hn; exact absurd h hn
    · rename_i hn
      rcases List.mem_cons.1 hq with rfl | hq
      · exact Classical.not_not.1 hn
      · exact checkL_take h q hq
theorem chE_zero {l : List Pl} (h : chE l = 0) : l.length ≤ 256 ∧ ∀ q ∈ l, eY q = 0 := by
  unfold chE at h
  split at h
  · cases h
  · exact ⟨by omega, checkL_take h⟩

/-! the reference's text -/
end Go.Ev
