import Derived.Test.YtdhnjbgggkdiiaaGreatDoorPlaysC
set_option linter.unusedSimpArgs false
set_option linter.unusedVariables false
namespace Go.Ev
open Go.RowKit Go.Proofs
set_option linter.defProp false
def TF42PrAll := And.intro (And.intro (And.intro (And.intro (And.intro (@Tryz.underlying3) (And.intro (@sz3) (@bN))) (And.intro (And.intro (@I3s) (@I3b)) (And.intro (@bL) (@bO)))) (And.intro (And.intro (And.intro (@Tryz.underlying4) (@sz4)) (And.intro (@dC) (@I4s))) (And.intro (And.intro (@I4b) (@cY)) (And.intro (@dD) (@Tryz.underlying9))))) (And.intro (And.intro (And.intro (@sz9) (And.intro (@bI) (@I9s))) (And.intro (And.intro (@I9b) (@bH)) (And.intro (@bJ) (@Tryz.underlying22)))) (And.intro (And.intro (And.intro (@eN) (@dO)) (And.intro (@eO) (@eP))) (And.intro (And.intro (@dH) (@dP)) (And.intro (@Tryz.underlying24) (@sz24)))))) (And.intro (And.intro (And.intro (And.intro (@fok24) (And.intro (@info24) (@I24s))) (And.intro (And.intro (@I24b) (@zero24)) (And.intro (@grow24) (@Tryz.underlying25)))) (And.intro (And.intro (And.intro (@eB) (@cE)) (And.intro (@eC) (@eD))) (And.intro (And.intro (@cC) (@cF)) (And.intro (@Tryz.underlying27) (@eE))))) (And.intro (And.intro (And.intro (@dF) (And.intro (@cJ) (@eF))) (And.intro (And.intro (@eG) (@cH)) (And.intro (@cK) (@Tryz.underlying54)))) (And.intro (And.intro (And.intro (@sz54) (@info54)) (And.intro (@I54s) (@I54b))) (And.intro (And.intro (@zero54) (@grow54)) (And.intro (@call33) (@Tryz.results42))))))
set_option maxRecDepth 20000
set_option maxHeartbeats 8000000

/-! the text of plays -/
def plStr (q : Pl) : List Nat := playStr q.p q.e q.l q.m
def plE0 (q : Pl) : Int := playE q.p q.e q.m
def plB (q : Pl) : Bool := aM q.p && aM q.e
def dZ (l : List Pl) : List Nat := (l.map fun q => plStr q ++ [10]).flatten
theorem prAll_cons {q : Pl} {l : List Pl} : dZ (q :: l) = plStr q ++ 10 :: dZ l := by simp [dZ]
theorem prAll_snoc {q : Pl} {l : List Pl} : dZ (l ++ [q]) = dZ l ++ plStr q ++ [10] := by simp [dZ]
theorem digN_10 {x : Nat} (h : dQ x = true) : x ≠ 10 := by
  intro e; subst e; revert h; decide
theorem lowN_10 {x : Nat} (h : eJ x = true) : x ≠ 10 := by
  intro e; subst e; revert h; decide
theorem isP_10 {x : Nat} (h : isP x = true) : x ≠ 10 := by
  intro e; subst e; revert h; decide
theorem mvW_10 : ∀ {w : List Nat}, mvW w = true → ∀ x ∈ w, x ≠ 10
  | a :: b :: c :: d :: r, h, x, hx => by
    simp only [mvW, Bool.and_eq_true, Bool.or_eq_true, beq_iff_eq, decide_eq_true_eq] at h
    obtain ⟨⟨hb, ha, hc, hd⟩, hr⟩ := h
    simp only [List.mem_cons] at hx
    rcases hx with rfl | rfl | rfl | rfl | hx
    · exact digN_10 ha
    · rcases hb with e | e <;> rw [e] <;> decide
    · exact digN_10 hc
    · exact lowN_10 hd
    · match r, hr, hx with
      | [], _, hx => cases hx
      | e :: r2, hr, hx =>
        simp only [reduceCtorEq, false_or, Bool.and_eq_true, beq_iff_eq, cS] at hr
        rcases List.mem_cons.1 hx with rfl | hx
        · rw [hr.1]; decide
        · exact digN_10 (List.all_eq_true.1 hr.2.1 x hx)
theorem pitW_10 {w : List Nat} (h : pitW w = true) : ∀ x ∈ w, x ≠ 10 := by
  simp only [pitW, Bool.or_eq_true, decide_eq_true_eq, cS, Bool.and_eq_true] at h
  rcases h with rfl | h
  · decide
  · exact fun x hx => isP_10 (List.all_eq_true.1 h.1 x hx)
theorem evW_10 {w : List Nat} (h : (decide (w = [45]) || isEv w) = true) : ∀ x ∈ w, x ≠ 10 := by
  simp only [Bool.or_eq_true, decide_eq_true_eq] at h
  rcases h with rfl | h
  · decide
  · match w, h with
    | [y], h =>
      intro x hx e
      rw [List.mem_singleton] at hx
      subst hx; subst e; revert h; decide
    | [], h => cases h
    | _ :: _ :: _, h => cases h
theorem moveStr_len2 {m : Mv} (h : mvE m = 0) : (bM m).length ≤ 24 := by
  obtain ⟨d, hd, -⟩ := mvE_low h
  have h2 := mvE_short h
  have : (dM m.b).length ≤ m.b.length + 1 := by unfold dM; split <;> simp
  simp only [bM, hd, List.length_append, List.length_cons, List.length_nil]
  omega
theorem pl_pitch {p e : List Nat} {l : List Mv} (h : playE p e l = 0) : p.length ≤ 24 ∧ pitchesOK p = true := by
  have h1 := (playE_zero h).1
  unfold pitchE at h1
  split at h1
  · split at h1
    · exact ⟨by assumption, by assumption⟩
    · cases h1
  · cases h1
theorem words_mem {p e : List Nat} {late : Bool} {l : List Mv} (h : playE p e l = 0) : ∀ w ∈ cD p e late l, (∀ x ∈ w, x ≠ 10) ∧ w.length ≤ 24 := by
  obtain ⟨h1, h2, h3⟩ := playE_zero h
  obtain ⟨h4, h5⟩ := movesE_zero h3
  obtain ⟨hpl, hp⟩ := pl_pitch h
  obtain ⟨e1, -, -, e4⟩ := dash_ev h2
  intro w hw
  have hw1 : cD p e late l = bR p :: bR e :: ((if late = true then [late0] else []) ++ l.map bM) := by simp [cD, headW]
  rw [hw1] at hw
  rcases List.mem_cons.1 hw with rfl | hw
  · exact ⟨pitW_10 (dash_pit hp).1, by
      unfold bR; split
      · simp
      · omega⟩
  rcases List.mem_cons.1 hw with rfl | hw
  · exact ⟨evW_10 e1, by omega⟩
  rcases List.mem_append.1 hw with hw | hw
  · split at hw
    · rw [List.mem_singleton.1 hw]; exact ⟨by decide, by decide⟩
    · cases hw
  · obtain ⟨m, hm, rfl⟩ := List.mem_map.1 hw
    exact ⟨mvW_10 (moveStr_back (h5 m hm)).1, moveStr_len2 (h5 m hm)⟩
theorem plStr_len {q : Pl} (h : plE0 q = 0) : (plStr q).length ≤ 175 ∧ 0 < (plStr q).length := by
  have hs := split_play (late := q.l) h
  have a := split_len (c := 32) (plStr q)
  unfold plStr at a ⊢
  rw [hs] at a
  have b := lenS_bound fun w hw => (words_mem (late := q.l) h w hw).2
  have c := words_count (p := q.p) (e := q.e) (late := q.l) (l := q.m)
  have d := (movesE_zero (playE_zero h).2.2).1
  have e : (if q.l = true then 1 else 0) ≤ 1 := by split <;> omega
  have f : (cD q.p q.e q.l q.m).length * 24 ≤ 7 * 24 := Nat.mul_le_mul_right _ (by omega)
  have g : 0 < dT (cD q.p q.e q.l q.m) := by
    have hw1 : cD q.p q.e q.l q.m = bR q.p :: bR q.e :: ((if q.l = true then [late0] else []) ++ q.m.map bM) := by simp [cD, headW]
    rw [hw1]
    have : 0 < (bR q.p).length := by
      unfold bR; split
      · simp
      · rename_i hne; exact List.length_pos_iff.2 hne
    simp only [dT, List.flatten_cons, List.length_append]; omega
  omega
theorem plStr_bytes {q : Pl} (hb : plB q = true) (h : plE0 q = 0) : aM (plStr q) = true := by
  simp only [plB, Bool.and_eq_true] at hb
  exact joinB_bytes (words_bytes (playE_pr hb h))
theorem prAll_len : ∀ {l : List Pl}, (∀ q ∈ l, plE0 q = 0) → (dZ l).length ≤ 176 * l.length
  | [], _ => by simp [dZ]
  | q :: l, h => by
    have ih := prAll_len (l := l) fun x hx => h x (List.mem_cons_of_mem _ hx)
    have := (plStr_len (h q List.mem_cons_self)).1
    rw [prAll_cons]
    simp only [List.length_append, List.length_cons]; omega
theorem prAll_bytes : ∀ {l : List Pl}, (∀ q ∈ l, plB q = true) → (∀ q ∈ l, plE0 q = 0) → aM (dZ l) = true
  | [], _, _ => rfl
  | q :: l, hb, h => by
    have ih := prAll_bytes (l := l) (fun x hx => hb x (List.mem_cons_of_mem _ hx)) fun x hx => h x (List.mem_cons_of_mem _ hx)
    have := plStr_bytes (hb q List.mem_cons_self) (h q List.mem_cons_self)
    rw [prAll_cons]
    simp only [aM, List.all_append, List.all_cons, Bool.and_eq_true] at ih this ⊢
    exact ⟨this, by decide, ih⟩
theorem checkL_take : ∀ {l : List Pl}, checkL l = 0 → ∀ q ∈ l, plE0 q = 0
  | [], _, _, hq => by cases hq
  | a :: l, h, q, hq => by
    unfold checkL at h
    split at h
    · rename_i hn; exact absurd h hn
    · rename_i hn
      rcases List.mem_cons.1 hq with rfl | hq
      · exact Classical.not_not.1 hn
      · exact checkL_take h q hq
theorem chE_zero {l : List Pl} (h : chE l = 0) : l.length ≤ 256 ∧ ∀ q ∈ l, plE0 q = 0 := by
  unfold chE at h
  split at h
  · cases h
  · exact ⟨by omega, checkL_take h⟩

/-! the reference's text -/
def okPr (l : List Pl) : Bool := decide (l.length ≤ 300) && l.all fun q => prP q.p q.e q.m
theorem prAll_len2 : ∀ {l : List Pl}, (∀ q ∈ l, prP q.p q.e q.m = true) → (dZ l).length ≤ 30001 * l.length
  | [], _ => by simp [dZ]
  | q :: l, h => by
    have ih := prAll_len2 (l := l) fun x hx => h x (List.mem_cons_of_mem _ hx)
    have : (plStr q).length ≤ 30000 := playStr_len (h q List.mem_cons_self)
    rw [prAll_cons]
    simp only [List.length_append, List.length_cons]; omega
def F42 : List EVal → Option EVal
  | [v] => (dPls v).bind fun l => if okPr l = true then some (.str (dZ l)) else none
  | _ => none
theorem fn42 : FnT 42 F42 := by
  refine Fn.intro mixed aI Tryz.func42 rfl [(33, F33)] (by simp only [List.forall_mem_cons]; exact ⟨fn33, fun _ h => by cases h⟩) ?_
  intro args v hF
  unfold F42 at hF
  split at hF
  rotate_left
  · cases hF
  intro Q hV
  have hQ := aS.of hV
  rename_i v
  cases ha : dPls v with
  | none => rw [ha] at hF; cases hF
  | some l =>
  rw [ha] at hF
  simp only [Option.bind_some] at hF
  split at hF
  rotate_left
  · cases hF
  rename_i hc
  cases hF
  obtain ⟨rfl, hlen, hok⟩ := dPls_inv ha
  clear ha
  simp only [okPr, Bool.and_eq_true, decide_eq_true_eq, List.all_eq_true] at hc
  obtain ⟨h300, hc⟩ := hc
  refine Top.view (aH.start (n := 20) rfl (by simp)) (aD aI _ _ _ _ ?_)
  (try simp only [aG, SS, aA, Nat.reduceLT])
  refine aU (Top.loop (I := fun s : { k : Nat // k ≤ l.length } => (mkF 20 [(4, .int .i64 (s.1 : Nat)), (3, .str (dZ (l.take s.1))), (0, .lsl (cX l))], H.start)) (μ := fun s => l.length - s.1) ⟨0, by omega⟩ (aH.sub (by simp [look, dZ])) ?_)
  rintro ⟨k, hk⟩
  refine aD aI _ _ _ _ ?_
  by_cases hlt : k < l.length
  rotate_left
  · obtain rfl : k = l.length := by omega
    have q1 : decide ((l.length : Int) < (l.length : Int)) = false := by simp
    rw [List.take_length]
    (try simp only [SS, TF42PrAll, aA, Nat.reduceLT, Nat.reduceEqDiff, reduceCtorEq, bE, q1])
    (refine hQ _ _ _ (aC (by first | exact .inl rfl | exact .inr rfl) ?_); simp only [SS, TF42PrAll, Nat.reduceLT, Nat.reduceEqDiff, reduceCtorEq])
  obtain ⟨q, hx⟩ : ∃ q, l[k]? = some q := ⟨l[k], List.getElem?_eq_getElem hlt⟩
  have hq := hok q (List.mem_of_getElem? hx)
  have h33 : F33 [.agg [.str q.p, .str q.e, .bool q.l, .lsl (aZ q.m)]] = some (.str (plStr q)) := e33 hq.1 hq.2 (hc q (List.mem_of_getElem? hx))
  have q1 : decide ((k : Int) < (l.length : Int)) = true := by simp; omega
  have q2 : IntKind.i64.wrap ((k : Int) + 1) = ((k + 1 : Nat) : Int) := by rw [aR] <;> omega
  have htk : l.take (k + 1) = l.take k ++ [q] := by rw [List.take_add_one, hx]; rfl
  have u10 : UInt8.toNat 10 = 10 := rfl
  have hs := prAll_snoc (q := q) (l := l.take k)
  rw [← htk] at hs
  have d1 : (plStr q).length ≤ 30000 := playStr_len (hc q (List.mem_of_getElem? hx))
  have d2 := prAll_len2 (l := l.take k) fun x hx => hc x (List.mem_of_mem_take hx)
  have d3 : (l.take k).length ≤ 300 := by rw [List.length_take]; omega
  have c1 : ((dZ (l.take k)).length + (plStr q).length < 1000000000) = True := by simp only [eq_iff_iff, iff_true]; omega
  have c2 : ((dZ (l.take k) ++ plStr q).length + 1 < 1000000000) = True := by simp only [eq_iff_iff, iff_true, List.length_append]; omega
  (try simp only [SS, TF42PrAll, aF, aA, Nat.reduceLT, Nat.reduceEqDiff, Nat.reduceAdd, reduceCtorEq, bE, ePls_get, ePl_q, hx, q1, h33, q2, u10, c1, c2])
  refine ⟨⟨k + 1, hlt⟩, by simp; omega, ?_⟩
  simp only [hs]
  exact aH.sub (by simp [look])
theorem e42 {l : List Pl} (hlen : l.length < 9223372036854775808) (hok : ∀ q ∈ l, eM q) (hc : okPr l = true) : F42 [.lsl (cX l)] = some (.str (dZ l)) := by
  simp only [F42, dPls_e hlen hok, Option.bind_some]; rw [if_pos hc]

end Go.Ev
