import Derived.Test.YtahijjbkefmdpaaGreatDoorLuT2
set_option linter.unusedSimpArgs false
set_option linter.unusedVariables false
namespace Go.Ev
open Go.RowKit Go.Proofs
set_option maxRecDepth 100000
set_option maxHeartbeats 4000000
set_option linter.unusedSimpArgs false
noncomputable section
section
variable {s : Lu} {t : Int} {u : List Int}
theorem k45_law (h : Ok s) {N : List (List Nat)} {b d c : Nat} (hb : b < 9) (hl : N.length ≤ 20) (hx : ∀ x ∈ N, ∃ b, x = bn s b) (hd : d < N.length) (hu : ∀ i, i < d → N.getD i [] = bn s (b + i)) (hc : N.getD d [] = bn s c) (hne : bn s c ≠ bn s (b + d)) (n : Nat) :
  ajS s t u (n + 20) (.k45 (pn b) N (d : Int) (bn s (b + d)) (bn s c) (bn s (b + d + 1))) = some true := by
 have hg : ∀ m, ((List.range m).map fun i => N.getD (0 + i) []) = (List.range m).map fun i => N.getD i [] := fun m => by simp only [Nat.zero_add]
 have one : ∀ i, i < d + 1 → (((List.range d).map fun i => N.getD i []) ++ [bn s (b + d)]).getD i [] = bn s (b + i) := by
  intro i hi
  rcases Nat.lt_succ_iff_lt_or_eq.1 hi with h1 | rfl
  · rw [nQ (by rw [List.length_map, List.length_range]; exact h1), mP h1]; exact hu i h1
  · have := nP (l := (List.range i).map fun i => N.getD i []) (r := [bn s (b + i)]) (i := 0)
    rw [List.length_map, List.length_range, Nat.add_zero] at this
    rw [this]; rfl
 have one_l : (((List.range d).map fun i => N.getD i []) ++ [bn s (b + d)]).length = d + 1 := by simp
 have two : ∀ i, i < d + 2 → ((((List.range d).map fun i => N.getD i []) ++ [bn s (b + d)]) ++ [bn s (b + d + 1)]).getD i [] = bn s (b + i) := by
  intro i hi
  rcases Nat.lt_succ_iff_lt_or_eq.1 hi with h1 | rfl
  · rw [nQ (by rw [one_l]; exact h1)]; exact one i h1
  · have := nP (l := ((List.range d).map fun i => N.getD i []) ++ [bn s (b + d)]) (r := [bn s (b + d + 1)]) (i := 0)
    rw [one_l, Nat.add_zero] at this
    rw [this]; rfl
 have two_l : ((((List.range d).map fun i => N.getD i []) ++ [bn s (b + d)]) ++ [bn s (b + d + 1)]).length = d + 2 := by simp
 rw [show n + 20 = n + 19 + 1 by omega, f8]
 simp only [vX, TS, hg, aqI, Int.toNat_natCast, Nat.sub_zero]
 rw [show (decide ((0 : Int) ≤ (d : Int)) && decide ((d : Int) ≤ ((N.length : Nat) : Int))) = true by simp; omega, oH (by omega), aqx (by omega)]
 simp only [cond_true]
 rw [show n + 19 = n + 18 + 1 by omega, f8]
 simp only [vX, TS, one_l]
 rw [oH (show d + 1 < 1000 by omega), wZ h b (by rw [one_l]; omega) (by rw [one_l]; exact one)]
 simp only [cond_true, aE]
 rw [show n + 18 = n + 17 + 1 by omega, f8]
 simp only [vX, TS, xZ, one_l]
 rw [oH (show d + 1 < 1000 by omega), aqx (show d + 1 < 1000 by omega)]
 simp only [cond_true]
 rw [show n + 17 = n + 16 + 1 by omega, f8]
 simp only [vX, TS, two_l]
 rw [oH (show d + 2 < 1000 by omega), wZ h b (by rw [two_l]; omega) (by rw [two_l]; exact two)]
 simp only [cond_true, aE, beq_self_eq_true, Bool.not_true, cond_false]
 rw [show n + 16 = n + 15 + 1 by omega, f8]
 simp only [vX, TS, hg, w6s (show d < 9223372036854775807 by omega), Int.toNat_natCast, Nat.sub_zero]
 rw [show (decide ((0 : Int) ≤ ((d + 1 : Nat) : Int)) && decide (((d + 1 : Nat) : Int) ≤ ((N.length : Nat) : Int))) = true by simp; omega, oH (show d + 1 < 1000 by omega)]
 simp only [cond_true]
 rw [show n + 15 = n + 14 + 1 by omega, f8]
 simp only [vX, TS, s36, s33', h.sl, aE]
 have := all_j (s := s) (t := t) (a := pn b) (b := (d : Int)) (u := u) (x := bn s (b + d)) (y := bn s c) (z := bn s (b + d + 1)) c 5 (n + 8) 0 ((List.range (d + 1)).map fun i => N.getD i []) rfl (by simp; omega)
 rw [nc0] at this
 rw [show n + 14 = n + 8 + 5 + 1 by omega, this, show n + 8 = n + 7 + 1 by omega, f8]
 have al : (((List.range (d + 1)).map fun i => N.getD i []) ++ (List.range 5).map fun i => bn s (c + 1 + 0 + i)).length = d + 6 := by simp
 have a1 : ∀ i, i < d + 1 → (((List.range (d + 1)).map fun i => N.getD i []) ++ (List.range 5).map fun i => bn s (c + 1 + 0 + i)).getD i [] = N.getD i [] := fun i hi => by
  rw [nQ (by rw [List.length_map, List.length_range]; exact hi), mP hi]
 have a2 : ∀ i, i < 5 → (((List.range (d + 1)).map fun i => N.getD i []) ++ (List.range 5).map fun i => bn s (c + 1 + 0 + i)).getD (d + 1 + i) [] = bn s (c + 1 + i) := fun i hi => by
  have := nP (l := (List.range (d + 1)).map fun i => N.getD i []) (r := (List.range 5).map fun i => bn s (c + 1 + 0 + i)) (i := i)
  rw [List.length_map, List.length_range] at this
  rw [this, mP hi, Nat.add_zero]
 simp only [vX, TS, al]
 rw [oH (show d + 6 < 1000 by omega), imp_one h b d c (by rw [al]; omega) (fun x hx' => by
  rcases List.mem_append.1 hx' with h1 | h1
  · obtain ⟨i, hi, rfl⟩ := List.mem_map.1 h1
    rw [List.mem_range] at hi
    refine hx _ ?_
    rw [List.getD_eq_getElem?_getD, List.getElem?_eq_getElem (by omega)]; exact List.getElem_mem _
  · obtain ⟨i, _, rfl⟩ := List.mem_map.1 h1
    exact ⟨_, rfl⟩) (by rw [al]; omega) (fun i hi => by rw [a1 i (by omega)]; exact hu i hi) (by rw [a1 d (by omega)]; exact hc) hne (fun i hi => a2 i (by rw [al] at hi; omega))]
 simp only [cond_true, aE, beq_self_eq_true]
 have hs := same [(d : Int)] (by simp)
 rw [hs]; rfl
theorem law_k25 (h : Ok s) {b : Nat} (hb : b < 9) (hl : u.length ≤ 20) (n : Nat) :
  ajS s t u (n + 21) (.k25 (pn b) (u.map (nmE s)) ((List.range u.length).map fun i => bn s (b + i))) = some true := by
 have pl : ((List.range u.length).map fun i => bn s (b + i)).length = u.length := by simp
 have nl : (u.map (nmE s)).length = u.length := by simp
 have pg : ∀ i, i < u.length → ((List.range u.length).map fun i => bn s (b + i)).getD i [] = bn s (b + i) := fun i hi => mP hi
 have hx : ∀ x ∈ u.map (nmE s), ∃ b, x = bn s b := fun x hx => by
  obtain ⟨y, _, rfl⟩ := List.mem_map.1 hx
  exact ⟨_, rfl⟩
 rw [show n + 21 = n + 20 + 1 by omega, f8]
 simp only [vX, TS, pl, nl]
 rw [oH (show u.length < 1000 by omega), wZ h b (by rw [pl]; omega) (by rw [pl]; exact pg), axY h b (by rw [pl]; omega) (by rw [pl]; exact pg)]
 simp only [cond_true, aE, beq_self_eq_true, Bool.not_true, cond_false, List.length_nil]
 rcases first_bad (fun i => (u.map (nmE s)).getD i [] = bn s (b + i)) u.length with hall | ⟨d, hd, hu, hne⟩
 · rw [wZ h b (by rw [nl]; omega) (by rw [nl]; exact hall), axY h b (by rw [nl]; omega) (by rw [nl]; exact hall)]
   have e : u.map (nmE s) = (List.range u.length).map fun i => bn s (b + i) := by
    apply List.ext_getElem?
    intro i
    by_cases hi : i < u.length
    · have h1 := hall i hi
      have h2 := pg i hi
      rw [List.getD_eq_getElem?_getD, List.getElem?_eq_getElem (by rw [nl]; exact hi)] at h1
      rw [List.getD_eq_getElem?_getD, List.getElem?_eq_getElem (by rw [pl]; exact hi)] at h2
      rw [List.getElem?_eq_getElem (by rw [nl]; exact hi), List.getElem?_eq_getElem (by rw [pl]; exact hi)]
      exact congrArg some (h1.trans h2.symm)
    · rw [List.getElem?_eq_none (by rw [nl]; omega), List.getElem?_eq_none (by rw [pl]; omega)]
   simp only [aE, List.length_nil]
   rw [e, sameW _ (by rw [pl]; omega)]
   rfl
 · have hdn : d < (u.map (nmE s)).length := by rw [nl]; exact hd
   obtain ⟨c, hc⟩ := hx ((u.map (nmE s)).getD d []) (by rw [List.getD_eq_getElem?_getD, List.getElem?_eq_getElem hdn]; exact List.getElem_mem hdn)
   have hne' : bn s c ≠ bn s (b + d) := by rw [← hc]; exact hne
   obtain ⟨r, hr⟩ := imp_at h b d (by rw [nl]; omega) hx hdn hu hne
   rw [dev_at h b d (by rw [nl]; omega) hx hdn hu hne, hr]
   simp only [aE, hc, List.length_cons, Int.toNat_natCast, pg d hd]
   rw [show ((((r.length + 1 : Nat) : Int)) == 0) = false by simp; omega, inR_t (by omega) (show (0 : Int) < ((r.length + 1 : Nat) : Int) by omega), show decide ((d : Int) < 0) = false by simp, show decide (((u.length : Nat) : Int) ≤ (d : Int)) = false by simp; omega, mB hd, decide_eq_false (fun e : bn s (b + d) = bn s c => hne' e.symm)]
   simp only [List.getD_cons_zero, beq_self_eq_true, decide_true, cond_true, cond_false, Bool.not_true]
   exact k45_law h hb (by rw [nl]; exact hl) hx hdn hu hc hne' n
theorem law3 (s : Lu) (t : Int) (u : List Int) (hy : aQ s.b0 = true ∧ aQ s.b1 = true ∧ aQ s.b2 = true ∧ aQ s.b3 = true ∧ aQ s.b4 = true ∧ aQ s.b5 = true ∧ aQ s.b6 = true ∧ aQ s.b7 = true ∧ aQ s.b8 = true) (ht : 0 ≤ t ∧ t < 256) (hu : ∀ x ∈ u, 0 ≤ x) : Sz3 (s, t, u, ()) = some true := by
 show (Tz3 s t u).d (ajS s t u (u.length + 64)) = _
 simp only [Tz3, TS, Sw4, aE, Bool.not_true, cond_false]
 by_cases h20 : u.length ≤ 20
 rotate_left
 · rw [show decide ((20 : Int) < ((u.length : Nat) : Int)) = true by simp; omega]; rfl
 rw [show decide ((20 : Int) < ((u.length : Nat) : Int)) = false by simp; omega, cond_false]
 have hB : LuB s := ⟨hy, trivial⟩
 obtain ⟨v, hv⟩ : ∃ v, Sz5 (s, ()) = some v := by
  rw [s7 s hB]
  have this : ∀ {c : Bool} {a b : Option Int}, (∃ v, a = some v) → (∃ v, b = some v) → ∃ v, cond c a b = some v := fun {c} _ _ h1 h2 => by cases c <;> assumption
  unfold jX posT
  repeat' first | exact ⟨_, rfl⟩ | apply this
 rw [hv]
 simp only [aE]
 by_cases hv0 : v = 0
 rotate_left
 · rw [show (v == 0) = false by simpa using hv0]; rfl
 subst hv0
 simp only [beq_self_eq_true, Bool.not_true, cond_false]
 have hk : Ok s := ⟨hB, hv⟩
 have e1 : w6 (1 + (w6 t).tmod 9) = pn (t.toNat % 9) := by
  rw [w6i (n := t) (by omega), Int.tmod_eq_emod_of_nonneg ht.1, w6i (by omega)]; unfold pn; omega
 rw [e1, show u.length + 64 = (41 + 22) + u.length + 1 by omega]
 have := names_j (s := s) (t := t) hu (by omega) (t.toNat % 9) (by omega) u.length (41 + 22) 0 [] [] (by omega) rfl rfl
 rw [nc0] at this
 rw [this, List.drop_zero, List.nil_append, List.nil_append, Nat.add_zero]
 exact law_k25 hk (by omega) h20 (41 + 1)
end
end
end Go.Ev
