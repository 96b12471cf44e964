import Derived.Test.YtmlmlnbmfcpeaaaGreatDoorEvDraw2
namespace Go.Ev
open Go.RowKit

/-- what the table of known calls must keep -/
def KOK (P : Program) (B0 : Nat) (W0 : World) (K : Known) : Prop :=
  ∀ f args v, K f args = some v → ∀ (vs : Array Value) (ρ : Loc) (w : World), VsRel ρ args vs.toList → Below B0 W0 w → B0 ≤ w.heap.size →
    Calls P f vs w fun e w' => ∃ u, e = .returned u ∧ VRel ρ v u ∧ Below w.heap.size w w'

section
variable {P : Program} {B0 : Nat} {W0 : World} {g : G} {K : Known} {r : Rec}

structure Inv (P : Program) (B0 : Nat) (W0 : World) (A : List Nat) (st : List DStep) (f : EFr) (h : H) (S : Nat → Bool) (tm : Array Value) (ρ : Loc) (w : World) : Prop where
  size : tm.size = f.sz
  slots : ∀ s e, fold S (wS s) 0 st (f.tmps.get s) = some e → VRel ρ e (tm.getD s undef)
  heap : HRel P B0 W0 ρ (fold S wH 0 st h) w
  closed : ∀ i, S i = true → ∀ a, hasB (nthM A i) a = true → S a = true

theorem wS_some {s : Nat} {y : DStep} (h : (wS s y).isSome = true) : y.o.dst = some s := by
  unfold wS at h
  split at h
  · assumption
  · cases h

theorem wanted_ops {ρ : Loc} {ops : Array Oper} {t : T EVal} {tm : Array Value} (ht : TRel ρ t tm) {o : Oper} {q : Bool} (he : wantedE ops t o = some q) : Region.wanted o (yielded ops tm) = q := wanted_sound ht he

/-- one operation of an open region, at its turn -/
theorem draw_step (hng : NoNG P) (G : GRel B0 W0 g) (S0 : RecSound P B0 W0 r) (hK : KOK P B0 W0 K) {ops : Array Oper} {A : List Nat} {st : List DStep} {f f' : EFr} {h h' : H}
    (T : Trace P g K r ops st f h f' h') (hst : st.map (·.o) = ops.toList) (hs : staticOK ops A = true) (hc : actsOK P g K ops A st h (actsOf st 0) = true)
    {S : Nat → Bool} {i : Nat} {x : DStep} (hx : st[i]? = some x) (hSi : S i = false) (hready : ∀ j ∈ directs x.o, S j = true)
    {b : Frame} {tm : Array Value} {d : List Deferred} {k : List Item} {cs : List Frame} {ρ : Loc} {w : World} (I : Inv P B0 W0 A st f h S tm ρ w) (js : List Nat) :
    ∃ tm' w' ρ', ρ.le ρ' ∧ Inv P B0 W0 A st f h (addS S i) tm' ρ' w' ∧ Steps P (lone (fr b tm d (.inRegion ops (i :: js) :: k)) cs w) (lone (fr b tm' d (.inRegion ops js :: k)) cs w') := by
  have hoi : ops.toList[i]? = some x.o := by rw [← hst, List.getElem?_map, hx]; rfl
  have ho : ops[i]? = some x.o := by rw [← Array.getElem?_toList]; exact hoi
  have hop : ∀ {j : Nat} {y : DStep}, st[j]? = some y → ops.toList[j]? = some y.o := fun {j y} hy => by rw [← hst, List.getElem?_map, hy]; rfl
  obtain ⟨hA, hP⟩ := staticOK_spec hs
  obtain ⟨hchain, hq⟩ := actsOK_spec hc
  have hanc := ancOK_spec hA i _ hoi
  rw [Nat.zero_add] at hanc
  have hancS : ∀ a, hasB (nthM A i) a = true → S a = true := fun a ha => by
    rcases hanc.1 a ha with h1 | ⟨q, hq1, hq2⟩
    · exact hready a h1
    · exact I.closed q (hready q hq1) a hq2
  have hdesc : ∀ j, S j = true → ¬ hasB (nthM A j) i = true := fun j hj hm => by
    have := I.closed j hj i hm; rw [hSi] at this; cases this
  have hside : ∀ j, (j < i → hasB (nthM A i) j = true) → (i < j → hasB (nthM A j) i = true) → (S j = true ↔ j < i) := fun j h1 h2 => by
    rcases Nat.lt_trichotomy j i with hlt | rfl | hgt
    · simp [hancS _ (h1 hlt), hlt]
    · simp [hSi]
    · have : S j = false := by
        cases hq : S j with
        | false => rfl
        | true => exact absurd (h2 hgt) (hdesc j hq)
      simp [this]; omega
  -- a writer of a slot that i touches stands before i in the text exactly when it has run
  have hwr : ∀ s, (s ∈ readsOf ops x.o ∨ x.o.dst = some s) → ∀ j y, st[j]? = some y → y.o.dst = some s → (S j = true ↔ j < i) := by
    intro s hs j y hy hdst
    refine hside j (fun hlt => hP j i _ _ (hop hy) hoi hlt ⟨s, .inl ⟨hdst, hs⟩⟩) (fun hgt => hP i j _ _ hoi (hop hy) hgt ⟨s, ?_⟩)
    rcases hs with h1 | h1
    · exact .inr ⟨hdst, h1⟩
    · exact .inl ⟨h1, .inr hdst⟩
  have hact : ∀ j y, st[j]? = some y → y.act.isSome = true → x.act.isSome = true → (S j = true ↔ j < i) := by
    intro j y hy ha hxa
    exact hside j (fun hlt => hchain j y hy ha i x hx hxa hlt) (fun hgt => hchain i x hx hxa j y hy ha hgt)
  obtain ⟨hd, he, hh, hg⟩ := T.at hx
  -- the slots that i reads hold what they hold in the order of the text
  have htrel : ∀ {ρ' : Loc}, ρ.le ρ' → TRel ρ' (restrFr ops x.o x.fr) tm := by
    intro ρ' hle s e hs
    obtain ⟨h1, h2⟩ := restr_get hs
    have h3 := hg s (f.tmps.get s) (fun e h => h) e h2
    have h4 := fold_pref (S := S) (f := wS s) (l := st) (k := 0) (i := i) (b := f.tmps.get s) (fun j y hy hw => by
      rw [Nat.zero_add]
      exact hwr s (.inl h1) j y hy (wS_some hw))
    exact (I.slots s e (by rw [h4]; exact h3)).mono hle
  have hERel : ERel ρ (restrFr ops x.o x.fr) ({ tmps := tm, defers := d } : Act).eval := TRel.eval (a := { tmps := tm, defers := d }) (htrel (Loc.le_refl _))
  -- what is left: the value, and the memory
  have fin : ∀ {v : Value} {w' : World} {ρ' : Loc}, ρ.le ρ' → VRel ρ' x.v v → HRel P B0 W0 ρ' (fold (addS S i) wH 0 st h) w' →
      Steps P (lone (fr b tm d (.inRegion ops (i :: js) :: k)) cs w) (lone (fr b (putT tm x.o.dst v) d (.inRegion ops js :: k)) cs w') →
      ∃ tm' w' ρ', ρ.le ρ' ∧ Inv P B0 W0 A st f h (addS S i) tm' ρ' w' ∧ Steps P (lone (fr b tm d (.inRegion ops (i :: js) :: k)) cs w) (lone (fr b tm' d (.inRegion ops js :: k)) cs w') := by
    intro v w' ρ' hle hv hR hs
    refine ⟨_, w', ρ', hle, ⟨?_, fun s e hs => ?_, hR, fun j hj a ha => ?_⟩, hs⟩
    · rw [← I.size]; unfold putT; split <;> simp
    · have h0 : wS s x = none → fold (addS S i) (wS s) 0 st (f.tmps.get s) = fold S (wS s) 0 st (f.tmps.get s) := fun hq => by
        have := fold_add_no (S := S) (f := wS s) (k := 0) (b := f.tmps.get s) hx hq
        rwa [Nat.zero_add] at this
      by_cases hds : x.o.dst = some s
      · have hw : wS s x = some (some x.v) := by simp [wS, hds]
        have := fold_add_yes (S := S) (k := 0) (b := f.tmps.get s) hx hw (fun j y hy hw hs => by
          rw [Nat.zero_add] at hs
          exact (hwr s (.inr hds) j y hy (wS_some hw)).1 hs)
        rw [Nat.zero_add] at this
        rw [this] at hs
        cases hs
        have hlt : s < tm.size := by
          rw [I.size]; unfold dstOK at hd; rw [hds] at hd; simpa using hd
        rw [hds]
        simp [putT, hlt, hv]
      · rw [h0 (by simp [wS, hds])] at hs
        have := (I.slots s e hs).mono hle
        unfold putT
        split
        · rename_i q hq
          have hne : q ≠ s := fun e => hds (by rw [hq, e])
          simp only [Array.getD_eq_getD_getElem?] at this ⊢
          rw [Array.getElem?_setIfInBounds_ne hne]
          exact this
        · exact this
    · unfold addS at hj ⊢
      by_cases hji : j = i
      · subst hji
        split
        · rfl
        · exact hancS a ha
      · rw [if_neg hji] at hj
        split
        · rfl
        · exact I.closed j hj a ha
  have same : x.act = none → fold (addS S i) wH 0 st h = fold S wH 0 st h := fun hn => by
    have := fold_add_no (S := S) (f := wH) (k := 0) (b := h) hx hn
    rwa [Nat.zero_add] at this
  have turned : ∀ h2, x.act = some h2 → fold S wH 0 st h = x.h ∧ fold (addS S i) wH 0 st h = h2 := fun h2 hn => by
    constructor
    · rw [hh]
      exact fold_pref (fun j y hy ha => by rw [Nat.zero_add]; exact hact j y hy ha (by simp [hn]))
    · have := fold_add_yes (S := S) (f := wH) (k := 0) (b := h) hx hn (fun j y hy ha hs => by
        rw [Nat.zero_add] at hs
        exact (hact j y hy ha (by simp [hn])).1 hs)
      rwa [Nat.zero_add] at this
  have H0 := I.heap
  have callK : ∀ {fn : FuncId} {args : List EVal} {v : EVal} {vs : Array Value} {w1 : World}, K fn args = some v → w1 = w → x.v = v → x.act = none → Region.wanted x.o (yielded ops tm) = true → (∀ c, x.o.op ≠ .defer c) → VsRel ρ args vs.toList →
      (execOp ({ tmps := tm, defers := d } : Act).eval x.o).run P w = .ok (.enter fn vs) w1 →
      ∃ tm' w' ρ', ρ.le ρ' ∧ Inv P B0 W0 A st f h (addS S i) tm' ρ' w' ∧ Steps P (lone (fr b tm d (.inRegion ops (i :: js) :: k)) cs w) (lone (fr b tm' d (.inRegion ops js :: k)) cs w') := by
    intro fn args v vs w1 hk hw1 hv hn hwant hdef hvs hrun
    subst hw1
    obtain ⟨e1, w2, fr1, ⟨u, rfl, hu, hb⟩, hcomes, hfn, hleave⟩ := hK fn args v hk vs ρ w1 hvs H0.below H0.base (fr b tm d (.inRegion ops (i :: js) :: k) :: cs)
    refine fin (Loc.le_refl _) (by rw [hv]; exact hu) (by rw [same hn]; exact H0.grow hb) ?_
    refine .head (st_enter ho hwant hdef hrun) (Steps.trans hcomes (.one ?_))
    rw [← finish_fr ho]
    exact step_leave_returned hleave
  unfold drawOne at he
  split at he
  · -- its guard is shut
    rename_i hwant
    simp only [Option.some.injEq, Prod.mk.injEq] at he
    obtain ⟨hv, ha⟩ := he
    have hw := wanted_sound (htrel (Loc.le_refl _)) hwant
    exact fin (Loc.le_refl _) (by rw [← hv]; exact undef_rel _) (by rw [same ha.symm]; exact H0) (.one (st_op_skip ho hw))
  · rename_i hwant
    have hw := wanted_sound (htrel (Loc.le_refl _)) hwant
    -- a value, in the memory that stands
    have value : ∀ {h1 h2 : H}, eOp P g h1 (restrFr ops x.o x.fr) x.o = some (.val x.v h2) → fold S wH 0 st h = h1 → fold (addS S i) wH 0 st h = h2 →
        ∃ tm' w' ρ', ρ.le ρ' ∧ Inv P B0 W0 A st f h (addS S i) tm' ρ' w' ∧ Steps P (lone (fr b tm d (.inRegion ops (i :: js) :: k)) cs w) (lone (fr b tm' d (.inRegion ops js :: k)) cs w') := by
      intro h1 h2 hv e1 e2
      rw [e1] at H0
      obtain ⟨w', ρ', hle, R', hres⟩ := op_sound hng G H0 hERel hv
      rcases hres with ⟨u, hrun, hvr⟩ | ⟨hrun, hund⟩
      · exact fin hle hvr (by rw [e2]; exact R') (.one (st_value ho hw (op_not_defer hv) hrun))
      · exact fin hle (by rw [hund]; exact undef_rel _) (by rw [e2]; exact R') (.one (st_skipv ho hw (op_not_defer hv) hrun))
    have quiet : x.act = none → isPure x.o = false → fold S wH 0 st h = x.h ∨ quietOK P g K ops x (fold S wH 0 st h) = true := fun hn hp => by
      have hneed : needs ops x = true := by
        unfold needs; rw [hn]; simp only [hp, cond_false]; rw [hwant]
      rcases hq i x hx hneed with hqk | this
      · left
        rw [hh]
        refine fold_pref (fun j y hy ha => ?_)
        rw [Nat.zero_add]
        exact hside j (hqk j y hy ha).1 (hqk j y hy ha).2
      right
      refine verGo_spec hancS hdesc (fun a y ha hya c z hc' hzc hac hs => ?_) this
      rw [Nat.zero_add] at hs ⊢
      exact I.closed _ hs _ (hchain a y ha hya c z hc' hzc hac)
    -- an operation that turns nothing
    have still : x.act = none → isPure x.o = false → (fold S wH 0 st h = x.h → ∃ tm' w' ρ', ρ.le ρ' ∧ Inv P B0 W0 A st f h (addS S i) tm' ρ' w' ∧ Steps P (lone (fr b tm d (.inRegion ops (i :: js) :: k)) cs w) (lone (fr b tm' d (.inRegion ops js :: k)) cs w')) →
        ∃ tm' w' ρ', ρ.le ρ' ∧ Inv P B0 W0 A st f h (addS S i) tm' ρ' w' ∧ Steps P (lone (fr b tm d (.inRegion ops (i :: js) :: k)) cs w) (lone (fr b tm' d (.inRegion ops js :: k)) cs w') := by
      intro hn hp hcan
      rcases quiet hn hp with h1 | h1
      · exact hcan h1
      unfold quietOK quietV at h1
      split at h1
      · rename_i v2 h2 heq
        simp only [Bool.and_eq_true] at h1
        obtain ⟨h3, h4⟩ := h1
        have := EVal.beq_eq h4
        subst this
        have := quiet_op h3 heq
        subst this
        exact value heq rfl (same hn)
      · rename_i fn args h2 heq
        split at h1
        · rename_i v hk
          have := EVal.beq_eq h1
          obtain ⟨hhh, vs, hrun, hvs⟩ := op_sound hng G H0 hERel heq
          exact callK hk rfl this.symm hn hw (op_not_defer heq) hvs hrun
        · cases h1
      · cases h1
    unfold drawOp at he
    split at he
    · rename_i v h2 heq
      simp only [Bool.cond_eq_ite] at he
      split at he
      · rename_i hpq
        simp only [Option.some.injEq, Prod.mk.injEq] at he
        obtain ⟨rfl, ha⟩ := he
        cases hp : isPure x.o with
        | true =>
          obtain ⟨v', h1, h3⟩ := pure_op (P := P) (g := g) (t := restrFr ops x.o x.fr) hp _ _ heq
          cases h1
          exact value (h3 _) rfl (same ha.symm)
        | false =>
          refine still ha.symm hp fun e => ?_
          have hqo : isQuiet x.o = true := by rw [hp, Bool.false_or] at hpq; exact hpq
          have := quiet_op hqo heq
          subst this
          exact value heq e ((same ha.symm).trans e)
      · simp only [Option.some.injEq, Prod.mk.injEq] at he
        obtain ⟨rfl, ha⟩ := he
        obtain ⟨e1, e2⟩ := turned _ ha.symm
        exact value heq e1 e2
    · rename_i fn args h2 heq
      split at he
      · rename_i v hk
        simp only [Option.some.injEq, Prod.mk.injEq] at he
        obtain ⟨hv, ha⟩ := he
        have hp : isPure x.o = false := by
          cases hp : isPure x.o with
          | false => rfl
          | true =>
            obtain ⟨v', h1, h3⟩ := pure_op (P := P) (g := g) (t := restrFr ops x.o x.fr) hp _ _ heq
            cases h1
        refine still ha.symm hp fun e => ?_
        have H1 := H0
        rw [e] at H1
        obtain ⟨hhh, vs, hrun, hvs⟩ := op_sound hng G H1 hERel heq
        exact callK hk rfl hv.symm ha.symm hw (op_not_defer heq) hvs hrun
      · unfold drawCall at he
        split at he
        · rename_i v h3 hr
          simp only [Option.some.injEq, Prod.mk.injEq] at he
          obtain ⟨hv, ha⟩ := he
          obtain ⟨e1, e2⟩ := turned _ ha.symm
          rw [e1] at H0
          obtain ⟨rfl, vs, hrun, hvs⟩ := op_sound hng G H0 hERel heq
          obtain ⟨q1, w1, fr1, ⟨v', h', u, ρ', hm, rfl, hle, hvr, R'⟩, hcomes, hfn, hleave⟩ := S0.call _ _ _ _ hr vs ρ w hvs H0 (fr b tm d (.inRegion ops (i :: js) :: k) :: cs)
          simp only [List.mem_singleton, Out.val.injEq] at hm
          obtain ⟨rfl, rfl⟩ := hm
          refine fin hle (by rw [← hv]; exact hvr) (by rw [e2]; exact R') ?_
          refine .head (st_enter ho hw (op_not_defer heq) hrun) (Steps.trans hcomes (.one ?_))
          rw [← finish_fr ho]
          exact step_leave_returned hleave
        · cases he
    · cases he
  · cases he
end
end Go.Ev
