import Derived.Test.YtdbjdkkgpnkiaaaGreatDoorEvDraw2
set_option linter.unusedSimpArgs false
set_option linter.unusedVariables false
namespace Go.Ev
open Go.RowKit

def Loc.more (ρ : Loc) (N : Nat) (φ : Nat → Option (List Value)) : Loc := { ρ with fro := fun b => if b < N then ρ.fro b else φ b }

/-- what the table of known calls must keep -/
def KOK (P : Program) (B0 : Nat) (W0 : Base) (K : Known) : Prop :=
  ∀ f args v, K f args = some v → ∀ (vs : Array Value) (fro : Nat → Option (List Value)) (w : World), VsRel ⟨fun _ => none, fro, fun _ _ => none⟩ args vs.toList → FzOK fro w → Below B0 W0.w w → B0 ≤ w.heap.size →
    Calls P f vs w fun e w' => ∃ u φ, e = .returned u ∧ VRel (Loc.more ⟨fun _ => none, fro, fun _ _ => none⟩ w.heap.size φ) v u ∧ Below w.heap.size w w' ∧ FzOK (fun b => if b < w.heap.size then fro b else φ b) w'

section
variable {P : Program} {B0 : Nat} {W0 : Base} {g : G} {K : Known} {r : Rec}

theorem Loc.le_more {ρ : Loc} {w : World} (hF : FzOK ρ.fro w) (φ : Nat → Option (List Value)) : ρ.le (ρ.more w.heap.size φ) :=
  ⟨fun _ _ h => h, fun b pre h => ⟨[], by simp [Loc.more, FzOK.lt hF h, h]⟩, fun _ _ _ h => h⟩

theorem HRel.more {ρ : Loc} {h : H} {w w' : World} (R : HRel P B0 W0 ρ h w) (hw : Below w.heap.size w w') {φ : Nat → Option (List Value)} (hF : FzOK (fun b => if b < w.heap.size then ρ.fro b else φ b) w') :
    HRel P B0 W0 (ρ.more w.heap.size φ) h w' := by
  have R1 := R.grow hw
  have hle := Loc.le_more R.fz φ
  refine ⟨R1.below, R1.base, R1.dom, R1.lo, R1.inj, fun id o hg => ?_, hF, fun b pre hb id C o hg hr => ?_, fun b hb => ?_, R1.mdom, fun id n e hk => ?_, R1.tnew, R1.tinj⟩
  · obtain ⟨b, C, h1, h2⟩ := R1.objs id o hg
    exact ⟨b, C, h1, h2.mono hle⟩
  · have hlt := (R.lo id b C hr).2
    have : ρ.fro b = some pre := by simpa [Loc.more, hlt] using hb
    exact R.free b pre this id C o hg hr
  · have : b < w.heap.size := Nat.lt_of_lt_of_le hb R.base
    show (if b < w.heap.size then ρ.fro b else φ b) = _
    rw [if_pos this]; exact R.fz0 b hb
  · obtain ⟨x, h1, h2⟩ := R1.toks id n e hk
    refine ⟨x, h1, fun b C hx => ?_⟩
    have hb := h2 b C hx
    obtain ⟨x', h1', h2'⟩ := R.toks id n e hk
    obtain ⟨p, hp⟩ := (h2' b C (by rw [h1] at h1'; cases h1'; exact hx)).fro
    exact hb.keep (by show (if b < w.heap.size then ρ.fro b else φ b) = _; rw [if_pos (FzOK.lt R.fz hp)]) rfl

/-- all that stands in a world -/
def froAll (w : World) : Nat → Option (List Value) := fun b => match w.heap[b]? with
  | some (.cells cs _ _) => some cs.toList
  | _ => none

theorem froAll_ok (w : World) : FzOK (froAll w) w := fun b pre h => by
  unfold froAll at h
  split at h
  · rename_i cs e m hw
    cases h
    exact ⟨cs, e, m, hw, [], by simp⟩
  · cases h

theorem fz_all {ρ : Loc} {w : World} (hF : FzOK ρ.fro w) : ρ.fz.le ⟨fun _ => none, froAll w, fun _ _ => none⟩ :=
  ⟨fun _ _ h => (by cases h), fun b pre h => by
    obtain ⟨cs, e, m, h1, more, h2⟩ := hF b pre h
    exact ⟨more, by simp [froAll, h1, h2]⟩, fun _ _ _ h => (by cases h)⟩

theorem keepA_sound {ρ : Loc} {v v' : EVal} {u : Value} (h : VRel ρ v u) (hk : keepA v = some v') : VRel ρ.fz v' u := by
  unfold keepA at hk
  split at hk
  · rename_i l
    cases hl : keepL l with
    | none => rw [hl] at hk; cases hk
    | some l' =>
      rw [hl] at hk; cases hk
      cases h with | agg _ cs hc => exact .agg _ _ (keepL_sound hc hl).1
  · exact (keep1_sound h hk).1

theorem keepT_sound {ρ : Loc} : ∀ {l l' : List EVal} {us : List Value}, VsRel ρ l us → keepT l = some l' → VsRel ρ.fz l' us
  | [], l', us, h, hk => by
    simp only [keepT, Option.some.injEq] at hk; subst hk
    cases h; exact .nil
  | v :: l, l', us, h, hk => by
    simp only [keepT] at hk
    split at hk
    · rename_i a b ha hb
      simp only [Option.some.injEq] at hk; subst hk
      cases h with
      | cons _ u _ us h hs => exact .cons _ _ _ _ (keepA_sound h ha) (keepT_sound hs hb)
    · cases hk

theorem keepV_sound {ρ : Loc} {v v' : EVal} {u : Value} (h : VRel ρ v u) (hk : keepV v = some v') : VRel ρ.fz v' u := by
  unfold keepV at hk
  split at hk
  · rename_i l
    cases hl : keepL l with
    | none => rw [hl] at hk; cases hk
    | some l' =>
      rw [hl] at hk; cases hk
      cases h with | agg _ cs hc => exact .agg _ _ (keepL_sound hc hl).1
  · rename_i l
    cases hl : keepT l with
    | none => rw [hl] at hk; cases hk
    | some l' =>
      rw [hl] at hk; cases hk
      cases h with | tup _ cs hc => exact .tup _ _ (keepT_sound hc hl)
  · exact (keep1_sound h hk).1

theorem argB_all {ρ : Loc} {h : H} {w : World} (R : HRel P B0 W0 ρ h w) {v v' : EVal} {u : Value} (hv : VRel ρ v u) (hk : argB P h v = some v') : VRel ⟨fun _ => none, froAll w, fun _ _ => none⟩ v' u := by
  unfold argB at hk
  split at hk
  · rename_i id off len cap
    split at hk
    · rename_i cs e lo hi sl hg
      split at hk
      · rename_i sz hsz
        split at hk
        · rename_i r hr
          split at hk
          · rename_i r' hr'
            split at hk
            rotate_left
            · cases hk
            rename_i hcond
            obtain ⟨hcap, hsz0⟩ := hcond
            cases hk
            unfold takeN at hr
            simp only at hr
            split at hr
            · rename_i hl
              cases hr
              have key : ∀ (b C c' : Nat), ρ id = some (b, C) → len ≤ c' → VRel ⟨fun _ => none, froAll w, fun _ _ => none⟩ (.lsl (chunk sz len r')) (.slice (some ⟨b, off, none⟩) len c') := by
                intro b C c' hb hc
                obtain ⟨b', C', hb', cv, hw, hrel, _⟩ := R.objs _ _ hg
                rw [hb] at hb'; cases hb'
                have h1 := (hrel.drop off).take (len * sz)
                obtain ⟨h2, _⟩ := keepL_sound h1 hr'
                have h3 : r'.length = len * sz := by rw [h2.length, ← h1.length, hl]
                obtain ⟨uss, c1, c2, c3, c4⟩ := chunk_rel sz len r' _ h2 h3
                by_cases h0 : len = 0
                · subst h0; exact .lsl0 _ _
                have hlen : (chunk sz len r').length = len := chunk_length _ _ _
                have hfa : froAll w b = some cv.toList := by simp [froAll, hw]
                by_cases hoff : off ≤ cv.toList.length
                · have := VRel.lsl (ρ := ⟨fun _ => none, froAll w, fun _ _ => none⟩) (chunk sz len r') uss b off c' sz cv.toList (((cv.toList.drop off).drop uss.flatten.length)) hfa (c1.mono (fz_all R.fz)) ?_ hoff c3 (by rw [hlen]; exact hc)
                  · rw [hlen] at this; exact this
                  · have hpre : uss.flatten = (cv.toList.drop off).take uss.flatten.length := by
                      conv => lhs; rw [c2]
                      have hl3 : uss.flatten.length = len * sz := by rw [flatten_len uss c3, c4]
                      rw [hl3, List.drop_take, List.take_take]
                      have hl2 := hl
                      simp only [List.length_take, List.length_drop] at hl2
                      rw [Nat.min_eq_left (by omega)]
                    conv => lhs; rw [← List.take_append_drop uss.flatten.length (cv.toList.drop off)]
                    rw [← hpre]
                · have hcl := hrel.length
                  simp only [List.length_take, List.length_drop, Array.length_toList] at hcl hl hoff
                  have : 0 < len * sz := Nat.mul_pos (by omega) (by omega)
                  omega
              cases hv with
              | slice _ _ _ c b C hb => exact key _ _ _ hb (by simpa [capOK] using hcap)
              | slack _ _ _ _ c b C hb hc hn => exact key _ _ _ hb hn
            · cases hr
          · cases hk
        · cases hk
      · cases hk
    · cases hk
  · exact (keepV_sound hv hk).mono (fz_all R.fz)

mutual
theorem VRel.flat {ρ : Loc} : ∀ {e : EVal} {v : Value}, flat e = true → VRel ρ e v → VRel Loc.nil e v
  | .unk, _, _, h => by cases h; exact .unk _ _
  | .bool _, _, _, h => by cases h; exact .bool _
  | .int _ _, _, _, h => by cases h; exact .int _ _
  | .str _, _, _, h => by cases h with | str _ s h => exact .str _ s h
  | .nilp, _, _, h => by cases h; exact .nilp
  | .nilslice, _, _, h => by cases h; exact .nilslice
  | .nilmap, _, _, h => by cases h; exact .nilmap
  | .nilfunc, _, _, h => by cases h; exact .nilfunc
  | .nilif, _, _, h => by cases h; exact .nilif
  | .agg l, _, hf, h => by cases h with | agg _ cs h => exact .agg _ _ (VsRel.flat (by simpa [Go.Ev.flat] using hf) h)
  | .tup l, _, hf, h => by cases h with | tup _ cs h => exact .tup _ _ (VsRel.flat (by simpa [Go.Ev.flat] using hf) h)
theorem VsRel.flat {ρ : Loc} : ∀ {es : List EVal} {vs : List Value}, flatL es = true → VsRel ρ es vs → VsRel Loc.nil es vs
  | [], _, _, h => by cases h; exact .nil
  | e :: es, _, hf, h => by
    simp only [flatL, Bool.and_eq_true] at hf
    cases h with | cons _ v _ vs h hs => exact .cons _ _ _ _ (VRel.flat hf.1 h) (VsRel.flat hf.2 hs)
end

theorem argsB_all {ρ : Loc} {h : H} {w : World} (R : HRel P B0 W0 ρ h w) : ∀ {l l' : List EVal} {us : List Value}, VsRel ρ l us → argsB P h l = some l' → VsRel ⟨fun _ => none, froAll w, fun _ _ => none⟩ l' us
  | [], _, _, hv, hk => by
    simp only [argsB, Option.some.injEq] at hk; subst hk
    cases hv; exact .nil
  | v :: l, _, _, hv, hk => by
    simp only [argsB] at hk
    split at hk
    · rename_i a b ha hb
      cases hk
      cases hv with | cons _ u _ us h1 h2 => exact .cons _ _ _ _ (argB_all R h1 ha) (argsB_all R h2 hb)
    · cases hk

theorem argsB_fz {ρ : Loc} {h : H} : ∀ {l l' : List EVal} {us : List Value}, ¬ l.any isLent = true → VsRel ρ l us → argsB P h l = some l' → VsRel ρ.fz l' us
  | [], _, _, _, hv, hk => by
    simp only [argsB, Option.some.injEq] at hk; subst hk
    cases hv; exact .nil
  | v :: l, _, _, hn, hv, hk => by
    simp only [argsB] at hk
    simp only [List.any_cons, Bool.or_eq_true, not_or] at hn
    split at hk
    · rename_i a b ha hb
      cases hk
      cases hv with
      | cons _ u _ us h1 h2 =>
        refine .cons _ _ _ _ ?_ (argsB_fz hn.2 h2 hb)
        unfold argB at ha
        split at ha
        · exact absurd rfl hn.1
        · exact keepV_sound h1 ha
    · cases hk

/-- A known call, from where the machine stands. -/
theorem kcall_sound (hK : KOK P B0 W0 K) {ρ : Loc} {h : H} {w : World} (R : HRel P B0 W0 ρ h w) {fn : FuncId} {args : List EVal} {v : EVal} (hk : kcall P K h fn args = some v) {vs : Array Value} (hvs : VsRel ρ args vs.toList) :
    Calls P fn vs w fun e w' => ∃ u ρ', e = .returned u ∧ ρ.le ρ' ∧ VRel ρ' v u ∧ HRel P B0 W0 ρ' h w' := by
  unfold kcall at hk
  split at hk
  · rename_i ts hts
    split at hk
    · rename_i v1 hv1
      split at hk
      · split at hk
        · rename_i hfl
          cases hk
          refine (hK fn ts v hv1 vs _ w (argsB_all R hvs hts) (froAll_ok w) R.below R.base).mono ?_
          rintro e w' ⟨u, φ, rfl, hu, hb, _⟩
          exact ⟨u, ρ, rfl, Loc.le_refl _, (hu.flat hfl).mono (none_le ρ), R.grow hb⟩
        · cases hk
      · rename_i hn
        cases hk
        refine (hK fn ts v hv1 vs ρ.fro w (argsB_fz hn hvs hts) R.fz R.below R.base).mono ?_
        rintro e w' ⟨u, φ, rfl, hu, hb, hF⟩
        exact ⟨u, _, rfl, Loc.le_more R.fz φ, hu.mono (Loc.fz_le (ρ.more w.heap.size φ)), R.more hb hF⟩
    · cases hk
  · cases hk

structure Inv (P : Program) (B0 : Nat) (W0 : Base) (A : List Nat) (st : List DStep) (f : EFr) (h : H) (S : Nat → Bool) (tm : Array Value) (ρ : Loc) (w : World) : Prop where
  size : tm.size = f.sz
  slots : ∀ s e, fold S (wS s) 0 st (f.tmps.get s) = some e → VRel ρ e (tm.getD s undef)
  heap : HRel P B0 W0 ρ (fold S wH 0 st h) w
  closed : ∀ i, S i = true → ∀ a, hasB (nthM A i) a = true → S a = true

theorem wS_some {s : Nat} {y : DStep} (h : (wS s y).isSome = true) : y.o.dst = some s := by
  unfold wS at h
  split at h
  · assumption
  · cases h

theorem wanted_ops {ρ : Loc} {ops : Array Oper} {t : T EVal} {tm : Array Value} (ht : TRel ρ t tm) {o : Oper} {q : Bool} (he : wantedE ops t o = some q) : Region.wanted o (yielded ops tm) = q := wanted_sound ht he

/-- one operation of an open region, at its turn -/
theorem draw_step (hng : NoNG P) (G : GRel B0 W0.w g) (S0 : RecSound P B0 W0 r) (hK : KOK P B0 W0 K) {ops : Array Oper} {A : List Nat} {st : List DStep} {f f' : EFr} {h h' : H}
    (T : Trace P g K r ops st f h f' h') (hst : st.map (·.o) = ops.toList) (hs : staticOK ops A = true) (hc : actsOK P g K ops A st h (actsOf st 0) = true)
    {S : Nat → Bool} {i : Nat} {x : DStep} (hx : st[i]? = some x) (hSi : S i = false) (hready : ∀ j ∈ directs x.o, S j = true)
    {b : Frame} {tm : Array Value} {d : List Deferred} {k : List Item} {cs : List Frame} {ρ : Loc} {w : World} (I : Inv P B0 W0 A st f h S tm ρ w) (js : List Nat) :
    ∃ tm' w' ρ', ρ.le ρ' ∧ Inv P B0 W0 A st f h (addS S i) tm' ρ' w' ∧ Steps P (lone (fr b tm d (.inRegion ops (i :: js) :: k)) cs w) (lone (fr b tm' d (.inRegion ops js :: k)) cs w') := by
  have hoi : ops.toList[i]? = some x.o := by rw [← hst, List.getElem?_map, hx]; rfl
  have ho : ops[i]? = some x.o := by rw [← Array.getElem?_toList]; exact hoi
  have hop : ∀ {j : Nat} {y : DStep}, st[j]? = some y → ops.toList[j]? = some y.o := fun {j y} hy => by rw [← hst, List.getElem?_map, hy]; rfl
  obtain ⟨hA, hP⟩ := staticOK_spec hs
  obtain ⟨hchain, hq⟩ := actsOK_spec hc
  have hanc := ancOK_spec hA i _ hoi
  rw [Nat.zero_add] at hanc
  have hancS : ∀ a, hasB (nthM A i) a = true → S a = true := fun a ha => by
    rcases hanc.1 a ha with h1 | ⟨q, hq1, hq2⟩
    · exact hready a h1
    · exact I.closed q (hready q hq1) a hq2
  have hdesc : ∀ j, S j = true → ¬ hasB (nthM A j) i = true := fun j hj hm => by
    have := I.closed j hj i hm; rw [hSi] at this; cases this
  have hside : ∀ j, (j < i → hasB (nthM A i) j = true) → (i < j → hasB (nthM A j) i = true) → (S j = true ↔ j < i) := fun j h1 h2 => by
    rcases Nat.lt_trichotomy j i with hlt | rfl | hgt
    · simp [hancS _ (h1 hlt), hlt]
    · simp [hSi]
    · have : S j = false := by
        cases hq : S j with
        | false => rfl
        | true => exact absurd (h2 hgt) (hdesc j hq)
      simp [this]; omega
  -- a writer of a slot that i touches stands before i in the text exactly when it has run
  have hwr : ∀ s, (s ∈ readsOf ops x.o ∨ x.o.dst = some s) → ∀ j y, st[j]? = some y → y.o.dst = some s → (S j = true ↔ j < i) := by
    intro s hs j y hy hdst
    refine hside j (fun hlt => hP j i _ _ (hop hy) hoi hlt ⟨s, .inl ⟨hdst, hs⟩⟩) (fun hgt => hP i j _ _ hoi (hop hy) hgt ⟨s, ?_⟩)
    rcases hs with h1 | h1
    · exact .inr ⟨hdst, h1⟩
    · exact .inl ⟨h1, .inr hdst⟩
  have hact : ∀ j y, st[j]? = some y → y.act.isSome = true → x.act.isSome = true → (S j = true ↔ j < i) := by
    intro j y hy ha hxa
    exact hside j (fun hlt => hchain j y hy ha i x hx hxa hlt) (fun hgt => hchain i x hx hxa j y hy ha hgt)
  obtain ⟨hd, he, hh, hg⟩ := T.at hx
  -- the slots that i reads hold what they hold in the order of the text
  have htrel : ∀ {ρ' : Loc}, ρ.le ρ' → TRel ρ' (restrFr ops x.o x.fr) tm := by
    intro ρ' hle s e hs
    obtain ⟨h1, h2⟩ := restr_get hs
    have h3 := hg s (f.tmps.get s) (fun e h => h) e h2
    have h4 := fold_pref (S := S) (f := wS s) (l := st) (k := 0) (i := i) (b := f.tmps.get s) (fun j y hy hw => by
      rw [Nat.zero_add]
      exact hwr s (.inl h1) j y hy (wS_some hw))
    exact (I.slots s e (by rw [h4]; exact h3)).mono hle
  have hERel : ERel ρ (restrFr ops x.o x.fr) ({ tmps := tm, defers := d } : Act).eval := TRel.eval (a := { tmps := tm, defers := d }) (htrel (Loc.le_refl _))
  -- what is left: the value, and the memory
  have fin : ∀ {v : Value} {w' : World} {ρ' : Loc}, ρ.le ρ' → VRel ρ' x.v v → HRel P B0 W0 ρ' (fold (addS S i) wH 0 st h) w' →
      Steps P (lone (fr b tm d (.inRegion ops (i :: js) :: k)) cs w) (lone (fr b (putT tm x.o.dst v) d (.inRegion ops js :: k)) cs w') →
      ∃ tm' w' ρ', ρ.le ρ' ∧ Inv P B0 W0 A st f h (addS S i) tm' ρ' w' ∧ Steps P (lone (fr b tm d (.inRegion ops (i :: js) :: k)) cs w) (lone (fr b tm' d (.inRegion ops js :: k)) cs w') := by
    intro v w' ρ' hle hv hR hs
    refine ⟨_, w', ρ', hle, ⟨?_, fun s e hs => ?_, hR, fun j hj a ha => ?_⟩, hs⟩
    · rw [← I.size]; unfold putT; split <;> simp
    · have h0 : wS s x = none → fold (addS S i) (wS s) 0 st (f.tmps.get s) = fold S (wS s) 0 st (f.tmps.get s) := fun hq => by
        have := fold_add_no (S := S) (f := wS s) (k := 0) (b := f.tmps.get s) hx hq
        rwa [Nat.zero_add] at this
      by_cases hds : x.o.dst = some s
      · have hw : wS s x = some (some x.v) := by simp [wS, hds]
        have := fold_add_yes (S := S) (k := 0) (b := f.tmps.get s) hx hw (fun j y hy hw hs => by
          rw [Nat.zero_add] at hs
          exact (hwr s (.inr hds) j y hy (wS_some hw)).1 hs)
        rw [Nat.zero_add] at this
        rw [this] at hs
        cases hs
        have hlt : s < tm.size := by
          rw [I.size]; unfold dstOK at hd; rw [hds] at hd; simpa using hd
        rw [hds]
        simp [putT, hlt, hv]
      · rw [h0 (by simp [wS, hds])] at hs
        have := (I.slots s e hs).mono hle
        unfold putT
        split
        · rename_i q hq
          have hne : q ≠ s := fun e => hds (by rw [hq, e])
          simp only [Array.getD_eq_getD_getElem?] at this ⊢
          rw [Array.getElem?_setIfInBounds_ne hne]
          exact this
        · exact this
    · unfold addS at hj ⊢
      by_cases hji : j = i
      · subst hji
        split
        · rfl
        · exact hancS a ha
      · rw [if_neg hji] at hj
        split
        · rfl
        · exact I.closed j hj a ha
  have same : x.act = none → fold (addS S i) wH 0 st h = fold S wH 0 st h := fun hn => by
    have := fold_add_no (S := S) (f := wH) (k := 0) (b := h) hx hn
    rwa [Nat.zero_add] at this
  have turned : ∀ h2, x.act = some h2 → fold S wH 0 st h = x.h ∧ fold (addS S i) wH 0 st h = h2 := fun h2 hn => by
    constructor
    · rw [hh]
      exact fold_pref (fun j y hy ha => by rw [Nat.zero_add]; exact hact j y hy ha (by simp [hn]))
    · have := fold_add_yes (S := S) (f := wH) (k := 0) (b := h) hx hn (fun j y hy ha hs => by
        rw [Nat.zero_add] at hs
        exact (hact j y hy ha (by simp [hn])).1 hs)
      rwa [Nat.zero_add] at this
  have H0 := I.heap
  have callK : ∀ {fn : FuncId} {args : List EVal} {v : EVal} {vs : Array Value} {w1 : World}, kcall P K (fold S wH 0 st h) fn args = some v → w1 = w → x.v = v → x.act = none → Region.wanted x.o (yielded ops tm) = true → (∀ c, x.o.op ≠ .defer c) → VsRel ρ args vs.toList →
      (execOp ({ tmps := tm, defers := d } : Act).eval x.o).run P w = .ok (.enter fn vs) w1 →
      ∃ tm' w' ρ', ρ.le ρ' ∧ Inv P B0 W0 A st f h (addS S i) tm' ρ' w' ∧ Steps P (lone (fr b tm d (.inRegion ops (i :: js) :: k)) cs w) (lone (fr b tm' d (.inRegion ops js :: k)) cs w') := by
    intro fn args v vs w1 hk hw1 hv hn hwant hdef hvs hrun
    subst hw1
    obtain ⟨e1, w2, fr1, ⟨u, ρ', rfl, hle, hu, hR⟩, hcomes, hfn, hleave⟩ := kcall_sound hK H0 hk hvs (fr b tm d (.inRegion ops (i :: js) :: k) :: cs)
    refine fin hle (by rw [hv]; exact hu) (by rw [same hn]; exact hR) ?_
    refine .head (st_enter ho hwant hdef hrun) (Steps.trans hcomes (.one ?_))
    rw [← finish_fr ho]
    exact step_leave_returned hleave
  unfold drawOne at he
  split at he
  · -- its guard is shut
    rename_i hwant
    simp only [Option.some.injEq, Prod.mk.injEq] at he
    obtain ⟨hv, ha⟩ := he
    have hw := wanted_sound (htrel (Loc.le_refl _)) hwant
    exact fin (Loc.le_refl _) (by rw [← hv]; exact undef_rel _) (by rw [same ha.symm]; exact H0) (.one (st_op_skip ho hw))
  · rename_i hwant
    have hw := wanted_sound (htrel (Loc.le_refl _)) hwant
    -- a value, in the memory that stands
    have value : ∀ {h1 h2 : H}, eOp P g h1 (restrFr ops x.o x.fr) x.o = some (.val x.v h2) → fold S wH 0 st h = h1 → fold (addS S i) wH 0 st h = h2 →
        ∃ tm' w' ρ', ρ.le ρ' ∧ Inv P B0 W0 A st f h (addS S i) tm' ρ' w' ∧ Steps P (lone (fr b tm d (.inRegion ops (i :: js) :: k)) cs w) (lone (fr b tm' d (.inRegion ops js :: k)) cs w') := by
      intro h1 h2 hv e1 e2
      rw [e1] at H0
      obtain ⟨w', ρ', hle, R', hres⟩ := op_sound hng G H0 hERel hv
      rcases hres with ⟨u, hrun, hvr⟩ | ⟨hrun, hund⟩
      · exact fin hle hvr (by rw [e2]; exact R') (.one (st_value ho hw (op_not_defer hv) hrun))
      · exact fin hle (by rw [hund]; exact undef_rel _) (by rw [e2]; exact R') (.one (st_skipv ho hw (op_not_defer hv) hrun))
    have quiet : x.act = none → isPure x.o = false → fold S wH 0 st h = x.h ∨ quietOK P g K ops x (fold S wH 0 st h) = true := fun hn hp => by
      have hneed : needs ops x = true := by
        unfold needs; rw [hn]; simp only [hp, cond_false]; rw [hwant]
      rcases hq i x hx hneed with hqk | this
      · left
        rw [hh]
        refine fold_pref (fun j y hy ha => ?_)
        rw [Nat.zero_add]
        exact hside j (hqk j y hy ha).1 (hqk j y hy ha).2
      right
      refine verGo_spec hancS hdesc (fun a y ha hya c z hc' hzc hac hs => ?_) this
      rw [Nat.zero_add] at hs ⊢
      exact I.closed _ hs _ (hchain a y ha hya c z hc' hzc hac)
    -- an operation that turns nothing
    have still : x.act = none → isPure x.o = false → (fold S wH 0 st h = x.h → ∃ tm' w' ρ', ρ.le ρ' ∧ Inv P B0 W0 A st f h (addS S i) tm' ρ' w' ∧ Steps P (lone (fr b tm d (.inRegion ops (i :: js) :: k)) cs w) (lone (fr b tm' d (.inRegion ops js :: k)) cs w')) →
        ∃ tm' w' ρ', ρ.le ρ' ∧ Inv P B0 W0 A st f h (addS S i) tm' ρ' w' ∧ Steps P (lone (fr b tm d (.inRegion ops (i :: js) :: k)) cs w) (lone (fr b tm' d (.inRegion ops js :: k)) cs w') := by
      intro hn hp hcan
      rcases quiet hn hp with h1 | h1
      · exact hcan h1
      unfold quietOK quietV at h1
      split at h1
      · rename_i v2 h2 heq
        simp only [Bool.and_eq_true] at h1
        obtain ⟨h3, h4⟩ := h1
        have := EVal.beq_eq h4
        subst this
        have := quiet_op h3 heq
        subst this
        exact value heq rfl (same hn)
      · rename_i fn args h2 heq
        split at h1
        · rename_i v hk
          have := EVal.beq_eq h1
          obtain ⟨hhh, vs, hrun, hvs⟩ := op_sound hng G H0 hERel heq
          exact callK (by first | exact hhh ▸ hk | (rw [← hhh]; exact hk)) rfl this.symm hn hw (op_not_defer heq) hvs hrun
        · cases h1
      · cases h1
    unfold drawOp at he
    split at he
    · rename_i v h2 heq
      simp only [Bool.cond_eq_ite] at he
      split at he
      · rename_i hpq
        simp only [Option.some.injEq, Prod.mk.injEq] at he
        obtain ⟨rfl, ha⟩ := he
        cases hp : isPure x.o with
        | true =>
          obtain ⟨v', h1, h3⟩ := pure_op (P := P) (g := g) (t := restrFr ops x.o x.fr) hp _ _ heq
          cases h1
          exact value (h3 _) rfl (same ha.symm)
        | false =>
          refine still ha.symm hp fun e => ?_
          have hqo : isQuiet x.o = true := by rw [hp, Bool.false_or] at hpq; exact hpq
          have := quiet_op hqo heq
          subst this
          exact value heq e ((same ha.symm).trans e)
      · simp only [Option.some.injEq, Prod.mk.injEq] at he
        obtain ⟨rfl, ha⟩ := he
        obtain ⟨e1, e2⟩ := turned _ ha.symm
        exact value heq e1 e2
    · rename_i fn args h2 heq
      split at he
      · rename_i v hk
        simp only [Option.some.injEq, Prod.mk.injEq] at he
        obtain ⟨hv, ha⟩ := he
        have hp : isPure x.o = false := by
          cases hp : isPure x.o with
          | false => rfl
          | true =>
            obtain ⟨v', h1, h3⟩ := pure_op (P := P) (g := g) (t := restrFr ops x.o x.fr) hp _ _ heq
            cases h1
        refine still ha.symm hp fun e => ?_
        have H1 := H0
        rw [e] at H1
        obtain ⟨hhh, vs, hrun, hvs⟩ := op_sound hng G H1 hERel heq
        exact callK (by rw [e]; first | exact hhh ▸ hk | (rw [← hhh]; exact hk)) rfl hv.symm ha.symm hw (op_not_defer heq) hvs hrun
      · unfold drawCall at he
        split at he
        · rename_i v h3 hr
          simp only [Option.some.injEq, Prod.mk.injEq] at he
          obtain ⟨hv, ha⟩ := he
          obtain ⟨e1, e2⟩ := turned _ ha.symm
          rw [e1] at H0
          obtain ⟨rfl, vs, hrun, hvs⟩ := op_sound hng G H0 hERel heq
          obtain ⟨q1, w1, fr1, ⟨v', h', u, ρ', hm, rfl, hle, hvr, R'⟩, hcomes, hfn, hleave⟩ := S0.call _ _ _ _ hr vs ρ w hvs H0 (fr b tm d (.inRegion ops (i :: js) :: k) :: cs)
          simp only [List.mem_singleton, Out.val.injEq] at hm
          obtain ⟨rfl, rfl⟩ := hm
          refine fin hle (by rw [← hv]; exact hvr) (by rw [e2]; exact R') ?_
          refine .head (st_enter ho hw (op_not_defer heq) hrun) (Steps.trans hcomes (.one ?_))
          rw [← finish_fr ho]
          exact step_leave_returned hleave
        · cases he
    · cases he
  · cases he
end
end Go.Ev
