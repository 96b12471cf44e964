import Derived.Test.YtdbjdkkgpnkiaaaGreatDoorEvMem
import Derived.Test.YtdbjdkkgpnkiaaaGreatDoorEvExt
set_option linter.unusedSimpArgs false
set_option linter.unusedVariables false
namespace Go.Ev
open Go.RowKit

/-! what an operation reads -/
theorem evs_congr {t u : T EVal} : ∀ {l : List Operand}, (∀ x ∈ l, ev t x = ev u x) → evs t l = evs u l
  | [], _ => rfl
  | x :: l, h => by simp only [evs]; rw [h x (by simp), evs_congr (fun y hy => h y (by simp [hy]))]
theorem evParts_congr {t u : T EVal} : ∀ {l : List (Nat × Operand)}, (∀ x ∈ l.map (·.2), ev t x = ev u x) → evParts t l = evParts u l
  | [], _ => rfl
  | (i, x) :: l, h => by simp only [evParts]; rw [h x (by simp), evParts_congr (fun y hy => h y (by simp at hy ⊢; exact .inr hy))]
theorem evOpt_congr {t u : T EVal} {x : Option Operand} (h : ∀ y, x = some y → ev t y = ev u y) : evOpt t x = evOpt u x := by
  cases x with
  | none => rfl
  | some y => simp only [evOpt]; rw [h y rfl]

theorem eOp_congr {P : Program} {g : G} {h : H} {t u : T EVal} {o : Oper} (hx : ∀ x ∈ o.op.operands.toList, ev t x = ev u x) : eOp P g h t o = eOp P g h u o := by
  unfold eOp
  split
  all_goals first | (rfl; done) | skip
  all_goals first
    | (rename_i hop; rw [hop] at hx; refine congrArg _ (evParts_congr (fun x h => hx x ?_)); simpa [Op.operands] using h)
    | (rename_i hop; rw [hop] at hx; refine congrArg _ (evs_congr (fun x h => hx x ?_)); simp only [Op.operands, Array.toList_append, List.mem_append]; exact .inr h)
    | (rename_i x lo hi hop; rw [hop] at hx; rw [hx x (by simp [Op.operands]), evOpt_congr (x := lo) (fun y hy => hx y (by subst hy; simp [Op.operands])), evOpt_congr (x := hi) (fun y hy => hx y (by subst hy; simp [Op.operands]))])
    | (rename_i hop; rw [hop] at hx; simp only [Op.operands, List.mem_cons, List.not_mem_nil, or_false, forall_eq, forall_eq_or_imp] at hx; first | rw [hx] | rw [hx.1, hx.2] | rw [hx.1, hx.2.1, hx.2.2])
    | skip
  rename_i c hop
  rw [hop] at hx
  have hc : ∀ x ∈ c.operands.toList, ev t x = ev u x := hx
  unfold Call.operands at hc
  have h1 : evs t c.args.toList = evs u c.args.toList := evs_congr (fun x h => hc x (by rw [Array.toList_append, List.mem_append]; exact .inr h))
  rw [h1]
  unfold eCall
  cases hcal : c.callee with
  | value f =>
    have h2 : ev t f = ev u f := hc f (by rw [hcal]; simp)
    simp only [h2]
  | _ => rfl

theorem restr_cons (t : T EVal) (s : Nat) (l : List Nat) : restr t (s :: l) = (restr t l).set s (t.get s) := (rfl)
theorem restr_has (t : T EVal) (l : List Nat) (i : Nat) (h : i < 1000) : (restr t l).has i := by
  induction l with
  | nil => exact T.has_full _ _ _ (by omega)
  | cons s l ih => rw [restr_cons]; exact (T.has_set _ _ _ _).2 ih
theorem restr_same (t : T EVal) {l : List Nat} {i : Nat} (h : i < 1000) (hm : i ∈ l) : (restr t l).get i = t.get i := by
  induction l with
  | nil => cases hm
  | cons s l ih =>
    rw [restr_cons]
    by_cases e : i = s
    · subst e; exact T.get_set_same _ _ _ (restr_has _ _ _ h)
    · rw [T.get_set_ne _ _ _ _ e]
      exact ih ((List.mem_cons.1 hm).resolve_left e)

theorem opTmps_mem {i : Nat} : ∀ {l : List Operand}, .tmp i ∈ l → i ∈ opTmps l
  | .tmp j :: l, h => by
    simp only [opTmps, List.mem_cons]
    rcases List.mem_cons.1 h with h | h
    · cases h; exact .inl rfl
    · exact .inr (opTmps_mem h)
  | .const _ :: l, h => by simp only [opTmps]; exact opTmps_mem ((List.mem_cons.1 h).resolve_left (by simp))
  | .global _ :: l, h => by simp only [opTmps]; exact opTmps_mem ((List.mem_cons.1 h).resolve_left (by simp))
  | .func _ :: l, h => by simp only [opTmps]; exact opTmps_mem ((List.mem_cons.1 h).resolve_left (by simp))

section
variable {P : Program} {g : G} {K : Known}

theorem restr_eOp {ops : Array Oper} {o : Oper} {f : EFr} {h : H} (hs : ∀ s ∈ readsOf ops o, s < 1000) : eOp P g h (restrFr ops o f) o = eOp P g h f.tmps o := by
  refine eOp_congr fun x hx => ?_
  cases x with
  | tmp i =>
    have : i ∈ readsOf ops o := List.mem_append_left _ (opTmps_mem hx)
    exact restr_same _ (hs i this) this
  | _ => rfl

theorem restr_wanted {ops : Array Oper} {o : Oper} {f : EFr} (hs : ∀ s ∈ readsOf ops o, s < 1000) : wantedE ops (restrFr ops o f) o = wantedE ops f.tmps o := by
  unfold wantedE
  split
  · rfl
  · rename_i j want hg
    have : yieldedE ops (restrFr ops o f) j = yieldedE ops f.tmps j := by
      unfold yieldedE
      split
      · rename_i q hq
        split
        · rename_i d hd
          have hm : d ∈ readsOf ops o := List.mem_append_right _ (by unfold guardSlot; rw [hg]; simp [hq, hd])
          have : (restrFr ops o f).get d = f.tmps.get d := restr_same _ (hs d hm) hm
          rw [this]
        · rfl
      · rfl
    rw [this]

/-! a region whose order is open, in the order of the text -/
def actIdx : List (Bool × Bool) → Nat → List Nat
  | [], _ => []
  | (a, _) :: l, i => if a then i :: actIdx l (i + 1) else actIdx l (i + 1)
noncomputable def actIdxE : List (Bool × Bool) → Nat → List (Nat × Bool)
  | [], _ => []
  | (a, e) :: l, i => bif a then (i, e) :: actIdxE l (i + 1) else actIdxE l (i + 1)
/-- what turns memory has its place before or behind operation i, or comes behind it in the text and but makes new objects -/
noncomputable def quickE (A : List Nat) (i : Nat) : List (Nat × Bool) → Bool
  | [] => true
  | (a, e) :: l => bif Nat.blt a i then (bif hasB (nthM A i) a then quickE A i l else false) else
    (bif hasB (nthM A i) a then false else bif hasB (nthM A a) i then true else bif e then quickE A i l else false)
noncomputable def quickIdx (A : List Nat) (acts : List (Nat × Bool)) : List (Bool × Bool) → Nat → Bool
  | [], _ => true
  | (a, nd) :: l, i => bif (bif nd then (bif a then true else quickE A i acts) else true) then quickIdx A acts l (i + 1) else false
/-- the places of what turns memory, and of what looks into it, are in order -/
noncomputable def placesOK (A : List Nat) (fl : List (Bool × Bool)) : Bool :=
  match actIdx fl 0 with
  | [] => true
  | acts => bif chainOK A acts acts then quickIdx A (actIdxE fl 0) fl 0 else false

def wpDOut (P : Program) (K : Known) (k : EVal → H → Bool × Bool → Prop) (o : Oper) (h : H) : Option EOut → Prop
  | some (.val v h') => if isPure o = true then k v h (false, false) else if isQuiet o = true then k v h (false, true) else k v h' (true, extB o h)
  | some (.enter fn args h') => match kcall P K h' fn args with
    | some v => k v h (false, true)
    | none => False
  | _ => False

def wpDraw (P : Program) (g : G) (K : Known) (all : Array Oper) (Q : List (Bool × Bool) → EFr → H → Prop) : List Oper → List (Bool × Bool) → EFr → H → Prop
  | [], fl, f, h => Q fl f h
  | o :: rest, fl, f, h => match wantedE all f.tmps o with
    | some true => wpDOut P K (fun v h' b => wpDraw P g K all Q rest (b :: fl) (f.putd o.dst v) h') o h (eOp P g h f.tmps o)
    | some false => wpDraw P g K all Q rest ((false, false) :: fl) (f.putd o.dst undefE) h
    | none => False

def wpDNext (P : Program) (g : G) (K : Known) (all : Array Oper) (Q : List (Bool × Bool) → EFr → H → Prop) (d : Option Tmp) (rest : List Oper) (fl : List (Bool × Bool)) (f : EFr) (v : EVal) (h : H) (b : Bool × Bool) : Prop := wpDraw P g K all Q rest (b :: fl) (f.putd d v) h
def wpDStep (P : Program) (g : G) (K : Known) (all : Array Oper) (Q : List (Bool × Bool) → EFr → H → Prop) (o : Oper) (rest : List Oper) (fl : List (Bool × Bool)) (f : EFr) (h : H) : Option Bool → Prop
  | some true => wpDOut P K (wpDNext P g K all Q o.dst rest fl f) o h (eOp P g h f.tmps o)
  | some false => wpDraw P g K all Q rest ((false, false) :: fl) (f.putd o.dst undefE) h
  | none => False
theorem wpDraw_nil {all : Array Oper} {Q : List (Bool × Bool) → EFr → H → Prop} {fl : List (Bool × Bool)} {f : EFr} {h : H} : wpDraw P g K all Q [] fl f h = Q fl f h := (rfl)
theorem wpDraw_cons {all : Array Oper} {Q : List (Bool × Bool) → EFr → H → Prop} {o : Oper} {rest : List Oper} {fl : List (Bool × Bool)} {f : EFr} {h : H} : wpDraw P g K all Q (o :: rest) fl f h = wpDStep P g K all Q o rest fl f h (wantedE all f.tmps o) := by
  simp only [wpDraw]
  unfold wpDStep
  split <;> rfl
theorem wpDStep_true {all : Array Oper} {Q : List (Bool × Bool) → EFr → H → Prop} {o : Oper} {rest : List Oper} {fl : List (Bool × Bool)} {f : EFr} {h : H} : wpDStep P g K all Q o rest fl f h (some true) = wpDOut P K (wpDNext P g K all Q o.dst rest fl f) o h (eOp P g h f.tmps o) := (rfl)
theorem wpDStep_false {all : Array Oper} {Q : List (Bool × Bool) → EFr → H → Prop} {o : Oper} {rest : List Oper} {fl : List (Bool × Bool)} {f : EFr} {h : H} : wpDStep P g K all Q o rest fl f h (some false) = wpDraw P g K all Q rest ((false, false) :: fl) (f.putd o.dst undefE) h := (rfl)
theorem wpDStep_sym {all : Array Oper} {Q : List (Bool × Bool) → EFr → H → Prop} {o : Oper} {rest : List Oper} {fl : List (Bool × Bool)} {f : EFr} {h : H} {q : Bool} (h1 : q = true → wpDStep P g K all Q o rest fl f h (some true)) (h2 : q = false → wpDStep P g K all Q o rest fl f h (some false)) : wpDStep P g K all Q o rest fl f h (some q) := by
  cases q with
  | true => exact h1 rfl
  | false => exact h2 rfl

theorem wpDStep_not {all : Array Oper} {Q : List (Bool × Bool) → EFr → H → Prop} {o : Oper} {rest : List Oper} {fl : List (Bool × Bool)} {f : EFr} {h : H} {q : Bool} (h1 : q = false → wpDStep P g K all Q o rest fl f h (some true)) (h2 : q = true → wpDStep P g K all Q o rest fl f h (some false)) : wpDStep P g K all Q o rest fl f h (some !q) := by
  cases q with
  | true => exact h2 rfl
  | false => exact h1 rfl

def wpDSel (k : EVal → H → Bool × Bool → Prop) (v : EVal) (h h' : H) (e : Bool) : Bool → Bool → Prop
  | true, _ => k v h (false, false)
  | false, true => k v h (false, true)
  | false, false => k v h' (true, e)
theorem wpDSel_pure {k : EVal → H → Bool × Bool → Prop} {v : EVal} {h h' : H} {e q : Bool} : wpDSel k v h h' e true q = k v h (false, false) := by cases q <;> rfl
theorem wpDSel_quiet {k : EVal → H → Bool × Bool → Prop} {v : EVal} {h h' : H} {e : Bool} : wpDSel k v h h' e false true = k v h (false, true) := (rfl)
theorem wpDSel_act {k : EVal → H → Bool × Bool → Prop} {v : EVal} {h h' : H} {e : Bool} : wpDSel k v h h' e false false = k v h' (true, e) := (rfl)
def wpDKc (k : EVal → H → Bool × Bool → Prop) (h : H) : Option EVal → Prop
  | some v => k v h (false, true)
  | none => False
theorem wpDKc_some {k : EVal → H → Bool × Bool → Prop} {h : H} {v : EVal} : wpDKc k h (some v) = k v h (false, true) := (rfl)
theorem wpDOut_val {k : EVal → H → Bool × Bool → Prop} {o : Oper} {h h' : H} {v : EVal} : wpDOut P K k o h (some (.val v h')) = wpDSel k v h h' (extB o h) (isPure o) (isQuiet o) := by
  unfold wpDOut wpDSel
  cases isPure o <;> cases isQuiet o <;> rfl
theorem wpDOut_enter {k : EVal → H → Bool × Bool → Prop} {o : Oper} {h h' : H} {fn : FuncId} {args : List EVal} : wpDOut P K k o h (some (.enter fn args h')) = wpDKc k h (kcall P K h' fn args) := by
  show (match kcall P K h' fn args with | some v => k v h (false, true) | none => False) = _
  cases kcall P K h' fn args <;> rfl

/-- of a region, whatever the state -/
noncomputable def drawStatic (ops : Array Oper) (n : Nat) : Bool :=
  staticOK ops (ancGo ops.toList []) && ops.toList.all fun o => dstOK o n && (readsOf ops o).all fun s => Nat.blt s 1000

/-- what is known of the steps -/
inductive Flags (P : Program) (g : G) (K : Known) (all : Array Oper) : List DStep → List (Bool × Bool) → H → Prop
  | nil (h : H) : Flags P g K all [] [] h
  | cons (x : DStep) (b : Bool × Bool) (st : List DStep) (fl : List (Bool × Bool)) (h : H) (hh : x.h = h) (ha : x.act.isSome = b.1)
    (hn : needs all x = true → b.2 = true ∧ b.1 = false ∧ ∀ h2, HGrow x.h h2 → quietOK P g K all x h2 = true)
    (he : ∀ h', x.act = some h' → b.2 = true → HGrow x.h h') (rest : Flags P g K all st fl (x.act.getD h)) : Flags P g K all (x :: st) (b :: fl) h

theorem wpDraw_go {all : Array Oper} {Q : List (Bool × Bool) → EFr → H → Prop} {r : Rec} : ∀ (l : List Oper) (fl : List (Bool × Bool)) (f : EFr) (h : H), (∀ o ∈ l, dstOK o f.sz = true ∧ ∀ s ∈ readsOf all o, s < 1000) → wpDraw P g K all Q l fl f h →
    ∃ st f' h' fl', drawGo P g K r all l f h = some (st, f', h') ∧ Flags P g K all st fl' h ∧ Q (fl'.reverse ++ fl) f' h'
  | [], fl, f, h, _, hw => ⟨[], f, h, [], rfl, .nil _, hw⟩
  | o :: l, fl, f, h, hs, hw => by
    obtain ⟨hd, hr⟩ := hs o (by simp)
    have hgo : drawGo P g K r all (o :: l) f h = (match dstOK o f.sz with
      | false => none
      | true => match drawOne P g K r o (restrFr all o f) h (wantedE all (restrFr all o f) o) with
        | some (v, none) => consD ⟨o, f, v, h, none⟩ (drawGo P g K r all l (f.putd o.dst v) h)
        | some (v, some h') => consD ⟨o, f, v, h, some h'⟩ (drawGo P g K r all l (f.putd o.dst v) h')
        | none => none) := rfl
    rw [hgo, hd]
    simp only
    have hsz : ∀ v, (f.putd o.dst v).sz = f.sz := fun v => by
      unfold EFr.putd
      split
      · simp only [Bool.cond_eq_ite]; split <;> rfl
      · rfl
    have hs' : ∀ v, ∀ o' ∈ l, dstOK o' (f.putd o.dst v).sz = true ∧ ∀ s ∈ readsOf all o', s < 1000 := fun v o' ho' => by rw [hsz]; exact hs o' (by simp [ho'])
    have next : ∀ (v : EVal) (h' : H) (act : Option H) (b : Bool × Bool), act.isSome = b.1 → act.getD h = h' → (needs all ⟨o, f, v, h, act⟩ = true → b.2 = true ∧ b.1 = false ∧ ∀ h2, HGrow h h2 → quietOK P g K all ⟨o, f, v, h, act⟩ h2 = true) →
        (∀ h2, act = some h2 → b.2 = true → HGrow h h2) → wpDraw P g K all Q l (b :: fl) (f.putd o.dst v) h' →
        ∃ st f' h2 fl', consD ⟨o, f, v, h, act⟩ (drawGo P g K r all l (f.putd o.dst v) h') = some (st, f', h2) ∧ Flags P g K all st fl' h ∧ Q (fl'.reverse ++ fl) f' h2 := by
      intro v h' act b hb1 hb3 hb2 hb4 hq
      obtain ⟨st, f', h2, fl', e1, e2, e3⟩ := wpDraw_go (r := r) l (b :: fl) _ h' (hs' v) hq
      subst hb3
      refine ⟨_, f', h2, b :: fl', by rw [e1]; rfl, .cons ⟨o, f, v, h, act⟩ _ _ _ _ rfl hb1 hb2 hb4 e2, ?_⟩
      rw [List.reverse_cons, List.append_assoc]; exact e3
    unfold wpDraw at hw
    rw [restr_wanted hr]
    split at hw
    · rename_i hwant
      rw [hwant]
      simp only [drawOne]
      rw [restr_eOp hr]
      unfold wpDOut at hw
      split at hw
      · rename_i v h' heq
        rw [heq]
        simp only [drawOp, Bool.cond_eq_ite]
        split at hw
        · rename_i hp
          simp only [hp, Bool.true_or, if_true]
          exact next v h none (false, false) rfl rfl (by simp [needs, hp]) (fun _ e => by cases e) hw
        · rename_i hp
          have hp' : isPure o = false := by simpa using hp
          split at hw
          · rename_i hqt
            simp only [hp', hqt, Bool.or_true, if_true]
            refine next v h none (false, true) rfl rfl (fun _ => ⟨rfl, rfl, fun h2 hg => ?_⟩) (fun _ e => by cases e) hw
            obtain ⟨h3, e3⟩ := quiet_ext hg hqt heq
            show quietV P K _ (eOp P g h2 (restrFr all o f) o) = true
            rw [restr_eOp hr, e3]
            simp only [quietV, hqt, EVal.beq_refl, Bool.and_self]
          · rename_i hqt
            have hqt' : isQuiet o = false := by simpa using hqt
            simp only [hp', hqt', Bool.or_false, Bool.false_eq_true, if_false]
            exact next v h' (some h') (true, extB o h) rfl rfl (by simp [needs]) (fun h2 e hb => by cases e; exact new_grow hb heq) hw
      · rename_i fn args h' heq
        rw [heq]
        simp only [drawOp]
        split at hw
        · rename_i v hk
          rw [hk]
          refine next v h none (false, true) rfl rfl (fun _ => ⟨rfl, rfl, fun h2 hg => ?_⟩) (fun _ e => by cases e) hw
          obtain ⟨rfl, e3⟩ := enter_ext (hh := h2) heq
          show quietV P K _ (eOp P g h2 (restrFr all o f) o) = true
          rw [restr_eOp hr, e3]
          simp only [quietV, kcall_ext hg hk, EVal.beq_refl]
        · exact hw.elim
      · exact hw.elim
    · rename_i hwant
      rw [hwant]
      simp only [drawOne]
      refine next undefE h none (false, false) rfl rfl (fun hn => ?_) (fun _ e => by cases e) hw
      unfold needs at hn
      simp only [restr_wanted hr, hwant] at hn
      cases hp : isPure o <;> rw [hp] at hn <;> cases hn
    · exact hw.elim

theorem actsOf_flags {all : Array Oper} {st : List DStep} {fl : List (Bool × Bool)} {h : H} (H1 : Flags P g K all st fl h) : ∀ i, actsOf st i = actIdx fl i := by
  induction H1 with
  | nil => intro i; rfl
  | cons x b st fl h hh ha hn he rest ih =>
    intro i
    obtain ⟨a, nd⟩ := b
    have e : actsOf (x :: st) i = Option.rec (motive := fun _ => List Nat) (actsOf st (Nat.succ i)) (fun _ => i :: actsOf st (Nat.succ i)) x.act := rfl
    rw [e]
    simp only [actIdx]
    cases hx : x.act with
    | none => rw [hx] at ha; simp at ha; subst ha; simpa using ih (i + 1)
    | some h' => rw [hx] at ha; simp at ha; subst ha; simpa using ih (i + 1)

theorem verGo_cons {all : Array Oper} {A : List Nat} {i a : Nat} {x y : DStep} {h : H} {l : List DStep} : verGo P g K all A i x a h (y :: l) = (match y.act with
    | none => verGo P g K all A i x (a + 1) h l
    | some h' => bif hasB (nthM A i) a then verGo P g K all A i x (a + 1) h' l
      else bif hasB (nthM A a) i then quietOK P g K all x h
      else quietOK P g K all x h && verGo P g K all A i x (a + 1) h' l) := rfl
/-- behind it -/
theorem verGo_behind {all : Array Oper} {A : List Nat} {i : Nat} {x : DStep} (hx : ∀ h2, HGrow x.h h2 → quietOK P g K all x h2 = true) : ∀ {st : List DStep} {fl : List (Bool × Bool)} {h : H}, Flags P g K all st fl h → ∀ a, i < a → HGrow x.h h → quickE A i (actIdxE fl a) = true → verGo P g K all A i x a h st = true
  | _, _, h, .nil _, a, _, hg, _ => hx h hg
  | _, _, h, .cons y b st fl _ hh ha hn he rest, a, hi, hg, hq => by
    obtain ⟨b1, b2⟩ := b
    rw [verGo_cons]
    cases hy : y.act with
    | none =>
      rw [hy] at ha rest
      simp at ha
      subst ha
      exact verGo_behind hx rest (a + 1) (by omega) hg hq
    | some h' =>
      rw [hy] at ha rest
      change Flags P g K all st fl h' at rest
      simp at ha
      subst ha
      simp only
      have e : quickE A i ((a, b2) :: actIdxE fl (a + 1)) = true := hq
      have hlt : Nat.blt a i = false := by rw [Bool.eq_false_iff]; intro e; rw [Nat.blt_eq] at e; omega
      simp only [quickE, hlt, cond_false] at e
      cases h1 : hasB (nthM A i) a with
      | true => rw [h1] at e; cases e
      | false =>
        rw [h1] at e
        simp only [cond_false] at e ⊢
        cases h2 : hasB (nthM A a) i with
        | true => simp only [cond_true]; exact hx h hg
        | false =>
          rw [h2] at e
          simp only [cond_false] at e ⊢
          cases h3 : b2 with
          | false => rw [h3] at e; cases e
          | true =>
            rw [h3] at e
            simp only [cond_true] at e
            subst hh
            rw [hx _ hg, verGo_behind hx rest (a + 1) (by omega) (hg.trans (he h' hy h3)) e]; rfl
/-- up to it -/
theorem verGo_flags {all : Array Oper} {A : List Nat} {i : Nat} {x : DStep} {l2 : List DStep} (hnx : needs all x = true) : ∀ (l1 : List DStep) {fl : List (Bool × Bool)} {h : H}, Flags P g K all (l1 ++ x :: l2) fl h → ∀ a, a + l1.length = i → quickE A i (actIdxE fl a) = true → verGo P g K all A i x a h (l1 ++ x :: l2) = true
  | [], _, h, HF, a, hi, hq => by
    rw [List.nil_append] at HF
    cases HF with
    | cons _ b st fl _ hh ha hn he rest =>
    obtain ⟨b1, b2⟩ := b
    obtain ⟨h1, h2, h3⟩ := hn hnx
    simp only at h1 h2
    subst h1 h2
    simp only [List.length_nil, Nat.add_zero] at hi
    subst hi
    show verGo P g K all A a x a h (x :: l2) = true
    rw [verGo_cons]
    have hact : x.act = none := by
      cases hx : x.act with
      | none => rfl
      | some _ => rw [hx] at ha; cases ha
    rw [hact] at rest
    rw [hact]
    exact verGo_behind h3 rest (a + 1) (by omega) (by subst hh; exact HGrow.refl _) hq
  | y :: l1, _, h, HF, a, hi, hq => by
    rw [List.cons_append] at HF
    cases HF with
    | cons _ b st fl _ hh ha hn he rest =>
    obtain ⟨b1, b2⟩ := b
    simp only [List.length_cons] at hi
    show verGo P g K all A i x a h (y :: (l1 ++ x :: l2)) = true
    rw [verGo_cons]
    cases hy : y.act with
    | none =>
      rw [hy] at ha rest
      simp at ha
      subst ha
      exact verGo_flags hnx l1 rest (a + 1) (by omega) hq
    | some h' =>
      rw [hy] at ha rest
      simp at ha
      subst ha
      simp only
      have e : quickE A i ((a, b2) :: actIdxE fl (a + 1)) = true := hq
      have hlt : Nat.blt a i = true := by rw [Nat.blt_eq]; omega
      simp only [quickE, hlt, cond_true] at e
      cases h1 : hasB (nthM A i) a with
      | false => rw [h1] at e; cases e
      | true =>
        rw [h1] at e
        simp only [cond_true] at e ⊢
        exact verGo_flags hnx l1 rest (a + 1) (by omega) e

theorem quietAll_flags {all : Array Oper} {A acts : List Nat} {h0 : H} {fl0 : List (Bool × Bool)} : ∀ (st l1 : List DStep) (fl : List (Bool × Bool)) (h : H), Flags P g K all (l1 ++ st) fl0 h0 → Flags P g K all st fl h → quickIdx A (actIdxE fl0 0) fl l1.length = true → quietAll P g K all A (l1 ++ st) h0 acts st l1.length = true
  | [], _, _, _, _, _, _ => rfl
  | x :: st, l1, _, _, H0, .cons _ b _ fl h hh ha hn he rest, hq => by
    obtain ⟨a, nd⟩ := b
    have e : quietAll P g K all A (l1 ++ x :: st) h0 acts (x :: st) l1.length = (bif (bif quick A l1.length acts then true else bif needs all x then verGo P g K all A l1.length x 0 h0 (l1 ++ x :: st) else true) then quietAll P g K all A (l1 ++ x :: st) h0 acts st (Nat.succ l1.length) else false) := rfl
    have hq2 : (bif (bif nd then (bif a then true else quickE A l1.length (actIdxE fl0 0)) else true) then quickIdx A (actIdxE fl0 0) fl (l1.length + 1) else false) = true := hq
    have hrest : quickIdx A (actIdxE fl0 0) fl (l1.length + 1) = true := by
      cases hc : (bif nd then (bif a then true else quickE A l1.length (actIdxE fl0 0)) else true) with
      | true => rw [hc] at hq2; exact hq2
      | false => rw [hc] at hq2; cases hq2
    have h1 : (bif needs all x then verGo P g K all A l1.length x 0 h0 (l1 ++ x :: st) else true) = true := by
      cases hnx : needs all x with
      | false => rfl
      | true =>
        obtain ⟨e1, e2, _⟩ := hn hnx
        simp only at e1 e2
        subst e1 e2
        have h2 : quickE A l1.length (actIdxE fl0 0) = true := by
          cases hc : quickE A l1.length (actIdxE fl0 0) with
          | true => rfl
          | false => simp only [cond_true, cond_false, hc] at hq2; cases hq2
        exact verGo_flags hnx l1 H0 0 (by omega) h2
    have ih := quietAll_flags (acts := acts) st (l1 ++ [x]) fl _ (by rw [List.append_assoc]; exact H0) rest (by rw [List.length_append]; exact hrest)
    rw [List.append_assoc] at ih
    have ih2 : quietAll P g K all A (l1 ++ x :: st) h0 acts st (l1.length + 1) = true := by
      have := ih
      rw [List.length_append] at this
      exact this
    rw [e, h1]
    cases quick A l1.length acts <;> exact ih2

theorem Top.draw (hm : P.follows .mixedOrders = true) (hng : NoNG P) {id : Nat} {ops : Array Oper} {f : EFr} {h : H} {Q : Post} (hs : drawStatic ops f.sz = true)
    (hw : wpDraw P g K ops (fun fl f' h' => placesOK (ancGo ops.toList []) fl.reverse = true ∧ Q .normal f' h') ops.toList [] f h) : Top P g K (.region id ops true) f h Q := by
  unfold drawStatic at hs
  simp only [Bool.and_eq_true, List.all_eq_true, Nat.blt_eq] at hs
  obtain ⟨st, f', h', fl', e1, e2, e3, e4⟩ := wpDraw_go (r := Go.Ev.run P g K 0) ops.toList [] f h hs.2 hw
  simp only [List.append_nil, List.reverse_reverse] at e3
  refine Top.run hm hng (n := 1) (outs := [.code .normal f' h']) ?_ (fun e f'' h'' hmem => by simp at hmem; obtain ⟨rfl, rfl, rfl⟩ := hmem; exact e4)
  show runDraw P g K (Go.Ev.run P g K 0) ops f h = _
  unfold runDraw
  rw [e1]
  simp only [drawFin]
  rw [hs.1]
  have : actsOK P g K ops (ancGo ops.toList []) st h (actsOf st 0) = true := by
    rw [actsOf_flags e2]
    unfold placesOK at e3
    generalize actIdx fl' 0 = acts at e3
    cases acts with
    | nil => rfl
    | cons a acts =>
      have e4 : chainOK (ancGo ops.toList []) (a :: acts) (a :: acts) = true ∧ quickIdx (ancGo ops.toList []) (actIdxE fl' 0) fl' 0 = true := by
        cases hc : chainOK (ancGo ops.toList []) (a :: acts) (a :: acts) with
        | true => simp only [hc, cond_true] at e3; exact ⟨rfl, e3⟩
        | false => simp only [hc, cond_false] at e3; cases e3
      show (bif chainOK _ (a :: acts) (a :: acts) then quietAll P g K ops _ st h (a :: acts) st 0 else false) = true
      rw [e4.1]
      exact quietAll_flags st [] fl' h e2 e2 e4.2
  rw [this]; rfl
end
theorem wpDNext_q {P : Program} {g : G} {K : Known} {all : Array Oper} {Q : List (Bool × Bool) → EFr → H → Prop} {d : Option Tmp} {rest : List Oper} {fl : List (Bool × Bool)} {f : EFr} {v : EVal} {h : H} {b : Bool × Bool} : wpDNext P g K all Q d rest fl f v h b = wpDraw P g K all Q rest (b :: fl) (f.putd d v) h := (rfl)
end Go.Ev
