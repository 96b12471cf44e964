import Derived.Test.YtcdmpceicmbckaaGreatDoorEvB
import Derived.OpenShut
import Derived.ChangeArms
import Derived.LaidLaws
import Derived.Deep.Slices
set_option linter.unusedSimpArgs false
set_option linter.unusedVariables false
namespace Go.Ev
open Go.RowKit

/-! frames as lists -/
def aL : List (Nat × EVal) → Nat → Option EVal
  | [], _ => none
  | (j, v) :: l, i => if j = i then some v else aL l i

/-- the places that a trie has -/
def T.has {α : Type} : T α → Nat → Prop
  | .nil, _ => False
  | .node _ l r, n => if n = 0 then True else if n % 2 = 1 then l.has (n / 2) else r.has (n / 2 - 1)

theorem T.get_node {α : Type} (v : Option α) (l r : T α) (j : Nat) : T.get (.node v l r) j = if j = 0 then v else if j % 2 = 1 then T.get l (j / 2) else T.get r (j / 2 - 1) := by
  have : T.get (.node v l r) j = bif Nat.beq j 0 then v else bif Nat.beq (Nat.mod j 2) 1 then T.get l (Nat.div j 2) else T.get r (Nat.pred (Nat.div j 2)) := rfl
  rw [this]
  simp only [Nat.beq_eq, Bool.cond_eq_ite, Nat.pred_eq_sub_one]
  rfl

theorem T.set_node {α : Type} (v : Option α) (l r : T α) (i : Nat) (x : Option α) : T.set (.node v l r) i x = if i = 0 then .node x l r else if i % 2 = 1 then .node v (T.set l (i / 2) x) r else .node v l (T.set r (i / 2 - 1) x) := by
  have : T.set (.node v l r) i x = bif Nat.beq i 0 then .node x l r else bif Nat.beq (Nat.mod i 2) 1 then .node v (T.set l (Nat.div i 2) x) r else .node v l (T.set r (Nat.pred (Nat.div i 2)) x) := rfl
  rw [this]
  simp only [Nat.beq_eq, Bool.cond_eq_ite, Nat.pred_eq_sub_one]
  rfl

theorem T.get_set_same {α : Type} (t : T α) (i : Nat) (x : Option α) (h : t.has i) : (t.set i x).get i = x := by
  induction t generalizing i with
  | nil => exact h.elim
  | node v l r hl hr =>
    rw [T.set_node]
    unfold T.has at h
    split
    · rename_i h0; subst h0; rw [T.get_node]; simp
    · rename_i h0
      rw [if_neg h0] at h
      split
      · rename_i h1
        rw [if_pos h1] at h
        rw [T.get_node, if_neg h0, if_pos h1]; exact hl _ h
      · rename_i h1
        rw [if_neg h1] at h
        rw [T.get_node, if_neg h0, if_neg h1]; exact hr _ h

theorem T.get_set_ne {α : Type} (t : T α) (i j : Nat) (x : Option α) (h : j ≠ i) : (t.set i x).get j = t.get j := by
  induction t generalizing i j with
  | nil => rfl
  | node v l r hl hr =>
    rw [T.set_node]
    split
    · rename_i h0; subst h0; rw [T.get_node, T.get_node, if_neg h, if_neg h]
    · rename_i h0
      split
      · rename_i h1
        rw [T.get_node, T.get_node]
        split
        · rfl
        · split
          · exact hl _ _ (by omega)
          · rfl
      · rename_i h1
        rw [T.get_node, T.get_node]
        split
        · rfl
        · split
          · rfl
          · exact hr _ _ (by omega)

theorem T.has_set {α : Type} (t : T α) (i j : Nat) (x : Option α) : (t.set i x).has j ↔ t.has j := by
  induction t generalizing i j with
  | nil => exact Iff.rfl
  | node v l r hl hr =>
    rw [T.set_node]
    split
    · simp only [T.has]
    · split
      · simp only [T.has]
        split
        · rfl
        · split
          · exact hl _ _
          · rfl
      · simp only [T.has]
        split
        · rfl
        · split
          · rfl
          · exact hr _ _

theorem T.has_full {α : Type} (x : Option α) (n i : Nat) (h : i + 1 < 2 ^ n) : (T.full x n).has i := by
  induction n generalizing i with
  | zero => omega
  | succ n ih =>
    unfold T.full T.has
    split
    · trivial
    · split
      · exact ih _ (by rw [Nat.pow_succ] at h; omega)
      · exact ih _ (by rw [Nat.pow_succ] at h; omega)

noncomputable def T.ofL (l : List (Nat × EVal)) : T EVal := l.foldr (fun p t => t.set p.1 (some p.2)) (T.full none 10)

theorem T.has_ofL (l : List (Nat × EVal)) (i : Nat) (h : i < 1000) : (T.ofL l).has i := by
  induction l with
  | nil => exact T.has_full _ _ _ (by omega)
  | cons p l ih => exact (T.has_set _ _ _ _).2 ih

theorem T.get_ofL (l : List (Nat × EVal)) (i : Nat) (h : i < 1000) : (T.ofL l).get i = aL l i := by
  induction l with
  | nil =>
    cases hq : (T.full (none : Option EVal) 10).get i with
    | none => exact hq
    | some e => cases T.get_full _ _ _ hq
  | cons p l ih =>
    obtain ⟨j, v⟩ := p
    show (T.set (T.ofL l) j (some v)).get i = aL ((j, v) :: l) i
    unfold aL
    split
    · rename_i e; subst e; exact T.get_set_same _ _ _ (T.has_ofL l _ h)
    · rename_i e; rw [T.get_set_ne _ _ _ _ (Ne.symm e)]; exact ih

/-- a frame of so many slots -/
noncomputable def mkF (n : Nat) (l : List (Nat × EVal)) : EFr := ⟨n, T.ofL l, [], none⟩

theorem mkF_putd {n : Nat} {l : List (Nat × EVal)} {i : Nat} {v : EVal} (h : i < n) : (mkF n l).putd (some i) v = mkF n ((i, v) :: l) := by
  unfold EFr.putd mkF
  simp only [Nat.blt_eq, Bool.cond_eq_ite, h, if_true]
  rfl
theorem mkF_putd_none {n : Nat} {l : List (Nat × EVal)} {v : EVal} : (mkF n l).putd none v = mkF n l := (rfl)
theorem mkF_tmps {n : Nat} {l : List (Nat × EVal)} : (mkF n l).tmps = T.ofL l := (rfl)
theorem mkF_defers {n : Nat} {l : List (Nat × EVal)} : (mkF n l).defers = [] := (rfl)

theorem nd_sound {P : Program} {ρ : Loc} {ty el : TypeId} {x y : Operand} {u v : Value} (hu : VRel ρ (.lsl []) u) (hv : VRel ρ .nilslice v) (hk : P.underlying ty = some (.slice el)) (w : World) :
    ∃ q, (do eqGuard .eql ty x y u v; binOp .eql ty u v : Sem Value).run P w = .ok (.bool q) w := by
  cases hv
  have hg : ∀ a n m, (eqGuard .eql ty x y (.slice a n m) (.slice none 0 0)).run P w = .ok () w := fun a n m => by rw [eqGuard_at_slice]; rfl
  cases hu with
  | lsl _ us b o c sz pre rest hf hs hw ho hz hc =>
    refine ⟨false, ?_⟩
    have := (run_equal_of (P := P) (w := w) (t := ty) (u := .slice (some ⟨b, o, none⟩) 0 c) (v := .slice none 0 0) (r := false) (fun d => by simp [Op.equalIn, run_underlying hk]) (by simp only [binOp]) (by simp only [binOp])).1
    simp [hg, this]
  | lsl0 p c =>
    refine ⟨false, ?_⟩
    have := (run_equal_of (P := P) (w := w) (t := ty) (u := .slice (some p) 0 c) (v := .slice none 0 0) (r := false) (fun d => by simp [Op.equalIn, run_underlying hk]) (by simp only [binOp]) (by simp only [binOp])).1
    simp [hg, this]
  | lsln =>
    refine ⟨true, ?_⟩
    have := (run_equal_of (P := P) (w := w) (t := ty) (u := .slice none 0 0) (v := .slice none 0 0) (r := true) (fun d => by simp [Op.equalIn, run_underlying hk]) (by simp only [binOp]) (by simp only [binOp])).1
    simp [hg, this]

/-- an empty list may be nil or not -/
def ndEq (P : Program) (ty : TypeId) : Option EVal → Option EVal → Bool
  | some (.lsl []), some .nilslice => match P.underlying ty with
    | some (.slice _) => true
    | _ => false
  | _, _ => false
noncomputable def ndOp (P : Program) (t : T EVal) (o : Oper) : Bool :=
  match o.op with
  | .binOp .eql ty x y _ => ndEq P ty (ev t x) (ev t y)
  | _ => false
def wpNd (k : EVal → H → Prop) (h : H) : Bool → Prop
  | true => ∀ q : Bool, k (.bool q) h
  | false => False

section
variable {A : Option Nat} {P : Program} {g : G} {K : bE}

/-- what an operation must come to, for k to hold behind it -/
def wpOut (P : Program) (g : G) (K : bE) (nd : Bool) (h0 : H) (k : EVal → H → Prop) : Option EOut → Prop
  | some (.val v h) => k v h
  | some (.enter fn args h) => match aI P K h fn args with
    | some v => k v h
    | none => CallT P g K fn args h k
  | some (.yield id args h) => RoundT P g K id args h k
  | none => wpNd k h0 nd

def wpOp (P : Program) (g : G) (K : bE) (o : Oper) (f : EFr) (h : H) (k : EVal → H → Prop) : Prop :=
  match o.op with
  | .next it false => match nextMapO h (ev f.tmps it) with
    | some l => ∀ p ∈ l, k p.1 p.2
    | none => False
  | _ => wpOut P g K (ndOp P f.tmps o) h k (eOp P g h f.tmps o)

def wpOps (P : Program) (g : G) (K : bE) (all : Array Oper) (Q : EFr → H → Prop) : List Oper → EFr → H → Prop
  | [], f, h => Q f h
  | o :: rest, f, h => match wantedE all f.tmps o with
    | some true => wpOp P g K o f h (fun v h' => wpOps P g K all Q rest (f.putd o.dst v) h')
    | some false => wpOps P g K all Q rest (f.putd o.dst undefE) h
    | none => False

/-- the same, a step at a time -/
def wpNext (P : Program) (g : G) (K : bE) (all : Array Oper) (Q : EFr → H → Prop) (d : Option Tmp) (rest : List Oper) (f : EFr) (v : EVal) (h : H) : Prop := wpOps P g K all Q rest (f.putd d v) h
def wpStep (P : Program) (g : G) (K : bE) (all : Array Oper) (Q : EFr → H → Prop) (o : Oper) (rest : List Oper) (f : EFr) (h : H) : Option Bool → Prop
  | some true => wpOp P g K o f h (wpNext P g K all Q o.dst rest f)
  | some false => wpOps P g K all Q rest (f.putd o.dst undefE) h
  | none => False
theorem wpOps_nil {P : Program} {g : G} {K : bE} {all : Array Oper} {Q : EFr → H → Prop} {f : EFr} {h : H} : wpOps P g K all Q [] f h = Q f h := (rfl)
theorem wpOps_cons {P : Program} {g : G} {K : bE} {all : Array Oper} {Q : EFr → H → Prop} {o : Oper} {rest : List Oper} {f : EFr} {h : H} :
    wpOps P g K all Q (o :: rest) f h = wpStep P g K all Q o rest f h (wantedE all f.tmps o) := by
  simp only [wpOps]
  unfold wpStep
  split <;> rfl
theorem wpStep_sym {P : Program} {g : G} {K : bE} {all : Array Oper} {Q : EFr → H → Prop} {o : Oper} {rest : List Oper} {f : EFr} {h : H} {q : Bool} (h1 : q = true → wpStep P g K all Q o rest f h (some true)) (h2 : q = false → wpStep P g K all Q o rest f h (some false)) :
    wpStep P g K all Q o rest f h (some q) := by
  cases q with
  | true => exact h1 rfl
  | false => exact h2 rfl

theorem wpOps_sound (hng : NoNG P) {B0 : Nat} {W0 : Base} (G : cK B0 W0.w g) (hK : KOK P B0 W0 K) {all : Array Oper} {Q : EFr → H → Prop} : ∀ (l : List Oper) (f : EFr) (h : H), wpOps P g K all Q l f h → ∀ (js : List Nat), js.map (all[·]?) = l.map some →
    ∀ (b : Frame) (t : Array Value) (d : List Deferred) (k : List Item) (cs : List Frame) (ρ : Loc) (w : World), FRel ρ f b t d → HRel P B0 W0 ρ h w →
    ∃ f' h', Q f' h' ∧ ∃ t' w' ρ', ρ.le ρ' ∧ FRel ρ' f' b t' d ∧ HRel P B0 W0 ρ' h' w' ∧ Steps P (lone (fr b t d (.inRegion all js :: k)) cs w) (lone (fr b t' d k) cs w')
  | [], f, h, hq, js, hjs, b, t, d, k, cs, ρ, w, F, R => by
    obtain rfl : js = [] := by simpa using hjs
    exact ⟨f, h, hq, t, w, ρ, Loc.le_refl _, F, R, .one st_region_end⟩
  | o :: rest, f, h, hq, js, hjs, b, t, d, k, cs, ρ, w, F, R => by
    cases js with
    | nil => simp at hjs
    | cons i js =>
      simp only [List.map_cons, List.cons.injEq] at hjs
      obtain ⟨ho, hjs⟩ := hjs
      have next : ∀ {e : EVal} {h' : H} {ρ' : Loc} {v : Value} {w' : World}, wpOps P g K all Q rest (f.putd o.dst e) h' → ρ.le ρ' → VRel ρ' e v → HRel P B0 W0 ρ' h' w' →
          Steps P (lone (fr b t d (.inRegion all (i :: js) :: k)) cs w) (lone (fr b (putT t o.dst v) d (.inRegion all js :: k)) cs w') →
          ∃ f' h', Q f' h' ∧ ∃ t' w' ρ', ρ.le ρ' ∧ FRel ρ' f' b t' d ∧ HRel P B0 W0 ρ' h' w' ∧ Steps P (lone (fr b t d (.inRegion all (i :: js) :: k)) cs w) (lone (fr b t' d k) cs w') := by
        intro e h' ρ' v w' hr hle hv R' hst
        obtain ⟨f2, h2, hm, t2, w2, ρ2, l2, F2, R2, S2⟩ := wpOps_sound hng G hK rest _ _ hr js hjs b _ d k cs ρ' w' ((F.mono hle).put hv) R'
        exact ⟨f2, h2, hm, t2, w2, ρ2, Loc.le_trans hle l2, F2, R2, hst.trans S2⟩
      unfold wpOps at hq
      split at hq
      rotate_left
      · rename_i hw
        exact next hq (Loc.le_refl _) (undef_rel _) R (.one (st_op_skip ho (wanted_sound F.tmps hw)))
      rotate_left
      · rename_i hw
        have hwant := wanted_sound F.tmps hw
        · have hr := hq
          clear hq
          unfold wpOp at hr
          split at hr
          · rename_i it hop
            split at hr
            · rename_i l hl
              cases hx : ev f.tmps it with
              | none => rw [hx] at hl; cases hl
              | some x =>
                rw [hx] at hl
                obtain ⟨e, h', u, w', hm, hrun, hv, R'⟩ := nextMap_sound R o.type (F.erel _ _ hx) hl
                refine next (hr _ hm) (Loc.le_refl _) hv R' (.one (st_value ho hwant (fun c hc => by rw [hop] at hc; cases hc) ?_))
                unfold execOp
                rw [hop]
                simp only [Sem.run_bind]
                rw [hrun]
                rfl
            · exact hr.elim
          · unfold wpOut at hr
            split at hr
            · rename_i v h' hop
              obtain ⟨w', ρ', hle, R', hres⟩ := op_sound hng G R F.erel hop
              rcases hres with ⟨u, hrun, hv⟩ | ⟨hrun, rfl⟩
              · exact next hr hle hv R' (.one (st_value ho hwant (op_not_defer hop) hrun))
              · exact next hr hle (undef_rel _) R' (.one (st_skipv ho hwant (op_not_defer hop) hrun))
            · rename_i fn args h' hop
              obtain ⟨rfl, vs, hrun, hvs⟩ := op_sound hng G R F.erel hop
              split at hr
              · rename_i v hk
                obtain ⟨e1, w1, fr1, ⟨u, ρ', rfl, hle, hv, R'⟩, hcomes, hfn, hleave⟩ := kcall_sound hK R hk hvs (fr b t d (.inRegion all (i :: js) :: k) :: cs)
                refine next hr hle hv R' ?_
                refine .head (st_enter ho hwant (op_not_defer hop) hrun) (Steps.trans hcomes (.one ?_))
                rw [← finish_fr ho]
                exact step_leave_returned hleave
              · obtain ⟨e1, w1, fr1, ⟨v, h2, u, ρ', hk2, rfl, hle, hv, R'⟩, hcomes, hfn, hleave⟩ := hr B0 W0 G hK _ ρ w hvs R (fr b t d (.inRegion all (i :: js) :: k) :: cs)
                refine next hk2 hle hv R' ?_
                refine .head (st_enter ho hwant (op_not_defer hop) hrun) (Steps.trans hcomes (.one ?_))
                rw [← finish_fr ho]
                exact step_leave_returned hleave
            · rename_i id args h' hop
              obtain ⟨rfl, l, C, vs, hid, hrun, hvs⟩ := op_sound hng G R F.erel hop
              obtain ⟨v, h2, u, ρ', w', f0, tm, x, y, hk2, hy, hle, hv, R', hsteps⟩ := hr B0 W0 G hK l C vs ρ w (fr b t d (.inRegion all (i :: js) :: k)) cs hid hvs R
              refine next hk2 hle hv R' ?_
              refine .head (st_round ho hwant (op_not_defer hop) (by rw [hrun]; exact hy)) ?_
              rw [← finish_fr ho]
              exact hsteps
            · cases hnd : ndOp P f.tmps o with
              | false => rw [hnd] at hr; exact hr.elim
              | true =>
                rw [hnd] at hr
                unfold ndOp at hnd
                split at hnd
                rotate_left
                · cases hnd
                rename_i ty x y z hop2
                have hx := F.erel x
                have hy := F.erel y
                generalize ev f.tmps x = ex at hnd hx
                generalize ev f.tmps y = ey at hnd hy
                unfold ndEq at hnd
                split at hnd
                rotate_left
                · cases hnd
                split at hnd
                rotate_left
                · cases hnd
                rename_i el hk
                obtain ⟨q, hq⟩ := nd_sound (hx _ rfl) (hy _ rfl) hk w (x := x) (y := y)
                refine next (hr q) (Loc.le_refl _) (.bool q) R (.one (st_value ho hwant (fun c hc => by rw [hop2] at hc; cases hc) ?_))
                unfold execOp
                rw [hop2]
                simp only [Sem.run_bind] at hq ⊢
                rw [hq]
                rfl
      · exact hq.elim

def seqQ (wb : EFr → H → bO → Prop) (Q : bO) : bO := fun e f h => match e with
  | .normal => wb f h Q
  | e => Q e f h
theorem seqQ_normal {wb : EFr → H → bO → Prop} {Q : bO} {f : EFr} {h : H} : seqQ wb Q .normal f h = wb f h Q := (rfl)
theorem seqQ_exit {wb : EFr → H → bO → Prop} {Q : bO} {f : EFr} {h : H} {i : Nat} : seqQ wb Q (.exit i) f h = Q (.exit i) f h := (rfl)
theorem seqQ_ret {wb : EFr → H → bO → Prop} {Q : bO} {f : EFr} {h : H} : seqQ wb Q .ret f h = Q .ret f h := (rfl)
def blockQ (id : Nat) (Q : bO) : bO := fun e f h => match e with
  | .exit i => if i = id then Q .normal f h else Q (.exit i) f h
  | e => Q e f h
theorem blockQ_normal {id : Nat} {Q : bO} {f : EFr} {h : H} : blockQ id Q .normal f h = Q .normal f h := (rfl)
theorem blockQ_exit {id : Nat} {Q : bO} {f : EFr} {h : H} {i : Nat} : blockQ id Q (.exit i) f h = if i = id then Q .normal f h else Q (.exit i) f h := (rfl)
theorem blockQ_ret {id : Nat} {Q : bO} {f : EFr} {h : H} : blockQ id Q .ret f h = Q .ret f h := (rfl)
/-- what a piece of code without loops must come to -/
def wp (A : Option Nat) (P : Program) (g : G) (K : bE) : Code → EFr → H → bO → Prop
  | .skip, f, h, Q => Q .normal f h
  | .label _, f, h, Q => Q .normal f h
  | .region _ ops false, f, h, Q => wpOps P g K ops (Q .normal) ops.toList f h
  | .seq a b, f, h, Q => wp A P g K a f h (seqQ (wp A P g K b) Q)
  | .cond c a b, f, h, Q => match ev f.tmps c with
    | some (.bool q) => (q = true → wp A P g K a f h Q) ∧ (q = false → wp A P g K b f h Q)
    | _ => False
  | .block id a, f, h, Q => wp A P g K a f h (blockQ id Q)
  | .scope a, f, h, Q => wp A P g K a f h Q
  | .exit id, f, h, Q => Q (.exit id) f h
  | .ret, f, h, Q => Q .ret f h
  | c, f, h, Q => Top A P g K c f h Q

/-- a condition, where its value is aO or not -/
def wpCond (A : Option Nat) (P : Program) (g : G) (K : bE) (a b : Code) (f : EFr) (h : H) (Q : bO) : Option EVal → Prop
  | some (.bool true) => wp A P g K a f h Q
  | some (.bool false) => wp A P g K b f h Q
  | _ => False
theorem wp_cond {c : Operand} {a b : Code} {f : EFr} {h : H} {Q : bO} : wp A P g K (.cond c a b) f h Q = wpCond A P g K a b f h Q (ev f.tmps c) := by
  simp only [wp]
  generalize ev f.tmps c = x
  cases x with
  | none => rfl
  | some e =>
    cases e with
    | bool q => cases q <;> simp [wpCond]
    | _ => rfl
theorem wpCond_sym {a b : Code} {f : EFr} {h : H} {Q : bO} {q : Bool} (h1 : q = true → wp A P g K a f h Q) (h2 : q = false → wp A P g K b f h Q) : wpCond A P g K a b f h Q (some (.bool q)) := by
  cases q with
  | true => exact h1 rfl
  | false => exact h2 rfl

theorem aH (hng : NoNG P) : ∀ (c : Code) (f : EFr) (h : H) (Q : bO), wp A P g K c f h Q → Top A P g K c f h Q
  | .skip, f, h, Q, hw => .skip hw
  | .label _, f, h, Q, hw => .label hw
  | .region _ ops false, f, h, Q, hw => fun B0 W0 G hK b t d k cs ρ w F R => by
    obtain ⟨f', h', hq, t', w', ρ', hle, F', R', hst⟩ := wpOps_sound hng G hK _ f h hw (List.range ops.size) (by
        apply List.ext_getElem?
        intro i
        simp only [List.getElem?_map]
        by_cases hi : i < ops.size
        · rw [List.getElem?_range hi]; simp [hi]
        · rw [List.getElem?_eq_none (by simpa using Nat.le_of_not_lt hi), List.getElem?_eq_none (by simpa using Nat.le_of_not_lt hi)]; rfl) b t d k cs ρ w F R
    exact ⟨.normal, f', h', hq, t', d, w', ρ', Loc.leA_of hle, F', R', .head st_region hst⟩
  | .region _ ops true, f, h, Q, hw => hw
  | .seq a b, f, h, Q, hw => .seq ((aH hng a f h _ hw).mono fun e f' h' hq => by
    cases e with
    | normal => exact aH hng b f' h' Q hq
    | exit i => exact hq
    | ret => exact hq)
  | .cond c a b, f, h, Q, hw => by
    unfold wp at hw
    split at hw
    · rename_i q hq
      exact .cond hq (fun e => aH hng a f h Q (hw.1 e)) (fun e => aH hng b f h Q (hw.2 e))
    · exact hw.elim
  | .block id a, f, h, Q, hw => .block (aH hng a f h _ hw)
  | .scope a, f, h, Q, hw => .scope (aH hng a f h _ hw)
  | .exit id, f, h, Q, hw => .exit hw
  | .ret, f, h, Q, hw => .ret hw
  | .loop _, f, h, Q, hw => hw
  | .rangeFunc _ _ _ _, f, h, Q, hw => hw
  | .goto _, f, h, Q, hw => hw
  | .refuse _, f, h, Q, hw => hw
end
end Go.Ev
namespace Go.Ev
open Go.RowKit

/-! steps, as equations -/
section
variable {A : Option Nat} {P : Program} {g : G} {K : bE}
theorem wp_region {i : Nat} {ops : Array Oper} {f : EFr} {h : H} {Q : bO} : wp A P g K (.region i ops false) f h Q = wpOps P g K ops (Q .normal) ops.toList f h := (rfl)
theorem wp_seq {a b : Code} {f : EFr} {h : H} {Q : bO} : wp A P g K (.seq a b) f h Q = wp A P g K a f h (seqQ (wp A P g K b) Q) := (rfl)
theorem wp_block {id : Nat} {a : Code} {f : EFr} {h : H} {Q : bO} : wp A P g K (.block id a) f h Q = wp A P g K a f h (blockQ id Q) := (rfl)
theorem wp_scope {a : Code} {f : EFr} {h : H} {Q : bO} : wp A P g K (.scope a) f h Q = wp A P g K a f h Q := (rfl)
theorem wp_exit {id : Nat} {f : EFr} {h : H} {Q : bO} : wp A P g K (.exit id) f h Q = Q (.exit id) f h := (rfl)
theorem wp_skip {f : EFr} {h : H} {Q : bO} : wp A P g K .skip f h Q = Q .normal f h := (rfl)
theorem wp_label {l : Nat} {f : EFr} {h : H} {Q : bO} : wp A P g K (.label l) f h Q = Q .normal f h := (rfl)
theorem wp_ret {f : EFr} {h : H} {Q : bO} : wp A P g K .ret f h Q = Q .ret f h := (rfl)
theorem wp_of_top {c : Code} {f : EFr} {h : H} {Q : bO} (H : Top A P g K (.loop c) f h Q) : wp A P g K (.loop c) f h Q := H
theorem wp_of_draw {i : Nat} {ops : Array Oper} {f : EFr} {h : H} {Q : bO} (H : Top A P g K (.region i ops true) f h Q) : wp A P g K (.region i ops true) f h Q := H
theorem wpStep_true {all : Array Oper} {Q : EFr → H → Prop} {o : Oper} {rest : List Oper} {f : EFr} {h : H} : wpStep P g K all Q o rest f h (some true) = wpOp P g K o f h (wpNext P g K all Q o.dst rest f) := (rfl)
theorem wpStep_false {all : Array Oper} {Q : EFr → H → Prop} {o : Oper} {rest : List Oper} {f : EFr} {h : H} : wpStep P g K all Q o rest f h (some false) = wpOps P g K all Q rest (f.putd o.dst undefE) h := (rfl)
def wpKc (k : EVal → H → Prop) (h : H) (c : Prop) : Option EVal → Prop
  | some v => k v h
  | none => c
theorem wpKc_some {k : EVal → H → Prop} {h : H} {c : Prop} {v : EVal} : wpKc k h c (some v) = k v h := (rfl)
theorem wpKc_none {k : EVal → H → Prop} {h : H} {c : Prop} : wpKc k h c none = c := (rfl)
theorem wpOut_val {nd : Bool} {h0 : H} {k : EVal → H → Prop} {h : H} {v : EVal} : wpOut P g K nd h0 k (some (.val v h)) = k v h := (rfl)
theorem wpOut_enter {nd : Bool} {h0 : H} {k : EVal → H → Prop} {h : H} {fn : FuncId} {args : List EVal} : wpOut P g K nd h0 k (some (.enter fn args h)) = wpKc k h (CallT P g K fn args h k) (aI P K h fn args) := by
  show (match aI P K h fn args with | some v => k v h | none => CallT P g K fn args h k) = _
  cases aI P K h fn args <;> rfl
theorem wpOut_yield {nd : Bool} {h0 : H} {k : EVal → H → Prop} {h : H} {id : Nat} {args : List EVal} : wpOut P g K nd h0 k (some (.yield id args h)) = RoundT P g K id args h k := (rfl)
theorem wpOut_none {nd : Bool} {h0 : H} {k : EVal → H → Prop} : wpOut P g K nd h0 k none = wpNd k h0 nd := (rfl)
theorem wpNd_true {k : EVal → H → Prop} {h : H} : wpNd k h true = ∀ q : Bool, k (.bool q) h := (rfl)
def aA : Op → Bool
  | .next _ false => true
  | _ => false
def wpOpB (P : Program) (g : G) (K : bE) (o : Oper) (f : EFr) (h : H) (k : EVal → H → Prop) : Bool → Prop
  | true => wpOp P g K o f h k
  | false => wpOut P g K (ndOp P f.tmps o) h k (eOp P g h f.tmps o)
theorem wpOp_eq {o : Oper} {f : EFr} {h : H} {k : EVal → H → Prop} : wpOp P g K o f h k = wpOpB P g K o f h k (aA o.op) := by
  unfold wpOpB
  split
  · rfl
  · rename_i hn
    unfold wpOp
    split
    · rename_i heq; rw [heq] at hn; cases hn
    · rfl
theorem wpOpB_false {o : Oper} {f : EFr} {h : H} {k : EVal → H → Prop} : wpOpB P g K o f h k false = wpOut P g K (ndOp P f.tmps o) h k (eOp P g h f.tmps o) := (rfl)
theorem wpCond_true {a b : Code} {f : EFr} {h : H} {Q : bO} : wpCond A P g K a b f h Q (some (.bool true)) = wp A P g K a f h Q := (rfl)
theorem wpCond_false {a b : Code} {f : EFr} {h : H} {Q : bO} : wpCond A P g K a b f h Q (some (.bool false)) = wp A P g K b f h Q := (rfl)
end

/-! views -/
section
variable {A : Option Nat} {P : Program} {f : EFr} {h : H}

theorem ofL_look {l : List (Nat × EVal)} {i : Nat} {v : EVal} (h : (T.ofL l).get i = some v) : (i, v) ∈ l := by
  induction l with
  | nil => cases T.get_full _ _ _ h
  | cons p l ih =>
    obtain ⟨j, u⟩ := p
    rcases T.get_set _ _ _ _ h with ⟨rfl, e⟩ | ⟨_, e⟩
    · cases e; exact List.mem_cons_self
    · exact List.mem_cons_of_mem _ (ih e)

/-- other words for the slots that are still wanted -/
theorem aF.slots {n : Nat} {l : List (Nat × EVal)} (hn : f.sz = n) (hd : f.defers = []) (hr : f.round = none)
    (hv : ∀ p ∈ l, f.tmps.get p.1 = some p.2) : aF A P f h (mkF n l) h := fun B0 W0 b t d ρ w F R => by
  refine ⟨ρ, Loc.leA_refl, ⟨by rw [F.size, hn]; rfl, fun i e he => F.tmps i e (hv _ (ofL_look he)), ?_, ?_⟩, R⟩
  · have := F.defers; rw [hd] at this; exact this
  · have := F.round; rw [hr] at this; exact this

theorem aF.sub {n : Nat} {l l2 : List (Nat × EVal)} (hv : ∀ p ∈ l2, p.1 < 1000 ∧ aL l p.1 = some p.2) : aF A P (mkF n l) h (mkF n l2) h :=
  aF.slots rfl rfl rfl fun p hp => by
    obtain ⟨h1, h2⟩ := hv p hp
    show (T.ofL l).get p.1 = _
    rw [T.get_ofL _ _ h1]; exact h2

def aV : Nat → List EVal → List (Nat × EVal)
  | _, [] => []
  | i, v :: l => (i, v) :: aV (i + 1) l

theorem initA_get : ∀ (l : List EVal) (i : Nat) (t : T EVal), (∀ j, j < 1000 → t.has j) → i + l.length < 1000 → (∀ p ∈ aV i l, (initA l i t).get p.1 = some p.2) ∧ (∀ j, j < i → (initA l i t).get j = t.get j)
  | [], _, _, _, _ => ⟨fun p hp => (by cases hp), fun _ _ => rfl⟩
  | v :: l, i, t, ht, hl => by
    have ht' : ∀ j, j < 1000 → (t.set i (some v)).has j := fun j hj => (T.has_set _ _ _ _).2 (ht j hj)
    simp only [List.length_cons] at hl
    obtain ⟨h1, h2⟩ := initA_get l (i + 1) (t.set i (some v)) ht' (by omega)
    refine ⟨fun p hp => ?_, fun j hj => ?_⟩
    · rcases List.mem_cons.1 hp with rfl | hp
      · show (initA l (i + 1) (t.set i (some v))).get i = some v
        rw [h2 i (by omega)]; exact T.get_set_same _ _ _ (ht i (by omega))
      · exact h1 p hp
    · show (initA l (i + 1) (t.set i (some v))).get j = _
      rw [h2 j (by omega), T.get_set_ne _ _ _ _ (by omega)]

theorem aF.start {fn : Func} {args : List EVal} {n : Nat} (hn : Nat.max fn.ntmps args.length = n) (hl : args.length < 1000) : aF A P (startFr fn args) h (mkF n (aV 0 args)) h :=
  aF.slots hn rfl rfl fun p hp => (initA_get args 0 _ (fun j hj => T.has_full _ _ _ (by omega)) (by omega)).1 p hp
end

/-- the end of a function, of a frame that is written out -/
theorem ends_mk {P : Program} {g : G} {fn : Func} {v : EVal} {n : Nat} {l : List (Nat × EVal)} {h : H} {e : EExit} (he : e = .ret ∨ e = .normal) (hr : ∃ es, resultsE P g h (T.ofL l) fn.results.toList = some es ∧ keepV (one es) = some v) : Ends P g fn v e (mkF n l) h := by
  obtain ⟨es, h1, h2⟩ := hr
  refine ⟨by rcases he with rfl | rfl <;> trivial, h, es, rfl, h1, h2⟩

theorem aJ {P : Program} {g : G} {fn : Func} {v : EVal} {n : Nat} {l : List (Nat × EVal)} {h : H} {e : EExit} (he : e = .ret ∨ e = .normal) (hr : (resultsE P g h (T.ofL l) fn.results.toList).bind (fun es => keepV (one es)) = some v) : Ends P g fn v e (mkF n l) h := by
  cases hq : resultsE P g h (T.ofL l) fn.results.toList with
  | none => rw [hq] at hr; cases hr
  | some es => exact ends_mk he ⟨es, hq, by rw [hq] at hr; exact hr⟩

theorem wpStep_not {P : Program} {g : G} {K : bE} {all : Array Oper} {Q : EFr → H → Prop} {o : Oper} {rest : List Oper} {f : EFr} {h : H} {q : Bool} (h1 : q = false → wpStep P g K all Q o rest f h (some true)) (h2 : q = true → wpStep P g K all Q o rest f h (some false)) :
    wpStep P g K all Q o rest f h (some !q) := by
  cases q with
  | true => exact h2 rfl
  | false => exact h1 rfl
theorem wpCond_not {A : Option Nat} {P : Program} {g : G} {K : bE} {a b : Code} {f : EFr} {h : H} {Q : bO} {q : Bool} (h1 : q = false → wp A P g K a f h Q) (h2 : q = true → wp A P g K b f h Q) : wpCond A P g K a b f h Q (some (.bool !q)) := by
  cases q with
  | true => exact h2 rfl
  | false => exact h1 rfl
theorem aR {P : Program} {f : FuncId} {fn : Func} {h : H} {args : List EVal} (hf : P.funcs[f]? = some fn) (hb : fn.body.isNone = false) : aU P h f args = some (.enter f args h) := by
  unfold aU
  rw [hf]
  simp [hb]
theorem grow_of {P : Program} {e : TypeId} {sz bytes need : Nat} {z : List EVal} (hz : zeroE P e = some z) (h1 : z.length = sz) (h2 : 1 ≤ bytes) : growOK P e sz bytes need = decide (bytes * need ≤ 1000000) := by
  unfold growOK
  rw [hz]
  simp only
  rw [Bool.eq_iff_iff]
  simp [h1, h2]
theorem ev_tmp {t : T EVal} {i : Nat} : ev t (.tmp i) = t.get i := (rfl)
theorem ev_int {t : T EVal} {k : IntKind} {n : Int} : ev t (.const (.int k n)) = some (.int k n) := (rfl)
theorem ev_bool {t : T EVal} {b : Bool} : ev t (.const (.bool b)) = some (.bool b) := (rfl)
theorem ev_str {t : T EVal} {s : ByteArray} : ev t (.const (.string s)) = some (.str (s.data.toList.map UInt8.toNat)) := (rfl)
theorem ev_nils {t : T EVal} : ev t (.const (.slice none 0 0)) = some .nilslice := (rfl)
theorem ev_nilp {t : T EVal} : ev t (.const (.pointer none)) = some .nilp := (rfl)
theorem ev_nilm {t : T EVal} : ev t (.const (.map none)) = some .nilmap := (rfl)
theorem ev_nilf {t : T EVal} : ev t (.const .nilFunc) = some .nilfunc := (rfl)
theorem ev_func {t : T EVal} {f : FuncId} : ev t (.func f) = some (.func f []) := (rfl)
theorem ev_glob {t : T EVal} {i : Nat} : ev t (.global i) = some (.gptr i 0) := (rfl)
theorem ev_agg {t : T EVal} {cs : Array Value} : ev t (.const (.agg cs)) = (absCells absCell cs.toList).map .agg := by
  show (match absCells absCell cs.toList with | some l => some (EVal.agg l) | none => none) = _
  cases absCells absCell cs.toList <;> rfl
theorem some_beq (a b : Bool) : (some a == some b) = (a == b) := by cases a <;> cases b <;> rfl
theorem bne_not {α : Type} [BEq α] (a b : α) : (a != b) = !(a == b) := rfl
theorem none_beq (b : Bool) : ((none : Option Bool) == some b) = false := by cases b <;> rfl
theorem beq_t (a : Bool) : (a == true) = a := by cases a <;> rfl
theorem beq_f (a : Bool) : (a == false) = !a := by cases a <;> rfl
theorem wpNext_q {P : Program} {g : G} {K : bE} {all : Array Oper} {Q : EFr → H → Prop} {dst : Option Tmp} {rest : List Oper} {f : EFr} {v : EVal} {h : H} : wpNext P g K all Q dst rest f v h = wpOps P g K all Q rest (f.putd dst v) h := (rfl)
end Go.Ev
namespace Go.Ev
open Go.RowKit

/-! memories as lists -/
section
variable {α : Type}
noncomputable def T.ofG (n : Nat) (l : List (Nat × Option α)) : T α := l.foldr (fun p t => t.set p.1 p.2) (T.full none n)
def aB : List (Nat × Option α) → Nat → Option α
  | [], _ => none
  | (j, v) :: l, i => if j = i then v else aB l i

theorem T.has_ofG (n : Nat) (l : List (Nat × Option α)) (i : Nat) (h : i + 1 < 2 ^ n) : (T.ofG n l).has i := by
  induction l with
  | nil => exact T.has_full _ _ _ h
  | cons p l ih => exact (T.has_set _ _ _ _).2 ih

theorem T.get_ofG (n : Nat) (l : List (Nat × Option α)) (i : Nat) (h : i + 1 < 2 ^ n) : (T.ofG n l).get i = aB l i := by
  induction l with
  | nil =>
    cases hq : (T.full (none : Option α) n).get i with
    | none => exact hq
    | some e => cases T.get_full _ _ _ hq
  | cons p l ih =>
    obtain ⟨j, v⟩ := p
    show (T.set (T.ofG n l) j v).get i = aB ((j, v) :: l) i
    unfold aB
    split
    · rename_i e; subst e; exact T.get_set_same _ _ _ (T.has_ofG n l _ h)
    · rename_i e; rw [T.get_set_ne _ _ _ _ (Ne.symm e)]; exact ih

theorem T.ofG_mem {n : Nat} {l : List (Nat × Option α)} {i : Nat} {v : α} (h : (T.ofG n l).get i = some v) : (i, some v) ∈ l := by
  induction l with
  | nil => cases T.get_full _ _ _ h
  | cons p l ih =>
    obtain ⟨j, u⟩ := p
    rcases T.get_set _ _ _ _ h with ⟨rfl, e⟩ | ⟨_, e⟩
    · rw [← e]; exact List.mem_cons_self
    · exact List.mem_cons_of_mem _ (ih e)
end

noncomputable def mkH (n : Nat) (l : List (Nat × Option EObj)) (m : Nat) (k : List (Nat × Option (Nat × TypeId))) : H := ⟨n, T.ofG 14 l, m, T.ofG 8 k⟩
theorem H.start_mk : H.start = mkH 0 [] 0 [] := rfl
section
variable {n m : Nat} {l : List (Nat × Option EObj)} {k : List (Nat × Option (Nat × TypeId))}
theorem mkH_new {o : EObj} : (mkH n l m k).new o = mkH (n + 1) ((n, some o) :: l) m k := rfl
theorem mkH_put {id : Nat} {o : EObj} : (mkH n l m k).put id o = mkH n ((id, some o) :: l) m k := rfl
theorem mkH_kill {id : Nat} : (mkH n l m k).kill id = mkH n ((id, none) :: l) m k := rfl
theorem mkH_tok {id q : Nat} {e : TypeId} : (mkH n l m k).tok id q e = mkH n l m ((id, some (q, e)) :: k) := rfl
theorem mkH_get {id : Nat} (h : id < 16000) : (mkH n l m k).get id = aB l id := T.get_ofG 14 l id (by omega)
theorem mkH_k {id : Nat} (h : id < 250) : (mkH n l m k).k.get id = aB k id := T.get_ofG 8 k id (by omega)
theorem mkH_n : (mkH n l m k).n = n := rfl
end

/-! what speaks of no number from N on -/
mutual
def below (N : Nat) : EVal → Bool
  | .ptr id _ => Nat.blt id N
  | .slice id _ _ _ => Nat.blt id N
  | .map id => Nat.blt id N
  | .yieldf id => Nat.blt id N
  | .func _ cs => aD N cs
  | .iface _ v => below N v
  | .agg l => aD N l
  | .tup l => aD N l
  | _ => true
def aD (N : Nat) : List EVal → Bool
  | [] => true
  | v :: l => below N v && aD N l
end

def aG (N : Nat) : EObj → Bool
  | .row cells _ _ _ _ => aD N cells
  | .map es _ => es.all fun e => below N e.1 && below N e.2.1
  | .iter _ _ => true
  | .miter m _ _ _ => Nat.blt m N
  | .deferred _ => true
  | _ => false
/-- an object speaks of no number from N on -/
def okO (N : Nat) (o : EObj) : Prop := aG N o = true ∨ ∃ st pend n t ps a b d, o = .loop st pend n t ps a b d ∧ ∀ i e, t.get i = some e → below N e = true
/-- a frame, with what its loops have deferred, and the loop of which it is a round -/
noncomputable def mkD (n : Nat) (l : List (Nat × EVal)) (ds : List Nat) (r : Option Nat) : EFr := ⟨n, T.ofL l, ds, r⟩

def Loc.cut (ρ : Loc) (N : Nat) : Loc := { ρ with own := fun id => if id < N then ρ id else none }

theorem cut_own {ρ : Loc} {N id : Nat} {x : Nat × Nat} (hb : Nat.blt id N = true) (h : ρ id = some x) : (ρ.cut N) id = some x := by
  show (if id < N then ρ id else none) = some x
  rw [if_pos (by simpa using hb)]; exact h

mutual
theorem VRel.cut {ρ : Loc} {N : Nat} : ∀ {e : EVal} {v : Value}, VRel ρ e v → below N e = true → VRel (ρ.cut N) e v
  | _, _, .unk k n, _ => .unk k n
  | _, _, .bool b, _ => .bool b
  | _, _, .int k n, _ => .int k n
  | _, _, .str l s h, _ => .str l s h
  | _, _, .nilp, _ => .nilp
  | _, _, .gptr g o, _ => .gptr g o
  | _, _, .ptr id o b C h, hb => .ptr id o b C (cut_own hb h)
  | _, _, .nilslice, _ => .nilslice
  | _, _, .slice id o n c b C h, hb => .slice id o n c b C (cut_own hb h)
  | _, _, .slack id o n s c b C h hc hn, hb => .slack id o n s c b C (cut_own hb h) hc hn
  | _, _, .nilmap, _ => .nilmap
  | _, _, .map id b C h, hb => .map id b C (cut_own hb h)
  | _, _, .func f cs vs h, hb => .func f cs vs (VsRel.cut h hb)
  | _, _, .yieldf id b C h, hb => .yieldf id b C (cut_own hb h)
  | _, _, .nilfunc, _ => .nilfunc
  | _, _, .iface t e v h, hb => .iface t e v (VRel.cut h hb)
  | _, _, .nilif, _ => .nilif
  | _, _, .agg l cs h, hb => .agg l cs (VsRel.cut h hb)
  | _, _, .tup l cs h, hb => .tup l cs (VsRel.cut h hb)
  | _, _, .lsl els us b o c sz pre rest hf hs hw ho hz hc, _ => .lsl els us b o c sz pre rest hf hs hw ho hz hc
  | _, _, .lsl0 p c, _ => .lsl0 p c
  | _, _, .lsln, _ => .lsln
  | _, _, .lptr cells off us b base pre rest hf hs hw ho, _ => .lptr cells off us b base pre rest hf hs hw ho
  | _, _, .gnil id ht, _ => .gnil id ht
  | _, _, .gsl id els us b C sz pre rest ht hf hs hw hz hc, _ => .gsl id els us b C sz pre rest ht hf hs hw hz hc
theorem VsRel.cut {ρ : Loc} {N : Nat} : ∀ {es : List EVal} {vs : List Value}, VsRel ρ es vs → aD N es = true → VsRel (ρ.cut N) es vs
  | _, _, .nil, _ => .nil
  | _, _, .cons e v es vs h hs, hb => by
    simp only [aD, Bool.and_eq_true] at hb
    exact .cons e v es vs (VRel.cut h hb.1) (VsRel.cut hs hb.2)
end

section
variable {P : Program} {B0 : Nat} {W0 : Base}

theorem roundNone {ρ ρ' : Loc} {x : Option Nat} (h : RoundRel ρ none x) : RoundRel ρ' none x := by
  cases x with
  | none => trivial
  | some l => exact h.elim

theorem MRel.cut {ρ : Loc} {N : Nat} {es : List (EVal × EVal × Nat)} {ms : List MapEntry} (hb : (es.all fun e => Go.Ev.below N e.1 && Go.Ev.below N e.2.1) = true) (h : MRel ρ es ms) : MRel (ρ.cut N) es ms := by
  induction h with
  | nil => exact .nil
  | cons k v t es m ms hk hv hbn h ih =>
    simp only [List.all_cons, Bool.and_eq_true] at hb
    exact .cons k v t es m ms (hk.cut hb.1.1) (hv.cut hb.1.2) hbn (ih hb.2)

theorem ORel.cut {ρ : Loc} {N : Nat} {o : EObj} {C : Nat} {x : Option Obj} (hb : aG N o = true) (h : ORel P ρ o C x) : ORel P (ρ.cut N) o C x := by
  cases o with
  | row cells e lo hi sl => obtain ⟨cs, h1, h2, h3, h4⟩ := h; exact ⟨cs, h1, h2.cut hb, h3, h4⟩
  | map es clock => obtain ⟨m, h1, h2⟩ := h; exact ⟨m, h1, h2.cut hb⟩
  | miter m since seen stepped => obtain ⟨b, C, h1, h2⟩ := h; exact ⟨b, C, cut_own hb h1, h2⟩
  | iter l pos => exact h
  | loop st pend sz t ps a b d => cases hb
  | deferred tk => exact h
theorem ORel.cut' {ρ : Loc} {N : Nat} {o : EObj} {C : Nat} {x : Option Obj} (hb : okO N o) (h : ORel P ρ o C x) : ORel P (ρ.cut N) o C x := by
  rcases hb with hb | ⟨st, pend, n, t, ps, a, b, d, rfl, hb⟩
  · exact h.cut hb
  · obtain ⟨L, h1, h2, h3, h4, h5, h6⟩ := h; exact ⟨L, h1, h2, h3, h4, fun i e he => (h5 i e he).cut (hb i e he), h6⟩
theorem DRel.cut {ρ : Loc} {N : Nat} {l : List Nat} {ds : List Deferred} (h : DRel ρ l ds) (hb : ∀ i ∈ l, i < N) : DRel (ρ.cut N) l ds := by
  induction h with
  | nil => exact .nil
  | cons id b C l ds h hs ih => exact .cons _ _ C _ _ (cut_own (by simpa using hb id List.mem_cons_self) h) (ih fun i hi => hb i (List.mem_cons_of_mem _ hi))

/-- Slots and objects that are no longer wanted are dropped, with their numbers. -/
theorem aF.dropD {A : Option Nat} {s n N m : Nat} {ds : List Nat} {r : Option Nat} {fl fl2 : List (Nat × EVal)} {l l2 : List (Nat × Option EObj)} {k k2 : List (Nat × Option (Nat × TypeId))}
    (hA : ∀ q, A = some q → q ≤ N) (hds : ∀ i ∈ ds, i < N) (hr : ∀ i, r = some i → i < N) (hf : ∀ p ∈ fl2, p.1 < 1000 ∧ aL fl p.1 = some p.2 ∧ below N p.2 = true) (hl : ∀ p ∈ l2, p.1 < 16000 ∧ p.1 < N ∧ ∃ o, p.2 = some o ∧ aB l p.1 = some o ∧ okO N o)
    (hk : ∀ p ∈ k2, p.1 < 250 ∧ ∃ x, p.2 = some x ∧ aB k p.1 = some x) :
    aF A P (mkD s fl ds r) (mkH n l m k) (mkD s fl2 ds r) (mkH N l2 m k2) := by
  intro B0 W0 b t d ρ w F R
  have hkget : ∀ id x, (mkH N l2 m k2).k.get id = some x → (mkH n l m k).k.get id = some x := by
    intro id x hg
    obtain ⟨h1, x', h2, h3⟩ := hk _ (T.ofG_mem hg)
    simp only [Option.some.injEq] at h2
    subst h2
    rw [mkH_k h1]; exact h3
  have hget : ∀ id o, (mkH N l2 m k2).get id = some o → id < N ∧ (mkH n l m k).get id = some o ∧ okO N o := by
    intro id o hg
    obtain ⟨h1, h2, o', h3, h4, h5⟩ := hl _ (T.ofG_mem hg)
    simp only [Option.some.injEq] at h3
    subst h3
    exact ⟨h2, by rw [mkH_get h1]; exact h4, h5⟩
  have hown : ∀ {id x}, (ρ.cut N) id = some x → ρ id = some x := by
    intro id x hx
    have : (if id < N then ρ id else none) = some x := hx
    split at this
    · exact this
    · cases this
  refine ⟨ρ.cut N, fun q hq => ⟨fun id x hid hx => ?_, fun b pre hb => ⟨[], by rw [List.append_nil]; exact hb⟩, fun _ _ _ h => h⟩, ⟨F.size, fun i e he => ?_, F.defers.cut hds, ?_⟩, ?_⟩
  · show (if id < N then ρ id else none) = _
    rw [if_pos (by have := hA q hq; omega)]; exact hx
  · obtain ⟨h1, h2, h3⟩ := hf _ (ofL_look he)
    exact (F.tmps i e (by show (T.ofL fl).get i = _; rw [T.get_ofL _ _ h1]; exact h2)).cut h3
  · have := F.round
    cases r with
    | none => exact roundNone this
    | some i =>
      generalize b.roundOf = x at this ⊢
      cases x with
      | none => exact this.elim
      | some l => obtain ⟨C, hC⟩ := this; exact ⟨C, cut_own (by simpa using hr i rfl) hC⟩
  · refine ⟨R.below, R.base, fun id hid => ?_, fun id b' C hb' => R.lo id b' C (hown hb'), fun i j o1 o2 b' C C' g1 g2 r1 r2 => R.inj i j o1 o2 b' C C' (hget _ _ g1).2.1 (hget _ _ g2).2.1 (hown r1) (hown r2), fun id o hg => ?_, R.fz,
      fun b' pre hb' id C o hg hr => R.free b' pre hb' id C o (hget _ _ hg).2.1 (hown hr), R.fz0, R.mdom, fun id q e hk => ?_, fun id q e hk => R.tnew id q e (hkget _ _ hk), fun i1 n1 e1 i2 n2 e2 b1 C1 C2 h1 h2 => R.tinj i1 n1 e1 i2 n2 e2 b1 C1 C2 (hkget _ _ h1) (hkget _ _ h2)⟩
    · have hid : N ≤ id := hid
      show (if id < N then ρ id else none) = none
      rw [if_neg (by omega)]
    · obtain ⟨h1, h2, h3⟩ := hget _ _ hg
      obtain ⟨b', C, hb', r⟩ := R.objs _ _ h2
      exact ⟨b', C, cut_own (by simpa using h1) hb', r.cut' h3⟩
    · obtain ⟨x, h1, h2⟩ := R.toks id q e (hkget _ _ hk)
      exact ⟨x, h1, fun b' C hx => (h2 b' C hx).keep rfl rfl⟩

theorem aF.drop {A : Option Nat} {s n N m : Nat} {fl fl2 : List (Nat × EVal)} {l l2 : List (Nat × Option EObj)} {k k2 : List (Nat × Option (Nat × TypeId))}
    (hf : ∀ p ∈ fl2, p.1 < 1000 ∧ aL fl p.1 = some p.2 ∧ below N p.2 = true) (hl : ∀ p ∈ l2, p.1 < 16000 ∧ p.1 < N ∧ ∃ o, p.2 = some o ∧ aB l p.1 = some o ∧ aG N o = true)
    (hk : ∀ p ∈ k2, p.1 < 250 ∧ ∃ x, p.2 = some x ∧ aB k p.1 = some x) (hA : ∀ q, A = some q → q ≤ N := by first | (intro _ h; cases h; done) | (intro q h; cases h; omega)) :
    aF A P (mkF s fl) (mkH n l m k) (mkF s fl2) (mkH N l2 m k2) :=
  aF.dropD (ds := []) (r := none) hA (fun _ h => by cases h) (fun _ h => by cases h) hf (fun p hp => by obtain ⟨h1, h2, o, h3, h4, h5⟩ := hl p hp; exact ⟨h1, h2, o, h3, h4, .inl h5⟩) hk

/-- A slice that is nil, and grows from here on. -/
theorem aF.growD {A : Option Nat} {s n m : Nat} {ds : List Nat} {r : Option Nat} {fl : List (Nat × EVal)} {l : List (Nat × Option EObj)} {k : List (Nat × Option (Nat × TypeId))} (i : Nat) (e : TypeId) (hi : i < 1000) (hm : m < 250) (h : aL fl i = some .nilslice) :
    aF A P (mkD s fl ds r) (mkH n l m k) (mkD s ((i, .gsl m []) :: fl) ds r) (mkH n l (m + 1) ((m, some (0, e)) :: k)) := by
  intro B0 W0 b t d ρ w F R
  have hm0 : ∀ q, ρ.tau m q = none := fun q => R.mdom m q (Nat.le_refl _)
  let ρ2 : Loc := { ρ with tau := fun id q => if id = m then (if q = 0 then some none else none) else ρ.tau id q }
  have hle : ρ.le ρ2 := ⟨fun _ _ h => h, fun b pre h => ⟨[], by simpa using h⟩, fun id q x hx => by
    show (if id = m then (if q = 0 then some none else none) else ρ.tau id q) = some x
    rw [if_neg]; exact hx
    rintro rfl; rw [hm0] at hx; cases hx⟩
  have htau : ∀ id q, ρ2.tau id q = if id = m then (if q = 0 then some none else none) else ρ.tau id q := fun _ _ => rfl
  have hget : ∀ id q e', (mkH n l (m + 1) ((m, some (0, e)) :: k)).k.get id = some (q, e') → (id = m ∧ q = 0 ∧ e' = e) ∨ (id ≠ m ∧ (mkH n l m k).k.get id = some (q, e')) := by
    intro id q e' hg
    rcases T.get_set _ _ _ _ hg with ⟨a, b⟩ | ⟨a, b⟩
    · cases b; exact .inl ⟨a, rfl, rfl⟩
    · exact .inr ⟨a, b⟩
  refine ⟨ρ2, Loc.leA_of hle, ⟨F.size, fun j v hv => ?_, F.defers.mono hle, (FRel.mono hle F).round⟩, ?_⟩
  · rcases T.get_set _ _ _ _ hv with ⟨rfl, hv⟩ | ⟨_, hv⟩
    · cases hv
      have := F.tmps j _ (by show (T.ofL fl).get j = _; rw [T.get_ofL _ _ hi]; exact h)
      generalize t.getD j undef = u at this
      cases this
      exact .gnil m (by rw [htau]; simp)
    · exact (F.tmps j v hv).mono hle
  · refine ⟨R.below, R.base, R.dom, R.lo, R.inj, fun id o hg => ?_, R.fz, R.free, R.fz0, fun id q hid => ?_, fun id q e' hk => ?_, fun id q e' hk q' hq => ?_, fun i1 n1 e1 i2 n2 e2 b1 C1 C2 h1 h2 t1 t2 => ?_⟩
    · obtain ⟨b', C, hb', r⟩ := R.objs _ _ hg
      exact ⟨b', C, hb', r.mono hle⟩
    · have hid : m + 1 ≤ id := hid
      rw [htau, if_neg (by omega)]
      exact R.mdom id q (by show m ≤ id; omega)
    · rcases hget _ _ _ hk with ⟨rfl, rfl, rfl⟩ | ⟨hne, hk⟩
      · exact ⟨none, by rw [htau]; simp, fun _ _ hx => by cases hx⟩
      · obtain ⟨x, h1, h2⟩ := R.toks id q e' hk
        exact ⟨x, by rw [htau, if_neg hne]; exact h1, fun b' C hx => (h2 b' C hx).keep rfl rfl⟩
    · rcases hget _ _ _ hk with ⟨rfl, rfl, rfl⟩ | ⟨hne, hk⟩
      · rw [htau, if_pos rfl, if_neg (by omega)]
      · rw [htau, if_neg hne]; exact R.tnew _ _ _ hk _ hq
    · rcases hget _ _ _ h1 with ⟨rfl, rfl, rfl⟩ | ⟨hne1, g1⟩
      · rw [htau] at t1; simp at t1
      · rcases hget _ _ _ h2 with ⟨rfl, rfl, rfl⟩ | ⟨hne2, g2⟩
        · rw [htau] at t2; simp at t2
        · rw [htau, if_neg hne1] at t1
          rw [htau, if_neg hne2] at t2
          exact R.tinj _ _ _ _ _ _ _ _ _ g1 g2 t1 t2

theorem aF.grow {A : Option Nat} {s n m : Nat} {fl : List (Nat × EVal)} {l : List (Nat × Option EObj)} {k : List (Nat × Option (Nat × TypeId))} (i : Nat) (e : TypeId) (hi : i < 1000) (hm : m < 250) (h : aL fl i = some .nilslice) :
    aF A P (mkF s fl) (mkH n l m k) (mkF s ((i, .gsl m []) :: fl)) (mkH n l (m + 1) ((m, some (0, e)) :: k)) := aF.growD (ds := []) (r := none) i e hi hm h

/-- A slice that grew is kept for good. -/
theorem aF.keepD {A : Option Nat} {s : Nat} {ds : List Nat} {r : Option Nat} {fl : List (Nat × EVal)} {h : H} {m : Nat} {els : List (List EVal)} (i : Nat) (hi : i < 1000) (hl : aL fl i = some (.gsl m els)) :
    aF A P (mkD s fl ds r) h (mkD s ((i, .lsl els) :: fl) ds r) h := by
  intro B0 W0 b t d ρ w F R
  refine ⟨ρ, Loc.leA_refl, ⟨F.size, fun j v hv => ?_, F.defers, F.round⟩, R⟩
  rcases T.get_set _ _ _ _ hv with ⟨rfl, hv⟩ | ⟨_, hv⟩
  · cases hv
    exact (F.tmps j _ (by show (T.ofL fl).get j = _; rw [T.get_ofL _ _ hi]; exact hl)).unG
  · exact F.tmps j v hv
theorem aF.keep {A : Option Nat} {s : Nat} {fl : List (Nat × EVal)} {h : H} {m : Nat} {els : List (List EVal)} (i : Nat) (hi : i < 1000) (hl : aL fl i = some (.gsl m els)) :
    aF A P (mkF s fl) h (mkF s ((i, .lsl els) :: fl)) h := aF.keepD (ds := []) (r := none) i hi hl
end
end Go.Ev

namespace Go.Ev
open Go.RowKit
/-- A slice of plain elements that grew, and that nobody else looks at, is one's own row again. -/
theorem aF.own {P : Program} {s n m : Nat} {fl fl2 : List (Nat × EVal)} {l : List (Nat × Option EObj)} {k : List (Nat × Option (Nat × TypeId))} {els : List (List EVal)} {e : TypeId} {ti : TypeInfo} (i id : Nat) (hi : i < 1000) (hid : id < 250) (hn : n < 16000) (hne : els ≠ [])
    (hl : aL fl i = some (.gsl id els)) (hk : aB k id = some (els.length, e)) (hti : P.info? e = some ti) (hlens : lensOK ti.size els = true) (hflat : flatL els.flatten = true)
    (hf : ∀ p ∈ fl2, p.1 < 1000 ∧ aL fl p.1 = some p.2 ∧ flat p.2 = true) :
    aF none P (mkF s fl) (mkH n l m k) (mkF s ((i, .slice n 0 els.length (.slack 0)) :: fl2)) (mkH (n + 1) [(n, some (.row els.flatten e 0 0 true))] 0 []) := by
  intro B0 W0 b t d ρ w F R
  have hv := F.tmps i _ (by show (T.ofL fl).get i = _; rw [T.get_ofL _ _ hi]; exact hl)
  have hk' : (mkH n l m k).k.get id = some (els.length, e) := by rw [mkH_k hid]; exact hk
  generalize hq : t.getD i undef = u at hv
  cases hv with
  | gnil _ _ => exact absurd rfl hne
  | gsl _ _ us blk C sz pre rest ht hfro hs hw hz hc =>
  obtain ⟨x, hx1, hx2⟩ := R.toks _ _ _ hk'
  rw [ht] at hx1; cases hx1
  obtain ⟨hB, cs, ti', pre', hcs, hti', hcsz, hpre', hpl⟩ := hx2 blk C rfl
  rw [hti] at hti'; cases hti'
  rw [hfro] at hpre'; cases hpre'
  have hsz : ti.size = sz := (VssRel.lens hs hz hlens).resolve_left hne
  obtain ⟨cs', e', m', hcs2, more, hcm⟩ := R.fz _ _ hfro
  rw [hcs] at hcs2; cases hcs2
  let ρ2 : Loc := ⟨fun q => if q = n then some (blk, C) else none, fun q => if q = blk then none else ρ.fro q, fun _ _ => none⟩
  have hown : ∀ q, ρ2 q = if q = n then some (blk, C) else none := fun _ => rfl
  have hrow : VsRel ρ2 els.flatten (cs.toList.take els.flatten.length) := by
    have h1 := (VssRel.flatten hs).flat hflat
    have h2 : cs.toList.take els.flatten.length = us.flatten := by
      rw [h1.length, hcm, hw, List.append_assoc]
      exact List.take_left' rfl
    rw [h2]
    exact h1.mono (none_le _)
  refine ⟨ρ2, Loc.leA_none, ⟨F.size, fun j v hv => ?_, F.defers |> fun h => by cases h; exact .nil, roundNone F.round⟩, ?_⟩
  · rcases T.get_set _ _ _ _ hv with ⟨rfl, hv⟩ | ⟨_, hv⟩
    · cases hv
      rw [hq]
      exact .slack n 0 els.length 0 C blk C (by rw [hown]; simp) (by omega) hc
    · obtain ⟨h1, h2, h3⟩ := hf _ (ofL_look hv)
      have := F.tmps j v (by show (T.ofL fl).get j = _; rw [T.get_ofL _ _ h1]; exact h2)
      exact (this.flat h3).mono (none_le _)
  · have hget : ∀ q o, (mkH (n + 1) [(n, some (.row els.flatten e 0 0 true))] 0 []).get q = some o → q = n ∧ o = .row els.flatten e 0 0 true := by
      intro q o hg
      have := T.ofG_mem hg
      simp only [List.mem_singleton, Prod.mk.injEq, Option.some.injEq] at this
      exact this
    refine ⟨R.below, R.base, fun q hq => ?_, fun q b' C' hb' => ?_, fun q1 q2 o1 o2 b' C1 C2 g1 g2 _ _ => ?_, fun q o hg => ?_, fun b' p hb' => ?_, fun b' p hb' q C' o hg hr => ?_, fun b' hb' => ?_, fun _ _ _ => rfl, fun q n' e' hk => ?_, fun q n' e' hk => ?_, fun q n' e' q2 n2 e2 b' C1 C2 hk => ?_⟩
    · have : n + 1 ≤ q := hq
      rw [hown, if_neg (by omega)]
    · rw [hown] at hb'
      split at hb'
      · cases hb'
        exact ⟨hB, (Array.getElem?_eq_some_iff.1 hcs).1⟩
      · cases hb'
    · rw [(hget _ _ g1).1, (hget _ _ g2).1]
    · obtain ⟨rfl, rfl⟩ := hget _ _ hg
      exact ⟨blk, C, by rw [hown]; simp, cs, hcs, hrow, (fun h => by cases h), (fun _ => ⟨ti, hti, hcsz⟩)⟩
    · have : (if b' = blk then none else ρ.fro b') = some p := hb'
      split at this
      · cases this
      · exact R.fz b' p this
    · rw [hown] at hr
      split at hr
      · cases hr
        have : (if blk = blk then none else ρ.fro blk) = some p := hb'
        simp at this
      · cases hr
    · show (if b' = blk then none else ρ.fro b') = _
      rw [if_neg (by omega)]; exact R.fz0 b' hb'
    · exact absurd (T.ofG_mem hk) (by simp)
    · exact absurd (T.ofG_mem hk) (by simp)
    · exact absurd (T.ofG_mem hk) (by simp)
end Go.Ev

namespace Go.Ev
open Go.RowKit
/-- A row of one's own is kept for good. -/
theorem aF.freeze {P : Program} {s n m sz len : Nat} {fl fl2 : List (Nat × EVal)} {l : List (Nat × Option EObj)} {k : List (Nat × Option (Nat × TypeId))} {cells cells' : List EVal} {e : TypeId} {lo hi : Nat} {sl : Bool} {cap : ECap} (i id : Nat) (hi' : i < 1000) (hid : id < 16000)
    (hl : aL fl i = some (.slice id 0 len cap)) (hg : aB l id = some (.row cells e lo hi sl)) (hcap : capOK len cap = true) (hk : keepL cells = some cells') (hlen : cells'.length = len * sz)
    (hf : ∀ p ∈ fl2, p.1 < 1000 ∧ aL fl p.1 = some p.2 ∧ keepV p.2 = some p.2) :
    aF none P (mkF s fl) (mkH n l m k) (mkF s ((i, .lsl (bF sz len cells')) :: fl2)) (mkH n [] m []) := by
  intro B0 W0 b t d ρ w F R
  have hv := F.tmps i _ (by show (T.ofL fl).get i = _; rw [T.get_ofL _ _ hi']; exact hl)
  have hg' : (mkH n l m k).get id = some (.row cells e lo hi sl) := by rw [mkH_get hid]; exact hg
  obtain ⟨blk, C, hb, cs, hw, hrel, _⟩ := R.objs _ _ hg'
  obtain ⟨h2, _⟩ := keepL_sound hrel hk
  obtain ⟨uss, c1, c2, c3, c4⟩ := chunk_rel sz len cells' _ h2 hlen
  let ρ2 : Loc := ⟨fun _ => none, fun q => if q = blk then some cs.toList else ρ.fro q, fun _ _ => none⟩
  have hlt := R.lo _ _ _ hb
  have hfz : ρ.fz.le ρ2 := by
    refine ⟨fun _ _ h => (by cases h), fun q pre hq => ?_, fun _ _ _ h => (by cases h)⟩
    have hq' : ρ.fro q = some pre := hq
    by_cases e : q = blk
    · subst e; exact absurd hb (R.free q pre hq' _ _ _ hg')
    · exact ⟨[], by show (if q = blk then some cs.toList else ρ.fro q) = _; rw [if_neg e, List.append_nil]; exact hq'⟩
  have hval : VRel ρ2 (.lsl (bF sz len cells')) (t.getD i undef) := by
    generalize t.getD i undef = u at hv
    have key : ∀ c', len ≤ c' → VRel ρ2 (.lsl (bF sz len cells')) (.slice (some ⟨blk, 0, none⟩) len c') := by
      intro c' hc
      have hcl : (bF sz len cells').length = len := chunk_length _ _ _
      have := VRel.lsl (ρ := ρ2) (bF sz len cells') uss blk 0 c' sz cs.toList (cs.toList.drop cells.length) (by show (if blk = blk then _ else _) = _; simp) (c1.mono ⟨hfz.own, hfz.fro, hfz.tau⟩)
        (by rw [List.drop_zero, c2, List.take_append_drop]) (Nat.zero_le _) c3 (by rw [hcl]; exact hc)
      rw [hcl] at this
      exact this
    cases hv with
    | slice _ _ _ c b' C' hb' => rw [hb] at hb'; cases hb'; exact key _ (by simpa [capOK] using hcap)
    | slack _ _ _ _ c b' C' hb' hc hn => rw [hb] at hb'; cases hb'; exact key _ hn
  refine ⟨ρ2, Loc.leA_none, ⟨F.size, fun j v hv => ?_, F.defers |> fun h => by cases h; exact .nil, roundNone F.round⟩, ?_⟩
  · rcases T.get_set _ _ _ _ hv with ⟨rfl, hv⟩ | ⟨_, hv⟩
    · cases hv; exact hval
    · obtain ⟨h1, h3, h4⟩ := hf _ (ofL_look hv)
      have := F.tmps j v (by show (T.ofL fl).get j = _; rw [T.get_ofL _ _ h1]; exact h3)
      exact (keepV_sound this h4).mono hfz
  · have hget : ∀ q o, ¬ (mkH n [] m []).get q = some o := fun q o hg => by have := T.ofG_mem hg; simp at this
    have hkk : ∀ q x, ¬ (mkH n [] m []).k.get q = some x := fun q o hg => by have := T.ofG_mem hg; simp at this
    refine ⟨R.below, R.base, fun _ _ => rfl, fun q b' C' hb' => (by cases hb'), fun q1 q2 o1 o2 b' C1 C2 g1 _ _ _ => (hget _ _ g1).elim, fun q o hg => (hget _ _ hg).elim, fun b' p hb' => ?_, fun b' p hb' q C' o hg hr => (hget _ _ hg).elim, fun b' hb' => ?_, fun _ _ _ => rfl, fun q n' e' hk => (hkk _ _ hk).elim, fun q n' e' hk => (hkk _ _ hk).elim, fun q n' e' q2 n2 e2 b' C1 C2 hk => (hkk _ _ hk).elim⟩
    · have : (if b' = blk then some cs.toList else ρ.fro b') = some p := hb'
      split at this
      · rename_i e'; subst e'; cases this; exact ⟨cs, e, _, hw, [], by simp⟩
      · exact R.fz b' p this
    · show (if b' = blk then some cs.toList else ρ.fro b') = _
      rw [if_neg (by omega)]; exact R.fz0 b' hb'
end Go.Ev
namespace Go.Ev
open Go.RowKit

/-! a memory that has grown: what looked into the elder one sees the same -/
structure HGrow (h hh : H) : Prop where
  m : hh.m = h.m
  obj : ∀ id e, h.get id = some e → hh.get id = some e
theorem HGrow.refl (h : H) : HGrow h h := ⟨rfl, fun _ _ x => x⟩
theorem HGrow.trans {a b c : H} (h1 : HGrow a b) (h2 : HGrow b c) : HGrow a c := ⟨h2.m.trans h1.m, fun id e x => h2.obj id e (h1.obj id e x)⟩
theorem HGrow.new {h : H} {o : EObj} (hn : h.get h.n = none) : HGrow h (h.new o) := ⟨rfl, fun id e x => by
  have hne : h.n ≠ id := fun e2 => by rw [← e2, hn] at x; cases x
  show (h.t.set h.n (some o)).get id = some e
  rw [T.get_set_ne _ _ _ _ (Ne.symm hne)]; exact x⟩

section
variable {P : Program} {g : G} {K : bE} {h hh : H}
theorem row_ext (hg : HGrow h hh) {x : EVal} {r : List EVal × Nat} (he : row? g h x = some r) : row? g hh x = some r := by
  unfold row? at he ⊢
  split at he
  · exact he
  · split at he
    · rename_i hget
      rw [hg.obj _ _ hget]; exact he
    · cases he
  · exact he
  · cases he
theorem load_ext (hg : HGrow h hh) {t : TypeId} {x v : EVal} (he : eLoad P g h t x = some v) : eLoad P g hh t x = some v := by
  unfold eLoad at he ⊢
  split at he
  · rename_i hr
    rw [row_ext hg hr]; exact he
  · cases he
theorem lookup_ext (hg : HGrow h hh) {t : TypeId} {x i v : EVal} {ok : Bool} (he : eLookup P h t x i ok = some v) : eLookup P hh t x i ok = some v := by
  unfold eLookup at he ⊢
  split at he
  · split at he
    · rename_i hk
      simp only [hk, if_true]
      split at he
      · exact he
      · split at he
        · rename_i hget
          rw [hg.obj _ _ hget]; exact he
        · cases he
      · cases he
    · cases he
  · cases he
theorem convert_ext (hg : HGrow h hh) {s d : TypeId} {x v : EVal} (he : aN P h s d x = some v) : aN P hh s d x = some v := by
  unfold aN at he ⊢
  split at he
  · exact he
  · exact he
  · exact he
  · split at he
    · rename_i hget
      rw [hg.obj _ _ hget]; exact he
    · cases he
  · split at he
    · rename_i hget
      rw [hg.obj _ _ hget]; exact he
    · cases he
  · cases he
theorem len_ext (hg : HGrow h hh) {t : TypeId} {x v : EVal} (he : eLen P h t x = some v) : eLen P hh t x = some v := by
  unfold eLen at he ⊢
  split at he
  · exact he
  · exact he
  · exact he
  · exact he
  · split at he
    · exact he
    · unfold eLenM at he ⊢
      split at he
      · rename_i hget
        rw [hg.obj _ _ hget]; exact he
      · cases he
    · cases he
  · cases he
theorem argB_ext (hg : HGrow h hh) {x v : EVal} (he : argB P h x = some v) : argB P hh x = some v := by
  unfold argB at he ⊢
  split at he
  · split at he
    · rename_i hget
      rw [hg.obj _ _ hget]; exact he
    · cases he
  · exact he
theorem argsB_ext (hg : HGrow h hh) : ∀ {l l' : List EVal}, argsB P h l = some l' → argsB P hh l = some l'
  | [], _, he => he
  | x :: l, l', he => by
    unfold argsB at he ⊢
    split at he
    · rename_i a b ha hb
      rw [argB_ext hg ha, argsB_ext hg hb]; exact he
    · cases he
theorem kcall_ext (hg : HGrow h hh) {f : FuncId} {args : List EVal} {v : EVal} (he : aI P K h f args = some v) : aI P K hh f args = some v := by
  unfold aI at he ⊢
  split at he
  · rename_i ts ha
    rw [argsB_ext hg ha]; exact he
  · cases he
theorem mk_ext {x : Option EVal} {v : EVal} {h1 : H} (he : Go.Ev.mk x h = some (.val v h1)) : x = some v := by
  cases x with
  | none => cases he
  | some u => cases he; rfl
/-- what looks and turns nothing sees the same in a memory that has grown -/
theorem quiet_ext (hg : HGrow h hh) {t : T EVal} {o : Oper} {v : EVal} {h1 : H} (hq : isQuiet o = true) (he : eOp P g h t o = some (.val v h1)) : ∃ h2, eOp P g hh t o = some (.val v h2) := by
  unfold isQuiet at hq
  unfold eOp at he ⊢
  split at hq
  · rename_i ty a heq
    rw [heq] at he ⊢
    simp only [eLoadOp] at he ⊢
    split at he
    · rename_i x hx
      have := mk_ext he
      rw [load_ext hg this]; exact ⟨_, rfl⟩
    · cases he
  · rename_i heq
    rw [heq] at he ⊢
    simp only [eLookupOp] at he ⊢
    split at he
    · have := mk_ext he
      rw [lookup_ext hg this]; exact ⟨_, rfl⟩
    · cases he
  · rename_i heq
    rw [heq] at he ⊢
    simp only [eConvOp] at he ⊢
    split at he
    · have := mk_ext he
      rw [convert_ext hg this]; exact ⟨_, rfl⟩
    · cases he
  · rename_i heq
    rw [heq] at he ⊢
    simp only [eMakeFunc] at he ⊢
    split at he
    · split at he
      · cases he; rename_i hs; simp only [hs, if_true]; exact ⟨_, rfl⟩
      · cases he
    · cases he
  · rename_i c heq
    rw [heq] at he ⊢
    simp only [eCall] at he ⊢
    split at he
    · cases he
    · split at hq
      · rename_i hc
        rw [hc] at he ⊢
        simp only [eCallB, eBuiltin] at he ⊢
        split at he
        · rename_i u h2 hb
          split at hb
          · simp only [Option.map_eq_some_iff] at hb
            obtain ⟨w, hl, e⟩ := hb
            cases e
            cases he
            rw [len_ext hg hl]; exact ⟨_, rfl⟩
          · cases hb
        · cases he
      · rename_i hc
        rw [hc] at he ⊢
        simp only [eCallB, eBuiltin] at he ⊢
        split at he
        · rename_i u h2 hb
          split at hb
          · simp only [Option.map_eq_some_iff] at hb
            obtain ⟨w, hl, e⟩ := hb
            cases e
            cases he
            rw [hl]; exact ⟨_, rfl⟩
          · cases hb
        · cases he
      · rename_i hc
        rw [hc] at he ⊢
        simp only [eCallB, eBuiltin] at he ⊢
        split at he
        · rename_i u h2 hb
          split at hb
          · cases hb; cases he; exact ⟨_, rfl⟩
          · split at hb
            · cases hb
            · rename_i hcond
              cases hb
              cases he
              simp only [hcond, if_false]
              exact ⟨_, rfl⟩
          · cases hb
        · cases he
      · cases hq
  · cases hq
theorem still_ext (hg : HGrow h hh) {t : T EVal} {o : Oper} {v : EVal} {h1 : H} (hq : isStill o h1 = true) (he : eOp P g h t o = some (.val v h1)) : ∃ h2, eOp P g hh t o = some (.val v h2) ∧ isStill o h2 = true := by
  have hst := hq
  have hsame := still_op hq he
  subst hsame
  by_cases hbs : ∃ ty len parts, o.op = .buildSlice ty len parts
  · obtain ⟨ty, len, parts, hop⟩ := hbs
    have hm : h1.fz = true := by unfold isStill at hq; rw [hop] at hq; exact hq
    have hm2 : hh.fz = true := by unfold H.fz at hm ⊢; rw [hg.m]; exact hm
    have key : eOp P g hh t o = some (.val v hh) := by
      unfold eOp at he ⊢
      rw [hop] at he ⊢
      simp only at he ⊢
      unfold aC at he ⊢
      split at he
      · split at he
        · unfold eBuildSlice' at he ⊢
          split at he
          · rename_i hc
            rw [if_pos hc]
            split at he
            · rw [hm] at he
              rw [hm2]
              simp only at he ⊢
              split at he
              · split at he
                · rename_i hl
                  rw [if_pos hl]
                  simp only [Option.some.injEq, EOut.val.injEq] at he ⊢
                  exact ⟨he.1, trivial⟩
                · cases he
              · cases he
            · cases he
          · cases he
        · cases he
      · cases he
    exact ⟨hh, key, by unfold isStill; rw [hop]; exact hm2⟩
  · have key : ∀ h, isStill o h = isQuiet o := fun h => by
      unfold isStill
      split
      · rename_i ty len parts hop; exact absurd ⟨ty, len, parts, hop⟩ hbs
      · rfl
    rw [key] at hq
    obtain ⟨h2, e⟩ := quiet_ext hg hq he
    exact ⟨h2, e, by rw [key]; exact hq⟩
/-- a call of the program is one in a memory that has grown -/
theorem enter_ext {t : T EVal} {o : Oper} {f : FuncId} {args : List EVal} {h1 : H} (he : eOp P g h t o = some (.enter f args h1)) : h1 = h ∧ eOp P g hh t o = some (.enter f args hh) := by
  have nomk : ∀ x : Option EVal, Go.Ev.mk x h ≠ some (.enter f args h1) := fun x e => by cases x <;> cases e
  unfold eOp at he ⊢
  split at he
  all_goals try (exfalso; exact nomk _ he)
  all_goals try (exfalso; simp only [ePick, eAlloc, eBox, aP, eBuildS, eBuildA, aC, eBuildSlice', eLoadOp, eStoreOp, eNil, eBinOp, eUnOp, eConvOp, eMakeFunc, eMakeSlice, eMakeSlice', eSliceOp, eFieldAddrOp, eFieldOp, eIndexAddrOp, eIndexOp, eLookupOp, eUpdateOp, eRange, eEntry, eEntry', eNextS, eNextS', eExtract] at he; repeat' (split at he)
                 all_goals first | (cases he; done) | exact nomk _ he)
  · cases he
  · exfalso
    unfold eRange at he
    repeat' (split at he)
    all_goals first | (cases he; done) | exact nomk _ he | (unfold eRangeMap at he; split at he <;> cases he)
  · rename_i c heq
    unfold eCall at he ⊢
    split at he
    · cases he
    · rename_i args' ha
      split at he
      · simp only [eCallB] at he
        split at he <;> cases he
      · simp only [eCallV] at he ⊢
        split at he
        · rename_i f' cs hv
          unfold aU at he ⊢
          split at he
          · rename_i fn hfn
            split at he
            · exfalso
              simp only [eExtern, eIndexByte, eNoEscape, eNoZero] at he
              repeat' (split at he)
              all_goals first | (cases he; done) | exact nomk _ he
            · rename_i hb
              cases he
              simp only [hb]
              exact ⟨trivial, by simp⟩
          · cases he
        · cases he
        · cases he
      · cases he
  · cases he
end

/-- what makes a new object, and nothing else -/
def isNew (o : Oper) : Bool :=
  match o.op with
  | .alloc _ => true
  | .box _ _ => true
  | .call c => match c.callee with
    | .value _ => true
    | _ => false
  | _ => false
noncomputable def extB (o : Oper) (h : H) : Bool := isNew o && (h.get h.n).isNone
theorem extB_q {o : Oper} {h : H} : extB o h = (isNew o && (h.get h.n).isNone) := (rfl)
theorem new_grow {P : Program} {g : G} {h h1 : H} {t : T EVal} {o : Oper} {v : EVal} (hb : extB o h = true) (he : eOp P g h t o = some (.val v h1)) : HGrow h h1 := by
  unfold extB isNew at hb
  simp only [Bool.and_eq_true, Option.isNone_iff_eq_none] at hb
  obtain ⟨h2, h3⟩ := hb
  unfold eOp at he
  split at h2
  · rename_i heq
    rw [heq] at he
    simp only [eAlloc] at he
    split at he
    · cases he; exact .new h3
    · cases he
  · rename_i heq
    rw [heq] at he
    simp only [eBox] at he
    split at he
    · cases he; exact .new h3
    · cases he
  · rename_i c heq
    rw [heq] at he
    split at h2
    · rename_i x hx
      simp only [eCall, hx] at he
      repeat' (split at he)
      all_goals first
        | (cases he; done)
        | (simp only [eCallV] at he
           repeat' (split at he)
           all_goals first
             | (cases he; done)
             | (unfold aU at he
                repeat' (split at he)
                all_goals first
                  | (cases he; done)
                  | (simp only [eExtern, eIndexByte, eNoEscape, eNoZero] at he
                     repeat' (split at he)
                     all_goals first
                       | (cases he; done)
                       | (cases he; exact .refl _)
                       | (cases he; exact .new h3))))
    · cases h2
  · cases h2

mutual
theorem EVal.beq_refl : ∀ a : EVal, EVal.beq a a = true
  | .unk => rfl
  | .bool a => by simp [EVal.beq]
  | .int k a => by simp [EVal.beq]
  | .str a => by simp [EVal.beq]
  | .nilp => rfl
  | .gptr a b => by simp [EVal.beq]
  | .ptr a b => by simp [EVal.beq]
  | .nilslice => rfl
  | .slice a b c x => by simp [EVal.beq]
  | .nilmap => rfl
  | .map a => by simp [EVal.beq]
  | .nilfunc => rfl
  | .nilif => rfl
  | .func f a => by simp [EVal.beq, beqL_refl a]
  | .yieldf a => by simp [EVal.beq]
  | .iface t a => by simp [EVal.beq, EVal.beq_refl a]
  | .agg a => by simp only [EVal.beq]; exact beqL_refl a
  | .tup a => by simp only [EVal.beq]; exact beqL_refl a
  | .lsl a => by simp only [EVal.beq]; exact beqLL_refl a
  | .lptr a i => by simp [EVal.beq, beqL_refl a]
  | .gsl i a => by simp [EVal.beq, beqLL_refl a]
theorem beqL_refl : ∀ l : List EVal, beqL l l = true
  | [] => rfl
  | a :: l => by simp [beqL, EVal.beq_refl a, beqL_refl l]
theorem beqLL_refl : ∀ l : List (List EVal), beqLL l l = true
  | [] => rfl
  | a :: l => by simp [beqLL, beqL_refl a, beqLL_refl l]
end
end Go.Ev
namespace Go.Ev
open Go.RowKit

/-! what an operation reads -/
theorem evs_congr {t u : T EVal} : ∀ {l : List Operand}, (∀ x ∈ l, ev t x = ev u x) → evs t l = evs u l
  | [], _ => rfl
  | x :: l, h => by simp only [evs]; rw [h x (by simp), evs_congr (fun y hy => h y (by simp [hy]))]
theorem evParts_congr {t u : T EVal} : ∀ {l : List (Nat × Operand)}, (∀ x ∈ l.map (·.2), ev t x = ev u x) → evParts t l = evParts u l
  | [], _ => rfl
  | (i, x) :: l, h => by simp only [evParts]; rw [h x (by simp), evParts_congr (fun y hy => h y (by simp at hy ⊢; exact .inr hy))]
theorem evOpt_congr {t u : T EVal} {x : Option Operand} (h : ∀ y, x = some y → ev t y = ev u y) : evOpt t x = evOpt u x := by
  cases x with
  | none => rfl
  | some y => simp only [evOpt]; rw [h y rfl]

theorem eOp_congr {P : Program} {g : G} {h : H} {t u : T EVal} {o : Oper} (hx : ∀ x ∈ o.op.operands.toList, ev t x = ev u x) : eOp P g h t o = eOp P g h u o := by
  unfold eOp
  split
  all_goals first | (rfl; done) | skip
  all_goals first
    | (rename_i hop; rw [hop] at hx; refine congrArg _ (evParts_congr (fun x h => hx x ?_)); simpa [Op.operands] using h)
    | (rename_i hop; rw [hop] at hx; refine congrArg _ (evs_congr (fun x h => hx x ?_)); simp only [Op.operands, Array.toList_append, List.mem_append]; exact .inr h)
    | (rename_i x lo hi hop; rw [hop] at hx; rw [hx x (by simp [Op.operands]), evOpt_congr (x := lo) (fun y hy => hx y (by subst hy; simp [Op.operands])), evOpt_congr (x := hi) (fun y hy => hx y (by subst hy; simp [Op.operands]))])
    | (rename_i hop; rw [hop] at hx; simp only [Op.operands, List.mem_cons, List.not_mem_nil, or_false, forall_eq, forall_eq_or_imp] at hx; first | rw [hx] | rw [hx.1, hx.2] | rw [hx.1, hx.2.1, hx.2.2])
    | skip
  rename_i c hop
  rw [hop] at hx
  have hc : ∀ x ∈ c.operands.toList, ev t x = ev u x := hx
  unfold Call.operands at hc
  have h1 : evs t c.args.toList = evs u c.args.toList := evs_congr (fun x h => hc x (by rw [Array.toList_append, List.mem_append]; exact .inr h))
  rw [h1]
  unfold eCall
  cases hcal : c.callee with
  | value f =>
    have h2 : ev t f = ev u f := hc f (by rw [hcal]; simp)
    simp only [h2]
  | _ => rfl

theorem restr_cons (t : T EVal) (s : Nat) (l : List Nat) : restr t (s :: l) = (restr t l).set s (t.get s) := (rfl)
theorem restr_has (t : T EVal) (l : List Nat) (i : Nat) (h : i < 1000) : (restr t l).has i := by
  induction l with
  | nil => exact T.has_full _ _ _ (by omega)
  | cons s l ih => rw [restr_cons]; exact (T.has_set _ _ _ _).2 ih
theorem restr_same (t : T EVal) {l : List Nat} {i : Nat} (h : i < 1000) (hm : i ∈ l) : (restr t l).get i = t.get i := by
  induction l with
  | nil => cases hm
  | cons s l ih =>
    rw [restr_cons]
    by_cases e : i = s
    · subst e; exact T.get_set_same _ _ _ (restr_has _ _ _ h)
    · rw [T.get_set_ne _ _ _ _ e]
      exact ih ((List.mem_cons.1 hm).resolve_left e)

theorem opTmps_mem {i : Nat} : ∀ {l : List Operand}, .tmp i ∈ l → i ∈ opTmps l
  | .tmp j :: l, h => by
    simp only [opTmps, List.mem_cons]
    rcases List.mem_cons.1 h with h | h
    · cases h; exact .inl rfl
    · exact .inr (opTmps_mem h)
  | .const _ :: l, h => by simp only [opTmps]; exact opTmps_mem ((List.mem_cons.1 h).resolve_left (by simp))
  | .global _ :: l, h => by simp only [opTmps]; exact opTmps_mem ((List.mem_cons.1 h).resolve_left (by simp))
  | .func _ :: l, h => by simp only [opTmps]; exact opTmps_mem ((List.mem_cons.1 h).resolve_left (by simp))

section
variable {P : Program} {g : G} {K : bE}

theorem restr_eOp {ops : Array Oper} {o : Oper} {f : EFr} {h : H} (hs : ∀ s ∈ readsOf ops o, s < 1000) : eOp P g h (restrFr ops o f) o = eOp P g h f.tmps o := by
  refine eOp_congr fun x hx => ?_
  cases x with
  | tmp i =>
    have : i ∈ readsOf ops o := List.mem_append_left _ (opTmps_mem hx)
    exact restr_same _ (hs i this) this
  | _ => rfl

theorem restr_wanted {ops : Array Oper} {o : Oper} {f : EFr} (hs : ∀ s ∈ readsOf ops o, s < 1000) : wantedE ops (restrFr ops o f) o = wantedE ops f.tmps o := by
  unfold wantedE
  split
  · rfl
  · rename_i j want hg
    have : yieldedE ops (restrFr ops o f) j = yieldedE ops f.tmps j := by
      unfold yieldedE
      split
      · rename_i q hq
        split
        · rename_i d hd
          have hm : d ∈ readsOf ops o := List.mem_append_right _ (by unfold guardSlot; rw [hg]; simp [hq, hd])
          have : (restrFr ops o f).get d = f.tmps.get d := restr_same _ (hs d hm) hm
          rw [this]
        · rfl
      · rfl
    rw [this]

/-! a region whose order is open, in the order of the text -/
def actIdx : List (Bool × Bool) → Nat → List Nat
  | [], _ => []
  | (a, _) :: l, i => if a then i :: actIdx l (i + 1) else actIdx l (i + 1)
noncomputable def actIdxE : List (Bool × Bool) → Nat → List (Nat × Bool)
  | [], _ => []
  | (a, e) :: l, i => bif a then (i, e) :: actIdxE l (i + 1) else actIdxE l (i + 1)
/-- what turns memory has its place before or behind operation i, or comes behind it in the text and but makes new objects -/
noncomputable def quickE (A : List Nat) (i : Nat) : List (Nat × Bool) → Bool
  | [] => true
  | (a, e) :: l => bif Nat.blt a i then (bif bR (bV A i) a then quickE A i l else false) else
    (bif bR (bV A i) a then false else bif bR (bV A a) i then true else bif e then quickE A i l else false)
noncomputable def quickIdx (A : List Nat) (acts : List (Nat × Bool)) : List (Bool × Bool) → Nat → Bool
  | [], _ => true
  | (a, nd) :: l, i => bif (bif nd then (bif a then true else quickE A i acts) else true) then quickIdx A acts l (i + 1) else false
/-- the places of what turns memory, and of what looks into it, are in order -/
noncomputable def placesOK (A : List Nat) (fl : List (Bool × Bool)) : Bool :=
  match actIdx fl 0 with
  | [] => true
  | acts => bif chainOK A acts acts then quickIdx A (actIdxE fl 0) fl 0 else false

def wpDOut (P : Program) (K : bE) (k : EVal → H → Bool × Bool → Prop) (o : Oper) (h : H) : Option EOut → Prop
  | some (.val v h') => if isPure o = true then k v h (false, false) else if isStill o h' = true then k v h (false, true) else k v h' (true, extB o h)
  | some (.enter fn args h') => match aI P K h' fn args with
    | some v => k v h (false, true)
    | none => False
  | _ => False

def wpDraw (P : Program) (g : G) (K : bE) (all : Array Oper) (Q : List (Bool × Bool) → EFr → H → Prop) : List Oper → List (Bool × Bool) → EFr → H → Prop
  | [], fl, f, h => Q fl f h
  | o :: rest, fl, f, h => match wantedE all f.tmps o with
    | some true => wpDOut P K (fun v h' b => wpDraw P g K all Q rest (b :: fl) (f.putd o.dst v) h') o h (eOp P g h f.tmps o)
    | some false => wpDraw P g K all Q rest ((false, false) :: fl) (f.putd o.dst undefE) h
    | none => False

def wpDNext (P : Program) (g : G) (K : bE) (all : Array Oper) (Q : List (Bool × Bool) → EFr → H → Prop) (d : Option Tmp) (rest : List Oper) (fl : List (Bool × Bool)) (f : EFr) (v : EVal) (h : H) (b : Bool × Bool) : Prop := wpDraw P g K all Q rest (b :: fl) (f.putd d v) h
def wpDStep (P : Program) (g : G) (K : bE) (all : Array Oper) (Q : List (Bool × Bool) → EFr → H → Prop) (o : Oper) (rest : List Oper) (fl : List (Bool × Bool)) (f : EFr) (h : H) : Option Bool → Prop
  | some true => wpDOut P K (wpDNext P g K all Q o.dst rest fl f) o h (eOp P g h f.tmps o)
  | some false => wpDraw P g K all Q rest ((false, false) :: fl) (f.putd o.dst undefE) h
  | none => False
theorem wpDraw_nil {all : Array Oper} {Q : List (Bool × Bool) → EFr → H → Prop} {fl : List (Bool × Bool)} {f : EFr} {h : H} : wpDraw P g K all Q [] fl f h = Q fl f h := (rfl)
theorem wpDraw_cons {all : Array Oper} {Q : List (Bool × Bool) → EFr → H → Prop} {o : Oper} {rest : List Oper} {fl : List (Bool × Bool)} {f : EFr} {h : H} : wpDraw P g K all Q (o :: rest) fl f h = wpDStep P g K all Q o rest fl f h (wantedE all f.tmps o) := by
  simp only [wpDraw]
  unfold wpDStep
  split <;> rfl
theorem wpDStep_true {all : Array Oper} {Q : List (Bool × Bool) → EFr → H → Prop} {o : Oper} {rest : List Oper} {fl : List (Bool × Bool)} {f : EFr} {h : H} : wpDStep P g K all Q o rest fl f h (some true) = wpDOut P K (wpDNext P g K all Q o.dst rest fl f) o h (eOp P g h f.tmps o) := (rfl)
theorem wpDStep_false {all : Array Oper} {Q : List (Bool × Bool) → EFr → H → Prop} {o : Oper} {rest : List Oper} {fl : List (Bool × Bool)} {f : EFr} {h : H} : wpDStep P g K all Q o rest fl f h (some false) = wpDraw P g K all Q rest ((false, false) :: fl) (f.putd o.dst undefE) h := (rfl)
theorem wpDStep_sym {all : Array Oper} {Q : List (Bool × Bool) → EFr → H → Prop} {o : Oper} {rest : List Oper} {fl : List (Bool × Bool)} {f : EFr} {h : H} {q : Bool} (h1 : q = true → wpDStep P g K all Q o rest fl f h (some true)) (h2 : q = false → wpDStep P g K all Q o rest fl f h (some false)) : wpDStep P g K all Q o rest fl f h (some q) := by
  cases q with
  | true => exact h1 rfl
  | false => exact h2 rfl

theorem wpDStep_not {all : Array Oper} {Q : List (Bool × Bool) → EFr → H → Prop} {o : Oper} {rest : List Oper} {fl : List (Bool × Bool)} {f : EFr} {h : H} {q : Bool} (h1 : q = false → wpDStep P g K all Q o rest fl f h (some true)) (h2 : q = true → wpDStep P g K all Q o rest fl f h (some false)) : wpDStep P g K all Q o rest fl f h (some !q) := by
  cases q with
  | true => exact h2 rfl
  | false => exact h1 rfl

def wpDSel (k : EVal → H → Bool × Bool → Prop) (v : EVal) (h h' : H) (e : Bool) : Bool → Bool → Prop
  | true, _ => k v h (false, false)
  | false, true => k v h (false, true)
  | false, false => k v h' (true, e)
theorem wpDSel_pure {k : EVal → H → Bool × Bool → Prop} {v : EVal} {h h' : H} {e q : Bool} : wpDSel k v h h' e true q = k v h (false, false) := by cases q <;> rfl
theorem wpDSel_quiet {k : EVal → H → Bool × Bool → Prop} {v : EVal} {h h' : H} {e : Bool} : wpDSel k v h h' e false true = k v h (false, true) := (rfl)
theorem wpDSel_act {k : EVal → H → Bool × Bool → Prop} {v : EVal} {h h' : H} {e : Bool} : wpDSel k v h h' e false false = k v h' (true, e) := (rfl)
def wpDKc (k : EVal → H → Bool × Bool → Prop) (h : H) : Option EVal → Prop
  | some v => k v h (false, true)
  | none => False
theorem wpDKc_some {k : EVal → H → Bool × Bool → Prop} {h : H} {v : EVal} : wpDKc k h (some v) = k v h (false, true) := (rfl)
theorem wpDOut_val {k : EVal → H → Bool × Bool → Prop} {o : Oper} {h h' : H} {v : EVal} : wpDOut P K k o h (some (.val v h')) = wpDSel k v h h' (extB o h) (isPure o) (isStill o h') := by
  show (if isPure o = true then k v h (false, false) else if isStill o h' = true then k v h (false, true) else k v h' (true, extB o h)) = _
  unfold wpDSel
  cases isPure o <;> cases isStill o h' <;> rfl
theorem wpDOut_enter {k : EVal → H → Bool × Bool → Prop} {o : Oper} {h h' : H} {fn : FuncId} {args : List EVal} : wpDOut P K k o h (some (.enter fn args h')) = wpDKc k h (aI P K h' fn args) := by
  show (match aI P K h' fn args with | some v => k v h (false, true) | none => False) = _
  cases aI P K h' fn args <;> rfl

/-- of a region, whatever the state -/
noncomputable def drawStatic (ops : Array Oper) (n : Nat) : Bool :=
  staticOK ops (ancGo ops.toList []) && ops.toList.all fun o => dstOK o n && (readsOf ops o).all fun s => Nat.blt s 1000

/-- what is aO of the steps -/
inductive Flags (P : Program) (g : G) (K : bE) (all : Array Oper) : List DStep → List (Bool × Bool) → H → Prop
  | nil (h : H) : Flags P g K all [] [] h
  | cons (x : DStep) (b : Bool × Bool) (st : List DStep) (fl : List (Bool × Bool)) (h : H) (hh : x.h = h) (ha : x.act.isSome = b.1)
    (hn : needs all x = true → b.2 = true ∧ b.1 = false ∧ ∀ h2, HGrow x.h h2 → quietOK P g K all x h2 = true)
    (he : ∀ h', x.act = some h' → b.2 = true → HGrow x.h h') (rest : Flags P g K all st fl (x.act.getD h)) : Flags P g K all (x :: st) (b :: fl) h

theorem wpDraw_go {all : Array Oper} {Q : List (Bool × Bool) → EFr → H → Prop} {r : Rec} : ∀ (l : List Oper) (fl : List (Bool × Bool)) (f : EFr) (h : H), (∀ o ∈ l, dstOK o f.sz = true ∧ ∀ s ∈ readsOf all o, s < 1000) → wpDraw P g K all Q l fl f h →
    ∃ st f' h' fl', drawGo P g K r all l f h = some (st, f', h') ∧ Flags P g K all st fl' h ∧ Q (fl'.reverse ++ fl) f' h'
  | [], fl, f, h, _, hw => ⟨[], f, h, [], rfl, .nil _, hw⟩
  | o :: l, fl, f, h, hs, hw => by
    obtain ⟨hd, hr⟩ := hs o (by simp)
    have hgo : drawGo P g K r all (o :: l) f h = (match dstOK o f.sz with
      | false => none
      | true => match drawOne P g K r o (restrFr all o f) h (wantedE all (restrFr all o f) o) with
        | some (v, none) => consD ⟨o, f, v, h, none⟩ (drawGo P g K r all l (f.putd o.dst v) h)
        | some (v, some h') => consD ⟨o, f, v, h, some h'⟩ (drawGo P g K r all l (f.putd o.dst v) h')
        | none => none) := rfl
    rw [hgo, hd]
    simp only
    have hsz : ∀ v, (f.putd o.dst v).sz = f.sz := fun v => by
      unfold EFr.putd
      split
      · simp only [Bool.cond_eq_ite]; split <;> rfl
      · rfl
    have hs' : ∀ v, ∀ o' ∈ l, dstOK o' (f.putd o.dst v).sz = true ∧ ∀ s ∈ readsOf all o', s < 1000 := fun v o' ho' => by rw [hsz]; exact hs o' (by simp [ho'])
    have next : ∀ (v : EVal) (h' : H) (act : Option H) (b : Bool × Bool), act.isSome = b.1 → act.getD h = h' → (needs all ⟨o, f, v, h, act⟩ = true → b.2 = true ∧ b.1 = false ∧ ∀ h2, HGrow h h2 → quietOK P g K all ⟨o, f, v, h, act⟩ h2 = true) →
        (∀ h2, act = some h2 → b.2 = true → HGrow h h2) → wpDraw P g K all Q l (b :: fl) (f.putd o.dst v) h' →
        ∃ st f' h2 fl', consD ⟨o, f, v, h, act⟩ (drawGo P g K r all l (f.putd o.dst v) h') = some (st, f', h2) ∧ Flags P g K all st fl' h ∧ Q (fl'.reverse ++ fl) f' h2 := by
      intro v h' act b hb1 hb3 hb2 hb4 hq
      obtain ⟨st, f', h2, fl', e1, e2, e3⟩ := wpDraw_go (r := r) l (b :: fl) _ h' (hs' v) hq
      subst hb3
      refine ⟨_, f', h2, b :: fl', by rw [e1]; rfl, .cons ⟨o, f, v, h, act⟩ _ _ _ _ rfl hb1 hb2 hb4 e2, ?_⟩
      rw [List.reverse_cons, List.append_assoc]; exact e3
    unfold wpDraw at hw
    rw [restr_wanted hr]
    split at hw
    · rename_i hwant
      rw [hwant]
      simp only [drawOne]
      rw [restr_eOp hr]
      unfold wpDOut at hw
      split at hw
      · rename_i v h' heq
        rw [heq]
        simp only [drawOp, Bool.cond_eq_ite]
        split at hw
        · rename_i hp
          simp only [hp, Bool.true_or, if_true]
          exact next v h none (false, false) rfl rfl (by simp [needs, hp]) (fun _ e => by cases e) hw
        · rename_i hp
          have hp' : isPure o = false := by simpa using hp
          split at hw
          · rename_i hqt
            simp only [hp', hqt, Bool.or_true, if_true]
            refine next v h none (false, true) rfl rfl (fun _ => ⟨rfl, rfl, fun h2 hg => ?_⟩) (fun _ e => by cases e) hw
            obtain ⟨h3, e3, e4⟩ := still_ext hg hqt heq
            show quietV P K _ (eOp P g h2 (restrFr all o f) o) = true
            rw [restr_eOp hr, e3]
            simp only [quietV, e4, EVal.beq_refl, Bool.and_self]
          · rename_i hqt
            have hqt' : isStill o h' = false := by simpa using hqt
            simp only [hp', hqt', Bool.or_false, Bool.false_eq_true, if_false]
            exact next v h' (some h') (true, extB o h) rfl rfl (by simp [needs]) (fun h2 e hb => by cases e; exact new_grow hb heq) hw
      · rename_i fn args h' heq
        rw [heq]
        simp only [drawOp]
        split at hw
        · rename_i v hk
          rw [hk]
          refine next v h none (false, true) rfl rfl (fun _ => ⟨rfl, rfl, fun h2 hg => ?_⟩) (fun _ e => by cases e) hw
          obtain ⟨rfl, e3⟩ := enter_ext (hh := h2) heq
          show quietV P K _ (eOp P g h2 (restrFr all o f) o) = true
          rw [restr_eOp hr, e3]
          simp only [quietV, kcall_ext hg hk, EVal.beq_refl]
        · exact hw.elim
      · exact hw.elim
    · rename_i hwant
      rw [hwant]
      simp only [drawOne]
      refine next undefE h none (false, false) rfl rfl (fun hn => ?_) (fun _ e => by cases e) hw
      unfold needs at hn
      simp only [restr_wanted hr, hwant] at hn
      cases hp : isPure o <;> rw [hp] at hn <;> cases hn
    · exact hw.elim

theorem actsOf_flags {all : Array Oper} {st : List DStep} {fl : List (Bool × Bool)} {h : H} (H1 : Flags P g K all st fl h) : ∀ i, actsOf st i = actIdx fl i := by
  induction H1 with
  | nil => intro i; rfl
  | cons x b st fl h hh ha hn he rest ih =>
    intro i
    obtain ⟨a, nd⟩ := b
    have e : actsOf (x :: st) i = Option.rec (motive := fun _ => List Nat) (actsOf st (Nat.succ i)) (fun _ => i :: actsOf st (Nat.succ i)) x.act := rfl
    rw [e]
    simp only [actIdx]
    cases hx : x.act with
    | none => rw [hx] at ha; simp at ha; subst ha; simpa using ih (i + 1)
    | some h' => rw [hx] at ha; simp at ha; subst ha; simpa using ih (i + 1)

theorem verGo_cons {all : Array Oper} {A : List Nat} {i a : Nat} {x y : DStep} {h : H} {l : List DStep} : verGo P g K all A i x a h (y :: l) = (match y.act with
    | none => verGo P g K all A i x (a + 1) h l
    | some h' => bif bR (bV A i) a then verGo P g K all A i x (a + 1) h' l
      else bif bR (bV A a) i then quietOK P g K all x h
      else quietOK P g K all x h && verGo P g K all A i x (a + 1) h' l) := rfl
/-- behind it -/
theorem verGo_behind {all : Array Oper} {A : List Nat} {i : Nat} {x : DStep} (hx : ∀ h2, HGrow x.h h2 → quietOK P g K all x h2 = true) : ∀ {st : List DStep} {fl : List (Bool × Bool)} {h : H}, Flags P g K all st fl h → ∀ a, i < a → HGrow x.h h → quickE A i (actIdxE fl a) = true → verGo P g K all A i x a h st = true
  | _, _, h, .nil _, a, _, hg, _ => hx h hg
  | _, _, h, .cons y b st fl _ hh ha hn he rest, a, hi, hg, hq => by
    obtain ⟨b1, b2⟩ := b
    rw [verGo_cons]
    cases hy : y.act with
    | none =>
      rw [hy] at ha rest
      simp at ha
      subst ha
      exact verGo_behind hx rest (a + 1) (by omega) hg hq
    | some h' =>
      rw [hy] at ha rest
      change Flags P g K all st fl h' at rest
      simp at ha
      subst ha
      simp only
      have e : quickE A i ((a, b2) :: actIdxE fl (a + 1)) = true := hq
      have hlt : Nat.blt a i = false := by rw [Bool.eq_false_iff]; intro e; rw [Nat.blt_eq] at e; omega
      simp only [quickE, hlt, cond_false] at e
      cases h1 : bR (bV A i) a with
      | true => rw [h1] at e; cases e
      | false =>
        rw [h1] at e
        simp only [cond_false] at e ⊢
        cases h2 : bR (bV A a) i with
        | true => simp only [cond_true]; exact hx h hg
        | false =>
          rw [h2] at e
          simp only [cond_false] at e ⊢
          cases h3 : b2 with
          | false => rw [h3] at e; cases e
          | true =>
            rw [h3] at e
            simp only [cond_true] at e
            subst hh
            rw [hx _ hg, verGo_behind hx rest (a + 1) (by omega) (hg.trans (he h' hy h3)) e]; rfl
/-- up to it -/
theorem verGo_flags {all : Array Oper} {A : List Nat} {i : Nat} {x : DStep} {l2 : List DStep} (hnx : needs all x = true) : ∀ (l1 : List DStep) {fl : List (Bool × Bool)} {h : H}, Flags P g K all (l1 ++ x :: l2) fl h → ∀ a, a + l1.length = i → quickE A i (actIdxE fl a) = true → verGo P g K all A i x a h (l1 ++ x :: l2) = true
  | [], _, h, HF, a, hi, hq => by
    rw [List.nil_append] at HF
    cases HF with
    | cons _ b st fl _ hh ha hn he rest =>
    obtain ⟨b1, b2⟩ := b
    obtain ⟨h1, h2, h3⟩ := hn hnx
    simp only at h1 h2
    subst h1 h2
    simp only [List.length_nil, Nat.add_zero] at hi
    subst hi
    show verGo P g K all A a x a h (x :: l2) = true
    rw [verGo_cons]
    have hact : x.act = none := by
      cases hx : x.act with
      | none => rfl
      | some _ => rw [hx] at ha; cases ha
    rw [hact] at rest
    rw [hact]
    exact verGo_behind h3 rest (a + 1) (by omega) (by subst hh; exact HGrow.refl _) hq
  | y :: l1, _, h, HF, a, hi, hq => by
    rw [List.cons_append] at HF
    cases HF with
    | cons _ b st fl _ hh ha hn he rest =>
    obtain ⟨b1, b2⟩ := b
    simp only [List.length_cons] at hi
    show verGo P g K all A i x a h (y :: (l1 ++ x :: l2)) = true
    rw [verGo_cons]
    cases hy : y.act with
    | none =>
      rw [hy] at ha rest
      simp at ha
      subst ha
      exact verGo_flags hnx l1 rest (a + 1) (by omega) hq
    | some h' =>
      rw [hy] at ha rest
      simp at ha
      subst ha
      simp only
      have e : quickE A i ((a, b2) :: actIdxE fl (a + 1)) = true := hq
      have hlt : Nat.blt a i = true := by rw [Nat.blt_eq]; omega
      simp only [quickE, hlt, cond_true] at e
      cases h1 : bR (bV A i) a with
      | false => rw [h1] at e; cases e
      | true =>
        rw [h1] at e
        simp only [cond_true] at e ⊢
        exact verGo_flags hnx l1 rest (a + 1) (by omega) e

theorem quietAll_flags {all : Array Oper} {A acts : List Nat} {h0 : H} {fl0 : List (Bool × Bool)} : ∀ (st l1 : List DStep) (fl : List (Bool × Bool)) (h : H), Flags P g K all (l1 ++ st) fl0 h0 → Flags P g K all st fl h → quickIdx A (actIdxE fl0 0) fl l1.length = true → quietAll P g K all A (l1 ++ st) h0 acts st l1.length = true
  | [], _, _, _, _, _, _ => rfl
  | x :: st, l1, _, _, H0, .cons _ b _ fl h hh ha hn he rest, hq => by
    obtain ⟨a, nd⟩ := b
    have e : quietAll P g K all A (l1 ++ x :: st) h0 acts (x :: st) l1.length = (bif (bif quick A l1.length acts then true else bif needs all x then verGo P g K all A l1.length x 0 h0 (l1 ++ x :: st) else true) then quietAll P g K all A (l1 ++ x :: st) h0 acts st (Nat.succ l1.length) else false) := rfl
    have hq2 : (bif (bif nd then (bif a then true else quickE A l1.length (actIdxE fl0 0)) else true) then quickIdx A (actIdxE fl0 0) fl (l1.length + 1) else false) = true := hq
    have hrest : quickIdx A (actIdxE fl0 0) fl (l1.length + 1) = true := by
      cases hc : (bif nd then (bif a then true else quickE A l1.length (actIdxE fl0 0)) else true) with
      | true => rw [hc] at hq2; exact hq2
      | false => rw [hc] at hq2; cases hq2
    have h1 : (bif needs all x then verGo P g K all A l1.length x 0 h0 (l1 ++ x :: st) else true) = true := by
      cases hnx : needs all x with
      | false => rfl
      | true =>
        obtain ⟨e1, e2, _⟩ := hn hnx
        simp only at e1 e2
        subst e1 e2
        have h2 : quickE A l1.length (actIdxE fl0 0) = true := by
          cases hc : quickE A l1.length (actIdxE fl0 0) with
          | true => rfl
          | false => simp only [cond_true, cond_false, hc] at hq2; cases hq2
        exact verGo_flags hnx l1 H0 0 (by omega) h2
    have ih := quietAll_flags (acts := acts) st (l1 ++ [x]) fl _ (by rw [List.append_assoc]; exact H0) rest (by rw [List.length_append]; exact hrest)
    rw [List.append_assoc] at ih
    have ih2 : quietAll P g K all A (l1 ++ x :: st) h0 acts st (l1.length + 1) = true := by
      have := ih
      rw [List.length_append] at this
      exact this
    rw [e, h1]
    cases quick A l1.length acts <;> exact ih2

theorem Top.draw {A : Option Nat} (hm : P.follows .mixedOrders = true) (hng : NoNG P) {id : Nat} {ops : Array Oper} {f : EFr} {h : H} {Q : bO} (hs : drawStatic ops f.sz = true)
    (hw : wpDraw P g K ops (fun fl f' h' => placesOK (ancGo ops.toList []) fl.reverse = true ∧ Q .normal f' h') ops.toList [] f h) : Top A P g K (.region id ops true) f h Q := by
  unfold drawStatic at hs
  simp only [Bool.and_eq_true, List.all_eq_true, Nat.blt_eq] at hs
  obtain ⟨st, f', h', fl', e1, e2, e3, e4⟩ := wpDraw_go (r := Go.Ev.run P g K 0) ops.toList [] f h hs.2 hw
  simp only [List.append_nil, List.reverse_reverse] at e3
  refine Top.run hm hng (n := 1) (outs := [.code .normal f' h']) ?_ (fun e f'' h'' hmem => by simp at hmem; obtain ⟨rfl, rfl, rfl⟩ := hmem; exact e4)
  show runDraw P g K (Go.Ev.run P g K 0) ops f h = _
  unfold runDraw
  rw [e1]
  simp only [drawFin]
  rw [hs.1]
  have : actsOK P g K ops (ancGo ops.toList []) st h (actsOf st 0) = true := by
    rw [actsOf_flags e2]
    unfold placesOK at e3
    generalize actIdx fl' 0 = acts at e3
    cases acts with
    | nil => rfl
    | cons a acts =>
      have e4 : chainOK (ancGo ops.toList []) (a :: acts) (a :: acts) = true ∧ quickIdx (ancGo ops.toList []) (actIdxE fl' 0) fl' 0 = true := by
        cases hc : chainOK (ancGo ops.toList []) (a :: acts) (a :: acts) with
        | true => simp only [hc, cond_true] at e3; exact ⟨rfl, e3⟩
        | false => simp only [hc, cond_false] at e3; cases e3
      show (bif chainOK _ (a :: acts) (a :: acts) then quietAll P g K ops _ st h (a :: acts) st 0 else false) = true
      rw [e4.1]
      exact quietAll_flags st [] fl' h e2 e2 e4.2
  rw [this]; rfl
end
theorem wpDNext_q {P : Program} {g : G} {K : bE} {all : Array Oper} {Q : List (Bool × Bool) → EFr → H → Prop} {d : Option Tmp} {rest : List Oper} {fl : List (Bool × Bool)} {f : EFr} {v : EVal} {h : H} {b : Bool × Bool} : wpDNext P g K all Q d rest fl f v h b = wpDraw P g K all Q rest (b :: fl) (f.putd d v) h := (rfl)
end Go.Ev
namespace Go.Ev
open Go.RowKit

def layStruct (P : Program) (f : TypeId → DataW Unit → Option (List EVal)) : List Field → List (DataW Unit) → Nat → Option (List EVal)
  | [], [], _ => some []
  | x :: fs, d :: ds, o => match f x.type d, layStruct P f fs ds (o + P.cellsOf x.type) with
    | some a, some b => if x.offset = o ∧ a.length = P.cellsOf x.type then some (a ++ b) else none
    | _, _ => none
  | _, _, _ => none

def layArr (f : DataW Unit → Option (List EVal)) (c : Nat) : List (DataW Unit) → Option (List EVal)
  | [] => some []
  | d :: ds => match f d, layArr f c ds with
    | some a, some b => if a.length = c then some (a ++ b) else none
    | _, _ => none

/-- the cells of plain data of a type -/
def layE (P : Program) : Nat → TypeId → DataW Unit → Option (List EVal)
  | 0, _, _ => none
  | n + 1, t, d => match P.underlying t, d with
    | some .bool, .lit (.bool b) => some [.bool b]
    | some (.int _), .lit (.int k' m) => some [.int k' m]
    | some .string, .lit (.string l) => some [.str (l.map UInt8.toNat)]
    | some (.struct fs), .agg ds => match layStruct P (layE P n) fs.toList ds 0 with
      | some es => if es.length = P.cellsOf t then some es else none
      | none => none
    | some (.array m e), .agg ds => match layArr (layE P n e) (P.cellsOf e) ds with
      | some es => if es.length = P.cellsOf t ∧ ds.length = m then some es else none
      | none => none
    | _, _ => none

section
variable {P : Program} {w : World} {enc : TypeId × Value → Unit} {base : Nat} {sp : Nat → Bool} {held : Bool}

theorem layStruct_sound {f : TypeId → DataW Unit → Option (List EVal)} {tr : TypeId → List Value → Option (DataW Unit × List MemPlace)} {cs : List Value}
    (hf : ∀ t d es c p, f t d = some es → tr t c = some (d, p) → VsRel Loc.nil es c) : ∀ {fs : List Field} {xs : List (DataW Unit × List MemPlace)} {o : Nat} {es : List EVal},
    layStruct P f fs (xs.map (·.1)) o = some es → (∀ (i : Nat) (x : Field), fs[i]? = some x → tr x.type ((cs.drop x.offset).take (P.cellsOf x.type)) = xs[i]?) → VsRel Loc.nil es ((cs.drop o).take es.length)
  | [], [], o, es, h, _ => by
    simp only [List.map_nil, layStruct, Option.some.injEq] at h; subst h
    simpa using VsRel.nil
  | [], y :: ys, o, es, h, _ => by simp [layStruct] at h
  | x :: fs, [], o, es, h, _ => by simp [layStruct] at h
  | x :: fs, y :: ys, o, es, h, ht => by
    simp only [List.map_cons, layStruct] at h
    split at h
    · rename_i a b ha hb
      split at h
      · rename_i hx
        simp only [Option.some.injEq] at h; subst h
        obtain ⟨hxo, hal⟩ := hx
        have h0 := ht 0 x rfl
        rw [hxo] at h0
        have h1 := hf _ _ _ _ y.2 ha (by rw [h0]; rfl)
        have h2 := layStruct_sound hf hb (fun i z hz => ht (i + 1) z (by simpa using hz))
        rw [List.length_append, List.take_add, List.drop_drop, hal]
        exact h1.append h2
      · cases h
    · cases h

theorem layArr_sound {f : DataW Unit → Option (List EVal)} {tr : List Value → Option (DataW Unit × List MemPlace)} {c : Nat} {cs : List Value}
    (hf : ∀ d es u p, f d = some es → tr u = some (d, p) → VsRel Loc.nil es u) : ∀ {xs : List (DataW Unit × List MemPlace)} {k : Nat} {es : List EVal},
    layArr f c (xs.map (·.1)) = some es → (∀ (i : Nat), i < xs.length → tr ((cs.drop ((k + i) * c)).take c) = xs[i]?) → VsRel Loc.nil es ((cs.drop (k * c)).take es.length)
  | [], k, es, h, _ => by
    simp only [List.map_nil, layArr, Option.some.injEq] at h; subst h
    simpa using VsRel.nil
  | y :: ys, k, es, h, ht => by
    simp only [List.map_cons, layArr] at h
    split at h
    · rename_i a b ha hb
      split at h
      · rename_i hal
        simp only [Option.some.injEq] at h; subst h
        have h0 := ht 0 (by simp)
        rw [Nat.add_zero] at h0
        have h1 := hf _ _ _ y.2 ha (by rw [h0]; rfl)
        have h2 := layArr_sound hf (k := k + 1) hb (fun i hi => by
          have := ht (i + 1) (by simpa using hi)
          rw [show k + (i + 1) = k + 1 + i from by omega] at this
          simpa using this)
        rw [List.length_append, List.take_add, List.drop_drop, hal]
        have e : k * c + c = (k + 1) * c := by rw [Nat.succ_mul]
        rw [e]
        exact h1.append h2
      · cases h
    · cases h

theorem layE_sound : ∀ (n : Nat) {m : Nat} {t : TypeId} {d : DataW Unit} {es : List EVal} {cs : List Value} {p : List MemPlace}, layE P n t d = some es → DataW.trod enc P w base sp held m t cs = some (d, p) → VsRel Loc.nil es cs
  | 0, _, _, _, _, _, _, h, _ => by cases h
  | n + 1, m, t, d, es, cs, p, h, ht => by
    simp only [layE] at h
    split at h
    · rename_i b hu
      simp only [Option.some.injEq] at h; subst h
      obtain ⟨b', rfl, hx⟩ := DataW.trod_bool hu ht
      cases hx
      exact .cons _ _ _ _ (.bool _) .nil
    · rename_i k k' z hu
      simp only [Option.some.injEq] at h; subst h
      obtain ⟨z', rfl, hx, _⟩ := DataW.trod_int hu ht
      cases hx
      exact .cons _ _ _ _ (.int _ _) .nil
    · rename_i l hu
      simp only [Option.some.injEq] at h; subst h
      obtain ⟨s, rfl, hx, _⟩ := DataW.trod_string hu ht
      cases hx
      exact .cons _ _ _ _ (.str _ _ rfl) .nil
    · rename_i fs ds hu
      obtain ⟨xs, m', rfl, hx, hl, hxl, hxs⟩ := DataW.trod_struct hu ht
      simp only [Prod.mk.injEq, DataW.agg.injEq] at hx
      obtain ⟨rfl, _⟩ := hx
      split at h
      · rename_i es' hes
        split at h
        · rename_i hlen
          simp only [Option.some.injEq] at h; subst h
          have := layStruct_sound (tr := fun t c => DataW.trod enc P w base sp held m' t c) (cs := cs) (fun t d es c p h1 h2 => layE_sound n h1 h2) hes (fun i x hx => hxs i x (by rw [← Array.getElem?_toList]; exact hx))
          rwa [List.drop_zero, hlen, ← hl, List.take_length] at this
        · cases h
      · cases h
    · rename_i k e ds hu
      obtain ⟨xs, m', rfl, hx, hl, hxl, hxs⟩ := DataW.trod_array hu ht
      simp only [Prod.mk.injEq, DataW.agg.injEq] at hx
      obtain ⟨rfl, _⟩ := hx
      split at h
      · rename_i es' hes
        split at h
        · rename_i hlen
          simp only [Option.some.injEq] at h; subst h
          have := layArr_sound (tr := fun c => DataW.trod enc P w base sp held m' e c) (cs := cs) (k := 0) (fun d es c p h1 h2 => layE_sound n h1 h2) hes (fun i hi => by rw [Nat.zero_add]; exact hxs i (by omega))
          rwa [Nat.zero_mul, List.drop_zero, hlen.1, ← hl, List.take_length] at this
        · cases h
      · cases h
    · cases h
end

/-- One laid variable, as the evaluator knows it. -/
def oneG (i : Nat) (cells : List EVal) : G := fun j => if j = i then some cells else none

theorem cK.of_laid {P : Program} {W : World} {name : String} {d : DataW Unit} {rest : List (String × DataW Unit)} {i t n : Nat} {cells : List EVal} (hg : P.globalNamed name = some i) (ht : (P.globals[i]?).map (·.type) = some t)
    (hlay : layE P n t d = some cells) (h : laidMet P ((name, d) :: rest) W) : cK W.heap.size W (oneG i cells) := by
  obtain ⟨ps, ⟨g, t', cs, fuel, p, q, hg', ht', hv, htr, _, hps⟩, _, hb⟩ := h
  rw [hg] at hg'; cases hg'
  rw [ht] at ht'; cases ht'
  intro j cells' hj
  unfold oneG at hj
  split at hj
  · rename_i hji
    subst hji
    cases hj
    unfold World.var? at hv
    rw [hg] at hv
    simp only [Option.bind_some] at hv
    split at hv
    · rename_i cs' e fr hheap
      simp only [Option.some.injEq] at hv; subst hv
      refine ⟨?_, cs', e, fr, hheap, layE_sound n hlay htr⟩
      exact (Array.getElem?_eq_some_iff.1 hheap).1
    · cases hv
  · cases hj
end Go.Ev
namespace Go.Ev
open Go.RowKit

/-! data and how it is told -/
def aX (l : List Int) : List (List EVal) := l.map fun n => [.int .i64 n]
def dIntsL : List (List EVal) → Option (List Int)
  | [] => some []
  | [.int .i64 n] :: l => (dIntsL l).map (n :: ·)
  | _ => none
def dInts : EVal → Option (List Int)
  | .lsl els => if els.length < 9223372036854775808 then dIntsL els else none
  | _ => none
theorem dIntsL_inv : ∀ {els : List (List EVal)} {l : List Int}, dIntsL els = some l → els = aX l
  | [], l, h => by simp only [dIntsL, Option.some.injEq] at h; subst h; rfl
  | x :: els, l, h => by
    unfold dIntsL at h
    split at h
    · rename_i heq; cases heq
    · rename_i n els' heq
      cases heq
      cases hd : dIntsL els with
      | none => rw [hd] at h; cases h
      | some l' => rw [hd] at h; cases h; rw [dIntsL_inv hd]; rfl
    · cases h
theorem eInts_length (l : List Int) : (aX l).length = l.length := by simp [aX]
theorem dInts_inv {v : EVal} {l : List Int} (h : dInts v = some l) : v = .lsl (aX l) ∧ l.length < 9223372036854775808 := by
  unfold dInts at h
  split at h
  · split at h
    · rename_i hl
      have := dIntsL_inv h
      subst this
      exact ⟨rfl, by simpa [eInts_length] using hl⟩
    · cases h
  · cases h
theorem dIntsL_e (l : List Int) : dIntsL (aX l) = some l := by
  induction l with
  | nil => rfl
  | cons a l ih => simp only [aX, List.map_cons, dIntsL]; rw [show l.map (fun n => [EVal.int .i64 n]) = aX l from rfl, ih]; rfl
theorem dInts_e {l : List Int} (h : l.length < 9223372036854775808) : dInts (.lsl (aX l)) = some l := by
  simp only [dInts, eInts_length, h, if_true]
  exact dIntsL_e l
theorem eInts_get (l : List Int) (i : Nat) : (aX l)[i]? = (l[i]?).map fun n => [.int .i64 n] := by simp [aX]
theorem wrap_id {n : Int} (h1 : -9223372036854775808 ≤ n) (h2 : n < 9223372036854775808) : IntKind.i64.wrap n = n := by
  rw [IntKind.wrap_i64]; omega
/-- a row of numbers -/
def cA (l : List Int) : List EVal := l.map fun n => .int .i64 n
theorem eRow_length (l : List Int) : (cA l).length = l.length := by simp [cA]
theorem keepL_eRow (l : List Int) : keepL (cA l) = some (cA l) := by
  induction l with
  | nil => rfl
  | cons a l ih =>
    have : keepL (cA (a :: l)) = (match keep1 (.int .i64 a), keepL (cA l) with | some x, some y => some (x :: y) | _, _ => none) := rfl
    rw [this, ih]; rfl
theorem chunk_eRow (l : List Int) : bF 1 l.length (cA l) = aX l := by
  induction l with
  | nil => rfl
  | cons a l ih =>
    have : bF 1 (a :: l).length (cA (a :: l)) = [.int .i64 a] :: bF 1 l.length (cA l) := rfl
    rw [this, ih]; rfl
end Go.Ev
namespace Go.Ev
open Go.RowKit

/-! a row of one's own, kept for good in the midst of a walk -/
/-- a value, and how it is told when the slice of a row is kept -/
def fzR (id len : Nat) (L : EVal) (v v2 : EVal) : Prop := v2 = v ∨ ∃ cap, v = .slice id 0 len cap ∧ capOK len cap = true ∧ v2 = L
def fzL (id len : Nat) (L : EVal) : List EVal → List EVal → Prop
  | [], [] => True
  | a :: l, b :: m => fzR id len L a b ∧ fzL id len L l m
  | _, _ => False
theorem fzL_length {id len : Nat} {L : EVal} : ∀ {l m : List EVal}, fzL id len L l m → l.length = m.length
  | [], [], _ => rfl
  | a :: l, b :: m, h => by simp only [List.length_cons, fzL_length h.2]
theorem fzL_sound {ρ ρ2 : Loc} {id len : Nat} {L : EVal} (h1 : ρ.le ρ2) (h2 : ∀ cap u, capOK len cap = true → VRel ρ (.slice id 0 len cap) u → VRel ρ2 L u) : ∀ {l m : List EVal} {us : List Value}, fzL id len L l m → VsRel ρ l us → VsRel ρ2 m us
  | [], [], _, _, h => by cases h; exact .nil
  | a :: l, b :: m, _, hf, h => by
    cases h with
    | cons _ u _ us h hs =>
      refine .cons _ _ _ _ ?_ (fzL_sound h1 h2 hf.2 hs)
      rcases hf.1 with rfl | ⟨cap, rfl, hc, rfl⟩
      · exact h.mono h1
      · exact h2 _ _ hc h
theorem aF.fzD {A : Option Nat} {P : Program} {s n m sz len : Nat} {ds : List Nat} {r : Option Nat} {fl fl2 : List (Nat × EVal)} {l l2 : List (Nat × Option EObj)} {k k2 : List (Nat × Option (Nat × TypeId))} {cells cells' : List EVal} {e : TypeId} {lo hi : Nat} {sl : Bool} (id : Nat) (hid : id < 16000)
    (hg : aB l id = some (.row cells e lo hi sl)) (hk : keepL cells = some cells') (hlen : cells'.length = len * sz)
    (hf : ∀ p ∈ fl2, p.1 < 1000 ∧ ∃ v, aL fl p.1 = some v ∧ fzR id len (.lsl (bF sz len cells')) v p.2)
    (hl : ∀ p ∈ l2, p.1 < 16000 ∧ p.1 ≠ id ∧ ∃ o2, p.2 = some o2 ∧ (aB l p.1 = some o2 ∨ ∃ cs1 cs2 e lo hi sl, aB l p.1 = some (.row cs1 e lo hi sl) ∧ o2 = .row cs2 e lo hi sl ∧ fzL id len (.lsl (bF sz len cells')) cs1 cs2))
    (hk2 : ∀ p ∈ k2, p.1 < 250 ∧ ∃ x, p.2 = some x ∧ aB k p.1 = some x) :
    aF A P (mkD s fl ds r) (mkH n l m k) (mkD s fl2 ds r) (mkH n l2 m k2) := by
  intro B0 W0 b t d ρ w F R
  have hg' : (mkH n l m k).get id = some (.row cells e lo hi sl) := by rw [mkH_get hid]; exact hg
  obtain ⟨blk, C, hb, cs, hw, hrel, _⟩ := R.objs _ _ hg'
  obtain ⟨h2, _⟩ := keepL_sound hrel hk
  obtain ⟨uss, c1, c2, c3, c4⟩ := chunk_rel sz len cells' _ h2 hlen
  let ρ2 : Loc := { ρ with fro := fun q => if q = blk then some cs.toList else ρ.fro q }
  have hlt := R.lo _ _ _ hb
  have hnf : ∀ q pre, ρ.fro q = some pre → q ≠ blk := fun q pre hq e => by
    subst e; exact absurd hb (R.free q pre hq _ _ _ hg')
  have hle : ρ.le ρ2 := by
    refine ⟨fun _ _ h => h, fun q pre hq => ?_, fun _ _ _ h => h⟩
    exact ⟨[], by show (if q = blk then some cs.toList else ρ.fro q) = _; rw [if_neg (hnf q pre hq), List.append_nil]; exact hq⟩
  have hfz : ρ.fz.le ρ2.fz := by
    refine ⟨fun _ _ h => (by cases h), fun q pre hq => ?_, fun _ _ _ h => (by cases h)⟩
    have hq' : ρ.fro q = some pre := hq
    exact ⟨[], by show (if q = blk then some cs.toList else ρ.fro q) = _; rw [if_neg (hnf q pre hq'), List.append_nil]; exact hq'⟩
  have key : ∀ cap u, capOK len cap = true → VRel ρ (.slice id 0 len cap) u → VRel ρ2 (.lsl (bF sz len cells')) u := by
    intro cap u hcap hv
    have key : ∀ c', len ≤ c' → VRel ρ2 (.lsl (bF sz len cells')) (.slice (some ⟨blk, 0, none⟩) len c') := by
      intro c' hc
      have hcl : (bF sz len cells').length = len := chunk_length _ _ _
      have := VRel.lsl (ρ := ρ2) (bF sz len cells') uss blk 0 c' sz cs.toList (cs.toList.drop cells.length) (by show (if blk = blk then _ else _) = _; simp) (c1.mono hfz)
        (by rw [List.drop_zero, c2, List.take_append_drop]) (Nat.zero_le _) c3 (by rw [hcl]; exact hc)
      rw [hcl] at this
      exact this
    cases hv with
    | slice _ _ _ c b' C' hb' => rw [hb] at hb'; cases hb'; exact key _ (by simpa [capOK] using hcap)
    | slack _ _ _ _ c b' C' hb' hc hn => rw [hb] at hb'; cases hb'; exact key _ hn
  have hkget : ∀ id x, (mkH n l2 m k2).k.get id = some x → (mkH n l m k).k.get id = some x := by
    intro id x hg
    obtain ⟨h1, x', h2, h3⟩ := hk2 _ (T.ofG_mem hg)
    simp only [Option.some.injEq] at h2
    subst h2
    rw [mkH_k h1]; exact h3
  have hget : ∀ q o2, (mkH n l2 m k2).get q = some o2 → q ≠ id ∧ ∃ o, (mkH n l m k).get q = some o ∧ (o = o2 ∨ ∃ cs1 cs2 e lo hi sl, o = .row cs1 e lo hi sl ∧ o2 = .row cs2 e lo hi sl ∧ fzL id len (.lsl (bF sz len cells')) cs1 cs2) := by
    intro q o2 hg
    obtain ⟨h1, h2, o', h3, h4⟩ := hl _ (T.ofG_mem hg)
    simp only [Option.some.injEq] at h3
    subst h3
    refine ⟨h2, ?_⟩
    rcases h4 with h4 | ⟨cs1, cs2, e', lo', hi', sl', h4, rfl, h5⟩
    · exact ⟨_, by rw [mkH_get h1]; exact h4, .inl rfl⟩
    · exact ⟨_, by rw [mkH_get h1]; exact h4, .inr ⟨_, _, _, _, _, _, rfl, rfl, h5⟩⟩
  refine ⟨ρ2, Loc.leA_of hle, ⟨F.size, fun j v hv => ?_, F.defers.mono hle, (FRel.mono hle F).round⟩, ?_⟩
  · obtain ⟨h1, v0, h3, h4⟩ := hf _ (ofL_look hv)
    have := F.tmps j v0 (by show (T.ofL fl).get j = _; rw [T.get_ofL _ _ h1]; exact h3)
    rcases h4 with rfl | ⟨cap, rfl, hc, rfl⟩
    · exact this.mono hle
    · exact key _ _ hc this
  · refine ⟨R.below, R.base, R.dom, R.lo, fun i j o1 o2 b' C1 C2 g1 g2 r1 r2 => ?_, fun q o hg => ?_, fun b' p hb' => ?_, fun b' p hb' q C' o hg hr => ?_, fun b' hb' => ?_, R.mdom, fun q n' e' hk => ?_, fun q n' e' hk => R.tnew q n' e' (hkget _ _ hk), fun i1 n1 e1 i2 n2 e2 b1 C1 C2 h1 h2 => R.tinj i1 n1 e1 i2 n2 e2 b1 C1 C2 (hkget _ _ h1) (hkget _ _ h2)⟩
    · obtain ⟨_, p1, e1, _⟩ := hget _ _ g1
      obtain ⟨_, p2, e2, _⟩ := hget _ _ g2
      exact R.inj _ _ _ _ _ _ _ e1 e2 r1 r2
    · obtain ⟨_, o0, e1, e2⟩ := hget _ _ hg
      obtain ⟨b', C', hb', r⟩ := R.objs _ _ e1
      refine ⟨b', C', hb', ?_⟩
      rcases e2 with rfl | ⟨cs1, cs2, e', lo', hi', sl', rfl, rfl, h5⟩
      · exact r.mono hle
      · obtain ⟨cs', r1, r2, r3, r4⟩ := r
        have hln := fzL_length h5
        exact ⟨cs', r1, by rw [← hln]; exact fzL_sound hle key h5 r2, by rw [← hln]; exact r3, r4⟩
    · have : (if b' = blk then some cs.toList else ρ.fro b') = some p := hb'
      split at this
      · rename_i e'; subst e'; cases this; exact ⟨cs, e, _, hw, [], by simp⟩
      · exact R.fz b' p this
    · obtain ⟨hne, o0, e1, _⟩ := hget _ _ hg
      have : (if b' = blk then some cs.toList else ρ.fro b') = some p := hb'
      split at this
      · rename_i e'; subst e'
        exact hne (R.inj _ _ _ _ _ _ _ e1 hg' hr hb)
      · exact R.free b' p this q C' o0 e1 hr
    · show (if b' = blk then some cs.toList else ρ.fro b') = _
      rw [if_neg (by omega)]; exact R.fz0 b' hb'
    · obtain ⟨x, h1, h2⟩ := R.toks q n' e' (hkget _ _ hk)
      refine ⟨x, h1, fun b' C' hx => ?_⟩
      obtain ⟨hB, cs', ti', pre', hcs, hti', hcsz, hpre', hpl⟩ := h2 b' C' hx
      exact ⟨hB, cs', ti', pre', hcs, hti', hcsz, by show (if b' = blk then some cs.toList else ρ.fro b') = _; rw [if_neg (hnf _ _ hpre')]; exact hpre', hpl⟩
theorem aF.fz {A : Option Nat} {P : Program} {s n m sz len : Nat} {fl fl2 : List (Nat × EVal)} {l l2 : List (Nat × Option EObj)} {k k2 : List (Nat × Option (Nat × TypeId))} {cells cells' : List EVal} {e : TypeId} {lo hi : Nat} {sl : Bool} (id : Nat) (hid : id < 16000)
    (hg : aB l id = some (.row cells e lo hi sl)) (hk : keepL cells = some cells') (hlen : cells'.length = len * sz)
    (hf : ∀ p ∈ fl2, p.1 < 1000 ∧ ∃ v, aL fl p.1 = some v ∧ fzR id len (.lsl (bF sz len cells')) v p.2)
    (hl : ∀ p ∈ l2, p.1 < 16000 ∧ p.1 ≠ id ∧ ∃ o2, p.2 = some o2 ∧ (aB l p.1 = some o2 ∨ ∃ cs1 cs2 e lo hi sl, aB l p.1 = some (.row cs1 e lo hi sl) ∧ o2 = .row cs2 e lo hi sl ∧ fzL id len (.lsl (bF sz len cells')) cs1 cs2))
    (hk2 : ∀ p ∈ k2, p.1 < 250 ∧ ∃ x, p.2 = some x ∧ aB k p.1 = some x) :
    aF A P (mkF s fl) (mkH n l m k) (mkF s fl2) (mkH n l2 m k2) :=
  aF.fzD (ds := []) (r := none) id hid hg hk hlen hf hl hk2
end Go.Ev
namespace Go.Ev
open Go.RowKit
theorem Top.cut {A : Option Nat} {P : Program} {g : G} {K : bE} {a b : Code} {f f1 f2 : EFr} {h h1 h2 : H} {Q : bO} (hng : NoNG P) (H1 : ∀ R : bO, R .normal f1 h1 → wp A P g K a f h R) (v : aF A P f1 h1 f2 h2) (H2 : Top A P g K b f2 h2 Q) : Top A P g K (.seq a b) f h Q :=
  Top.seq (aH hng _ _ _ _ (H1 _ (Top.view v H2)))
end Go.Ev
namespace Go.Ev
open Go.RowKit

theorem mkH_fz {n m : Nat} {l : List (Nat × Option EObj)} {k : List (Nat × Option (Nat × TypeId))} : (mkH n l m k).fz = decide (128 ≤ m) := (rfl)
theorem ndEq_yes {P : Program} {ty el : TypeId} (h : P.underlying ty = some (.slice el)) : ndEq P ty (some (.lsl [])) (some .nilslice) = true := by
  unfold ndEq; rw [h]
theorem mkD_putd {n : Nat} {l : List (Nat × EVal)} {ds : List Nat} {r : Option Nat} {i : Nat} {v : EVal} (h : i < n) : (mkD n l ds r).putd (some i) v = mkD n ((i, v) :: l) ds r := by
  unfold EFr.putd mkD
  simp only [Nat.blt_eq, Bool.cond_eq_ite, h, if_true]
  rfl
theorem mkD_putd_none {n : Nat} {l : List (Nat × EVal)} {ds : List Nat} {r : Option Nat} {v : EVal} : (mkD n l ds r).putd none v = mkD n l ds r := (rfl)
theorem mkD_tmps {n : Nat} {l : List (Nat × EVal)} {ds : List Nat} {r : Option Nat} : (mkD n l ds r).tmps = T.ofL l := (rfl)
theorem mkD_defers {n : Nat} {l : List (Nat × EVal)} {ds : List Nat} {r : Option Nat} : (mkD n l ds r).defers = ds := (rfl)
section
variable {P : Program} {g : G} {K : bE}

/-- lists that are written out stand for good from here on -/
theorem aF.mode {A : Option Nat} {f : EFr} {n m : Nat} {l : List (Nat × Option EObj)} {k : List (Nat × Option (Nat × TypeId))} (m' : Nat) (hm : m ≤ m') : aF A P f (mkH n l m k) f (mkH n l m' k) := fun B0 W0 b t d ρ w F R =>
  ⟨ρ, Loc.leA_refl, F, R.below, R.base, R.dom, R.lo, R.inj, R.objs, R.fz, R.free, R.fz0, fun id q hid => R.mdom id q (Nat.le_trans hm hid), R.toks, R.tnew, R.tinj⟩

/-- how a call ends -/
def Ends2 (P : Program) (g : G) (fn : Func) (k : EVal → H → Prop) : bO := fun e f h =>
  (match e with | .normal => True | .ret => True | .exit _ => False) ∧ ∃ h2 es, takeAll h f.defers = some h2 ∧ resultsE P g h2 f.tmps fn.results.toList = some es ∧ k (one es) h2

theorem leN_dom {ρ ρ' : Loc} {B0 : Nat} {W0 : Base} {h : H} {w : World} (R : HRel P B0 W0 ρ h w) (hl : ρ.leA (some h.n) ρ') : ρ.le ρ' := by
  have hl := hl _ rfl
  refine ⟨fun id x hx => ?_, hl.fro, hl.tau⟩
  rcases Nat.lt_or_ge id h.n with h1 | h1
  · exact hl.own id x h1 hx
  · rw [R.dom id h1] at hx; cases hx

/-- A call that may turn memory: its text is walked where the caller stands. -/
theorem CallT.intro {f : FuncId} {args : List EVal} {h : H} {k : EVal → H → Prop} {fn : Func} (hfn : P.funcs[f]? = some fn) {c : Code} (hc : fn.body = some c)
    (H1 : Top (some h.n) P g K c (startFr fn args) h (Ends2 P g fn k)) : CallT P g K f args h k := by
  intro B0 W0 G hK vs ρ w hvs R cs
  let b : Frame := { (default : Frame) with fn := f, kind := .normal, roundOf := none }
  have henter : Frame.enter P f vs .normal = fr b (vs ++ Array.replicate (fn.ntmps - vs.size) undef) [] [.code c] := by
    simp [Frame.enter, fr, hfn, hc, b]
  have F0 : FRel ρ (startFr fn args) b (vs ++ Array.replicate (fn.ntmps - vs.size) undef) [] := by
    have hl : args.length = vs.size := by rw [hvs.length]; simp
    refine ⟨?_, ?_, .nil, trivial⟩
    · simp only [Array.size_append, Array.size_replicate]
      show _ = Nat.max fn.ntmps args.length
      rw [hl]
      simp only [Nat.max_def]; split <;> omega
    · refine initA_sound args 0 _ _ (fun j e hj => ?_) (fun i e hi hor => ?_)
      · obtain ⟨u, hu, hr⟩ := hvs.get hj
        have hlt : j < vs.size := by have := (List.getElem?_eq_some_iff.1 hu).1; simpa using this
        have : (vs ++ Array.replicate (fn.ntmps - vs.size) undef).getD (0 + j) undef = u := by
          rw [Array.getD_eq_getD_getElem?, Nat.zero_add, Array.getElem?_append_left hlt]
          have : vs[j]? = some u := by simpa using hu
          rw [this]; rfl
        rw [this]; exact hr
      · have := T.get_full _ _ _ hi
        cases this
        have : (vs ++ Array.replicate (fn.ntmps - vs.size) undef).getD i undef = undef := by
          rw [Array.getD_eq_getD_getElem?, Array.getElem?_append_right (by omega), Array.getElem?_replicate]
          split <;> rfl
        rw [this]; exact undef_rel _
  obtain ⟨e, f1, h1, ⟨hend, h2, es, hta, hes, hk⟩, t1, d1, w1, ρ1, l1, F1, R1, A1⟩ := H1 B0 W0 G hK b _ [] [] cs ρ w F0 R
  have hle := leN_dom R l1
  rw [← henter] at A1
  have fin : ∀ (todo : List Item), Steps P (lone (Frame.enter P f vs .normal) cs w) (lone { fr b t1 d1 todo with mode := .returning } cs w1) →
      ∃ (e : Ending) (w' : World) (fr' : Frame), (∃ v h' u ρ', k v h' ∧ e = .returned u ∧ ρ.le ρ' ∧ VRel ρ' v u ∧ HRel P B0 W0 ρ' h' w') ∧ Comes P (lone (Frame.enter P f vs .normal) cs w) (lone fr' cs w') e ∧ fr'.fn = f ∧ fr'.leaving P w' e := by
    intro todo hs
    obtain ⟨w2, R2, s2⟩ := takeAll_sound (b := b) (todo := todo) (t := t1) (cs := cs) F1.defers R1 hta
    obtain ⟨us, hu1, hu2⟩ := results_sound G R2 F1.tmps _ _ hes
    refine ⟨.returned (if h : us.toArray.size = 1 then us.toArray[0] else .tuple us.toArray), w2, _, ⟨_, _, _, ρ1, hk, rfl, hle, one_rel hu2, R2⟩, Steps.trans hs s2, rfl, rfl, rfl, rfl, fn, hfn, ?_⟩
    show (results fn t1).run P w2 = _
    unfold results
    rw [Array.mapM_eq_mapM_toList]
    simp only [Sem.run_bind, Sem.run_map, Sem.run_pure]
    have := congrArg (fun q => (q.andThen fun a w' => (Result.ok (a.toArray : Array Value) w' : Result (Array Value))).andThen fun vs w' => (Result.ok (if h : vs.size = 1 then vs[0] else Value.tuple vs) w' : Result Value)) hu1
    exact this
  cases e with
  | ret =>
    obtain ⟨k', s1⟩ := A1
    exact fin _ (Steps.trans s1 (.one (st_ret rfl)))
  | normal => exact fin _ (Steps.trans A1 (.one (st_end rfl)))
  | exit id => exact hend.elim

theorem CallT.mono {f : FuncId} {args : List EVal} {h : H} {k k' : EVal → H → Prop} (H1 : CallT P g K f args h k) (hk : ∀ v h', k v h' → k' v h') : CallT P g K f args h k' := by
  intro B0 W0 G hK vs ρ w hvs R
  refine (H1 B0 W0 G hK vs ρ w hvs R).mono ?_
  rintro e w' ⟨v, h', u, ρ', h1, rest⟩
  exact ⟨v, h', u, ρ', hk _ _ h1, rest⟩

/-- how a round ends -/
def roundEnd (id : Nat) (k : EVal → H → Prop) : bO := fun e _ h => match h.get id with
  | some (.loop _ _ f t ps a b d) => match e with
    | .normal => k (.bool true) (h.put id (.loop .ready none f t ps a b d))
    | .ret => k (.bool false) (h.put id (.loop .done (some .ret) f t ps a b d))
    | .exit i => k (.bool false) (h.put id (.loop .done (some (.exit i)) f t ps a b d))
  | _ => False
/-- behind the part of a round that gives the variables their values -/
def roundMid (A : Option Nat) (P : Program) (g : G) (K : bE) (id : Nat) (y : Code) (k : EVal → H → Prop) : bO := fun e f h => e = .normal ∧ match h.get id with
  | some (.loop .ready pend n t ps a b d) => Top A P g K y f (h.put id (.loop .busy pend n t ps a b d)) (roundEnd id k)
  | _ => False

/-- A round of a loop over a function. -/
theorem RoundT.intro {id : Nat} {args : List EVal} {h : H} {k : EVal → H → Prop} {st : LoopState} {pend : Option Code} {n dd : Nat} {t t' : T EVal} {ps : List Tmp} {x y : Code}
    (hg : h.get id = some (.loop st pend n t ps x y dd)) (hsp : setParams n t ps args = some t')
    (H1 : Top (some h.n) P g K x ⟨n, t', [], some id⟩ h (roundMid (some h.n) P g K id y k)) : RoundT P g K id args h k := by
  intro B0 W0 G hK l C vs ρ w c cs hid hvs R
  obtain ⟨L, hw, hL1, hL2, hL3, hL4, hL5, hL6, hL7, hgo, _⟩ := loopObj R hid hg
  obtain ⟨p1, p2, p3⟩ := setParams_sound ps args vs.toList t t' L.tmps hsp hL4 hL3 hvs
  let tm := (ps.zip vs.toList).foldl (fun (a : Array Value) (x : Tmp × Value) => a.setIfInBounds x.1 x.2) L.tmps
  have hyield : (Instr.yield l vs).run P w = .ok (.round l L.fn tm x y) w := by
    have hsz : ¬ (vs.size ≠ L.params.size) := by
      rw [← hL5] at p1; simp at p1; omega
    have hfold : (L.params.zip vs).foldl (fun (tmps : Array Value) (x : Tmp × Value) => tmps.setIfInBounds x.1 x.2) L.tmps = tm := by
      rw [← Array.foldl_toList, Array.toList_zip, hL5]
    simp only [Instr.yield, Instr.getLoop, Sem.run_bind, hgo, Result.andThen_ok, Sem.run_pure, if_neg hsz]
    rw [hL6, hL7]
    exact congrArg (fun q => Result.ok (Next.round l L.fn q x y) w) hfold
  let b : Frame := { (default : Frame) with fn := L.fn, kind := .normal, roundOf := some l }
  have hround : Frame.round l L.fn tm x y .normal = fr b tm [] [.code x, .beginRound, .code y] := rfl
  have F : FRel ρ ⟨n, t', [], some id⟩ b tm [] := ⟨p3, p2, .nil, ⟨C, hid⟩⟩
  obtain ⟨e1, f1, hh1, hm1, t1, d1, w1, ρ1, l1, F1, R1, A1⟩ := H1 B0 W0 G hK b tm [] [.beginRound, .code y] (c :: cs) ρ w F R
  have hle1 := leN_dom R l1
  unfold roundMid at hm1
  obtain ⟨rfl, hm1⟩ := hm1
  split at hm1
  rotate_left
  · exact hm1.elim
  rename_i pend' n' tt pp aa bb dd' hg1
  have hid1 := hle1.own _ _ hid
  obtain ⟨L1, hw1, hM1, hM2, hM3, hM4, hM5, hM6, hM7, hgo1, hput1⟩ := loopObj R1 hid1 hg1
  obtain ⟨hso1, R2⟩ := hput1 .busy pend' { L1 with state := .busy } (by cases hM2; rfl)
  have hbegin : (Instr.beginRound l).run P w1 = .ok () { w1 with heap := w1.heap.setIfInBounds l (.loop { L1 with state := .busy }) } := by
    simp [Instr.beginRound, Instr.getLoop, hgo1, hso1, hM1]
  obtain ⟨e2, f2, hh2, hm2, t2, d2, w2, ρ2, l2, F2, R3, A2⟩ := hm1 B0 W0 G hK b t1 d1 [] (c :: cs) ρ1 _ F1 R2
  have hle2 : ρ.le ρ2 := leN_dom R (Loc.leA_trans l1 l2)
  have s1 : Steps P (lone (Frame.round l L.fn tm x y .normal) (c :: cs) w) (lone (fr b t1 d1 [.code y]) (c :: cs) { w1 with heap := w1.heap.setIfInBounds l (.loop { L1 with state := .busy }) }) := by
    rw [hround]
    exact Steps.trans A1 (.one (st_beginRound rfl hbegin))
  unfold roundEnd at hm2
  split at hm2
  rotate_left
  · exact hm2.elim
  rename_i st3 pend3 n3 t3 p3 a3 b3 d3 hg3
  have hid2 := hle2.own _ _ hid
  obtain ⟨L2, hw2, hN1, hN2, hN3, hN4, hN5, hN6, hN7, hgo2, hput2⟩ := loopObj R3 hid2 hg3
  have hend : ∀ jump : Option Code, (Instr.endRound l jump).run P w2 = .ok (.bool jump.isNone) { w2 with heap := w2.heap.setIfInBounds l (.loop { L2 with state := if jump.isNone then .ready else .done, pending := jump }) } := by
    intro jump
    obtain ⟨hso, _⟩ := hput2 (if jump.isNone then .ready else .done) jump { L2 with state := if jump.isNone then .ready else .done, pending := jump } rfl
    simp only [Instr.endRound, Instr.getLoop, Sem.run_bind, hgo2, Result.andThen_ok, Sem.run_pure, hso]
  cases e2 with
  | normal =>
    obtain ⟨_, R4⟩ := hput2 .ready none { L2 with state := .ready, pending := none } rfl
    refine ⟨_, _, .bool true, ρ2, _, L.fn, tm, x, y, hm2, hyield, hle2, .bool _, R4, Steps.trans s1 (Steps.trans A2 (.one ?_))⟩
    exact st_leave_end rfl rfl (hend none)
  | ret =>
    obtain ⟨_, R4⟩ := hput2 .done (some .ret) { L2 with state := .done, pending := some .ret } rfl
    obtain ⟨k', A2⟩ := A2
    refine ⟨_, _, .bool false, ρ2, _, L.fn, tm, x, y, hm2, hyield, hle2, .bool _, R4, Steps.trans s1 (Steps.trans A2 (.one ?_))⟩
    exact st_leave_ret rfl rfl (hend (some .ret))
  | exit i =>
    obtain ⟨_, R4⟩ := hput2 .done (some (.exit i)) { L2 with state := .done, pending := some (.exit i) } rfl
    obtain ⟨k', hk', A2⟩ := A2
    refine ⟨_, _, .bool false, ρ2, _, L.fn, tm, x, y, hm2, hyield, hle2, .bool _, R4, Steps.trans s1 (Steps.trans A2 (.one ?_))⟩
    exact st_leave_exit rfl rfl (by rw [hk']; rfl) (hend (some (.exit i)))

/-- behind a loop over a function -/
def rangeEnd (id : Nat) (f1 : EFr) (Q : bO) : EVal → H → Prop := fun _ h => match h.get id with
  | some (.loop st pend f t p a b d) => st ≠ .busy ∧ (match pend with
    | none => Q .normal f1 (h.put id (.loop .exhausted pend f t p a b d))
    | some .ret => Q .ret f1 (h.put id (.loop .exhausted pend f t p a b d))
    | some (.exit i) => Q (.exit i) f1 (h.put id (.loop .exhausted pend f t p a b d))
    | _ => False)
  | _ => False

/-- A loop over a function, outside of rounds. -/
theorem Top.rangeFunc {A : Option Nat} (hng : NoNG P) {f : Operand} {ps : Array Tmp} {x y : Code} {n : Nat} {tl : T EVal} {ds : List Nat} {h : H} {Q : bO} {kf : FuncId} {caps : List EVal}
    (hf : ev tl f = some (.func kf caps)) (hb : hasBody P kf = true)
    (hc : CallT P g K kf (.yieldf (h.n + 1) :: caps) ((h.new (.deferred false)).new (.loop .ready none n tl ps.toList x y 0)) (rangeEnd (h.n + 1) ⟨n, tl, h.n :: ds, none⟩ Q)) :
    Top A P g K (.rangeFunc f ps x y) ⟨n, tl, ds, none⟩ h Q := by
  intro B0 W0 G hK b t d k cs ρ w F R
  unfold hasBody at hb
  split at hb
  rotate_left
  · cases hb
  rename_i fn hfn
  have hv := F.erel _ _ hf
  generalize hfe : ({ tmps := t, defers := d } : Act).eval f = fv at hv
  cases hv with
  | func _ _ vs hcs =>
  have hb0 : b.roundOf = none := by
    have hround := F.round
    cases hq : b.roundOf with
    | none => rfl
    | some l => rw [hq] at hround; exact hround.elim
  have Rd := R.new (.deferred false) (.deferred (some [])) 0 rfl
  let L : Loop := { state := .ready, pending := none, fn := b.fn, tmps := t, params := ps, assign := x, body := y, defers := w.heap.size }
  have hle1 := Loc.le_add (x := (w.heap.size, 0)) R.fresh
  have hle2 := Loc.le_add (x := ((w.alloc (.deferred (some []))).heap.size, 0)) Rd.fresh
  have Rl := Rd.new (.loop .ready none n tl ps.toList x y 0) (.loop L) 0 ⟨L, rfl, rfl, rfl, F.size, (F.tmps.mono hle1).mono hle2, rfl, rfl, rfl⟩
  have hrun : (Instr.enterLoop b.fn t ps x y b.roundOf).run P w = .ok ((w.alloc (.deferred (some []))).heap.size, [{ target := .collected w.heap.size, args := #[] }]) ((w.alloc (.deferred (some []))).alloc (.loop L)) := by
    rw [hb0]; simp [Instr.enterLoop, L]
  obtain ⟨bl, hbl⟩ : ∃ bl, bl = (w.alloc (.deferred (some []))).heap.size := ⟨_, rfl⟩
  rw [← hbl] at hrun hle2 Rl
  have hle := Loc.le_trans hle1 hle2
  have hl := Loc.add_self (ρ.add h.n (w.heap.size, 0)) (h.n + 1) (bl, 0)
  have hargs : VsRel ((ρ.add h.n (w.heap.size, 0)).add (h.n + 1) (bl, 0)) (.yieldf (h.n + 1) :: caps) (#[Value.func (.yield bl) #[] #[]] ++ vs).toList := by
    rw [Array.toList_append]
    exact .cons _ _ _ _ (.yieldf _ _ _ hl) (hcs.mono hle)
  have F2 : FRel ((ρ.add h.n (w.heap.size, 0)).add (h.n + 1) (bl, 0)) ⟨n, tl, h.n :: ds, none⟩ b t ([{ target := .collected w.heap.size, args := #[] }] ++ d) := by
    refine ⟨F.size, (F.tmps.mono hle1).mono hle2, ?_, ?_⟩
    · exact .cons _ _ 0 _ _ (hle2.own _ _ (Loc.add_self _ _ _)) ((F.defers.mono hle1).mono hle2)
    · rw [hb0]; trivial
  obtain ⟨mark, hmark⟩ : ∃ m : List Deferred, m = [{ target := .collected w.heap.size, args := #[] }] := ⟨_, rfl⟩
  rw [← hmark] at hrun F2
  obtain ⟨e1, w3, fr1, ⟨v, h3, u, ρ3, hm, rfl, hle3, hv3, R3⟩, hcomes, hfn1, hleave⟩ := hc B0 W0 G hK _ _ _ hargs Rl (fr b t (mark ++ d) (.inRangeFunc bl :: k) :: cs)
  have s1 : Steps P (lone (fr b t d (.code (.rangeFunc f ps x y) :: k)) cs w) (lone (fr b t (mark ++ d) (.endRangeFunc bl :: k)) cs w3) := by
    refine .head (st_rangeFunc hng hrun hfe hfn hb) (Steps.trans hcomes (.one ?_))
    exact step_leave_returned hleave
  unfold rangeEnd at hm
  split at hm
  rotate_left
  · exact hm.elim
  rename_i st pend n' tt pp aa bb dd hg
  obtain ⟨hst, hm⟩ := hm
  have hl3 := hle3.own _ _ hl
  obtain ⟨L', hw3, hL1, hL2, hL3, hL4, hL5, hL6, hL7, hgo, hput⟩ := loopObj R3 hl3 hg
  obtain ⟨hso, R4⟩ := hput .exhausted pend { L' with state := .exhausted } (by cases hL2; rfl)
  have hend : (Instr.endLoop bl).run P w3 = .ok pend { w3 with heap := w3.heap.setIfInBounds bl (.loop { L' with state := .exhausted }) } := by
    have hst' : L'.state ≠ LoopState.busy := by rw [hL1]; exact hst
    rw [← hL2]
    simp [Instr.endLoop, Instr.getLoop, hgo, hst', hso]
  have s2 := Steps.trans s1 (.one (st_endRangeFunc (P := P) (b := b) (t := t) (d := mark ++ d) (k := k) (cs := cs) hend))
  have F4 := F2.mono hle3
  have hleA : ρ.leA A ρ3 := Loc.leA_of (Loc.le_trans hle hle3)
  cases pend with
  | none => exact ⟨.normal, _, _, hm, _, _, _, _, hleA, F4, R4, s2⟩
  | some c =>
    cases c with
    | ret => exact ⟨.ret, _, _, hm, _, _, _, _, hleA, F4, R4, k, s2⟩
    | exit i => exact ⟨.exit i, _, _, hm, _, _, _, _, hleA, F4, R4, k, rfl, s2⟩
    | _ => exact hm.elim
end
end Go.Ev
set_option linter.defProp false
namespace Go.Ev
open Go.RowKit
/-- the equations of a walk, together -/
def SS0 := And.intro (And.intro (And.intro (And.intro (And.intro (And.intro (And.intro (@wp_seq) (And.intro (@wp_region) (@wp_block))) (And.intro (And.intro (@wp_scope) (@wp_exit)) (And.intro (@wp_skip) (@wp_label)))) (And.intro (And.intro (@wp_ret) (And.intro (@wp_cond) (@loopQ_normal))) (And.intro (And.intro (@loopQ_exit) (@loopQ_ret)) (And.intro (@seqQ_normal) (@seqQ_exit))))) (And.intro (And.intro (And.intro (@seqQ_ret) (And.intro (@blockQ_normal) (@blockQ_exit))) (And.intro (And.intro (@blockQ_ret) (@wpCond_true)) (And.intro (@wpCond_false) (@wpOps_cons)))) (And.intro (And.intro (@wpOps_nil) (And.intro (@wpStep_true) (@wpStep_false))) (And.intro (And.intro (@wpNext_q) (@wpOp_eq)) (And.intro (@wpOpB_false) (@wpOut_val)))))) (And.intro (And.intro (And.intro (And.intro (@wpOut_enter) (And.intro (@wpKc_some) (@wpDraw_cons))) (And.intro (And.intro (@wpDraw_nil) (@wpDStep_true)) (And.intro (@wpDStep_false) (@wpDNext_q)))) (And.intro (And.intro (@wpDOut_val) (And.intro (@wpDOut_enter) (@wpDKc_some))) (And.intro (And.intro (@wpDSel_pure) (@wpDSel_quiet)) (And.intro (@wpDSel_act) (@Go.Ev.isPure.eq_1))))) (And.intro (And.intro (And.intro (@Go.Ev.isQuiet.eq_1) (And.intro (@Go.Ev.wantedE.eq_1) (@Go.Ev.yieldedE.eq_1))) (And.intro (And.intro (@Go.Ev.eOp.eq_1) (@Go.Ev.mk.eq_1)) (And.intro (@ev_tmp) (@ev_int)))) (And.intro (And.intro (@ev_bool) (And.intro (@ev_str) (@ev_nils))) (And.intro (And.intro (@ev_nilp) (@ev_nilm)) (And.intro (@ev_nilf) (@ev_func))))))) (And.intro (And.intro (And.intro (And.intro (And.intro (@ev_glob) (And.intro (@ev_agg) (@Go.Ev.evs.eq_1))) (And.intro (And.intro (@Go.Ev.evs.eq_2) (@Go.Ev.evParts.eq_1)) (And.intro (@Go.Ev.evParts.eq_2) (@Go.Ev.evOpt.eq_1)))) (And.intro (And.intro (@Go.Ev.evOpt.eq_2) (And.intro (@Go.Ev.absCells.eq_1) (@Go.Ev.absCells.eq_2))) (And.intro (And.intro (@mkF_putd) (@mkF_putd_none)) (And.intro (@mkF_tmps) (@mkF_defers))))) (And.intro (And.intro (And.intro (@T.get_ofL) (And.intro (@Go.Ev.aL.eq_1) (@Go.Ev.aL.eq_2))) (And.intro (And.intro (@mkH_new) (@mkH_put)) (And.intro (@mkH_kill) (@mkH_tok)))) (And.intro (And.intro (@mkH_get) (And.intro (@mkH_k) (@mkH_n))) (And.intro (And.intro (@Go.Ev.aB.eq_1) (@Go.Ev.aB.eq_2)) (And.intro (@Go.Ev.eShl.eq_1) (@Go.Ev.eShr.eq_1)))))) (And.intro (And.intro (And.intro (And.intro (@Go.Ev.eUnOp.eq_1) (And.intro (@Go.Ev.eUnOp.eq_2) (@Go.Ev.eConvOp.eq_1))) (And.intro (And.intro (@Go.Ev.eConvOp.eq_2) (@Go.Ev.eCallB.eq_1)) (And.intro (@Go.Ev.eLenM.eq_1) (@Go.Ev.eAppend.eq_1)))) (And.intro (And.intro (@Go.Ev.eAppendX.eq_1) (And.intro (@Go.Ev.eAppendS.eq_1) (@Go.Ev.eAppendS'.eq_1))) (And.intro (And.intro (@Go.Ev.eAppendG.eq_1) (@Go.Ev.eGrow.eq_1)) (And.intro (@Go.Ev.takeN.eq_1) (@Go.Ev.keepL.eq_1))))) (And.intro (And.intro (And.intro (@Go.Ev.keepL.eq_2) (And.intro (@Go.Ev.bF.eq_1) (@Go.Ev.bF.eq_2))) (And.intro (And.intro (@Go.Ev.eLoadOp.eq_1) (@Go.Ev.eLoadOp.eq_2)) (And.intro (@Go.Ev.eLoad.eq_1) (@Go.Ev.eLoad'.eq_1)))) (And.intro (And.intro (And.intro (@Go.Ev.eLoad'.eq_2) (@Go.Ev.eLoad'.eq_3)) (And.intro (@Go.Ev.aggT.eq_1) (@Go.Ev.eStore.eq_1))) (And.intro (And.intro (@Go.Ev.eStoreCells.eq_1) (@Go.Ev.allOne.eq_1)) (And.intro (@Go.Ev.allOne.eq_2) (@Go.Ev.eFieldAddrOp.eq_1)))))))) (And.intro (And.intro (And.intro (And.intro (And.intro (And.intro (@Go.Ev.eFieldAddrOp.eq_2) (And.intro (@Go.Ev.eFieldAddr.eq_1) (@Go.Ev.eFieldOp.eq_1))) (And.intro (And.intro (@Go.Ev.eFieldOp.eq_2) (@Go.Ev.ePart.eq_1)) (And.intro (@Go.Ev.eIndexAddr'.eq_1) (@Go.Ev.eIndexL.eq_1)))) (And.intro (And.intro (@Go.Ev.eSliceL.eq_1) (And.intro (@Go.Ev.eAlloc.eq_1) (@Go.Ev.eBox.eq_1))) (And.intro (And.intro (@Go.Ev.eBox.eq_2) (@Go.Ev.eBuildS.eq_1)) (And.intro (@Go.Ev.eBuildA.eq_1) (@Go.Ev.eBuildSlice'.eq_1))))) (And.intro (And.intro (And.intro (@Go.Ev.fillE.eq_1) (And.intro (@Go.Ev.fillE.eq_2) (@Go.Ev.placeS.eq_1))) (And.intro (And.intro (@Go.Ev.eMakeSlice'.eq_1) (@Go.Ev.eNextS'.eq_1)) (And.intro (@Go.Ev.argsB.eq_1) (@Go.Ev.argsB.eq_2)))) (And.intro (And.intro (@Go.Ev.capOK.eq_1) (And.intro (@Go.Ev.capOK.eq_2) (@Go.Ev.flatL.eq_1))) (And.intro (And.intro (@Go.Ev.flatL.eq_2) (@known_nil)) (And.intro (@known_hit) (@known_cons)))))) (And.intro (And.intro (And.intro (And.intro (@Go.Ev.undefE.eq_1) (And.intro (@Option.map_some.{0,0}) (@Option.map_none.{0,0}))) (And.intro (And.intro (@Option.some.injEq.{0}) (@if_true.{1})) (And.intro (@if_false.{1}) (@List.getElem?_toArray.{0})))) (And.intro (And.intro (@List.getElem?_cons_zero.{0}) (And.intro (@List.getElem?_cons_succ.{0}) (@List.length_cons.{0}))) (And.intro (And.intro (@List.length_nil.{0}) (@List.append_nil.{0})) (And.intro (@List.nil_append.{0}) (@List.cons_append.{0}))))) (And.intro (And.intro (And.intro (@List.map_cons.{0,0}) (And.intro (@List.map_nil.{0,0}) (@List.any_cons.{0}))) (And.intro (And.intro (@List.any_nil.{0}) (@List.take_succ_cons.{0})) (And.intro (@List.take_zero.{0}) (@List.drop_succ_cons.{0})))) (And.intro (And.intro (@List.drop_zero.{0}) (And.intro (@List.drop_nil.{0}) (@List.take_nil.{0}))) (And.intro (And.intro (@Nat.zero_add) (@Nat.mul_one)) (And.intro (@Nat.zero_le) (@bne_not))))))) (And.intro (And.intro (And.intro (And.intro (And.intro (@some_beq) (And.intro (@none_beq) (@beq_t))) (And.intro (And.intro (@beq_f) (@Int.natCast_nonneg)) (And.intro (@Int.toNat_natCast) (@Int.le_refl)))) (And.intro (And.intro (@Int.toNat_zero) (And.intro (@Int.natCast_zero) (@BEq.rfl.{0}))) (And.intro (And.intro (@beq_self_eq_true.{0}) (@Option.bind_some.{0,0})) (And.intro (@Go.Ev.resultsE.eq_1) (@Go.Ev.resultsE.eq_2))))) (And.intro (And.intro (And.intro (@Go.Ev.resultsE.eq_3) (And.intro (@Go.Ev.keepT.eq_1) (@Go.Ev.keepT.eq_2))) (And.intro (And.intro (@Bool.not_true) (@Bool.not_false)) (And.intro (@Bool.or_false) (@Bool.false_or)))) (And.intro (And.intro (@Bool.or_true) (And.intro (@Bool.true_or) (@Bool.and_true))) (And.intro (And.intro (@Bool.true_and) (@Bool.and_false)) (And.intro (@Bool.false_and) (@Bool.cond_true.{1})))))) (And.intro (And.intro (And.intro (And.intro (@Bool.cond_false.{1}) (And.intro (@decide_true) (@decide_false))) (And.intro (And.intro (@Bool.false_eq_true) (@ne_eq.{1})) (And.intro (@not_true_eq_false) (@not_false_eq_true)))) (And.intro (And.intro (@gt_iff_lt.{0}) (And.intro (@ge_iff_le.{0}) (@or_self))) (And.intro (And.intro (@or_false) (@false_or)) (And.intro (@true_or) (@or_true))))) (And.intro (And.intro (And.intro (@H.start_mk) (And.intro (@Nat.lt_irrefl) (@Nat.le_refl))) (And.intro (And.intro (@List.flatten_cons.{0}) (@List.flatten_nil.{0})) (And.intro (@List.replicate.eq_1.{0}) (@List.replicate.eq_2.{0})))) (And.intro (And.intro (And.intro (@true_and) (@and_true)) (And.intro (@true_implies) (@false_implies))) (And.intro (And.intro (@implies_true.{0}) (@implies_true.{1})) (And.intro (@exists_eq_left'.{1}) (@and_self))))))))
def SS1 := And.intro SS0 (And.intro (And.intro (And.intro (@wpOut_yield) (And.intro (@wpOut_none) (@wpNd_true))) (And.intro (@wpKc_none) (And.intro (@mkH_fz) (@Go.Ev.isStill.eq_1)))) (And.intro (And.intro (@Go.Ev.ndOp.eq_1) (And.intro (@ndEq_yes) (@mkD_putd))) (And.intro (@mkD_putd_none) (And.intro (@mkD_tmps) (@mkD_defers)))))
def SX := And.intro (And.intro (And.intro (And.intro (And.intro (And.intro (And.intro (@Go.Ev.isNew.eq_1) (@Go.Ev.absCell.eq_1)) (And.intro (@Go.Ev.absCell.eq_2) (And.intro (@Go.Ev.absCell.eq_3) (@Go.Ev.absCell.eq_4)))) (And.intro (And.intro (@Go.Ev.absCell.eq_5) (And.intro (@Go.Ev.absCell.eq_6) (@Go.Ev.absCell.eq_7))) (And.intro (@Go.Ev.absCell.eq_8) (And.intro (@Go.Ev.absCell.eq_9) (@Go.Ev.absCell.eq_10))))) (And.intro (And.intro (And.intro (@Go.Ev.absCell.eq_11) (@Go.Ev.eBinOp.eq_1)) (And.intro (@Go.Ev.eBinOp.eq_2) (And.intro (@Go.Ev.eBin.eq_1) (@Go.Ev.eBin.eq_2)))) (And.intro (And.intro (@Go.Ev.eBin.eq_3) (And.intro (@Go.Ev.eBin.eq_4) (@Go.Ev.eBin.eq_5))) (And.intro (@Go.Ev.eInt2.eq_1) (And.intro (@Go.Ev.eInt2.eq_2) (@Go.Ev.eInt2.eq_3)))))) (And.intro (And.intro (And.intro (And.intro (@Go.Ev.eInt.eq_1) (@Go.Ev.eInt.eq_2)) (And.intro (@Go.Ev.eInt.eq_3) (And.intro (@Go.Ev.eInt.eq_4) (@Go.Ev.eInt.eq_5)))) (And.intro (And.intro (@Go.Ev.eInt.eq_6) (And.intro (@Go.Ev.eInt.eq_7) (@Go.Ev.eInt.eq_8))) (And.intro (@Go.Ev.eInt.eq_9) (And.intro (@Go.Ev.eInt.eq_10) (@Go.Ev.eInt.eq_11))))) (And.intro (And.intro (And.intro (@Go.Ev.eInt.eq_12) (@Go.Ev.eInt.eq_13)) (And.intro (@Go.Ev.eInt.eq_14) (And.intro (@Go.Ev.eInt.eq_15) (@Go.Ev.eInt.eq_16)))) (And.intro (And.intro (@Go.Ev.eStr.eq_1) (And.intro (@Go.Ev.eStr.eq_2) (@Go.Ev.eStr.eq_3))) (And.intro (@Go.Ev.eStr.eq_4) (And.intro (@Go.Ev.eStr.eq_5) (@Go.Ev.eStr.eq_6))))))) (And.intro (And.intro (And.intro (And.intro (And.intro (@Go.Ev.eStr.eq_7) (@Go.Ev.eStr.eq_8)) (And.intro (@Go.Ev.eUn.eq_1) (And.intro (@Go.Ev.eUn.eq_2) (@Go.Ev.eUn.eq_3)))) (And.intro (And.intro (@Go.Ev.ePick.eq_1) (And.intro (@Go.Ev.ePick.eq_2) (@Go.Ev.ePick.eq_3))) (And.intro (@Go.Ev.eExtract.eq_1) (And.intro (@Go.Ev.eExtract.eq_2) (@Go.Ev.eNil.eq_1))))) (And.intro (And.intro (And.intro (@Go.Ev.eNil.eq_2) (@Go.Ev.eNil.eq_3)) (And.intro (@Go.Ev.eNil.eq_4) (And.intro (@Go.Ev.eNil.eq_5) (@Go.Ev.eCall.eq_1)))) (And.intro (And.intro (@Go.Ev.eCall.eq_2) (And.intro (@Go.Ev.eCall.eq_3) (@Go.Ev.eCall.eq_4))) (And.intro (@Go.Ev.eCallV.eq_1) (And.intro (@Go.Ev.eCallV.eq_2) (@Go.Ev.eCallV.eq_3)))))) (And.intro (And.intro (And.intro (And.intro (@Go.Ev.eBuiltin.eq_1) (@Go.Ev.eBuiltin.eq_2)) (And.intro (@Go.Ev.eBuiltin.eq_3) (And.intro (@Go.Ev.eBuiltin.eq_4) (@Go.Ev.eBuiltin.eq_5)))) (And.intro (And.intro (@Go.Ev.eBuiltin.eq_6) (And.intro (@Go.Ev.eBuiltin.eq_7) (@Go.Ev.eBuiltin.eq_8))) (And.intro (@Go.Ev.eBuiltin.eq_9) (And.intro (@Go.Ev.eBuiltin.eq_10) (@Go.Ev.eBuiltin.eq_11))))) (And.intro (And.intro (And.intro (@Go.Ev.eBuiltin.eq_12) (@Go.Ev.eBuiltin.eq_13)) (And.intro (@Go.Ev.eBuiltin.eq_14) (And.intro (@Go.Ev.eBuiltin.eq_15) (@Go.Ev.eBuiltin.eq_16)))) (And.intro (And.intro (@Go.Ev.eBuiltin.eq_17) (And.intro (@Go.Ev.eBuiltin.eq_18) (@Go.Ev.eLen.eq_1))) (And.intro (@Go.Ev.eLen.eq_2) (And.intro (@Go.Ev.eLen.eq_3) (@Go.Ev.eLen.eq_4)))))))) (And.intro (And.intro (And.intro (And.intro (And.intro (And.intro (@Go.Ev.eLen.eq_5) (@Go.Ev.eLen.eq_6)) (And.intro (@Go.Ev.eLen.eq_7) (And.intro (@Go.Ev.eLen.eq_8) (@Go.Ev.eCap.eq_1)))) (And.intro (And.intro (@Go.Ev.eCap.eq_2) (And.intro (@Go.Ev.eCap.eq_3) (@Go.Ev.srcCells.eq_1))) (And.intro (@Go.Ev.srcCells.eq_2) (And.intro (@Go.Ev.srcCells.eq_3) (@Go.Ev.srcCells.eq_4))))) (And.intro (And.intro (And.intro (@Go.Ev.srcCells.eq_5) (@Go.Ev.srcCells.eq_6)) (And.intro (@Go.Ev.keepV.eq_1) (And.intro (@Go.Ev.keepV.eq_2) (@Go.Ev.keepV.eq_3)))) (And.intro (And.intro (@Go.Ev.keep1.eq_1) (And.intro (@Go.Ev.keep1.eq_2) (@Go.Ev.keep1.eq_3))) (And.intro (@Go.Ev.keep1.eq_4) (And.intro (@Go.Ev.keep1.eq_5) (@Go.Ev.keep1.eq_6)))))) (And.intro (And.intro (And.intro (And.intro (@Go.Ev.keep1.eq_7) (@Go.Ev.keep1.eq_8)) (And.intro (@Go.Ev.keep1.eq_9) (And.intro (@Go.Ev.keep1.eq_10) (@Go.Ev.keep1.eq_11)))) (And.intro (And.intro (@Go.Ev.keep1.eq_12) (And.intro (@Go.Ev.keep1.eq_13) (@Go.Ev.keep1.eq_14))) (And.intro (@Go.Ev.row?.eq_1) (And.intro (@Go.Ev.row?.eq_2) (@Go.Ev.row?.eq_3))))) (And.intro (And.intro (And.intro (@Go.Ev.row?.eq_4) (@Go.Ev.eStoreOp.eq_1)) (And.intro (@Go.Ev.eStoreOp.eq_2) (And.intro (@Go.Ev.EVal.cells.eq_1) (@Go.Ev.EVal.cells.eq_2)))) (And.intro (And.intro (@Go.Ev.EVal.one.eq_1) (And.intro (@Go.Ev.EVal.one.eq_2) (@Go.Ev.EVal.one.eq_3))) (And.intro (@Go.Ev.eShift.eq_1) (And.intro (@Go.Ev.eShift.eq_2) (@Go.Ev.eShift.eq_3))))))) (And.intro (And.intro (And.intro (And.intro (And.intro (@Go.Ev.eShift.eq_4) (@Go.Ev.eIndexAddrOp.eq_1)) (And.intro (@Go.Ev.eIndexAddrOp.eq_2) (And.intro (@Go.Ev.eIndexAddr.eq_1) (@Go.Ev.eIndexAddr.eq_2)))) (And.intro (And.intro (@Go.Ev.eIndexOp.eq_1) (And.intro (@Go.Ev.eIndexOp.eq_2) (@Go.Ev.eIndex.eq_1))) (And.intro (@Go.Ev.eIndex.eq_2) (And.intro (@Go.Ev.eIndex.eq_3) (@Go.Ev.eSliceOp.eq_1))))) (And.intro (And.intro (And.intro (@Go.Ev.eSliceOp.eq_2) (@Go.Ev.bound.eq_1)) (And.intro (@Go.Ev.bound.eq_2) (And.intro (@Go.Ev.bound.eq_3) (@Go.Ev.eMakeSlice.eq_1)))) (And.intro (And.intro (@Go.Ev.eMakeSlice.eq_2) (And.intro (@Go.Ev.eRange.eq_1) (@Go.Ev.eRange.eq_2))) (And.intro (@Go.Ev.eRange.eq_3) (And.intro (@Go.Ev.eNextS.eq_1) (@Go.Ev.eNextS.eq_2)))))) (And.intro (And.intro (And.intro (And.intro (@Go.Ev.argB.eq_1) (@Go.Ev.argB.eq_2)) (And.intro (@Go.Ev.isLent.eq_1) (And.intro (@Go.Ev.isLent.eq_2) (@Go.Ev.flat.eq_1)))) (And.intro (And.intro (@Go.Ev.flat.eq_2) (And.intro (@Go.Ev.flat.eq_3) (@Go.Ev.flat.eq_4))) (And.intro (@Go.Ev.flat.eq_5) (And.intro (@Go.Ev.flat.eq_6) (@Go.Ev.flat.eq_7))))) (And.intro (And.intro (And.intro (@Go.Ev.flat.eq_8) (And.intro (@Go.Ev.flat.eq_9) (@Go.Ev.flat.eq_10))) (And.intro (@Go.Ev.flat.eq_11) (And.intro (@Go.Ev.flat.eq_12) (@Go.Ev.one.eq_1)))) (And.intro (And.intro (@Go.Ev.one.eq_2) (And.intro (@Go.Ev.keepA.eq_1) (@Go.Ev.keepA.eq_2))) (And.intro (@extB_q) (And.intro (@Option.isNone_none.{0}) (@Option.isNone_some.{0}))))))))
def SS := And.intro SS1 SX
end Go.Ev
namespace Go.Ev
open Go.RowKit

/-! pitches, counted: bytes and numbers alone -/
abbrev Cnt := Int × Int
def full (c : Cnt) : Bool := c.1 == 4 || c.2 == 3
end Go.Ev
namespace Go.Ev
open Go.RowKit
/-- a sequence cut at a state out of a type -/
theorem Top.seam {A : Option Nat} {P : Program} {g : G} {K : bE} {x y : Code} {f : EFr} {h : H} {Q : bO} {σ : Type} (hng : NoNG P) (F2 : σ → EFr) (H2 : σ → H)
    (H1 : ∀ R : bO, (∀ s f1 h1, aF A P f1 h1 (F2 s) (H2 s) → R .normal f1 h1) → wp A P g K x f h R) (H3 : ∀ s, Top A P g K y (F2 s) (H2 s) Q) : Top A P g K (.seq x y) f h Q :=
  Top.seq (aH hng _ _ _ _ (H1 _ fun s _ _ v => Top.view v (H3 s)))
end Go.Ev
namespace Go.Ev
open Go.RowKit

/-! a closed call whose value stands for good: the rows behind its slices and pointers are kept as they are -/
def deepL (f : EVal → Option EVal) : List EVal → Option (List EVal)
  | [] => some []
  | v :: l => match f v, deepL f l with
    | some a, some b => some (a :: b)
    | _, _ => none

noncomputable def deepB (P : Program) (h : H) : Nat → EVal → Option EVal
  | 0, _ => none
  | n + 1, v => match v with
    | .agg l => (deepL (deepB P h n) l).map .agg
    | .tup l => (deepL (deepB P h n) l).map .tup
    | .slice id off len cap => match h.get id with
      | some (.row cs e _ _ _) => match aZ P e with
        | some sz => match takeN cs off (len * sz) with
          | some r => match deepL (deepB P h n) r with
            | some r' => if capOK len cap = true ∧ sz ≠ 0 then some (.lsl (bF sz len r')) else none
            | none => none
          | none => none
        | none => none
      | _ => none
    | .ptr id off => match h.get id with
      | some (.row cs _ _ _ _) => match deepL (deepB P h n) cs with
        | some r => some (.lptr r off)
        | none => none
      | _ => none
    | v => keep1 v

def froMix (B0 : Nat) (W0 : Base) (w : World) : Nat → Option (List Value) := fun b => if b < B0 then W0.fro b else froAll w b

section
variable {P : Program} {B0 : Nat} {W0 : Base} {g : G} {K : bE}

theorem fz_mix {ρ : Loc} {h : H} {w : World} (R : HRel P B0 W0 ρ h w) : ρ.fz.le ⟨fun _ => none, froMix B0 W0 w, fun _ _ => none⟩ :=
  ⟨fun _ _ h => (by cases h), fun b pre hb => by
    have hb' : ρ.fro b = some pre := hb
    show ∃ more, (if b < B0 then W0.fro b else froAll w b) = _
    by_cases hlt : b < B0
    · rw [if_pos hlt, ← R.fz0 b hlt]; exact ⟨[], by rw [hb', List.append_nil]⟩
    · rw [if_neg hlt]; exact (fz_all R.fz).fro b pre hb, fun _ _ _ h => (by cases h)⟩

theorem froMix_ok {ρ : Loc} {h : H} {w : World} (R : HRel P B0 W0 ρ h w) : bY (froMix B0 W0 w) w := fun b pre hb => by
  unfold froMix at hb
  split at hb
  · rename_i hlt; exact R.fz b pre (by rw [R.fz0 b hlt]; exact hb)
  · exact froAll_ok w b pre hb

theorem deepL_sound {ρ A : Loc} {f : EVal → Option EVal} (hf : ∀ v v' u, VRel ρ v u → f v = some v' → VRel A v' u) : ∀ {l l' : List EVal} {us : List Value}, VsRel ρ l us → deepL f l = some l' → VsRel A l' us
  | [], l', us, h, hk => by
    simp only [deepL, Option.some.injEq] at hk; subst hk
    cases h; exact .nil
  | v :: l, l', us, h, hk => by
    simp only [deepL] at hk
    split at hk
    · rename_i a b ha hb
      simp only [Option.some.injEq] at hk; subst hk
      cases h with
      | cons _ u _ us h hs => exact .cons _ _ _ _ (hf _ _ _ h ha) (deepL_sound hf hs hb)
    · cases hk

theorem deepB_sound {ρ : Loc} {h : H} {w : World} (R : HRel P B0 W0 ρ h w) : ∀ (n : Nat) (v v' : EVal) (u : Value), VRel ρ v u → deepB P h n v = some v' → VRel ⟨fun _ => none, froMix B0 W0 w, fun _ _ => none⟩ v' u
  | 0, _, _, _, _, hk => by cases hk
  | n + 1, v, v', u, hv, hk => by
    have ih := deepB_sound R n
    have own : ∀ id b C, ρ id = some (b, C) → ∀ cv e m, w.heap[b]? = some (.cells cv e m) → froMix B0 W0 w b = some cv.toList := by
      intro id b C hb cv e m hw
      have := (R.lo _ _ _ hb).1
      unfold froMix
      rw [if_neg (by omega)]
      simp [froAll, hw]
    unfold deepB at hk
    split at hk
    · rename_i l
      cases hl : deepL (deepB P h n) l with
      | none => rw [hl] at hk; cases hk
      | some l' =>
        rw [hl] at hk; cases hk
        cases hv with | agg _ cs hc => exact .agg _ _ (deepL_sound ih hc hl)
    · rename_i l
      cases hl : deepL (deepB P h n) l with
      | none => rw [hl] at hk; cases hk
      | some l' =>
        rw [hl] at hk; cases hk
        cases hv with | tup _ cs hc => exact .tup _ _ (deepL_sound ih hc hl)
    · rename_i id off len cap
      split at hk
      · rename_i cs e lo hi sl hg
        split at hk
        · rename_i sz hsz
          split at hk
          · rename_i r hr
            split at hk
            · rename_i r' hr'
              split at hk
              rotate_left
              · cases hk
              rename_i hcond
              obtain ⟨hcap, hsz0⟩ := hcond
              cases hk
              unfold takeN at hr
              simp only at hr
              split at hr
              · rename_i hl
                cases hr
                have key : ∀ (b C c' : Nat), ρ id = some (b, C) → len ≤ c' → VRel ⟨fun _ => none, froMix B0 W0 w, fun _ _ => none⟩ (.lsl (bF sz len r')) (.slice (some ⟨b, off, none⟩) len c') := by
                  intro b C c' hb hc
                  obtain ⟨b', C', hb', cv, hw, hrel, _⟩ := R.objs _ _ hg
                  rw [hb] at hb'; cases hb'
                  have h1 := (hrel.drop off).take (len * sz)
                  have h2 := deepL_sound ih h1 hr'
                  have h3 : r'.length = len * sz := by rw [h2.length, ← h1.length, hl]
                  obtain ⟨uss, c1, c2, c3, c4⟩ := chunk_rel sz len r' _ h2 h3
                  by_cases h0 : len = 0
                  · subst h0; exact .lsl0 _ _
                  have hlen : (bF sz len r').length = len := chunk_length _ _ _
                  have hfa := own _ _ _ hb _ _ _ hw
                  by_cases hoff : off ≤ cv.toList.length
                  · have := VRel.lsl (ρ := ⟨fun _ => none, froMix B0 W0 w, fun _ _ => none⟩) (bF sz len r') uss b off c' sz cv.toList (((cv.toList.drop off).drop uss.flatten.length)) hfa c1 ?_ hoff c3 (by rw [hlen]; exact hc)
                    · rw [hlen] at this; exact this
                    · have hpre : uss.flatten = (cv.toList.drop off).take uss.flatten.length := by
                        conv => lhs; rw [c2]
                        have hl3 : uss.flatten.length = len * sz := by rw [flatten_len uss c3, c4]
                        rw [hl3, List.drop_take, List.take_take]
                        have hl2 := hl
                        simp only [List.length_take, List.length_drop] at hl2
                        rw [Nat.min_eq_left (by omega)]
                      conv => lhs; rw [← List.take_append_drop uss.flatten.length (cv.toList.drop off)]
                      rw [← hpre]
                  · have hcl := hrel.length
                    simp only [List.length_take, List.length_drop, Array.length_toList] at hcl hl hoff
                    have : 0 < len * sz := Nat.mul_pos (by omega) (by omega)
                    omega
                cases hv with
                | slice _ _ _ c b C hb => exact key _ _ _ hb (by simpa [capOK] using hcap)
                | slack _ _ _ _ c b C hb hc hn => exact key _ _ _ hb hn
              · cases hr
            · cases hk
          · cases hk
        · cases hk
      · cases hk
    · rename_i id off
      split at hk
      · rename_i cs e lo hi sl hg
        split at hk
        · rename_i r hr
          cases hk
          cases hv with
          | ptr _ _ b C hb =>
            obtain ⟨b', C', hb', cv, hw, hrel, _⟩ := R.objs _ _ hg
            rw [hb] at hb'; cases hb'
            have := VRel.lptr (ρ := ⟨fun _ => none, froMix B0 W0 w, fun _ _ => none⟩) r off (cv.toList.take cs.length) b 0 cv.toList (cv.toList.drop cs.length) (own _ _ _ hb _ _ _ hw)
              (deepL_sound ih hrel hr) (by rw [List.drop_zero, List.take_append_drop]) (Nat.zero_le _)
            rwa [Nat.zero_add] at this
        · cases hk
      · cases hk
    · exact ((keep1_sound hv hk).1).mono (fz_mix R)

noncomputable def aM (P : Program) (v : EVal) : Option (List Out) → Bool
  | some l => l.all fun o => match o with
    | .val x h => match deepB P h 9 x with
      | some y => EVal.beq y v
      | none => false
    | _ => false
  | none => false

/-- a call of closed arguments, told by running it; calls of the table are aO -/
theorem Fn.run (hm : P.follows .mixedOrders = true) (hng : NoNG P) (l : Table) (hl : ∀ p ∈ l, Fn P g p.1 p.2) {f : FuncId} {F : List EVal → Option EVal} {n : Nat}
    (H1 : ∀ a v, F a = some v → aM P v (Go.Ev.run P g (aO l) n (.call f a H.start)) = true) : Fn P g f F := by
  intro B0 W0 G a v hF vs fro w hvs hfz hb hs
  have h := H1 a v hF
  have G1 : cK w.heap.size w g := G.grow hb hs
  cases hr : Go.Ev.run P g (aO l) n (.call f a H.start) with
  | none => rw [hr] at h; cases h
  | some outs =>
    rw [hr] at h
    have hall := List.all_eq_true.1 h
    refine (run_calls hm hng hfz G1 (known_ok (W0 := ⟨w, fro⟩) G1 l hl) hr hvs).mono ?_
    rintro e w' ⟨x, h', u, ρ, hmem, rfl, hv, hR⟩
    have := hall _ hmem
    simp only at this
    split at this
    · rename_i y hy
      have e := EVal.beq_eq this
      subst e
      exact ⟨u, froAll w', rfl, deepB_sound hR 9 _ _ _ hv hy, hR.below, froMix_ok hR⟩
    · cases this
end
end Go.Ev
namespace Go.Ev
/-- a contract as a table of closed arguments and values -/
def tbl : List (List EVal × EVal) → List EVal → Option EVal
  | [], _ => none
  | (a, v) :: l, b => bif beqL a b then some v else tbl l b
theorem tbl_mem : ∀ {l : List (List EVal × EVal)} {a : List EVal} {v : EVal}, tbl l a = some v → (a, v) ∈ l
  | (b, u) :: l, a, v, h => by
    simp only [tbl, Bool.cond_eq_ite] at h
    split at h
    · rename_i hb
      have := beqL_eq hb
      subst this
      cases h
      exact .head _
    · exact .tail _ (tbl_mem h)
theorem Fn.tbl {P : Program} {g : G} (hm : P.follows .mixedOrders = true) (hng : NoNG P) (l : Table) (hl : ∀ p ∈ l, Fn P g p.1 p.2) {f : FuncId} {rows : List (List EVal × EVal)} {n : Nat}
    (H1 : ∀ p ∈ rows, aM P p.2 (Go.Ev.run P g (aO l) n (.call f p.1 H.start)) = true) : Fn P g f (Go.Ev.tbl rows) :=
  Fn.run hm hng l hl (n := n) fun a v h => H1 (a, v) (tbl_mem h)
end Go.Ev
namespace Go.Ev
open Go.RowKit
/-- a sequence cut at a state out of a type; ways out of its first part stay -/
theorem Top.seqS {A : Option Nat} {P : Program} {g : G} {K : bE} {x y : Code} {f : EFr} {h : H} {Q : bO} {σ : Type} (F2 : σ → EFr) (H2 : σ → H)
    (H1 : ∀ R : bO, (∀ s f1 h1, aF A P f1 h1 (F2 s) (H2 s) → R .normal f1 h1) → (∀ e f1 h1, e ≠ .normal → Q e f1 h1 → R e f1 h1) → Top A P g K x f h R) (H3 : ∀ s, Top A P g K y (F2 s) (H2 s) Q) : Top A P g K (.seq x y) f h Q :=
  Top.seq (H1 _ (fun s _ _ v => Top.view v (H3 s)) (fun e f1 h1 he hq => by cases e <;> first | exact absurd rfl he | exact hq))
end Go.Ev
namespace Go.Ev
open Go.RowKit

/-! rows of the caller's memory, as lists -/
abbrev ρ0 (w : World) : Loc := ⟨fun _ => none, froAll w, fun _ _ => none⟩
theorem VssRel.map {ρ : Loc} {E : Nat → List EVal} {C : Nat → List Value} : ∀ {l : List Nat}, (∀ i ∈ l, VsRel ρ (E i) (C i)) → VssRel ρ (l.map E) (l.map C)
  | [], _ => .nil
  | i :: l, h => .cons _ _ _ _ (h i List.mem_cons_self) (VssRel.map fun j hj => h j (List.mem_cons_of_mem _ hj))
theorem VRel.rows {w : World} {a : Addr} {len cap sz : Nat} (hcap : len ≤ cap) (hsz : 0 < sz) (E : Nat → List EVal) (C : Nat → List Value)
    (hC : ∀ i, i < len → w.cells? 0 (a.add (i * sz)) sz = some (C i)) (hE : ∀ i, i < len → VsRel (ρ0 w) (E i) (C i)) :
    VRel (ρ0 w) (.lsl ((List.range len).map E)) (.slice (some a) len cap) := by
  by_cases h0 : len = 0
  · subst h0; exact .lsl0 a cap
  have hc : ∀ i, i < len → (C i).length = sz ∧ ∀ j, j < sz → w.cell? ((a.add (i * sz)).add j) = (C i)[j]? := fun i hi => by
    obtain ⟨_, h1, h2⟩ := World.cells?_some (hC i hi)
    exact ⟨h1, h2⟩
  obtain ⟨v, hv⟩ : ∃ v, w.cell? a = some v := by
    obtain ⟨h1, h2⟩ := hc 0 (by omega)
    have := h2 0 hsz
    simp only [Nat.zero_mul, Addr.add, if_true] at this
    rw [this]
    exact ⟨_, List.getElem?_eq_getElem (by omega)⟩
  obtain ⟨b, off, spot⟩ := a
  unfold World.cell? at hv
  split at hv
  rotate_left
  · cases hv
  rename_i cs e m hw
  simp only at hw
  split at hv
  · cases hv
  rename_i hsp
  obtain rfl : spot = none := by cases spot with
    | none => rfl
    | some x => simp at hsp
  simp only at hv
  have hoff : off < cs.size := (Array.getElem?_eq_some_iff.1 hv).1
  have hcell : ∀ o, w.cell? ⟨b, o, none⟩ = cs.toList[o]? := fun o => by
    unfold World.cell?
    simp only [hw]
    simp
  have hrow : ∀ n, n < len → (cs.toList.drop (off + n * sz)).take sz = C n := fun n hn => by
    obtain ⟨h1, h2⟩ := hc n hn
    apply List.ext_getElem?
    intro j
    by_cases hj : j < sz
    · rw [List.getElem?_take_of_lt hj, List.getElem?_drop, ← hcell, ← h2 j hj]
      congr 1
      simp only [Addr.add]
      by_cases e1 : n * sz = 0 <;> by_cases e2 : j = 0 <;> simp [e1, e2]
    · rw [List.getElem?_eq_none (by rw [List.length_take]; omega), List.getElem?_eq_none (by omega)]
  have key : ∀ n, n ≤ len → (cs.toList.drop off).take (n * sz) = ((List.range n).map C).flatten := by
    intro n
    induction n with
    | zero => intro _; simp
    | succ n ih =>
      intro hn
      rw [Nat.succ_mul, List.take_add, ih (by omega), List.range_succ, List.map_append, List.flatten_append, List.drop_drop]
      simp only [List.map_cons, List.map_nil, List.flatten_cons, List.flatten_nil, List.append_nil]
      rw [hrow n (by omega)]
  have hl : ((List.range len).map E).length = len := by simp
  have := VRel.lsl (ρ := ρ0 w) ((List.range len).map E) ((List.range len).map C) b off cap sz cs.toList ((cs.toList.drop off).drop (len * sz)) (by show froAll w b = _; unfold froAll; rw [hw])
    (VssRel.map fun i hi => hE i (by simpa using hi)) (by rw [← key len (Nat.le_refl _), List.take_append_drop]) (by simp; omega)
    (fun u hu => by obtain ⟨i, hi, rfl⟩ := List.mem_map.1 hu; exact (hc i (by simpa using hi)).1) (by rw [hl]; exact hcap)
  rw [hl] at this
  exact this
end Go.Ev
