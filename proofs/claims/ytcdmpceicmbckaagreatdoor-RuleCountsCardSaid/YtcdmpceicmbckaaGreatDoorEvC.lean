import Derived.Test.YtcdmpceicmbckaaGreatDoorEvB
import Derived.OpenShut
import Derived.ChangeArms
import Derived.LaidLaws
set_option linter.unusedSimpArgs false
set_option linter.unusedVariables false
namespace Go.Ev
open Go.RowKit

/-! frames as lists -/
def aX : List (Nat × EVal) → Nat → Option EVal
  | [], _ => none
  | (j, v) :: l, i => if j = i then some v else aX l i

/-- the places that a trie has -/
def T.has {α : Type} : T α → Nat → Prop
  | .nil, _ => False
  | .node _ l r, n => if n = 0 then True else if n % 2 = 1 then l.has (n / 2) else r.has (n / 2 - 1)

theorem T.get_node {α : Type} (v : Option α) (l r : T α) (j : Nat) : T.get (.node v l r) j = if j = 0 then v else if j % 2 = 1 then T.get l (j / 2) else T.get r (j / 2 - 1) := by
  have : T.get (.node v l r) j = bif Nat.beq j 0 then v else bif Nat.beq (Nat.mod j 2) 1 then T.get l (Nat.div j 2) else T.get r (Nat.pred (Nat.div j 2)) := rfl
  rw [this]
  simp only [Nat.beq_eq, Bool.cond_eq_ite, Nat.pred_eq_sub_one]
  rfl

theorem T.set_node {α : Type} (v : Option α) (l r : T α) (i : Nat) (x : Option α) : T.set (.node v l r) i x = if i = 0 then .node x l r else if i % 2 = 1 then .node v (T.set l (i / 2) x) r else .node v l (T.set r (i / 2 - 1) x) := by
  have : T.set (.node v l r) i x = bif Nat.beq i 0 then .node x l r else bif Nat.beq (Nat.mod i 2) 1 then .node v (T.set l (Nat.div i 2) x) r else .node v l (T.set r (Nat.pred (Nat.div i 2)) x) := rfl
  rw [this]
  simp only [Nat.beq_eq, Bool.cond_eq_ite, Nat.pred_eq_sub_one]
  rfl

theorem T.get_set_same {α : Type} (t : T α) (i : Nat) (x : Option α) (h : t.has i) : (t.set i x).get i = x := by
  induction t generalizing i with
  | nil => exact h.elim
  | node v l r hl hr =>
    rw [T.set_node]
    unfold T.has at h
    split
    · rename_i h0; subst h0; rw [T.get_node]; simp
    · rename_i h0
      rw [if_neg h0] at h
      split
      · rename_i h1
        rw [if_pos h1] at h
        rw [T.get_node, if_neg h0, if_pos h1]; exact hl _ h
      · rename_i h1
        rw [if_neg h1] at h
        rw [T.get_node, if_neg h0, if_neg h1]; exact hr _ h

theorem T.get_set_ne {α : Type} (t : T α) (i j : Nat) (x : Option α) (h : j ≠ i) : (t.set i x).get j = t.get j := by
  induction t generalizing i j with
  | nil => rfl
  | node v l r hl hr =>
    rw [T.set_node]
    split
    · rename_i h0; subst h0; rw [T.get_node, T.get_node, if_neg h, if_neg h]
    · rename_i h0
      split
      · rename_i h1
        rw [T.get_node, T.get_node]
        split
        · rfl
        · split
          · exact hl _ _ (by omega)
          · rfl
      · rename_i h1
        rw [T.get_node, T.get_node]
        split
        · rfl
        · split
          · rfl
          · exact hr _ _ (by omega)

theorem T.has_set {α : Type} (t : T α) (i j : Nat) (x : Option α) : (t.set i x).has j ↔ t.has j := by
  induction t generalizing i j with
  | nil => exact Iff.rfl
  | node v l r hl hr =>
    rw [T.set_node]
    split
    · simp only [T.has]
    · split
      · simp only [T.has]
        split
        · rfl
        · split
          · exact hl _ _
          · rfl
      · simp only [T.has]
        split
        · rfl
        · split
          · rfl
          · exact hr _ _

theorem T.has_full {α : Type} (x : Option α) (n i : Nat) (h : i + 1 < 2 ^ n) : (T.full x n).has i := by
  induction n generalizing i with
  | zero => omega
  | succ n ih =>
    unfold T.full T.has
    split
    · trivial
    · split
      · exact ih _ (by rw [Nat.pow_succ] at h; omega)
      · exact ih _ (by rw [Nat.pow_succ] at h; omega)

noncomputable def T.ofL (l : List (Nat × EVal)) : T EVal := l.foldr (fun p t => t.set p.1 (some p.2)) (T.full none 10)

theorem T.has_ofL (l : List (Nat × EVal)) (i : Nat) (h : i < 1000) : (T.ofL l).has i := by
  induction l with
  | nil => exact T.has_full _ _ _ (by omega)
  | cons p l ih => exact (T.has_set _ _ _ _).2 ih

theorem T.get_ofL (l : List (Nat × EVal)) (i : Nat) (h : i < 1000) : (T.ofL l).get i = aX l i := by
  induction l with
  | nil =>
    cases hq : (T.full (none : Option EVal) 10).get i with
    | none => exact hq
    | some e => cases T.get_full _ _ _ hq
  | cons p l ih =>
    obtain ⟨j, v⟩ := p
    show (T.set (T.ofL l) j (some v)).get i = aX ((j, v) :: l) i
    unfold aX
    split
    · rename_i e; subst e; exact T.get_set_same _ _ _ (T.has_ofL l _ h)
    · rename_i e; rw [T.get_set_ne _ _ _ _ (Ne.symm e)]; exact ih

/-- a frame of so many slots -/
noncomputable def mkF (n : Nat) (l : List (Nat × EVal)) : EFr := ⟨n, T.ofL l, [], none⟩

theorem mkF_putd {n : Nat} {l : List (Nat × EVal)} {i : Nat} {v : EVal} (h : i < n) : (mkF n l).putd (some i) v = mkF n ((i, v) :: l) := by
  unfold EFr.putd mkF
  simp only [Nat.blt_eq, Bool.cond_eq_ite, h, if_true]
  rfl
theorem mkF_putd_none {n : Nat} {l : List (Nat × EVal)} {v : EVal} : (mkF n l).putd none v = mkF n l := (rfl)
theorem mkF_tmps {n : Nat} {l : List (Nat × EVal)} : (mkF n l).tmps = T.ofL l := (rfl)
theorem mkF_defers {n : Nat} {l : List (Nat × EVal)} : (mkF n l).defers = [] := (rfl)

theorem nd_sound {P : Program} {ρ : Loc} {ty el : TypeId} {x y : Operand} {u v : Value} (hu : VRel ρ (.lsl []) u) (hv : VRel ρ .nilslice v) (hk : P.underlying ty = some (.slice el)) (w : World) :
    ∃ q, (do eqGuard .eql ty x y u v; binOp .eql ty u v : Sem Value).run P w = .ok (.bool q) w := by
  cases hv
  have hg : ∀ a n m, (eqGuard .eql ty x y (.slice a n m) (.slice none 0 0)).run P w = .ok () w := fun a n m => by rw [eqGuard_at_slice]; rfl
  cases hu with
  | lsl _ us b o c sz pre rest hf hs hw ho hz hc =>
    refine ⟨false, ?_⟩
    have := (run_equal_of (P := P) (w := w) (t := ty) (u := .slice (some ⟨b, o, none⟩) 0 c) (v := .slice none 0 0) (r := false) (fun d => by simp [Op.equalIn, run_underlying hk]) (by simp only [binOp]) (by simp only [binOp])).1
    simp [hg, this]
  | lsl0 p c =>
    refine ⟨false, ?_⟩
    have := (run_equal_of (P := P) (w := w) (t := ty) (u := .slice (some p) 0 c) (v := .slice none 0 0) (r := false) (fun d => by simp [Op.equalIn, run_underlying hk]) (by simp only [binOp]) (by simp only [binOp])).1
    simp [hg, this]
  | lsln =>
    refine ⟨true, ?_⟩
    have := (run_equal_of (P := P) (w := w) (t := ty) (u := .slice none 0 0) (v := .slice none 0 0) (r := true) (fun d => by simp [Op.equalIn, run_underlying hk]) (by simp only [binOp]) (by simp only [binOp])).1
    simp [hg, this]

/-- an empty list may be nil or not -/
def ndEq (P : Program) (ty : TypeId) : Option EVal → Option EVal → Bool
  | some (.lsl []), some .nilslice => match P.underlying ty with
    | some (.slice _) => true
    | _ => false
  | _, _ => false
noncomputable def ndOp (P : Program) (t : T EVal) (o : Oper) : Bool :=
  match o.op with
  | .binOp .eql ty x y _ => ndEq P ty (ev t x) (ev t y)
  | _ => false
def wpNd (k : EVal → H → Prop) (h : H) : Bool → Prop
  | true => ∀ q : Bool, k (.bool q) h
  | false => False

section
variable {A : Option Nat} {P : Program} {g : G} {K : aY}

/-- what an operation must come to, for k to hold behind it -/
def wpOut (P : Program) (g : G) (K : aY) (nd : Bool) (h0 : H) (k : EVal → H → Prop) : Option EOut → Prop
  | some (.val v h) => k v h
  | some (.enter fn args h) => match aE P K h fn args with
    | some v => k v h
    | none => CallT P g K fn args h k
  | some (.yield id args h) => RoundT P g K id args h k
  | none => wpNd k h0 nd

def wpOp (P : Program) (g : G) (K : aY) (o : Oper) (f : EFr) (h : H) (k : EVal → H → Prop) : Prop :=
  match o.op with
  | .next it false => match nextMapO h (ev f.tmps it) with
    | some l => ∀ p ∈ l, k p.1 p.2
    | none => False
  | _ => wpOut P g K (ndOp P f.tmps o) h k (eOp P g h f.tmps o)

def wpOps (P : Program) (g : G) (K : aY) (all : Array Oper) (Q : EFr → H → Prop) : List Oper → EFr → H → Prop
  | [], f, h => Q f h
  | o :: rest, f, h => match wantedE all f.tmps o with
    | some true => wpOp P g K o f h (fun v h' => wpOps P g K all Q rest (f.putd o.dst v) h')
    | some false => wpOps P g K all Q rest (f.putd o.dst undefE) h
    | none => False

/-- the same, a step at a time -/
def wpNext (P : Program) (g : G) (K : aY) (all : Array Oper) (Q : EFr → H → Prop) (d : Option Tmp) (rest : List Oper) (f : EFr) (v : EVal) (h : H) : Prop := wpOps P g K all Q rest (f.putd d v) h
def wpStep (P : Program) (g : G) (K : aY) (all : Array Oper) (Q : EFr → H → Prop) (o : Oper) (rest : List Oper) (f : EFr) (h : H) : Option Bool → Prop
  | some true => wpOp P g K o f h (wpNext P g K all Q o.dst rest f)
  | some false => wpOps P g K all Q rest (f.putd o.dst undefE) h
  | none => False
theorem wpOps_nil {P : Program} {g : G} {K : aY} {all : Array Oper} {Q : EFr → H → Prop} {f : EFr} {h : H} : wpOps P g K all Q [] f h = Q f h := (rfl)
theorem wpOps_cons {P : Program} {g : G} {K : aY} {all : Array Oper} {Q : EFr → H → Prop} {o : Oper} {rest : List Oper} {f : EFr} {h : H} :
    wpOps P g K all Q (o :: rest) f h = wpStep P g K all Q o rest f h (wantedE all f.tmps o) := by
  simp only [wpOps]
  unfold wpStep
  split <;> rfl
theorem wpStep_sym {P : Program} {g : G} {K : aY} {all : Array Oper} {Q : EFr → H → Prop} {o : Oper} {rest : List Oper} {f : EFr} {h : H} {q : Bool} (h1 : q = true → wpStep P g K all Q o rest f h (some true)) (h2 : q = false → wpStep P g K all Q o rest f h (some false)) :
    wpStep P g K all Q o rest f h (some q) := by
  cases q with
  | true => exact h1 rfl
  | false => exact h2 rfl

theorem wpOps_sound (hng : cE P) {B0 : Nat} {W0 : Base} (G : cD B0 W0.w g) (hK : KOK P B0 W0 K) {all : Array Oper} {Q : EFr → H → Prop} : ∀ (l : List Oper) (f : EFr) (h : H), wpOps P g K all Q l f h → ∀ (js : List Nat), js.map (all[·]?) = l.map some →
    ∀ (b : Frame) (t : Array Value) (d : List Deferred) (k : List Item) (cs : List Frame) (ρ : Loc) (w : World), FRel ρ f b t d → HRel P B0 W0 ρ h w →
    ∃ f' h', Q f' h' ∧ ∃ t' w' ρ', ρ.le ρ' ∧ FRel ρ' f' b t' d ∧ HRel P B0 W0 ρ' h' w' ∧ Steps P (lone (fr b t d (.inRegion all js :: k)) cs w) (lone (fr b t' d k) cs w')
  | [], f, h, hq, js, hjs, b, t, d, k, cs, ρ, w, F, R => by
    obtain rfl : js = [] := by simpa using hjs
    exact ⟨f, h, hq, t, w, ρ, Loc.le_refl _, F, R, .one st_region_end⟩
  | o :: rest, f, h, hq, js, hjs, b, t, d, k, cs, ρ, w, F, R => by
    cases js with
    | nil => simp at hjs
    | cons i js =>
      simp only [List.map_cons, List.cons.injEq] at hjs
      obtain ⟨ho, hjs⟩ := hjs
      have next : ∀ {e : EVal} {h' : H} {ρ' : Loc} {v : Value} {w' : World}, wpOps P g K all Q rest (f.putd o.dst e) h' → ρ.le ρ' → VRel ρ' e v → HRel P B0 W0 ρ' h' w' →
          Steps P (lone (fr b t d (.inRegion all (i :: js) :: k)) cs w) (lone (fr b (putT t o.dst v) d (.inRegion all js :: k)) cs w') →
          ∃ f' h', Q f' h' ∧ ∃ t' w' ρ', ρ.le ρ' ∧ FRel ρ' f' b t' d ∧ HRel P B0 W0 ρ' h' w' ∧ Steps P (lone (fr b t d (.inRegion all (i :: js) :: k)) cs w) (lone (fr b t' d k) cs w') := by
        intro e h' ρ' v w' hr hle hv R' hst
        obtain ⟨f2, h2, hm, t2, w2, ρ2, l2, F2, R2, S2⟩ := wpOps_sound hng G hK rest _ _ hr js hjs b _ d k cs ρ' w' ((F.mono hle).put hv) R'
        exact ⟨f2, h2, hm, t2, w2, ρ2, Loc.le_trans hle l2, F2, R2, hst.trans S2⟩
      unfold wpOps at hq
      split at hq
      rotate_left
      · rename_i hw
        exact next hq (Loc.le_refl _) (undef_rel _) R (.one (st_op_skip ho (wanted_sound F.tmps hw)))
      rotate_left
      · rename_i hw
        have hwant := wanted_sound F.tmps hw
        · have hr := hq
          clear hq
          unfold wpOp at hr
          split at hr
          · rename_i it hop
            split at hr
            · rename_i l hl
              cases hx : ev f.tmps it with
              | none => rw [hx] at hl; cases hl
              | some x =>
                rw [hx] at hl
                obtain ⟨e, h', u, w', hm, hrun, hv, R'⟩ := nextMap_sound R o.type (F.erel _ _ hx) hl
                refine next (hr _ hm) (Loc.le_refl _) hv R' (.one (st_value ho hwant (fun c hc => by rw [hop] at hc; cases hc) ?_))
                unfold execOp
                rw [hop]
                simp only [Sem.run_bind]
                rw [hrun]
                rfl
            · exact hr.elim
          · unfold wpOut at hr
            split at hr
            · rename_i v h' hop
              obtain ⟨w', ρ', hle, R', hres⟩ := op_sound hng G R F.erel hop
              rcases hres with ⟨u, hrun, hv⟩ | ⟨hrun, rfl⟩
              · exact next hr hle hv R' (.one (st_value ho hwant (op_not_defer hop) hrun))
              · exact next hr hle (undef_rel _) R' (.one (st_skipv ho hwant (op_not_defer hop) hrun))
            · rename_i fn args h' hop
              obtain ⟨rfl, vs, hrun, hvs⟩ := op_sound hng G R F.erel hop
              split at hr
              · rename_i v hk
                obtain ⟨e1, w1, fr1, ⟨u, ρ', rfl, hle, hv, R'⟩, hcomes, hfn, hleave⟩ := kcall_sound hK R hk hvs (fr b t d (.inRegion all (i :: js) :: k) :: cs)
                refine next hr hle hv R' ?_
                refine .head (st_enter ho hwant (op_not_defer hop) hrun) (Steps.trans hcomes (.one ?_))
                rw [← finish_fr ho]
                exact step_leave_returned hleave
              · obtain ⟨e1, w1, fr1, ⟨v, h2, u, ρ', hk2, rfl, hle, hv, R'⟩, hcomes, hfn, hleave⟩ := hr B0 W0 G hK _ ρ w hvs R (fr b t d (.inRegion all (i :: js) :: k) :: cs)
                refine next hk2 hle hv R' ?_
                refine .head (st_enter ho hwant (op_not_defer hop) hrun) (Steps.trans hcomes (.one ?_))
                rw [← finish_fr ho]
                exact step_leave_returned hleave
            · rename_i id args h' hop
              obtain ⟨rfl, l, C, vs, hid, hrun, hvs⟩ := op_sound hng G R F.erel hop
              obtain ⟨v, h2, u, ρ', w', f0, tm, x, y, hk2, hy, hle, hv, R', hsteps⟩ := hr B0 W0 G hK l C vs ρ w (fr b t d (.inRegion all (i :: js) :: k)) cs hid hvs R
              refine next hk2 hle hv R' ?_
              refine .head (st_round ho hwant (op_not_defer hop) (by rw [hrun]; exact hy)) ?_
              rw [← finish_fr ho]
              exact hsteps
            · cases hnd : ndOp P f.tmps o with
              | false => rw [hnd] at hr; exact hr.elim
              | true =>
                rw [hnd] at hr
                unfold ndOp at hnd
                split at hnd
                rotate_left
                · cases hnd
                rename_i ty x y z hop2
                have hx := F.erel x
                have hy := F.erel y
                generalize ev f.tmps x = ex at hnd hx
                generalize ev f.tmps y = ey at hnd hy
                unfold ndEq at hnd
                split at hnd
                rotate_left
                · cases hnd
                split at hnd
                rotate_left
                · cases hnd
                rename_i el hk
                obtain ⟨q, hq⟩ := nd_sound (hx _ rfl) (hy _ rfl) hk w (x := x) (y := y)
                refine next (hr q) (Loc.le_refl _) (.bool q) R (.one (st_value ho hwant (fun c hc => by rw [hop2] at hc; cases hc) ?_))
                unfold execOp
                rw [hop2]
                simp only [Sem.run_bind] at hq ⊢
                rw [hq]
                rfl
      · exact hq.elim

def seqQ (wb : EFr → H → bK → Prop) (Q : bK) : bK := fun e f h => match e with
  | .normal => wb f h Q
  | e => Q e f h
theorem seqQ_normal {wb : EFr → H → bK → Prop} {Q : bK} {f : EFr} {h : H} : seqQ wb Q .normal f h = wb f h Q := (rfl)
theorem seqQ_exit {wb : EFr → H → bK → Prop} {Q : bK} {f : EFr} {h : H} {i : Nat} : seqQ wb Q (.exit i) f h = Q (.exit i) f h := (rfl)
theorem seqQ_ret {wb : EFr → H → bK → Prop} {Q : bK} {f : EFr} {h : H} : seqQ wb Q .ret f h = Q .ret f h := (rfl)
def blockQ (id : Nat) (Q : bK) : bK := fun e f h => match e with
  | .exit i => if i = id then Q .normal f h else Q (.exit i) f h
  | e => Q e f h
theorem blockQ_normal {id : Nat} {Q : bK} {f : EFr} {h : H} : blockQ id Q .normal f h = Q .normal f h := (rfl)
theorem blockQ_exit {id : Nat} {Q : bK} {f : EFr} {h : H} {i : Nat} : blockQ id Q (.exit i) f h = if i = id then Q .normal f h else Q (.exit i) f h := (rfl)
theorem blockQ_ret {id : Nat} {Q : bK} {f : EFr} {h : H} : blockQ id Q .ret f h = Q .ret f h := (rfl)
/-- what a piece of code without loops must come to -/
def wp (A : Option Nat) (P : Program) (g : G) (K : aY) : Code → EFr → H → bK → Prop
  | .skip, f, h, Q => Q .normal f h
  | .label _, f, h, Q => Q .normal f h
  | .region _ ops false, f, h, Q => wpOps P g K ops (Q .normal) ops.toList f h
  | .seq a b, f, h, Q => wp A P g K a f h (seqQ (wp A P g K b) Q)
  | .cond c a b, f, h, Q => match ev f.tmps c with
    | some (.bool q) => (q = true → wp A P g K a f h Q) ∧ (q = false → wp A P g K b f h Q)
    | _ => False
  | .block id a, f, h, Q => wp A P g K a f h (blockQ id Q)
  | .scope a, f, h, Q => wp A P g K a f h Q
  | .exit id, f, h, Q => Q (.exit id) f h
  | .ret, f, h, Q => Q .ret f h
  | c, f, h, Q => Top A P g K c f h Q

/-- a condition, where its value is aM or not -/
def wpCond (A : Option Nat) (P : Program) (g : G) (K : aY) (a b : Code) (f : EFr) (h : H) (Q : bK) : Option EVal → Prop
  | some (.bool true) => wp A P g K a f h Q
  | some (.bool false) => wp A P g K b f h Q
  | _ => False
theorem wp_cond {c : Operand} {a b : Code} {f : EFr} {h : H} {Q : bK} : wp A P g K (.cond c a b) f h Q = wpCond A P g K a b f h Q (ev f.tmps c) := by
  simp only [wp]
  generalize ev f.tmps c = x
  cases x with
  | none => rfl
  | some e =>
    cases e with
    | bool q => cases q <;> simp [wpCond]
    | _ => rfl
theorem wpCond_sym {a b : Code} {f : EFr} {h : H} {Q : bK} {q : Bool} (h1 : q = true → wp A P g K a f h Q) (h2 : q = false → wp A P g K b f h Q) : wpCond A P g K a b f h Q (some (.bool q)) := by
  cases q with
  | true => exact h1 rfl
  | false => exact h2 rfl

theorem aC (hng : cE P) : ∀ (c : Code) (f : EFr) (h : H) (Q : bK), wp A P g K c f h Q → Top A P g K c f h Q
  | .skip, f, h, Q, hw => .skip hw
  | .label _, f, h, Q, hw => .label hw
  | .region _ ops false, f, h, Q, hw => fun B0 W0 G hK b t d k cs ρ w F R => by
    obtain ⟨f', h', hq, t', w', ρ', hle, F', R', hst⟩ := wpOps_sound hng G hK _ f h hw (List.range ops.size) (by
        apply List.ext_getElem?
        intro i
        simp only [List.getElem?_map]
        by_cases hi : i < ops.size
        · rw [List.getElem?_range hi]; simp [hi]
        · rw [List.getElem?_eq_none (by simpa using Nat.le_of_not_lt hi), List.getElem?_eq_none (by simpa using Nat.le_of_not_lt hi)]; rfl) b t d k cs ρ w F R
    exact ⟨.normal, f', h', hq, t', d, w', ρ', Loc.leA_of hle, F', R', .head st_region hst⟩
  | .region _ ops true, f, h, Q, hw => hw
  | .seq a b, f, h, Q, hw => .seq ((aC hng a f h _ hw).mono fun e f' h' hq => by
    cases e with
    | normal => exact aC hng b f' h' Q hq
    | exit i => exact hq
    | ret => exact hq)
  | .cond c a b, f, h, Q, hw => by
    unfold wp at hw
    split at hw
    · rename_i q hq
      exact .cond hq (fun e => aC hng a f h Q (hw.1 e)) (fun e => aC hng b f h Q (hw.2 e))
    · exact hw.elim
  | .block id a, f, h, Q, hw => .block (aC hng a f h _ hw)
  | .scope a, f, h, Q, hw => .scope (aC hng a f h _ hw)
  | .exit id, f, h, Q, hw => .exit hw
  | .ret, f, h, Q, hw => .ret hw
  | .loop _, f, h, Q, hw => hw
  | .rangeFunc _ _ _ _, f, h, Q, hw => hw
  | .goto _, f, h, Q, hw => hw
  | .refuse _, f, h, Q, hw => hw
end
end Go.Ev
namespace Go.Ev
open Go.RowKit

/-! steps, as equations -/
section
variable {A : Option Nat} {P : Program} {g : G} {K : aY}
theorem wp_region {i : Nat} {ops : Array Oper} {f : EFr} {h : H} {Q : bK} : wp A P g K (.region i ops false) f h Q = wpOps P g K ops (Q .normal) ops.toList f h := (rfl)
theorem wp_seq {a b : Code} {f : EFr} {h : H} {Q : bK} : wp A P g K (.seq a b) f h Q = wp A P g K a f h (seqQ (wp A P g K b) Q) := (rfl)
theorem wp_block {id : Nat} {a : Code} {f : EFr} {h : H} {Q : bK} : wp A P g K (.block id a) f h Q = wp A P g K a f h (blockQ id Q) := (rfl)
theorem wp_scope {a : Code} {f : EFr} {h : H} {Q : bK} : wp A P g K (.scope a) f h Q = wp A P g K a f h Q := (rfl)
theorem wp_exit {id : Nat} {f : EFr} {h : H} {Q : bK} : wp A P g K (.exit id) f h Q = Q (.exit id) f h := (rfl)
theorem wp_skip {f : EFr} {h : H} {Q : bK} : wp A P g K .skip f h Q = Q .normal f h := (rfl)
theorem wp_label {l : Nat} {f : EFr} {h : H} {Q : bK} : wp A P g K (.label l) f h Q = Q .normal f h := (rfl)
theorem wp_ret {f : EFr} {h : H} {Q : bK} : wp A P g K .ret f h Q = Q .ret f h := (rfl)
theorem wp_of_top {c : Code} {f : EFr} {h : H} {Q : bK} (H : Top A P g K (.loop c) f h Q) : wp A P g K (.loop c) f h Q := H
theorem wp_of_draw {i : Nat} {ops : Array Oper} {f : EFr} {h : H} {Q : bK} (H : Top A P g K (.region i ops true) f h Q) : wp A P g K (.region i ops true) f h Q := H
theorem wpStep_true {all : Array Oper} {Q : EFr → H → Prop} {o : Oper} {rest : List Oper} {f : EFr} {h : H} : wpStep P g K all Q o rest f h (some true) = wpOp P g K o f h (wpNext P g K all Q o.dst rest f) := (rfl)
theorem wpStep_false {all : Array Oper} {Q : EFr → H → Prop} {o : Oper} {rest : List Oper} {f : EFr} {h : H} : wpStep P g K all Q o rest f h (some false) = wpOps P g K all Q rest (f.putd o.dst undefE) h := (rfl)
def wpKc (k : EVal → H → Prop) (h : H) (c : Prop) : Option EVal → Prop
  | some v => k v h
  | none => c
theorem wpKc_some {k : EVal → H → Prop} {h : H} {c : Prop} {v : EVal} : wpKc k h c (some v) = k v h := (rfl)
theorem wpKc_none {k : EVal → H → Prop} {h : H} {c : Prop} : wpKc k h c none = c := (rfl)
theorem wpOut_val {nd : Bool} {h0 : H} {k : EVal → H → Prop} {h : H} {v : EVal} : wpOut P g K nd h0 k (some (.val v h)) = k v h := (rfl)
theorem wpOut_enter {nd : Bool} {h0 : H} {k : EVal → H → Prop} {h : H} {fn : FuncId} {args : List EVal} : wpOut P g K nd h0 k (some (.enter fn args h)) = wpKc k h (CallT P g K fn args h k) (aE P K h fn args) := by
  show (match aE P K h fn args with | some v => k v h | none => CallT P g K fn args h k) = _
  cases aE P K h fn args <;> rfl
theorem wpOut_yield {nd : Bool} {h0 : H} {k : EVal → H → Prop} {h : H} {id : Nat} {args : List EVal} : wpOut P g K nd h0 k (some (.yield id args h)) = RoundT P g K id args h k := (rfl)
theorem wpOut_none {nd : Bool} {h0 : H} {k : EVal → H → Prop} : wpOut P g K nd h0 k none = wpNd k h0 nd := (rfl)
theorem wpNd_true {k : EVal → H → Prop} {h : H} : wpNd k h true = ∀ q : Bool, k (.bool q) h := (rfl)
def aA : Op → Bool
  | .next _ false => true
  | _ => false
def wpOpB (P : Program) (g : G) (K : aY) (o : Oper) (f : EFr) (h : H) (k : EVal → H → Prop) : Bool → Prop
  | true => wpOp P g K o f h k
  | false => wpOut P g K (ndOp P f.tmps o) h k (eOp P g h f.tmps o)
theorem wpOp_eq {o : Oper} {f : EFr} {h : H} {k : EVal → H → Prop} : wpOp P g K o f h k = wpOpB P g K o f h k (aA o.op) := by
  unfold wpOpB
  split
  · rfl
  · rename_i hn
    unfold wpOp
    split
    · rename_i heq; rw [heq] at hn; cases hn
    · rfl
theorem wpOpB_false {o : Oper} {f : EFr} {h : H} {k : EVal → H → Prop} : wpOpB P g K o f h k false = wpOut P g K (ndOp P f.tmps o) h k (eOp P g h f.tmps o) := (rfl)
theorem wpCond_true {a b : Code} {f : EFr} {h : H} {Q : bK} : wpCond A P g K a b f h Q (some (.bool true)) = wp A P g K a f h Q := (rfl)
theorem wpCond_false {a b : Code} {f : EFr} {h : H} {Q : bK} : wpCond A P g K a b f h Q (some (.bool false)) = wp A P g K b f h Q := (rfl)
end

/-! views -/
section
variable {A : Option Nat} {P : Program} {f : EFr} {h : H}

theorem ofL_look {l : List (Nat × EVal)} {i : Nat} {v : EVal} (h : (T.ofL l).get i = some v) : (i, v) ∈ l := by
  induction l with
  | nil => cases T.get_full _ _ _ h
  | cons p l ih =>
    obtain ⟨j, u⟩ := p
    rcases T.get_set _ _ _ _ h with ⟨rfl, e⟩ | ⟨_, e⟩
    · cases e; exact List.mem_cons_self
    · exact List.mem_cons_of_mem _ (ih e)

/-- other words for the slots that are still wanted -/
theorem aH.slots {n : Nat} {l : List (Nat × EVal)} (hn : f.sz = n) (hd : f.defers = []) (hr : f.round = none)
    (hv : ∀ p ∈ l, f.tmps.get p.1 = some p.2) : aH A P f h (mkF n l) h := fun B0 W0 b t d ρ w F R => by
  refine ⟨ρ, Loc.leA_refl, ⟨by rw [F.size, hn]; rfl, fun i e he => F.tmps i e (hv _ (ofL_look he)), ?_, ?_⟩, R⟩
  · have := F.defers; rw [hd] at this; exact this
  · have := F.round; rw [hr] at this; exact this

theorem aH.sub {n : Nat} {l l2 : List (Nat × EVal)} (hv : ∀ p ∈ l2, p.1 < 1000 ∧ aX l p.1 = some p.2) : aH A P (mkF n l) h (mkF n l2) h :=
  aH.slots rfl rfl rfl fun p hp => by
    obtain ⟨h1, h2⟩ := hv p hp
    show (T.ofL l).get p.1 = _
    rw [T.get_ofL _ _ h1]; exact h2

def aT : Nat → List EVal → List (Nat × EVal)
  | _, [] => []
  | i, v :: l => (i, v) :: aT (i + 1) l

theorem initA_get : ∀ (l : List EVal) (i : Nat) (t : T EVal), (∀ j, j < 1000 → t.has j) → i + l.length < 1000 → (∀ p ∈ aT i l, (initA l i t).get p.1 = some p.2) ∧ (∀ j, j < i → (initA l i t).get j = t.get j)
  | [], _, _, _, _ => ⟨fun p hp => (by cases hp), fun _ _ => rfl⟩
  | v :: l, i, t, ht, hl => by
    have ht' : ∀ j, j < 1000 → (t.set i (some v)).has j := fun j hj => (T.has_set _ _ _ _).2 (ht j hj)
    simp only [List.length_cons] at hl
    obtain ⟨h1, h2⟩ := initA_get l (i + 1) (t.set i (some v)) ht' (by omega)
    refine ⟨fun p hp => ?_, fun j hj => ?_⟩
    · rcases List.mem_cons.1 hp with rfl | hp
      · show (initA l (i + 1) (t.set i (some v))).get i = some v
        rw [h2 i (by omega)]; exact T.get_set_same _ _ _ (ht i (by omega))
      · exact h1 p hp
    · show (initA l (i + 1) (t.set i (some v))).get j = _
      rw [h2 j (by omega), T.get_set_ne _ _ _ _ (by omega)]

theorem aH.start {fn : Func} {args : List EVal} {n : Nat} (hn : Nat.max fn.ntmps args.length = n) (hl : args.length < 1000) : aH A P (startFr fn args) h (mkF n (aT 0 args)) h :=
  aH.slots hn rfl rfl fun p hp => (initA_get args 0 _ (fun j hj => T.has_full _ _ _ (by omega)) (by omega)).1 p hp
end

/-- the end of a function, of a frame that is written out -/
theorem ends_mk {P : Program} {g : G} {fn : Func} {v : EVal} {n : Nat} {l : List (Nat × EVal)} {h : H} {e : EExit} (he : e = .ret ∨ e = .normal) (hr : ∃ es, resultsE P g h (T.ofL l) fn.results.toList = some es ∧ keepV (one es) = some v) : Ends P g fn v e (mkF n l) h := by
  obtain ⟨es, h1, h2⟩ := hr
  refine ⟨by rcases he with rfl | rfl <;> trivial, h, es, rfl, h1, h2⟩

theorem aD {P : Program} {g : G} {fn : Func} {v : EVal} {n : Nat} {l : List (Nat × EVal)} {h : H} {e : EExit} (he : e = .ret ∨ e = .normal) (hr : (resultsE P g h (T.ofL l) fn.results.toList).bind (fun es => keepV (one es)) = some v) : Ends P g fn v e (mkF n l) h := by
  cases hq : resultsE P g h (T.ofL l) fn.results.toList with
  | none => rw [hq] at hr; cases hr
  | some es => exact ends_mk he ⟨es, hq, by rw [hq] at hr; exact hr⟩

theorem wpStep_not {P : Program} {g : G} {K : aY} {all : Array Oper} {Q : EFr → H → Prop} {o : Oper} {rest : List Oper} {f : EFr} {h : H} {q : Bool} (h1 : q = false → wpStep P g K all Q o rest f h (some true)) (h2 : q = true → wpStep P g K all Q o rest f h (some false)) :
    wpStep P g K all Q o rest f h (some !q) := by
  cases q with
  | true => exact h2 rfl
  | false => exact h1 rfl
theorem wpCond_not {A : Option Nat} {P : Program} {g : G} {K : aY} {a b : Code} {f : EFr} {h : H} {Q : bK} {q : Bool} (h1 : q = false → wp A P g K a f h Q) (h2 : q = true → wp A P g K b f h Q) : wpCond A P g K a b f h Q (some (.bool !q)) := by
  cases q with
  | true => exact h2 rfl
  | false => exact h1 rfl
theorem aS {P : Program} {f : FuncId} {fn : Func} {h : H} {args : List EVal} (hf : P.funcs[f]? = some fn) (hb : fn.body.isNone = false) : aU P h f args = some (.enter f args h) := by
  unfold aU
  rw [hf]
  simp [hb]
theorem grow_of {P : Program} {e : TypeId} {sz bytes need : Nat} {z : List EVal} (hz : bU P e = some z) (h1 : z.length = sz) (h2 : 1 ≤ bytes) : bJ P e sz bytes need = decide (bytes * need ≤ 1000000) := by
  unfold bJ
  rw [hz]
  simp only
  rw [Bool.eq_iff_iff]
  simp [h1, h2]
theorem ev_tmp {t : T EVal} {i : Nat} : ev t (.tmp i) = t.get i := (rfl)
theorem ev_int {t : T EVal} {k : IntKind} {n : Int} : ev t (.const (.int k n)) = some (.int k n) := (rfl)
theorem ev_bool {t : T EVal} {b : Bool} : ev t (.const (.bool b)) = some (.bool b) := (rfl)
theorem ev_str {t : T EVal} {s : ByteArray} : ev t (.const (.string s)) = some (.str (s.data.toList.map UInt8.toNat)) := (rfl)
theorem ev_nils {t : T EVal} : ev t (.const (.slice none 0 0)) = some .nilslice := (rfl)
theorem ev_nilp {t : T EVal} : ev t (.const (.pointer none)) = some .nilp := (rfl)
theorem ev_nilm {t : T EVal} : ev t (.const (.map none)) = some .nilmap := (rfl)
theorem ev_nilf {t : T EVal} : ev t (.const .nilFunc) = some .nilfunc := (rfl)
theorem ev_func {t : T EVal} {f : FuncId} : ev t (.func f) = some (.func f []) := (rfl)
theorem ev_glob {t : T EVal} {i : Nat} : ev t (.global i) = some (.gptr i 0) := (rfl)
theorem ev_agg {t : T EVal} {cs : Array Value} : ev t (.const (.agg cs)) = (absCells absCell cs.toList).map .agg := by
  show (match absCells absCell cs.toList with | some l => some (EVal.agg l) | none => none) = _
  cases absCells absCell cs.toList <;> rfl
theorem some_beq (a b : Bool) : (some a == some b) = (a == b) := by cases a <;> cases b <;> rfl
theorem bne_not {α : Type} [BEq α] (a b : α) : (a != b) = !(a == b) := rfl
theorem none_beq (b : Bool) : ((none : Option Bool) == some b) = false := by cases b <;> rfl
theorem beq_t (a : Bool) : (a == true) = a := by cases a <;> rfl
theorem beq_f (a : Bool) : (a == false) = !a := by cases a <;> rfl
theorem wp_gen {A : Option Nat} {P : Program} {g : G} {K : aY} {c : Code} {f : EFr} {h : H} {Q : bK} (H1 : ∀ R : bK, Q = R → wp A P g K c f h R) : wp A P g K c f h Q := H1 Q rfl
theorem wpNext_q {P : Program} {g : G} {K : aY} {all : Array Oper} {Q : EFr → H → Prop} {dst : Option Tmp} {rest : List Oper} {f : EFr} {v : EVal} {h : H} : wpNext P g K all Q dst rest f v h = wpOps P g K all Q rest (f.putd dst v) h := (rfl)
end Go.Ev
namespace Go.Ev
open Go.RowKit

/-! memories as lists -/
section
variable {α : Type}
noncomputable def T.ofG (n : Nat) (l : List (Nat × Option α)) : T α := l.foldr (fun p t => t.set p.1 p.2) (T.full none n)
def aG : List (Nat × Option α) → Nat → Option α
  | [], _ => none
  | (j, v) :: l, i => if j = i then v else aG l i

theorem T.has_ofG (n : Nat) (l : List (Nat × Option α)) (i : Nat) (h : i + 1 < 2 ^ n) : (T.ofG n l).has i := by
  induction l with
  | nil => exact T.has_full _ _ _ h
  | cons p l ih => exact (T.has_set _ _ _ _).2 ih

theorem T.get_ofG (n : Nat) (l : List (Nat × Option α)) (i : Nat) (h : i + 1 < 2 ^ n) : (T.ofG n l).get i = aG l i := by
  induction l with
  | nil =>
    cases hq : (T.full (none : Option α) n).get i with
    | none => exact hq
    | some e => cases T.get_full _ _ _ hq
  | cons p l ih =>
    obtain ⟨j, v⟩ := p
    show (T.set (T.ofG n l) j v).get i = aG ((j, v) :: l) i
    unfold aG
    split
    · rename_i e; subst e; exact T.get_set_same _ _ _ (T.has_ofG n l _ h)
    · rename_i e; rw [T.get_set_ne _ _ _ _ (Ne.symm e)]; exact ih

theorem T.ofG_mem {n : Nat} {l : List (Nat × Option α)} {i : Nat} {v : α} (h : (T.ofG n l).get i = some v) : (i, some v) ∈ l := by
  induction l with
  | nil => cases T.get_full _ _ _ h
  | cons p l ih =>
    obtain ⟨j, u⟩ := p
    rcases T.get_set _ _ _ _ h with ⟨rfl, e⟩ | ⟨_, e⟩
    · rw [← e]; exact List.mem_cons_self
    · exact List.mem_cons_of_mem _ (ih e)
end

noncomputable def mkH (n : Nat) (l : List (Nat × Option EObj)) (m : Nat) (k : List (Nat × Option (Nat × TypeId))) : H := ⟨n, T.ofG 14 l, m, T.ofG 8 k⟩
theorem H.start_mk : H.start = mkH 0 [] 0 [] := rfl
section
variable {n m : Nat} {l : List (Nat × Option EObj)} {k : List (Nat × Option (Nat × TypeId))}
theorem mkH_new {o : EObj} : (mkH n l m k).new o = mkH (n + 1) ((n, some o) :: l) m k := rfl
theorem mkH_put {id : Nat} {o : EObj} : (mkH n l m k).put id o = mkH n ((id, some o) :: l) m k := rfl
theorem mkH_kill {id : Nat} : (mkH n l m k).kill id = mkH n ((id, none) :: l) m k := rfl
theorem mkH_tok {id q : Nat} {e : TypeId} : (mkH n l m k).tok id q e = mkH n l m ((id, some (q, e)) :: k) := rfl
theorem mkH_get {id : Nat} (h : id < 16000) : (mkH n l m k).get id = aG l id := T.get_ofG 14 l id (by omega)
theorem mkH_k {id : Nat} (h : id < 250) : (mkH n l m k).k.get id = aG k id := T.get_ofG 8 k id (by omega)
theorem mkH_n : (mkH n l m k).n = n := rfl
end

/-! what speaks of no number from N on -/
mutual
def below (N : Nat) : EVal → Bool
  | .ptr id _ => Nat.blt id N
  | .slice id _ _ _ => Nat.blt id N
  | .map id => Nat.blt id N
  | .yieldf id => Nat.blt id N
  | .func _ cs => aN N cs
  | .iface _ v => below N v
  | .agg l => aN N l
  | .tup l => aN N l
  | _ => true
def aN (N : Nat) : List EVal → Bool
  | [] => true
  | v :: l => below N v && aN N l
end

def belowO (N : Nat) : EObj → Bool
  | .row cells _ _ _ _ => aN N cells
  | .map es _ => es.all fun e => below N e.1 && below N e.2.1
  | .iter _ _ => true
  | .miter m _ _ _ => Nat.blt m N
  | .deferred _ => true
  | _ => false
/-- an object speaks of no number from N on -/
def okO (N : Nat) (o : EObj) : Prop := belowO N o = true ∨ ∃ st pend n t ps a b d, o = .loop st pend n t ps a b d ∧ ∀ i e, t.get i = some e → below N e = true
/-- a frame, with what its loops have deferred, and the loop of which it is a round -/
noncomputable def mkD (n : Nat) (l : List (Nat × EVal)) (ds : List Nat) (r : Option Nat) : EFr := ⟨n, T.ofL l, ds, r⟩

def Loc.cut (ρ : Loc) (N : Nat) : Loc := { ρ with own := fun id => if id < N then ρ id else none }

theorem cut_own {ρ : Loc} {N id : Nat} {x : Nat × Nat} (hb : Nat.blt id N = true) (h : ρ id = some x) : (ρ.cut N) id = some x := by
  show (if id < N then ρ id else none) = some x
  rw [if_pos (by simpa using hb)]; exact h

mutual
theorem VRel.cut {ρ : Loc} {N : Nat} : ∀ {e : EVal} {v : Value}, VRel ρ e v → below N e = true → VRel (ρ.cut N) e v
  | _, _, .unk k n, _ => .unk k n
  | _, _, .bool b, _ => .bool b
  | _, _, .int k n, _ => .int k n
  | _, _, .str l s h, _ => .str l s h
  | _, _, .nilp, _ => .nilp
  | _, _, .gptr g o, _ => .gptr g o
  | _, _, .ptr id o b C h, hb => .ptr id o b C (cut_own hb h)
  | _, _, .nilslice, _ => .nilslice
  | _, _, .slice id o n c b C h, hb => .slice id o n c b C (cut_own hb h)
  | _, _, .slack id o n s c b C h hc hn, hb => .slack id o n s c b C (cut_own hb h) hc hn
  | _, _, .nilmap, _ => .nilmap
  | _, _, .map id b C h, hb => .map id b C (cut_own hb h)
  | _, _, .func f cs vs h, hb => .func f cs vs (VsRel.cut h hb)
  | _, _, .yieldf id b C h, hb => .yieldf id b C (cut_own hb h)
  | _, _, .nilfunc, _ => .nilfunc
  | _, _, .iface t e v h, hb => .iface t e v (VRel.cut h hb)
  | _, _, .nilif, _ => .nilif
  | _, _, .agg l cs h, hb => .agg l cs (VsRel.cut h hb)
  | _, _, .tup l cs h, hb => .tup l cs (VsRel.cut h hb)
  | _, _, .lsl els us b o c sz pre rest hf hs hw ho hz hc, _ => .lsl els us b o c sz pre rest hf hs hw ho hz hc
  | _, _, .lsl0 p c, _ => .lsl0 p c
  | _, _, .lsln, _ => .lsln
  | _, _, .lptr cells off us b base pre rest hf hs hw ho, _ => .lptr cells off us b base pre rest hf hs hw ho
  | _, _, .gnil id ht, _ => .gnil id ht
  | _, _, .gsl id els us b C sz pre rest ht hf hs hw hz hc, _ => .gsl id els us b C sz pre rest ht hf hs hw hz hc
theorem VsRel.cut {ρ : Loc} {N : Nat} : ∀ {es : List EVal} {vs : List Value}, VsRel ρ es vs → aN N es = true → VsRel (ρ.cut N) es vs
  | _, _, .nil, _ => .nil
  | _, _, .cons e v es vs h hs, hb => by
    simp only [aN, Bool.and_eq_true] at hb
    exact .cons e v es vs (VRel.cut h hb.1) (VsRel.cut hs hb.2)
end

section
variable {P : Program} {B0 : Nat} {W0 : Base}

theorem roundNone {ρ ρ' : Loc} {x : Option Nat} (h : RoundRel ρ none x) : RoundRel ρ' none x := by
  cases x with
  | none => trivial
  | some l => exact h.elim

theorem MRel.cut {ρ : Loc} {N : Nat} {es : List (EVal × EVal × Nat)} {ms : List MapEntry} (hb : (es.all fun e => Go.Ev.below N e.1 && Go.Ev.below N e.2.1) = true) (h : MRel ρ es ms) : MRel (ρ.cut N) es ms := by
  induction h with
  | nil => exact .nil
  | cons k v t es m ms hk hv hbn h ih =>
    simp only [List.all_cons, Bool.and_eq_true] at hb
    exact .cons k v t es m ms (hk.cut hb.1.1) (hv.cut hb.1.2) hbn (ih hb.2)

theorem ORel.cut {ρ : Loc} {N : Nat} {o : EObj} {C : Nat} {x : Option Obj} (hb : belowO N o = true) (h : ORel P ρ o C x) : ORel P (ρ.cut N) o C x := by
  cases o with
  | row cells e lo hi sl => obtain ⟨cs, h1, h2, h3, h4⟩ := h; exact ⟨cs, h1, h2.cut hb, h3, h4⟩
  | map es clock => obtain ⟨m, h1, h2⟩ := h; exact ⟨m, h1, h2.cut hb⟩
  | miter m since seen stepped => obtain ⟨b, C, h1, h2⟩ := h; exact ⟨b, C, cut_own hb h1, h2⟩
  | iter l pos => exact h
  | loop st pend sz t ps a b d => cases hb
  | deferred tk => exact h
theorem ORel.cut' {ρ : Loc} {N : Nat} {o : EObj} {C : Nat} {x : Option Obj} (hb : okO N o) (h : ORel P ρ o C x) : ORel P (ρ.cut N) o C x := by
  rcases hb with hb | ⟨st, pend, n, t, ps, a, b, d, rfl, hb⟩
  · exact h.cut hb
  · obtain ⟨L, h1, h2, h3, h4, h5, h6⟩ := h; exact ⟨L, h1, h2, h3, h4, fun i e he => (h5 i e he).cut (hb i e he), h6⟩
theorem DRel.cut {ρ : Loc} {N : Nat} {l : List Nat} {ds : List Deferred} (h : DRel ρ l ds) (hb : ∀ i ∈ l, i < N) : DRel (ρ.cut N) l ds := by
  induction h with
  | nil => exact .nil
  | cons id b C l ds h hs ih => exact .cons _ _ C _ _ (cut_own (by simpa using hb id List.mem_cons_self) h) (ih fun i hi => hb i (List.mem_cons_of_mem _ hi))

/-- Slots and objects that are no longer wanted are dropped, with their numbers. -/
theorem aH.dropD {A : Option Nat} {s n N m : Nat} {ds : List Nat} {r : Option Nat} {fl fl2 : List (Nat × EVal)} {l l2 : List (Nat × Option EObj)} {k k2 : List (Nat × Option (Nat × TypeId))}
    (hA : ∀ q, A = some q → q ≤ N) (hds : ∀ i ∈ ds, i < N) (hr : ∀ i, r = some i → i < N) (hf : ∀ p ∈ fl2, p.1 < 1000 ∧ aX fl p.1 = some p.2 ∧ below N p.2 = true) (hl : ∀ p ∈ l2, p.1 < 16000 ∧ p.1 < N ∧ ∃ o, p.2 = some o ∧ aG l p.1 = some o ∧ okO N o)
    (hk : ∀ p ∈ k2, p.1 < 250 ∧ ∃ x, p.2 = some x ∧ aG k p.1 = some x) :
    aH A P (mkD s fl ds r) (mkH n l m k) (mkD s fl2 ds r) (mkH N l2 m k2) := by
  intro B0 W0 b t d ρ w F R
  have hkget : ∀ id x, (mkH N l2 m k2).k.get id = some x → (mkH n l m k).k.get id = some x := by
    intro id x hg
    obtain ⟨h1, x', h2, h3⟩ := hk _ (T.ofG_mem hg)
    simp only [Option.some.injEq] at h2
    subst h2
    rw [mkH_k h1]; exact h3
  have hget : ∀ id o, (mkH N l2 m k2).get id = some o → id < N ∧ (mkH n l m k).get id = some o ∧ okO N o := by
    intro id o hg
    obtain ⟨h1, h2, o', h3, h4, h5⟩ := hl _ (T.ofG_mem hg)
    simp only [Option.some.injEq] at h3
    subst h3
    exact ⟨h2, by rw [mkH_get h1]; exact h4, h5⟩
  have hown : ∀ {id x}, (ρ.cut N) id = some x → ρ id = some x := by
    intro id x hx
    have : (if id < N then ρ id else none) = some x := hx
    split at this
    · exact this
    · cases this
  refine ⟨ρ.cut N, fun q hq => ⟨fun id x hid hx => ?_, fun b pre hb => ⟨[], by rw [List.append_nil]; exact hb⟩, fun _ _ _ h => h⟩, ⟨F.size, fun i e he => ?_, F.defers.cut hds, ?_⟩, ?_⟩
  · show (if id < N then ρ id else none) = _
    rw [if_pos (by have := hA q hq; omega)]; exact hx
  · obtain ⟨h1, h2, h3⟩ := hf _ (ofL_look he)
    exact (F.tmps i e (by show (T.ofL fl).get i = _; rw [T.get_ofL _ _ h1]; exact h2)).cut h3
  · have := F.round
    cases r with
    | none => exact roundNone this
    | some i =>
      generalize b.roundOf = x at this ⊢
      cases x with
      | none => exact this.elim
      | some l => obtain ⟨C, hC⟩ := this; exact ⟨C, cut_own (by simpa using hr i rfl) hC⟩
  · refine ⟨R.below, R.base, fun id hid => ?_, fun id b' C hb' => R.lo id b' C (hown hb'), fun i j o1 o2 b' C C' g1 g2 r1 r2 => R.inj i j o1 o2 b' C C' (hget _ _ g1).2.1 (hget _ _ g2).2.1 (hown r1) (hown r2), fun id o hg => ?_, R.fz,
      fun b' pre hb' id C o hg hr => R.free b' pre hb' id C o (hget _ _ hg).2.1 (hown hr), R.fz0, R.mdom, fun id q e hk => ?_, fun id q e hk => R.tnew id q e (hkget _ _ hk), fun i1 n1 e1 i2 n2 e2 b1 C1 C2 h1 h2 => R.tinj i1 n1 e1 i2 n2 e2 b1 C1 C2 (hkget _ _ h1) (hkget _ _ h2)⟩
    · have hid : N ≤ id := hid
      show (if id < N then ρ id else none) = none
      rw [if_neg (by omega)]
    · obtain ⟨h1, h2, h3⟩ := hget _ _ hg
      obtain ⟨b', C, hb', r⟩ := R.objs _ _ h2
      exact ⟨b', C, cut_own (by simpa using h1) hb', r.cut' h3⟩
    · obtain ⟨x, h1, h2⟩ := R.toks id q e (hkget _ _ hk)
      exact ⟨x, h1, fun b' C hx => (h2 b' C hx).keep rfl rfl⟩

theorem aH.drop {A : Option Nat} {s n N m : Nat} {fl fl2 : List (Nat × EVal)} {l l2 : List (Nat × Option EObj)} {k k2 : List (Nat × Option (Nat × TypeId))}
    (hf : ∀ p ∈ fl2, p.1 < 1000 ∧ aX fl p.1 = some p.2 ∧ below N p.2 = true) (hl : ∀ p ∈ l2, p.1 < 16000 ∧ p.1 < N ∧ ∃ o, p.2 = some o ∧ aG l p.1 = some o ∧ belowO N o = true)
    (hk : ∀ p ∈ k2, p.1 < 250 ∧ ∃ x, p.2 = some x ∧ aG k p.1 = some x) (hA : ∀ q, A = some q → q ≤ N := by first | (intro _ h; cases h; done) | (intro q h; cases h; omega)) :
    aH A P (mkF s fl) (mkH n l m k) (mkF s fl2) (mkH N l2 m k2) :=
  aH.dropD (ds := []) (r := none) hA (fun _ h => by cases h) (fun _ h => by cases h) hf (fun p hp => by obtain ⟨h1, h2, o, h3, h4, h5⟩ := hl p hp; exact ⟨h1, h2, o, h3, h4, .inl h5⟩) hk

/-- A slice that is nil, and grows from here on. -/
theorem aH.growD {A : Option Nat} {s n m : Nat} {ds : List Nat} {r : Option Nat} {fl : List (Nat × EVal)} {l : List (Nat × Option EObj)} {k : List (Nat × Option (Nat × TypeId))} (i : Nat) (e : TypeId) (hi : i < 1000) (hm : m < 250) (h : aX fl i = some .nilslice) :
    aH A P (mkD s fl ds r) (mkH n l m k) (mkD s ((i, .gsl m []) :: fl) ds r) (mkH n l (m + 1) ((m, some (0, e)) :: k)) := by
  intro B0 W0 b t d ρ w F R
  have hm0 : ∀ q, ρ.tau m q = none := fun q => R.mdom m q (Nat.le_refl _)
  let ρ2 : Loc := { ρ with tau := fun id q => if id = m then (if q = 0 then some none else none) else ρ.tau id q }
  have hle : ρ.le ρ2 := ⟨fun _ _ h => h, fun b pre h => ⟨[], by simpa using h⟩, fun id q x hx => by
    show (if id = m then (if q = 0 then some none else none) else ρ.tau id q) = some x
    rw [if_neg]; exact hx
    rintro rfl; rw [hm0] at hx; cases hx⟩
  have htau : ∀ id q, ρ2.tau id q = if id = m then (if q = 0 then some none else none) else ρ.tau id q := fun _ _ => rfl
  have hget : ∀ id q e', (mkH n l (m + 1) ((m, some (0, e)) :: k)).k.get id = some (q, e') → (id = m ∧ q = 0 ∧ e' = e) ∨ (id ≠ m ∧ (mkH n l m k).k.get id = some (q, e')) := by
    intro id q e' hg
    rcases T.get_set _ _ _ _ hg with ⟨a, b⟩ | ⟨a, b⟩
    · cases b; exact .inl ⟨a, rfl, rfl⟩
    · exact .inr ⟨a, b⟩
  refine ⟨ρ2, Loc.leA_of hle, ⟨F.size, fun j v hv => ?_, F.defers.mono hle, (FRel.mono hle F).round⟩, ?_⟩
  · rcases T.get_set _ _ _ _ hv with ⟨rfl, hv⟩ | ⟨_, hv⟩
    · cases hv
      have := F.tmps j _ (by show (T.ofL fl).get j = _; rw [T.get_ofL _ _ hi]; exact h)
      generalize t.getD j undef = u at this
      cases this
      exact .gnil m (by rw [htau]; simp)
    · exact (F.tmps j v hv).mono hle
  · refine ⟨R.below, R.base, R.dom, R.lo, R.inj, fun id o hg => ?_, R.fz, R.free, R.fz0, fun id q hid => ?_, fun id q e' hk => ?_, fun id q e' hk q' hq => ?_, fun i1 n1 e1 i2 n2 e2 b1 C1 C2 h1 h2 t1 t2 => ?_⟩
    · obtain ⟨b', C, hb', r⟩ := R.objs _ _ hg
      exact ⟨b', C, hb', r.mono hle⟩
    · have hid : m + 1 ≤ id := hid
      rw [htau, if_neg (by omega)]
      exact R.mdom id q (by show m ≤ id; omega)
    · rcases hget _ _ _ hk with ⟨rfl, rfl, rfl⟩ | ⟨hne, hk⟩
      · exact ⟨none, by rw [htau]; simp, fun _ _ hx => by cases hx⟩
      · obtain ⟨x, h1, h2⟩ := R.toks id q e' hk
        exact ⟨x, by rw [htau, if_neg hne]; exact h1, fun b' C hx => (h2 b' C hx).keep rfl rfl⟩
    · rcases hget _ _ _ hk with ⟨rfl, rfl, rfl⟩ | ⟨hne, hk⟩
      · rw [htau, if_pos rfl, if_neg (by omega)]
      · rw [htau, if_neg hne]; exact R.tnew _ _ _ hk _ hq
    · rcases hget _ _ _ h1 with ⟨rfl, rfl, rfl⟩ | ⟨hne1, g1⟩
      · rw [htau] at t1; simp at t1
      · rcases hget _ _ _ h2 with ⟨rfl, rfl, rfl⟩ | ⟨hne2, g2⟩
        · rw [htau] at t2; simp at t2
        · rw [htau, if_neg hne1] at t1
          rw [htau, if_neg hne2] at t2
          exact R.tinj _ _ _ _ _ _ _ _ _ g1 g2 t1 t2

theorem aH.grow {A : Option Nat} {s n m : Nat} {fl : List (Nat × EVal)} {l : List (Nat × Option EObj)} {k : List (Nat × Option (Nat × TypeId))} (i : Nat) (e : TypeId) (hi : i < 1000) (hm : m < 250) (h : aX fl i = some .nilslice) :
    aH A P (mkF s fl) (mkH n l m k) (mkF s ((i, .gsl m []) :: fl)) (mkH n l (m + 1) ((m, some (0, e)) :: k)) := aH.growD (ds := []) (r := none) i e hi hm h

/-- A slice that grew is kept for good. -/
theorem aH.keepD {A : Option Nat} {s : Nat} {ds : List Nat} {r : Option Nat} {fl : List (Nat × EVal)} {h : H} {m : Nat} {els : List (List EVal)} (i : Nat) (hi : i < 1000) (hl : aX fl i = some (.gsl m els)) :
    aH A P (mkD s fl ds r) h (mkD s ((i, .lsl els) :: fl) ds r) h := by
  intro B0 W0 b t d ρ w F R
  refine ⟨ρ, Loc.leA_refl, ⟨F.size, fun j v hv => ?_, F.defers, F.round⟩, R⟩
  rcases T.get_set _ _ _ _ hv with ⟨rfl, hv⟩ | ⟨_, hv⟩
  · cases hv
    exact (F.tmps j _ (by show (T.ofL fl).get j = _; rw [T.get_ofL _ _ hi]; exact hl)).unG
  · exact F.tmps j v hv
theorem aH.keep {A : Option Nat} {s : Nat} {fl : List (Nat × EVal)} {h : H} {m : Nat} {els : List (List EVal)} (i : Nat) (hi : i < 1000) (hl : aX fl i = some (.gsl m els)) :
    aH A P (mkF s fl) h (mkF s ((i, .lsl els) :: fl)) h := aH.keepD (ds := []) (r := none) i hi hl
end
end Go.Ev

namespace Go.Ev
open Go.RowKit
/-- A slice of plain elements that grew, and that nobody else looks at, is one's own row again. -/
theorem aH.own {P : Program} {s n m : Nat} {fl fl2 : List (Nat × EVal)} {l : List (Nat × Option EObj)} {k : List (Nat × Option (Nat × TypeId))} {els : List (List EVal)} {e : TypeId} {ti : TypeInfo} (i id : Nat) (hi : i < 1000) (hid : id < 250) (hn : n < 16000) (hne : els ≠ [])
    (hl : aX fl i = some (.gsl id els)) (hk : aG k id = some (els.length, e)) (hti : P.info? e = some ti) (hlens : lensOK ti.size els = true) (hflat : flatL els.flatten = true)
    (hf : ∀ p ∈ fl2, p.1 < 1000 ∧ aX fl p.1 = some p.2 ∧ flat p.2 = true) :
    aH none P (mkF s fl) (mkH n l m k) (mkF s ((i, .slice n 0 els.length (.slack 0)) :: fl2)) (mkH (n + 1) [(n, some (.row els.flatten e 0 0 true))] 0 []) := by
  intro B0 W0 b t d ρ w F R
  have hv := F.tmps i _ (by show (T.ofL fl).get i = _; rw [T.get_ofL _ _ hi]; exact hl)
  have hk' : (mkH n l m k).k.get id = some (els.length, e) := by rw [mkH_k hid]; exact hk
  generalize hq : t.getD i undef = u at hv
  cases hv with
  | gnil _ _ => exact absurd rfl hne
  | gsl _ _ us blk C sz pre rest ht hfro hs hw hz hc =>
  obtain ⟨x, hx1, hx2⟩ := R.toks _ _ _ hk'
  rw [ht] at hx1; cases hx1
  obtain ⟨hB, cs, ti', pre', hcs, hti', hcsz, hpre', hpl⟩ := hx2 blk C rfl
  rw [hti] at hti'; cases hti'
  rw [hfro] at hpre'; cases hpre'
  have hsz : ti.size = sz := (VssRel.lens hs hz hlens).resolve_left hne
  obtain ⟨cs', e', m', hcs2, more, hcm⟩ := R.fz _ _ hfro
  rw [hcs] at hcs2; cases hcs2
  let ρ2 : Loc := ⟨fun q => if q = n then some (blk, C) else none, fun q => if q = blk then none else ρ.fro q, fun _ _ => none⟩
  have hown : ∀ q, ρ2 q = if q = n then some (blk, C) else none := fun _ => rfl
  have hrow : VsRel ρ2 els.flatten (cs.toList.take els.flatten.length) := by
    have h1 := (VssRel.flatten hs).flat hflat
    have h2 : cs.toList.take els.flatten.length = us.flatten := by
      rw [h1.length, hcm, hw, List.append_assoc]
      exact List.take_left' rfl
    rw [h2]
    exact h1.mono (none_le _)
  refine ⟨ρ2, Loc.leA_none, ⟨F.size, fun j v hv => ?_, F.defers |> fun h => by cases h; exact .nil, roundNone F.round⟩, ?_⟩
  · rcases T.get_set _ _ _ _ hv with ⟨rfl, hv⟩ | ⟨_, hv⟩
    · cases hv
      rw [hq]
      exact .slack n 0 els.length 0 C blk C (by rw [hown]; simp) (by omega) hc
    · obtain ⟨h1, h2, h3⟩ := hf _ (ofL_look hv)
      have := F.tmps j v (by show (T.ofL fl).get j = _; rw [T.get_ofL _ _ h1]; exact h2)
      exact (this.flat h3).mono (none_le _)
  · have hget : ∀ q o, (mkH (n + 1) [(n, some (.row els.flatten e 0 0 true))] 0 []).get q = some o → q = n ∧ o = .row els.flatten e 0 0 true := by
      intro q o hg
      have := T.ofG_mem hg
      simp only [List.mem_singleton, Prod.mk.injEq, Option.some.injEq] at this
      exact this
    refine ⟨R.below, R.base, fun q hq => ?_, fun q b' C' hb' => ?_, fun q1 q2 o1 o2 b' C1 C2 g1 g2 _ _ => ?_, fun q o hg => ?_, fun b' p hb' => ?_, fun b' p hb' q C' o hg hr => ?_, fun b' hb' => ?_, fun _ _ _ => rfl, fun q n' e' hk => ?_, fun q n' e' hk => ?_, fun q n' e' q2 n2 e2 b' C1 C2 hk => ?_⟩
    · have : n + 1 ≤ q := hq
      rw [hown, if_neg (by omega)]
    · rw [hown] at hb'
      split at hb'
      · cases hb'
        exact ⟨hB, (Array.getElem?_eq_some_iff.1 hcs).1⟩
      · cases hb'
    · rw [(hget _ _ g1).1, (hget _ _ g2).1]
    · obtain ⟨rfl, rfl⟩ := hget _ _ hg
      exact ⟨blk, C, by rw [hown]; simp, cs, hcs, hrow, (fun h => by cases h), (fun _ => ⟨ti, hti, hcsz⟩)⟩
    · have : (if b' = blk then none else ρ.fro b') = some p := hb'
      split at this
      · cases this
      · exact R.fz b' p this
    · rw [hown] at hr
      split at hr
      · cases hr
        have : (if blk = blk then none else ρ.fro blk) = some p := hb'
        simp at this
      · cases hr
    · show (if b' = blk then none else ρ.fro b') = _
      rw [if_neg (by omega)]; exact R.fz0 b' hb'
    · exact absurd (T.ofG_mem hk) (by simp)
    · exact absurd (T.ofG_mem hk) (by simp)
    · exact absurd (T.ofG_mem hk) (by simp)
end Go.Ev

namespace Go.Ev
open Go.RowKit
/-- A row of one's own is kept for good. -/
theorem aH.freeze {P : Program} {s n m sz len : Nat} {fl fl2 : List (Nat × EVal)} {l : List (Nat × Option EObj)} {k : List (Nat × Option (Nat × TypeId))} {cells cells' : List EVal} {e : TypeId} {lo hi : Nat} {sl : Bool} {cap : ECap} (i id : Nat) (hi' : i < 1000) (hid : id < 16000)
    (hl : aX fl i = some (.slice id 0 len cap)) (hg : aG l id = some (.row cells e lo hi sl)) (hcap : capOK len cap = true) (hk : keepL cells = some cells') (hlen : cells'.length = len * sz)
    (hf : ∀ p ∈ fl2, p.1 < 1000 ∧ aX fl p.1 = some p.2 ∧ keepV p.2 = some p.2) :
    aH none P (mkF s fl) (mkH n l m k) (mkF s ((i, .lsl (bI sz len cells')) :: fl2)) (mkH n [] m []) := by
  intro B0 W0 b t d ρ w F R
  have hv := F.tmps i _ (by show (T.ofL fl).get i = _; rw [T.get_ofL _ _ hi']; exact hl)
  have hg' : (mkH n l m k).get id = some (.row cells e lo hi sl) := by rw [mkH_get hid]; exact hg
  obtain ⟨blk, C, hb, cs, hw, hrel, _⟩ := R.objs _ _ hg'
  obtain ⟨h2, _⟩ := keepL_sound hrel hk
  obtain ⟨uss, c1, c2, c3, c4⟩ := chunk_rel sz len cells' _ h2 hlen
  let ρ2 : Loc := ⟨fun _ => none, fun q => if q = blk then some cs.toList else ρ.fro q, fun _ _ => none⟩
  have hlt := R.lo _ _ _ hb
  have hfz : ρ.fz.le ρ2 := by
    refine ⟨fun _ _ h => (by cases h), fun q pre hq => ?_, fun _ _ _ h => (by cases h)⟩
    have hq' : ρ.fro q = some pre := hq
    by_cases e : q = blk
    · subst e; exact absurd hb (R.free q pre hq' _ _ _ hg')
    · exact ⟨[], by show (if q = blk then some cs.toList else ρ.fro q) = _; rw [if_neg e, List.append_nil]; exact hq'⟩
  have hval : VRel ρ2 (.lsl (bI sz len cells')) (t.getD i undef) := by
    generalize t.getD i undef = u at hv
    have key : ∀ c', len ≤ c' → VRel ρ2 (.lsl (bI sz len cells')) (.slice (some ⟨blk, 0, none⟩) len c') := by
      intro c' hc
      have hcl : (bI sz len cells').length = len := chunk_length _ _ _
      have := VRel.lsl (ρ := ρ2) (bI sz len cells') uss blk 0 c' sz cs.toList (cs.toList.drop cells.length) (by show (if blk = blk then _ else _) = _; simp) (c1.mono ⟨hfz.own, hfz.fro, hfz.tau⟩)
        (by rw [List.drop_zero, c2, List.take_append_drop]) (Nat.zero_le _) c3 (by rw [hcl]; exact hc)
      rw [hcl] at this
      exact this
    cases hv with
    | slice _ _ _ c b' C' hb' => rw [hb] at hb'; cases hb'; exact key _ (by simpa [capOK] using hcap)
    | slack _ _ _ _ c b' C' hb' hc hn => rw [hb] at hb'; cases hb'; exact key _ hn
  refine ⟨ρ2, Loc.leA_none, ⟨F.size, fun j v hv => ?_, F.defers |> fun h => by cases h; exact .nil, roundNone F.round⟩, ?_⟩
  · rcases T.get_set _ _ _ _ hv with ⟨rfl, hv⟩ | ⟨_, hv⟩
    · cases hv; exact hval
    · obtain ⟨h1, h3, h4⟩ := hf _ (ofL_look hv)
      have := F.tmps j v (by show (T.ofL fl).get j = _; rw [T.get_ofL _ _ h1]; exact h3)
      exact (keepV_sound this h4).mono hfz
  · have hget : ∀ q o, ¬ (mkH n [] m []).get q = some o := fun q o hg => by have := T.ofG_mem hg; simp at this
    have hkk : ∀ q x, ¬ (mkH n [] m []).k.get q = some x := fun q o hg => by have := T.ofG_mem hg; simp at this
    refine ⟨R.below, R.base, fun _ _ => rfl, fun q b' C' hb' => (by cases hb'), fun q1 q2 o1 o2 b' C1 C2 g1 _ _ _ => (hget _ _ g1).elim, fun q o hg => (hget _ _ hg).elim, fun b' p hb' => ?_, fun b' p hb' q C' o hg hr => (hget _ _ hg).elim, fun b' hb' => ?_, fun _ _ _ => rfl, fun q n' e' hk => (hkk _ _ hk).elim, fun q n' e' hk => (hkk _ _ hk).elim, fun q n' e' q2 n2 e2 b' C1 C2 hk => (hkk _ _ hk).elim⟩
    · have : (if b' = blk then some cs.toList else ρ.fro b') = some p := hb'
      split at this
      · rename_i e'; subst e'; cases this; exact ⟨cs, e, _, hw, [], by simp⟩
      · exact R.fz b' p this
    · show (if b' = blk then some cs.toList else ρ.fro b') = _
      rw [if_neg (by omega)]; exact R.fz0 b' hb'
end Go.Ev
namespace Go.Ev
open Go.RowKit

/-! a memory that has grown: what looked into the elder one sees the same -/
structure HGrow (h hh : H) : Prop where
  m : hh.m = h.m
  obj : ∀ id e, h.get id = some e → hh.get id = some e
theorem HGrow.refl (h : H) : HGrow h h := ⟨rfl, fun _ _ x => x⟩
theorem HGrow.trans {a b c : H} (h1 : HGrow a b) (h2 : HGrow b c) : HGrow a c := ⟨h2.m.trans h1.m, fun id e x => h2.obj id e (h1.obj id e x)⟩
theorem HGrow.new {h : H} {o : EObj} (hn : h.get h.n = none) : HGrow h (h.new o) := ⟨rfl, fun id e x => by
  have hne : h.n ≠ id := fun e2 => by rw [← e2, hn] at x; cases x
  show (h.t.set h.n (some o)).get id = some e
  rw [T.get_set_ne _ _ _ _ (Ne.symm hne)]; exact x⟩

section
variable {P : Program} {g : G} {K : aY} {h hh : H}
theorem row_ext (hg : HGrow h hh) {x : EVal} {r : List EVal × Nat} (he : row? g h x = some r) : row? g hh x = some r := by
  unfold row? at he ⊢
  split at he
  · exact he
  · split at he
    · rename_i hget
      rw [hg.obj _ _ hget]; exact he
    · cases he
  · exact he
  · cases he
theorem load_ext (hg : HGrow h hh) {t : TypeId} {x v : EVal} (he : eLoad P g h t x = some v) : eLoad P g hh t x = some v := by
  unfold eLoad at he ⊢
  split at he
  · rename_i hr
    rw [row_ext hg hr]; exact he
  · cases he
theorem lookup_ext (hg : HGrow h hh) {t : TypeId} {x i v : EVal} {ok : Bool} (he : eLookup P h t x i ok = some v) : eLookup P hh t x i ok = some v := by
  unfold eLookup at he ⊢
  split at he
  · split at he
    · rename_i hk
      simp only [hk, if_true]
      split at he
      · exact he
      · split at he
        · rename_i hget
          rw [hg.obj _ _ hget]; exact he
        · cases he
      · cases he
    · cases he
  · cases he
theorem convert_ext (hg : HGrow h hh) {s d : TypeId} {x v : EVal} (he : aF P h s d x = some v) : aF P hh s d x = some v := by
  unfold aF at he ⊢
  split at he
  · exact he
  · exact he
  · exact he
  · split at he
    · rename_i hget
      rw [hg.obj _ _ hget]; exact he
    · cases he
  · split at he
    · rename_i hget
      rw [hg.obj _ _ hget]; exact he
    · cases he
  · cases he
theorem len_ext (hg : HGrow h hh) {t : TypeId} {x v : EVal} (he : eLen P h t x = some v) : eLen P hh t x = some v := by
  unfold eLen at he ⊢
  split at he
  · exact he
  · exact he
  · exact he
  · exact he
  · split at he
    · exact he
    · unfold eLenM at he ⊢
      split at he
      · rename_i hget
        rw [hg.obj _ _ hget]; exact he
      · cases he
    · cases he
  · cases he
theorem argB_ext (hg : HGrow h hh) {x v : EVal} (he : argB P h x = some v) : argB P hh x = some v := by
  unfold argB at he ⊢
  split at he
  · split at he
    · rename_i hget
      rw [hg.obj _ _ hget]; exact he
    · cases he
  · exact he
theorem argsB_ext (hg : HGrow h hh) : ∀ {l l' : List EVal}, argsB P h l = some l' → argsB P hh l = some l'
  | [], _, he => he
  | x :: l, l', he => by
    unfold argsB at he ⊢
    split at he
    · rename_i a b ha hb
      rw [argB_ext hg ha, argsB_ext hg hb]; exact he
    · cases he
theorem kcall_ext (hg : HGrow h hh) {f : FuncId} {args : List EVal} {v : EVal} (he : aE P K h f args = some v) : aE P K hh f args = some v := by
  unfold aE at he ⊢
  split at he
  · rename_i ts ha
    rw [argsB_ext hg ha]; exact he
  · cases he
theorem mk_ext {x : Option EVal} {v : EVal} {h1 : H} (he : Go.Ev.mk x h = some (.val v h1)) : x = some v := by
  cases x with
  | none => cases he
  | some u => cases he; rfl
/-- what looks and turns nothing sees the same in a memory that has grown -/
theorem quiet_ext (hg : HGrow h hh) {t : T EVal} {o : Oper} {v : EVal} {h1 : H} (hq : isQuiet o = true) (he : eOp P g h t o = some (.val v h1)) : ∃ h2, eOp P g hh t o = some (.val v h2) := by
  unfold isQuiet at hq
  unfold eOp at he ⊢
  split at hq
  · rename_i ty a heq
    rw [heq] at he ⊢
    simp only [eLoadOp] at he ⊢
    split at he
    · rename_i x hx
      have := mk_ext he
      rw [load_ext hg this]; exact ⟨_, rfl⟩
    · cases he
  · rename_i heq
    rw [heq] at he ⊢
    simp only [eLookupOp] at he ⊢
    split at he
    · have := mk_ext he
      rw [lookup_ext hg this]; exact ⟨_, rfl⟩
    · cases he
  · rename_i heq
    rw [heq] at he ⊢
    simp only [eConvOp] at he ⊢
    split at he
    · have := mk_ext he
      rw [convert_ext hg this]; exact ⟨_, rfl⟩
    · cases he
  · rename_i heq
    rw [heq] at he ⊢
    simp only [eMakeFunc] at he ⊢
    split at he
    · split at he
      · cases he; rename_i hs; simp only [hs, if_true]; exact ⟨_, rfl⟩
      · cases he
    · cases he
  · rename_i c heq
    rw [heq] at he ⊢
    simp only [eCall] at he ⊢
    split at he
    · cases he
    · split at hq
      · rename_i hc
        rw [hc] at he ⊢
        simp only [eCallB, eBuiltin] at he ⊢
        split at he
        · rename_i u h2 hb
          split at hb
          · simp only [Option.map_eq_some_iff] at hb
            obtain ⟨w, hl, e⟩ := hb
            cases e
            cases he
            rw [len_ext hg hl]; exact ⟨_, rfl⟩
          · cases hb
        · cases he
      · rename_i hc
        rw [hc] at he ⊢
        simp only [eCallB, eBuiltin] at he ⊢
        split at he
        · rename_i u h2 hb
          split at hb
          · simp only [Option.map_eq_some_iff] at hb
            obtain ⟨w, hl, e⟩ := hb
            cases e
            cases he
            rw [hl]; exact ⟨_, rfl⟩
          · cases hb
        · cases he
      · rename_i hc
        rw [hc] at he ⊢
        simp only [eCallB, eBuiltin] at he ⊢
        split at he
        · rename_i u h2 hb
          split at hb
          · cases hb; cases he; exact ⟨_, rfl⟩
          · split at hb
            · cases hb
            · rename_i hcond
              cases hb
              cases he
              simp only [hcond, if_false]
              exact ⟨_, rfl⟩
          · cases hb
        · cases he
      · cases hq
  · cases hq
theorem still_ext (hg : HGrow h hh) {t : T EVal} {o : Oper} {v : EVal} {h1 : H} (hq : isStill o h1 = true) (he : eOp P g h t o = some (.val v h1)) : ∃ h2, eOp P g hh t o = some (.val v h2) ∧ isStill o h2 = true := by
  have hst := hq
  have hsame := still_op hq he
  subst hsame
  by_cases hbs : ∃ ty len parts, o.op = .buildSlice ty len parts
  · obtain ⟨ty, len, parts, hop⟩ := hbs
    have hm : h1.fz = true := by unfold isStill at hq; rw [hop] at hq; exact hq
    have hm2 : hh.fz = true := by unfold H.fz at hm ⊢; rw [hg.m]; exact hm
    have key : eOp P g hh t o = some (.val v hh) := by
      unfold eOp at he ⊢
      rw [hop] at he ⊢
      simp only at he ⊢
      unfold aB at he ⊢
      split at he
      · split at he
        · unfold eBuildSlice' at he ⊢
          split at he
          · rename_i hc
            rw [if_pos hc]
            split at he
            · rw [hm] at he
              rw [hm2]
              simp only at he ⊢
              split at he
              · split at he
                · rename_i hl
                  rw [if_pos hl]
                  simp only [Option.some.injEq, EOut.val.injEq] at he ⊢
                  exact ⟨he.1, trivial⟩
                · cases he
              · cases he
            · cases he
          · cases he
        · cases he
      · cases he
    exact ⟨hh, key, by unfold isStill; rw [hop]; exact hm2⟩
  · have key : ∀ h, isStill o h = isQuiet o := fun h => by
      unfold isStill
      split
      · rename_i ty len parts hop; exact absurd ⟨ty, len, parts, hop⟩ hbs
      · rfl
    rw [key] at hq
    obtain ⟨h2, e⟩ := quiet_ext hg hq he
    exact ⟨h2, e, by rw [key]; exact hq⟩
/-- a call of the program is one in a memory that has grown -/
theorem enter_ext {t : T EVal} {o : Oper} {f : FuncId} {args : List EVal} {h1 : H} (he : eOp P g h t o = some (.enter f args h1)) : h1 = h ∧ eOp P g hh t o = some (.enter f args hh) := by
  have nomk : ∀ x : Option EVal, Go.Ev.mk x h ≠ some (.enter f args h1) := fun x e => by cases x <;> cases e
  unfold eOp at he ⊢
  split at he
  all_goals try (exfalso; exact nomk _ he)
  all_goals try (exfalso; simp only [ePick, eAlloc, eBox, aJ, eBuildS, eBuildA, aB, eBuildSlice', eLoadOp, eStoreOp, eNil, eBinOp, eUnOp, eConvOp, eMakeFunc, eMakeSlice, eMakeSlice', eSliceOp, eFieldAddrOp, eFieldOp, eIndexAddrOp, eIndexOp, eLookupOp, eUpdateOp, eRange, eEntry, eEntry', eNextS, eNextS', eExtract] at he; repeat' (split at he)
                 all_goals first | (cases he; done) | exact nomk _ he)
  · cases he
  · exfalso
    unfold eRange at he
    repeat' (split at he)
    all_goals first | (cases he; done) | exact nomk _ he | (unfold eRangeMap at he; split at he <;> cases he)
  · rename_i c heq
    unfold eCall at he ⊢
    split at he
    · cases he
    · rename_i args' ha
      split at he
      · simp only [eCallB] at he
        split at he <;> cases he
      · simp only [eCallV] at he ⊢
        split at he
        · rename_i f' cs hv
          unfold aU at he ⊢
          split at he
          · rename_i fn hfn
            split at he
            · exfalso
              simp only [eExtern, eIndexByte, eNoEscape, eNoZero] at he
              repeat' (split at he)
              all_goals first | (cases he; done) | exact nomk _ he
            · rename_i hb
              cases he
              simp only [hb]
              exact ⟨trivial, by simp⟩
          · cases he
        · cases he
        · cases he
      · cases he
  · cases he
end

/-- what makes a new object, and nothing else -/
def isNew (o : Oper) : Bool :=
  match o.op with
  | .alloc _ => true
  | .box _ _ => true
  | .call c => match c.callee with
    | .value _ => true
    | _ => false
  | _ => false
noncomputable def extB (o : Oper) (h : H) : Bool := isNew o && (h.get h.n).isNone
theorem extB_q {o : Oper} {h : H} : extB o h = (isNew o && (h.get h.n).isNone) := (rfl)
theorem new_grow {P : Program} {g : G} {h h1 : H} {t : T EVal} {o : Oper} {v : EVal} (hb : extB o h = true) (he : eOp P g h t o = some (.val v h1)) : HGrow h h1 := by
  unfold extB isNew at hb
  simp only [Bool.and_eq_true, Option.isNone_iff_eq_none] at hb
  obtain ⟨h2, h3⟩ := hb
  unfold eOp at he
  split at h2
  · rename_i heq
    rw [heq] at he
    simp only [eAlloc] at he
    split at he
    · cases he; exact .new h3
    · cases he
  · rename_i heq
    rw [heq] at he
    simp only [eBox] at he
    split at he
    · cases he; exact .new h3
    · cases he
  · rename_i c heq
    rw [heq] at he
    split at h2
    · rename_i x hx
      simp only [eCall, hx] at he
      repeat' (split at he)
      all_goals first
        | (cases he; done)
        | (simp only [eCallV] at he
           repeat' (split at he)
           all_goals first
             | (cases he; done)
             | (unfold aU at he
                repeat' (split at he)
                all_goals first
                  | (cases he; done)
                  | (simp only [eExtern, eIndexByte, eNoEscape, eNoZero] at he
                     repeat' (split at he)
                     all_goals first
                       | (cases he; done)
                       | (cases he; exact .refl _)
                       | (cases he; exact .new h3))))
    · cases h2
  · cases h2

mutual
theorem EVal.beq_refl : ∀ a : EVal, EVal.beq a a = true
  | .unk => rfl
  | .bool a => by simp [EVal.beq]
  | .int k a => by simp [EVal.beq]
  | .str a => by simp [EVal.beq]
  | .nilp => rfl
  | .gptr a b => by simp [EVal.beq]
  | .ptr a b => by simp [EVal.beq]
  | .nilslice => rfl
  | .slice a b c x => by simp [EVal.beq]
  | .nilmap => rfl
  | .map a => by simp [EVal.beq]
  | .nilfunc => rfl
  | .nilif => rfl
  | .func f a => by simp [EVal.beq, beqL_refl a]
  | .yieldf a => by simp [EVal.beq]
  | .iface t a => by simp [EVal.beq, EVal.beq_refl a]
  | .agg a => by simp only [EVal.beq]; exact beqL_refl a
  | .tup a => by simp only [EVal.beq]; exact beqL_refl a
  | .lsl a => by simp only [EVal.beq]; exact beqLL_refl a
  | .lptr a i => by simp [EVal.beq, beqL_refl a]
  | .gsl i a => by simp [EVal.beq, beqLL_refl a]
theorem beqL_refl : ∀ l : List EVal, beqL l l = true
  | [] => rfl
  | a :: l => by simp [beqL, EVal.beq_refl a, beqL_refl l]
theorem beqLL_refl : ∀ l : List (List EVal), beqLL l l = true
  | [] => rfl
  | a :: l => by simp [beqLL, beqL_refl a, beqLL_refl l]
end
end Go.Ev
namespace Go.Ev
open Go.RowKit

/-! what an operation reads -/
theorem evs_congr {t u : T EVal} : ∀ {l : List Operand}, (∀ x ∈ l, ev t x = ev u x) → evs t l = evs u l
  | [], _ => rfl
  | x :: l, h => by simp only [evs]; rw [h x (by simp), evs_congr (fun y hy => h y (by simp [hy]))]
theorem evParts_congr {t u : T EVal} : ∀ {l : List (Nat × Operand)}, (∀ x ∈ l.map (·.2), ev t x = ev u x) → evParts t l = evParts u l
  | [], _ => rfl
  | (i, x) :: l, h => by simp only [evParts]; rw [h x (by simp), evParts_congr (fun y hy => h y (by simp at hy ⊢; exact .inr hy))]
theorem evOpt_congr {t u : T EVal} {x : Option Operand} (h : ∀ y, x = some y → ev t y = ev u y) : evOpt t x = evOpt u x := by
  cases x with
  | none => rfl
  | some y => simp only [evOpt]; rw [h y rfl]

theorem eOp_congr {P : Program} {g : G} {h : H} {t u : T EVal} {o : Oper} (hx : ∀ x ∈ o.op.operands.toList, ev t x = ev u x) : eOp P g h t o = eOp P g h u o := by
  unfold eOp
  split
  all_goals first | (rfl; done) | skip
  all_goals first
    | (rename_i hop; rw [hop] at hx; refine congrArg _ (evParts_congr (fun x h => hx x ?_)); simpa [Op.operands] using h)
    | (rename_i hop; rw [hop] at hx; refine congrArg _ (evs_congr (fun x h => hx x ?_)); simp only [Op.operands, Array.toList_append, List.mem_append]; exact .inr h)
    | (rename_i x lo hi hop; rw [hop] at hx; rw [hx x (by simp [Op.operands]), evOpt_congr (x := lo) (fun y hy => hx y (by subst hy; simp [Op.operands])), evOpt_congr (x := hi) (fun y hy => hx y (by subst hy; simp [Op.operands]))])
    | (rename_i hop; rw [hop] at hx; simp only [Op.operands, List.mem_cons, List.not_mem_nil, or_false, forall_eq, forall_eq_or_imp] at hx; first | rw [hx] | rw [hx.1, hx.2] | rw [hx.1, hx.2.1, hx.2.2])
    | skip
  rename_i c hop
  rw [hop] at hx
  have hc : ∀ x ∈ c.operands.toList, ev t x = ev u x := hx
  unfold Call.operands at hc
  have h1 : evs t c.args.toList = evs u c.args.toList := evs_congr (fun x h => hc x (by rw [Array.toList_append, List.mem_append]; exact .inr h))
  rw [h1]
  unfold eCall
  cases hcal : c.callee with
  | value f =>
    have h2 : ev t f = ev u f := hc f (by rw [hcal]; simp)
    simp only [h2]
  | _ => rfl

theorem restr_cons (t : T EVal) (s : Nat) (l : List Nat) : restr t (s :: l) = (restr t l).set s (t.get s) := (rfl)
theorem restr_has (t : T EVal) (l : List Nat) (i : Nat) (h : i < 1000) : (restr t l).has i := by
  induction l with
  | nil => exact T.has_full _ _ _ (by omega)
  | cons s l ih => rw [restr_cons]; exact (T.has_set _ _ _ _).2 ih
theorem restr_same (t : T EVal) {l : List Nat} {i : Nat} (h : i < 1000) (hm : i ∈ l) : (restr t l).get i = t.get i := by
  induction l with
  | nil => cases hm
  | cons s l ih =>
    rw [restr_cons]
    by_cases e : i = s
    · subst e; exact T.get_set_same _ _ _ (restr_has _ _ _ h)
    · rw [T.get_set_ne _ _ _ _ e]
      exact ih ((List.mem_cons.1 hm).resolve_left e)

theorem opTmps_mem {i : Nat} : ∀ {l : List Operand}, .tmp i ∈ l → i ∈ opTmps l
  | .tmp j :: l, h => by
    simp only [opTmps, List.mem_cons]
    rcases List.mem_cons.1 h with h | h
    · cases h; exact .inl rfl
    · exact .inr (opTmps_mem h)
  | .const _ :: l, h => by simp only [opTmps]; exact opTmps_mem ((List.mem_cons.1 h).resolve_left (by simp))
  | .global _ :: l, h => by simp only [opTmps]; exact opTmps_mem ((List.mem_cons.1 h).resolve_left (by simp))
  | .func _ :: l, h => by simp only [opTmps]; exact opTmps_mem ((List.mem_cons.1 h).resolve_left (by simp))

section
variable {P : Program} {g : G} {K : aY}

theorem restr_eOp {ops : Array Oper} {o : Oper} {f : EFr} {h : H} (hs : ∀ s ∈ readsOf ops o, s < 1000) : eOp P g h (restrFr ops o f) o = eOp P g h f.tmps o := by
  refine eOp_congr fun x hx => ?_
  cases x with
  | tmp i =>
    have : i ∈ readsOf ops o := List.mem_append_left _ (opTmps_mem hx)
    exact restr_same _ (hs i this) this
  | _ => rfl

theorem restr_wanted {ops : Array Oper} {o : Oper} {f : EFr} (hs : ∀ s ∈ readsOf ops o, s < 1000) : wantedE ops (restrFr ops o f) o = wantedE ops f.tmps o := by
  unfold wantedE
  split
  · rfl
  · rename_i j want hg
    have : yieldedE ops (restrFr ops o f) j = yieldedE ops f.tmps j := by
      unfold yieldedE
      split
      · rename_i q hq
        split
        · rename_i d hd
          have hm : d ∈ readsOf ops o := List.mem_append_right _ (by unfold guardSlot; rw [hg]; simp [hq, hd])
          have : (restrFr ops o f).get d = f.tmps.get d := restr_same _ (hs d hm) hm
          rw [this]
        · rfl
      · rfl
    rw [this]

/-! a region whose order is open, in the order of the text -/
def actIdx : List (Bool × Bool) → Nat → List Nat
  | [], _ => []
  | (a, _) :: l, i => if a then i :: actIdx l (i + 1) else actIdx l (i + 1)
noncomputable def actIdxE : List (Bool × Bool) → Nat → List (Nat × Bool)
  | [], _ => []
  | (a, e) :: l, i => bif a then (i, e) :: actIdxE l (i + 1) else actIdxE l (i + 1)
/-- what turns memory has its place before or behind operation i, or comes behind it in the text and but makes new objects -/
noncomputable def quickE (A : List Nat) (i : Nat) : List (Nat × Bool) → Bool
  | [] => true
  | (a, e) :: l => bif Nat.blt a i then (bif bM (bS A i) a then quickE A i l else false) else
    (bif bM (bS A i) a then false else bif bM (bS A a) i then true else bif e then quickE A i l else false)
noncomputable def quickIdx (A : List Nat) (acts : List (Nat × Bool)) : List (Bool × Bool) → Nat → Bool
  | [], _ => true
  | (a, nd) :: l, i => bif (bif nd then (bif a then true else quickE A i acts) else true) then quickIdx A acts l (i + 1) else false
/-- the places of what turns memory, and of what looks into it, are in order -/
noncomputable def placesOK (A : List Nat) (fl : List (Bool × Bool)) : Bool :=
  match actIdx fl 0 with
  | [] => true
  | acts => bif chainOK A acts acts then quickIdx A (actIdxE fl 0) fl 0 else false

def wpDOut (P : Program) (K : aY) (k : EVal → H → Bool × Bool → Prop) (o : Oper) (h : H) : Option EOut → Prop
  | some (.val v h') => if isPure o = true then k v h (false, false) else if isStill o h' = true then k v h (false, true) else k v h' (true, extB o h)
  | some (.enter fn args h') => match aE P K h' fn args with
    | some v => k v h (false, true)
    | none => False
  | _ => False

def wpDraw (P : Program) (g : G) (K : aY) (all : Array Oper) (Q : List (Bool × Bool) → EFr → H → Prop) : List Oper → List (Bool × Bool) → EFr → H → Prop
  | [], fl, f, h => Q fl f h
  | o :: rest, fl, f, h => match wantedE all f.tmps o with
    | some true => wpDOut P K (fun v h' b => wpDraw P g K all Q rest (b :: fl) (f.putd o.dst v) h') o h (eOp P g h f.tmps o)
    | some false => wpDraw P g K all Q rest ((false, false) :: fl) (f.putd o.dst undefE) h
    | none => False

def wpDNext (P : Program) (g : G) (K : aY) (all : Array Oper) (Q : List (Bool × Bool) → EFr → H → Prop) (d : Option Tmp) (rest : List Oper) (fl : List (Bool × Bool)) (f : EFr) (v : EVal) (h : H) (b : Bool × Bool) : Prop := wpDraw P g K all Q rest (b :: fl) (f.putd d v) h
def wpDStep (P : Program) (g : G) (K : aY) (all : Array Oper) (Q : List (Bool × Bool) → EFr → H → Prop) (o : Oper) (rest : List Oper) (fl : List (Bool × Bool)) (f : EFr) (h : H) : Option Bool → Prop
  | some true => wpDOut P K (wpDNext P g K all Q o.dst rest fl f) o h (eOp P g h f.tmps o)
  | some false => wpDraw P g K all Q rest ((false, false) :: fl) (f.putd o.dst undefE) h
  | none => False
theorem wpDraw_nil {all : Array Oper} {Q : List (Bool × Bool) → EFr → H → Prop} {fl : List (Bool × Bool)} {f : EFr} {h : H} : wpDraw P g K all Q [] fl f h = Q fl f h := (rfl)
theorem wpDraw_cons {all : Array Oper} {Q : List (Bool × Bool) → EFr → H → Prop} {o : Oper} {rest : List Oper} {fl : List (Bool × Bool)} {f : EFr} {h : H} : wpDraw P g K all Q (o :: rest) fl f h = wpDStep P g K all Q o rest fl f h (wantedE all f.tmps o) := by
  simp only [wpDraw]
  unfold wpDStep
  split <;> rfl
theorem wpDStep_true {all : Array Oper} {Q : List (Bool × Bool) → EFr → H → Prop} {o : Oper} {rest : List Oper} {fl : List (Bool × Bool)} {f : EFr} {h : H} : wpDStep P g K all Q o rest fl f h (some true) = wpDOut P K (wpDNext P g K all Q o.dst rest fl f) o h (eOp P g h f.tmps o) := (rfl)
theorem wpDStep_false {all : Array Oper} {Q : List (Bool × Bool) → EFr → H → Prop} {o : Oper} {rest : List Oper} {fl : List (Bool × Bool)} {f : EFr} {h : H} : wpDStep P g K all Q o rest fl f h (some false) = wpDraw P g K all Q rest ((false, false) :: fl) (f.putd o.dst undefE) h := (rfl)
theorem wpDStep_sym {all : Array Oper} {Q : List (Bool × Bool) → EFr → H → Prop} {o : Oper} {rest : List Oper} {fl : List (Bool × Bool)} {f : EFr} {h : H} {q : Bool} (h1 : q = true → wpDStep P g K all Q o rest fl f h (some true)) (h2 : q = false → wpDStep P g K all Q o rest fl f h (some false)) : wpDStep P g K all Q o rest fl f h (some q) := by
  cases q with
  | true => exact h1 rfl
  | false => exact h2 rfl

theorem wpDStep_not {all : Array Oper} {Q : List (Bool × Bool) → EFr → H → Prop} {o : Oper} {rest : List Oper} {fl : List (Bool × Bool)} {f : EFr} {h : H} {q : Bool} (h1 : q = false → wpDStep P g K all Q o rest fl f h (some true)) (h2 : q = true → wpDStep P g K all Q o rest fl f h (some false)) : wpDStep P g K all Q o rest fl f h (some !q) := by
  cases q with
  | true => exact h2 rfl
  | false => exact h1 rfl

def wpDSel (k : EVal → H → Bool × Bool → Prop) (v : EVal) (h h' : H) (e : Bool) : Bool → Bool → Prop
  | true, _ => k v h (false, false)
  | false, true => k v h (false, true)
  | false, false => k v h' (true, e)
theorem wpDSel_pure {k : EVal → H → Bool × Bool → Prop} {v : EVal} {h h' : H} {e q : Bool} : wpDSel k v h h' e true q = k v h (false, false) := by cases q <;> rfl
theorem wpDSel_quiet {k : EVal → H → Bool × Bool → Prop} {v : EVal} {h h' : H} {e : Bool} : wpDSel k v h h' e false true = k v h (false, true) := (rfl)
theorem wpDSel_act {k : EVal → H → Bool × Bool → Prop} {v : EVal} {h h' : H} {e : Bool} : wpDSel k v h h' e false false = k v h' (true, e) := (rfl)
def wpDKc (k : EVal → H → Bool × Bool → Prop) (h : H) : Option EVal → Prop
  | some v => k v h (false, true)
  | none => False
theorem wpDKc_some {k : EVal → H → Bool × Bool → Prop} {h : H} {v : EVal} : wpDKc k h (some v) = k v h (false, true) := (rfl)
theorem wpDOut_val {k : EVal → H → Bool × Bool → Prop} {o : Oper} {h h' : H} {v : EVal} : wpDOut P K k o h (some (.val v h')) = wpDSel k v h h' (extB o h) (isPure o) (isStill o h') := by
  show (if isPure o = true then k v h (false, false) else if isStill o h' = true then k v h (false, true) else k v h' (true, extB o h)) = _
  unfold wpDSel
  cases isPure o <;> cases isStill o h' <;> rfl
theorem wpDOut_enter {k : EVal → H → Bool × Bool → Prop} {o : Oper} {h h' : H} {fn : FuncId} {args : List EVal} : wpDOut P K k o h (some (.enter fn args h')) = wpDKc k h (aE P K h' fn args) := by
  show (match aE P K h' fn args with | some v => k v h (false, true) | none => False) = _
  cases aE P K h' fn args <;> rfl

/-- of a region, whatever the state -/
noncomputable def drawStatic (ops : Array Oper) (n : Nat) : Bool :=
  staticOK ops (ancGo ops.toList []) && ops.toList.all fun o => dstOK o n && (readsOf ops o).all fun s => Nat.blt s 1000

/-- what is aM of the steps -/
inductive Flags (P : Program) (g : G) (K : aY) (all : Array Oper) : List DStep → List (Bool × Bool) → H → Prop
  | nil (h : H) : Flags P g K all [] [] h
  | cons (x : DStep) (b : Bool × Bool) (st : List DStep) (fl : List (Bool × Bool)) (h : H) (hh : x.h = h) (ha : x.act.isSome = b.1)
    (hn : needs all x = true → b.2 = true ∧ b.1 = false ∧ ∀ h2, HGrow x.h h2 → quietOK P g K all x h2 = true)
    (he : ∀ h', x.act = some h' → b.2 = true → HGrow x.h h') (rest : Flags P g K all st fl (x.act.getD h)) : Flags P g K all (x :: st) (b :: fl) h

theorem wpDraw_go {all : Array Oper} {Q : List (Bool × Bool) → EFr → H → Prop} {r : Rec} : ∀ (l : List Oper) (fl : List (Bool × Bool)) (f : EFr) (h : H), (∀ o ∈ l, dstOK o f.sz = true ∧ ∀ s ∈ readsOf all o, s < 1000) → wpDraw P g K all Q l fl f h →
    ∃ st f' h' fl', drawGo P g K r all l f h = some (st, f', h') ∧ Flags P g K all st fl' h ∧ Q (fl'.reverse ++ fl) f' h'
  | [], fl, f, h, _, hw => ⟨[], f, h, [], rfl, .nil _, hw⟩
  | o :: l, fl, f, h, hs, hw => by
    obtain ⟨hd, hr⟩ := hs o (by simp)
    have hgo : drawGo P g K r all (o :: l) f h = (match dstOK o f.sz with
      | false => none
      | true => match drawOne P g K r o (restrFr all o f) h (wantedE all (restrFr all o f) o) with
        | some (v, none) => consD ⟨o, f, v, h, none⟩ (drawGo P g K r all l (f.putd o.dst v) h)
        | some (v, some h') => consD ⟨o, f, v, h, some h'⟩ (drawGo P g K r all l (f.putd o.dst v) h')
        | none => none) := rfl
    rw [hgo, hd]
    simp only
    have hsz : ∀ v, (f.putd o.dst v).sz = f.sz := fun v => by
      unfold EFr.putd
      split
      · simp only [Bool.cond_eq_ite]; split <;> rfl
      · rfl
    have hs' : ∀ v, ∀ o' ∈ l, dstOK o' (f.putd o.dst v).sz = true ∧ ∀ s ∈ readsOf all o', s < 1000 := fun v o' ho' => by rw [hsz]; exact hs o' (by simp [ho'])
    have next : ∀ (v : EVal) (h' : H) (act : Option H) (b : Bool × Bool), act.isSome = b.1 → act.getD h = h' → (needs all ⟨o, f, v, h, act⟩ = true → b.2 = true ∧ b.1 = false ∧ ∀ h2, HGrow h h2 → quietOK P g K all ⟨o, f, v, h, act⟩ h2 = true) →
        (∀ h2, act = some h2 → b.2 = true → HGrow h h2) → wpDraw P g K all Q l (b :: fl) (f.putd o.dst v) h' →
        ∃ st f' h2 fl', consD ⟨o, f, v, h, act⟩ (drawGo P g K r all l (f.putd o.dst v) h') = some (st, f', h2) ∧ Flags P g K all st fl' h ∧ Q (fl'.reverse ++ fl) f' h2 := by
      intro v h' act b hb1 hb3 hb2 hb4 hq
      obtain ⟨st, f', h2, fl', e1, e2, e3⟩ := wpDraw_go (r := r) l (b :: fl) _ h' (hs' v) hq
      subst hb3
      refine ⟨_, f', h2, b :: fl', by rw [e1]; rfl, .cons ⟨o, f, v, h, act⟩ _ _ _ _ rfl hb1 hb2 hb4 e2, ?_⟩
      rw [List.reverse_cons, List.append_assoc]; exact e3
    unfold wpDraw at hw
    rw [restr_wanted hr]
    split at hw
    · rename_i hwant
      rw [hwant]
      simp only [drawOne]
      rw [restr_eOp hr]
      unfold wpDOut at hw
      split at hw
      · rename_i v h' heq
        rw [heq]
        simp only [drawOp, Bool.cond_eq_ite]
        split at hw
        · rename_i hp
          simp only [hp, Bool.true_or, if_true]
          exact next v h none (false, false) rfl rfl (by simp [needs, hp]) (fun _ e => by cases e) hw
        · rename_i hp
          have hp' : isPure o = false := by simpa using hp
          split at hw
          · rename_i hqt
            simp only [hp', hqt, Bool.or_true, if_true]
            refine next v h none (false, true) rfl rfl (fun _ => ⟨rfl, rfl, fun h2 hg => ?_⟩) (fun _ e => by cases e) hw
            obtain ⟨h3, e3, e4⟩ := still_ext hg hqt heq
            show quietV P K _ (eOp P g h2 (restrFr all o f) o) = true
            rw [restr_eOp hr, e3]
            simp only [quietV, e4, EVal.beq_refl, Bool.and_self]
          · rename_i hqt
            have hqt' : isStill o h' = false := by simpa using hqt
            simp only [hp', hqt', Bool.or_false, Bool.false_eq_true, if_false]
            exact next v h' (some h') (true, extB o h) rfl rfl (by simp [needs]) (fun h2 e hb => by cases e; exact new_grow hb heq) hw
      · rename_i fn args h' heq
        rw [heq]
        simp only [drawOp]
        split at hw
        · rename_i v hk
          rw [hk]
          refine next v h none (false, true) rfl rfl (fun _ => ⟨rfl, rfl, fun h2 hg => ?_⟩) (fun _ e => by cases e) hw
          obtain ⟨rfl, e3⟩ := enter_ext (hh := h2) heq
          show quietV P K _ (eOp P g h2 (restrFr all o f) o) = true
          rw [restr_eOp hr, e3]
          simp only [quietV, kcall_ext hg hk, EVal.beq_refl]
        · exact hw.elim
      · exact hw.elim
    · rename_i hwant
      rw [hwant]
      simp only [drawOne]
      refine next undefE h none (false, false) rfl rfl (fun hn => ?_) (fun _ e => by cases e) hw
      unfold needs at hn
      simp only [restr_wanted hr, hwant] at hn
      cases hp : isPure o <;> rw [hp] at hn <;> cases hn
    · exact hw.elim

theorem actsOf_flags {all : Array Oper} {st : List DStep} {fl : List (Bool × Bool)} {h : H} (H1 : Flags P g K all st fl h) : ∀ i, actsOf st i = actIdx fl i := by
  induction H1 with
  | nil => intro i; rfl
  | cons x b st fl h hh ha hn he rest ih =>
    intro i
    obtain ⟨a, nd⟩ := b
    have e : actsOf (x :: st) i = Option.rec (motive := fun _ => List Nat) (actsOf st (Nat.succ i)) (fun _ => i :: actsOf st (Nat.succ i)) x.act := rfl
    rw [e]
    simp only [actIdx]
    cases hx : x.act with
    | none => rw [hx] at ha; simp at ha; subst ha; simpa using ih (i + 1)
    | some h' => rw [hx] at ha; simp at ha; subst ha; simpa using ih (i + 1)

theorem verGo_cons {all : Array Oper} {A : List Nat} {i a : Nat} {x y : DStep} {h : H} {l : List DStep} : verGo P g K all A i x a h (y :: l) = (match y.act with
    | none => verGo P g K all A i x (a + 1) h l
    | some h' => bif bM (bS A i) a then verGo P g K all A i x (a + 1) h' l
      else bif bM (bS A a) i then quietOK P g K all x h
      else quietOK P g K all x h && verGo P g K all A i x (a + 1) h' l) := rfl
/-- behind it -/
theorem verGo_behind {all : Array Oper} {A : List Nat} {i : Nat} {x : DStep} (hx : ∀ h2, HGrow x.h h2 → quietOK P g K all x h2 = true) : ∀ {st : List DStep} {fl : List (Bool × Bool)} {h : H}, Flags P g K all st fl h → ∀ a, i < a → HGrow x.h h → quickE A i (actIdxE fl a) = true → verGo P g K all A i x a h st = true
  | _, _, h, .nil _, a, _, hg, _ => hx h hg
  | _, _, h, .cons y b st fl _ hh ha hn he rest, a, hi, hg, hq => by
    obtain ⟨b1, b2⟩ := b
    rw [verGo_cons]
    cases hy : y.act with
    | none =>
      rw [hy] at ha rest
      simp at ha
      subst ha
      exact verGo_behind hx rest (a + 1) (by omega) hg hq
    | some h' =>
      rw [hy] at ha rest
      change Flags P g K all st fl h' at rest
      simp at ha
      subst ha
      simp only
      have e : quickE A i ((a, b2) :: actIdxE fl (a + 1)) = true := hq
      have hlt : Nat.blt a i = false := by rw [Bool.eq_false_iff]; intro e; rw [Nat.blt_eq] at e; omega
      simp only [quickE, hlt, cond_false] at e
      cases h1 : bM (bS A i) a with
      | true => rw [h1] at e; cases e
      | false =>
        rw [h1] at e
        simp only [cond_false] at e ⊢
        cases h2 : bM (bS A a) i with
        | true => simp only [cond_true]; exact hx h hg
        | false =>
          rw [h2] at e
          simp only [cond_false] at e ⊢
          cases h3 : b2 with
          | false => rw [h3] at e; cases e
          | true =>
            rw [h3] at e
            simp only [cond_true] at e
            subst hh
            rw [hx _ hg, verGo_behind hx rest (a + 1) (by omega) (hg.trans (he h' hy h3)) e]; rfl
/-- up to it -/
theorem verGo_flags {all : Array Oper} {A : List Nat} {i : Nat} {x : DStep} {l2 : List DStep} (hnx : needs all x = true) : ∀ (l1 : List DStep) {fl : List (Bool × Bool)} {h : H}, Flags P g K all (l1 ++ x :: l2) fl h → ∀ a, a + l1.length = i → quickE A i (actIdxE fl a) = true → verGo P g K all A i x a h (l1 ++ x :: l2) = true
  | [], _, h, HF, a, hi, hq => by
    rw [List.nil_append] at HF
    cases HF with
    | cons _ b st fl _ hh ha hn he rest =>
    obtain ⟨b1, b2⟩ := b
    obtain ⟨h1, h2, h3⟩ := hn hnx
    simp only at h1 h2
    subst h1 h2
    simp only [List.length_nil, Nat.add_zero] at hi
    subst hi
    show verGo P g K all A a x a h (x :: l2) = true
    rw [verGo_cons]
    have hact : x.act = none := by
      cases hx : x.act with
      | none => rfl
      | some _ => rw [hx] at ha; cases ha
    rw [hact] at rest
    rw [hact]
    exact verGo_behind h3 rest (a + 1) (by omega) (by subst hh; exact HGrow.refl _) hq
  | y :: l1, _, h, HF, a, hi, hq => by
    rw [List.cons_append] at HF
    cases HF with
    | cons _ b st fl _ hh ha hn he rest =>
    obtain ⟨b1, b2⟩ := b
    simp only [List.length_cons] at hi
    show verGo P g K all A i x a h (y :: (l1 ++ x :: l2)) = true
    rw [verGo_cons]
    cases hy : y.act with
    | none =>
      rw [hy] at ha rest
      simp at ha
      subst ha
      exact verGo_flags hnx l1 rest (a + 1) (by omega) hq
    | some h' =>
      rw [hy] at ha rest
      simp at ha
      subst ha
      simp only
      have e : quickE A i ((a, b2) :: actIdxE fl (a + 1)) = true := hq
      have hlt : Nat.blt a i = true := by rw [Nat.blt_eq]; omega
      simp only [quickE, hlt, cond_true] at e
      cases h1 : bM (bS A i) a with
      | false => rw [h1] at e; cases e
      | true =>
        rw [h1] at e
        simp only [cond_true] at e ⊢
        exact verGo_flags hnx l1 rest (a + 1) (by omega) e

theorem quietAll_flags {all : Array Oper} {A acts : List Nat} {h0 : H} {fl0 : List (Bool × Bool)} : ∀ (st l1 : List DStep) (fl : List (Bool × Bool)) (h : H), Flags P g K all (l1 ++ st) fl0 h0 → Flags P g K all st fl h → quickIdx A (actIdxE fl0 0) fl l1.length = true → quietAll P g K all A (l1 ++ st) h0 acts st l1.length = true
  | [], _, _, _, _, _, _ => rfl
  | x :: st, l1, _, _, H0, .cons _ b _ fl h hh ha hn he rest, hq => by
    obtain ⟨a, nd⟩ := b
    have e : quietAll P g K all A (l1 ++ x :: st) h0 acts (x :: st) l1.length = (bif (bif quick A l1.length acts then true else bif needs all x then verGo P g K all A l1.length x 0 h0 (l1 ++ x :: st) else true) then quietAll P g K all A (l1 ++ x :: st) h0 acts st (Nat.succ l1.length) else false) := rfl
    have hq2 : (bif (bif nd then (bif a then true else quickE A l1.length (actIdxE fl0 0)) else true) then quickIdx A (actIdxE fl0 0) fl (l1.length + 1) else false) = true := hq
    have hrest : quickIdx A (actIdxE fl0 0) fl (l1.length + 1) = true := by
      cases hc : (bif nd then (bif a then true else quickE A l1.length (actIdxE fl0 0)) else true) with
      | true => rw [hc] at hq2; exact hq2
      | false => rw [hc] at hq2; cases hq2
    have h1 : (bif needs all x then verGo P g K all A l1.length x 0 h0 (l1 ++ x :: st) else true) = true := by
      cases hnx : needs all x with
      | false => rfl
      | true =>
        obtain ⟨e1, e2, _⟩ := hn hnx
        simp only at e1 e2
        subst e1 e2
        have h2 : quickE A l1.length (actIdxE fl0 0) = true := by
          cases hc : quickE A l1.length (actIdxE fl0 0) with
          | true => rfl
          | false => simp only [cond_true, cond_false, hc] at hq2; cases hq2
        exact verGo_flags hnx l1 H0 0 (by omega) h2
    have ih := quietAll_flags (acts := acts) st (l1 ++ [x]) fl _ (by rw [List.append_assoc]; exact H0) rest (by rw [List.length_append]; exact hrest)
    rw [List.append_assoc] at ih
    have ih2 : quietAll P g K all A (l1 ++ x :: st) h0 acts st (l1.length + 1) = true := by
      have := ih
      rw [List.length_append] at this
      exact this
    rw [e, h1]
    cases quick A l1.length acts <;> exact ih2

theorem Top.draw {A : Option Nat} (hm : P.follows .mixedOrders = true) (hng : cE P) {id : Nat} {ops : Array Oper} {f : EFr} {h : H} {Q : bK} (hs : drawStatic ops f.sz = true)
    (hw : wpDraw P g K ops (fun fl f' h' => placesOK (ancGo ops.toList []) fl.reverse = true ∧ Q .normal f' h') ops.toList [] f h) : Top A P g K (.region id ops true) f h Q := by
  unfold drawStatic at hs
  simp only [Bool.and_eq_true, List.all_eq_true, Nat.blt_eq] at hs
  obtain ⟨st, f', h', fl', e1, e2, e3, e4⟩ := wpDraw_go (r := Go.Ev.run P g K 0) ops.toList [] f h hs.2 hw
  simp only [List.append_nil, List.reverse_reverse] at e3
  refine Top.run hm hng (n := 1) (outs := [.code .normal f' h']) ?_ (fun e f'' h'' hmem => by simp at hmem; obtain ⟨rfl, rfl, rfl⟩ := hmem; exact e4)
  show runDraw P g K (Go.Ev.run P g K 0) ops f h = _
  unfold runDraw
  rw [e1]
  simp only [drawFin]
  rw [hs.1]
  have : actsOK P g K ops (ancGo ops.toList []) st h (actsOf st 0) = true := by
    rw [actsOf_flags e2]
    unfold placesOK at e3
    generalize actIdx fl' 0 = acts at e3
    cases acts with
    | nil => rfl
    | cons a acts =>
      have e4 : chainOK (ancGo ops.toList []) (a :: acts) (a :: acts) = true ∧ quickIdx (ancGo ops.toList []) (actIdxE fl' 0) fl' 0 = true := by
        cases hc : chainOK (ancGo ops.toList []) (a :: acts) (a :: acts) with
        | true => simp only [hc, cond_true] at e3; exact ⟨rfl, e3⟩
        | false => simp only [hc, cond_false] at e3; cases e3
      show (bif chainOK _ (a :: acts) (a :: acts) then quietAll P g K ops _ st h (a :: acts) st 0 else false) = true
      rw [e4.1]
      exact quietAll_flags st [] fl' h e2 e2 e4.2
  rw [this]; rfl
end
theorem wpDNext_q {P : Program} {g : G} {K : aY} {all : Array Oper} {Q : List (Bool × Bool) → EFr → H → Prop} {d : Option Tmp} {rest : List Oper} {fl : List (Bool × Bool)} {f : EFr} {v : EVal} {h : H} {b : Bool × Bool} : wpDNext P g K all Q d rest fl f v h b = wpDraw P g K all Q rest (b :: fl) (f.putd d v) h := (rfl)
end Go.Ev
namespace Go.Ev
open Go.RowKit

def layStruct (P : Program) (f : TypeId → DataW Unit → Option (List EVal)) : List Field → List (DataW Unit) → Nat → Option (List EVal)
  | [], [], _ => some []
  | x :: fs, d :: ds, o => match f x.type d, layStruct P f fs ds (o + P.cellsOf x.type) with
    | some a, some b => if x.offset = o ∧ a.length = P.cellsOf x.type then some (a ++ b) else none
    | _, _ => none
  | _, _, _ => none

def layArr (f : DataW Unit → Option (List EVal)) (c : Nat) : List (DataW Unit) → Option (List EVal)
  | [] => some []
  | d :: ds => match f d, layArr f c ds with
    | some a, some b => if a.length = c then some (a ++ b) else none
    | _, _ => none

/-- the cells of plain data of a type -/
def layE (P : Program) : Nat → TypeId → DataW Unit → Option (List EVal)
  | 0, _, _ => none
  | n + 1, t, d => match P.underlying t, d with
    | some .bool, .lit (.bool b) => some [.bool b]
    | some (.int _), .lit (.int k' m) => some [.int k' m]
    | some .string, .lit (.string l) => some [.str (l.map UInt8.toNat)]
    | some (.struct fs), .agg ds => match layStruct P (layE P n) fs.toList ds 0 with
      | some es => if es.length = P.cellsOf t then some es else none
      | none => none
    | some (.array m e), .agg ds => match layArr (layE P n e) (P.cellsOf e) ds with
      | some es => if es.length = P.cellsOf t ∧ ds.length = m then some es else none
      | none => none
    | _, _ => none

section
variable {P : Program} {w : World} {enc : TypeId × Value → Unit} {base : Nat} {sp : Nat → Bool} {held : Bool}

theorem layStruct_sound {f : TypeId → DataW Unit → Option (List EVal)} {tr : TypeId → List Value → Option (DataW Unit × List MemPlace)} {cs : List Value}
    (hf : ∀ t d es c p, f t d = some es → tr t c = some (d, p) → VsRel Loc.nil es c) : ∀ {fs : List Field} {xs : List (DataW Unit × List MemPlace)} {o : Nat} {es : List EVal},
    layStruct P f fs (xs.map (·.1)) o = some es → (∀ (i : Nat) (x : Field), fs[i]? = some x → tr x.type ((cs.drop x.offset).take (P.cellsOf x.type)) = xs[i]?) → VsRel Loc.nil es ((cs.drop o).take es.length)
  | [], [], o, es, h, _ => by
    simp only [List.map_nil, layStruct, Option.some.injEq] at h; subst h
    simpa using VsRel.nil
  | [], y :: ys, o, es, h, _ => by simp [layStruct] at h
  | x :: fs, [], o, es, h, _ => by simp [layStruct] at h
  | x :: fs, y :: ys, o, es, h, ht => by
    simp only [List.map_cons, layStruct] at h
    split at h
    · rename_i a b ha hb
      split at h
      · rename_i hx
        simp only [Option.some.injEq] at h; subst h
        obtain ⟨hxo, hal⟩ := hx
        have h0 := ht 0 x rfl
        rw [hxo] at h0
        have h1 := hf _ _ _ _ y.2 ha (by rw [h0]; rfl)
        have h2 := layStruct_sound hf hb (fun i z hz => ht (i + 1) z (by simpa using hz))
        rw [List.length_append, List.take_add, List.drop_drop, hal]
        exact h1.append h2
      · cases h
    · cases h

theorem layArr_sound {f : DataW Unit → Option (List EVal)} {tr : List Value → Option (DataW Unit × List MemPlace)} {c : Nat} {cs : List Value}
    (hf : ∀ d es u p, f d = some es → tr u = some (d, p) → VsRel Loc.nil es u) : ∀ {xs : List (DataW Unit × List MemPlace)} {k : Nat} {es : List EVal},
    layArr f c (xs.map (·.1)) = some es → (∀ (i : Nat), i < xs.length → tr ((cs.drop ((k + i) * c)).take c) = xs[i]?) → VsRel Loc.nil es ((cs.drop (k * c)).take es.length)
  | [], k, es, h, _ => by
    simp only [List.map_nil, layArr, Option.some.injEq] at h; subst h
    simpa using VsRel.nil
  | y :: ys, k, es, h, ht => by
    simp only [List.map_cons, layArr] at h
    split at h
    · rename_i a b ha hb
      split at h
      · rename_i hal
        simp only [Option.some.injEq] at h; subst h
        have h0 := ht 0 (by simp)
        rw [Nat.add_zero] at h0
        have h1 := hf _ _ _ y.2 ha (by rw [h0]; rfl)
        have h2 := layArr_sound hf (k := k + 1) hb (fun i hi => by
          have := ht (i + 1) (by simpa using hi)
          rw [show k + (i + 1) = k + 1 + i from by omega] at this
          simpa using this)
        rw [List.length_append, List.take_add, List.drop_drop, hal]
        have e : k * c + c = (k + 1) * c := by rw [Nat.succ_mul]
        rw [e]
        exact h1.append h2
      · cases h
    · cases h

theorem layE_sound : ∀ (n : Nat) {m : Nat} {t : TypeId} {d : DataW Unit} {es : List EVal} {cs : List Value} {p : List MemPlace}, layE P n t d = some es → DataW.trod enc P w base sp held m t cs = some (d, p) → VsRel Loc.nil es cs
  | 0, _, _, _, _, _, _, h, _ => by cases h
  | n + 1, m, t, d, es, cs, p, h, ht => by
    simp only [layE] at h
    split at h
    · rename_i b hu
      simp only [Option.some.injEq] at h; subst h
      obtain ⟨b', rfl, hx⟩ := DataW.trod_bool hu ht
      cases hx
      exact .cons _ _ _ _ (.bool _) .nil
    · rename_i k k' z hu
      simp only [Option.some.injEq] at h; subst h
      obtain ⟨z', rfl, hx, _⟩ := DataW.trod_int hu ht
      cases hx
      exact .cons _ _ _ _ (.int _ _) .nil
    · rename_i l hu
      simp only [Option.some.injEq] at h; subst h
      obtain ⟨s, rfl, hx, _⟩ := DataW.trod_string hu ht
      cases hx
      exact .cons _ _ _ _ (.str _ _ rfl) .nil
    · rename_i fs ds hu
      obtain ⟨xs, m', rfl, hx, hl, hxl, hxs⟩ := DataW.trod_struct hu ht
      simp only [Prod.mk.injEq, DataW.agg.injEq] at hx
      obtain ⟨rfl, _⟩ := hx
      split at h
      · rename_i es' hes
        split at h
        · rename_i hlen
          simp only [Option.some.injEq] at h; subst h
          have := layStruct_sound (tr := fun t c => DataW.trod enc P w base sp held m' t c) (cs := cs) (fun t d es c p h1 h2 => layE_sound n h1 h2) hes (fun i x hx => hxs i x (by rw [← Array.getElem?_toList]; exact hx))
          rwa [List.drop_zero, hlen, ← hl, List.take_length] at this
        · cases h
      · cases h
    · rename_i k e ds hu
      obtain ⟨xs, m', rfl, hx, hl, hxl, hxs⟩ := DataW.trod_array hu ht
      simp only [Prod.mk.injEq, DataW.agg.injEq] at hx
      obtain ⟨rfl, _⟩ := hx
      split at h
      · rename_i es' hes
        split at h
        · rename_i hlen
          simp only [Option.some.injEq] at h; subst h
          have := layArr_sound (tr := fun c => DataW.trod enc P w base sp held m' e c) (cs := cs) (k := 0) (fun d es c p h1 h2 => layE_sound n h1 h2) hes (fun i hi => by rw [Nat.zero_add]; exact hxs i (by omega))
          rwa [Nat.zero_mul, List.drop_zero, hlen.1, ← hl, List.take_length] at this
        · cases h
      · cases h
    · cases h
end

/-- One laid variable, as the evaluator knows it. -/
def oneG (i : Nat) (cells : List EVal) : G := fun j => if j = i then some cells else none

theorem cD.of_laid {P : Program} {W : World} {name : String} {d : DataW Unit} {rest : List (String × DataW Unit)} {i t n : Nat} {cells : List EVal} (hg : P.globalNamed name = some i) (ht : (P.globals[i]?).map (·.type) = some t)
    (hlay : layE P n t d = some cells) (h : laidMet P ((name, d) :: rest) W) : cD W.heap.size W (oneG i cells) := by
  obtain ⟨ps, ⟨g, t', cs, fuel, p, q, hg', ht', hv, htr, _, hps⟩, _, hb⟩ := h
  rw [hg] at hg'; cases hg'
  rw [ht] at ht'; cases ht'
  intro j cells' hj
  unfold oneG at hj
  split at hj
  · rename_i hji
    subst hji
    cases hj
    unfold World.var? at hv
    rw [hg] at hv
    simp only [Option.bind_some] at hv
    split at hv
    · rename_i cs' e fr hheap
      simp only [Option.some.injEq] at hv; subst hv
      refine ⟨?_, cs', e, fr, hheap, layE_sound n hlay htr⟩
      exact (Array.getElem?_eq_some_iff.1 hheap).1
    · cases hv
  · cases hj
end Go.Ev
namespace Go.Ev
open Go.RowKit

/-! data and how it is told -/
def eInts (l : List Int) : List (List EVal) := l.map fun n => [.int .i64 n]
def dIntsL : List (List EVal) → Option (List Int)
  | [] => some []
  | [.int .i64 n] :: l => (dIntsL l).map (n :: ·)
  | _ => none
def dInts : EVal → Option (List Int)
  | .lsl els => if els.length < 9223372036854775808 then dIntsL els else none
  | _ => none
theorem dIntsL_inv : ∀ {els : List (List EVal)} {l : List Int}, dIntsL els = some l → els = eInts l
  | [], l, h => by simp only [dIntsL, Option.some.injEq] at h; subst h; rfl
  | x :: els, l, h => by
    unfold dIntsL at h
    split at h
    · rename_i heq; cases heq
    · rename_i n els' heq
      cases heq
      cases hd : dIntsL els with
      | none => rw [hd] at h; cases h
      | some l' => rw [hd] at h; cases h; rw [dIntsL_inv hd]; rfl
    · cases h
theorem eInts_length (l : List Int) : (eInts l).length = l.length := by simp [eInts]
theorem dInts_inv {v : EVal} {l : List Int} (h : dInts v = some l) : v = .lsl (eInts l) ∧ l.length < 9223372036854775808 := by
  unfold dInts at h
  split at h
  · split at h
    · rename_i hl
      have := dIntsL_inv h
      subst this
      exact ⟨rfl, by simpa [eInts_length] using hl⟩
    · cases h
  · cases h
theorem dIntsL_e (l : List Int) : dIntsL (eInts l) = some l := by
  induction l with
  | nil => rfl
  | cons a l ih => simp only [eInts, List.map_cons, dIntsL]; rw [show l.map (fun n => [EVal.int .i64 n]) = eInts l from rfl, ih]; rfl
theorem dInts_e {l : List Int} (h : l.length < 9223372036854775808) : dInts (.lsl (eInts l)) = some l := by
  simp only [dInts, eInts_length, h, if_true]
  exact dIntsL_e l
theorem eInts_get (l : List Int) (i : Nat) : (eInts l)[i]? = (l[i]?).map fun n => [.int .i64 n] := by simp [eInts]
theorem wrap_id {n : Int} (h1 : -9223372036854775808 ≤ n) (h2 : n < 9223372036854775808) : IntKind.i64.wrap n = n := by
  rw [IntKind.wrap_i64]; omega
/-- a row of numbers -/
def cC (l : List Int) : List EVal := l.map fun n => .int .i64 n
theorem eRow_length (l : List Int) : (cC l).length = l.length := by simp [cC]
theorem keepL_eRow (l : List Int) : keepL (cC l) = some (cC l) := by
  induction l with
  | nil => rfl
  | cons a l ih =>
    have : keepL (cC (a :: l)) = (match keep1 (.int .i64 a), keepL (cC l) with | some x, some y => some (x :: y) | _, _ => none) := rfl
    rw [this, ih]; rfl
theorem chunk_eRow (l : List Int) : bI 1 l.length (cC l) = eInts l := by
  induction l with
  | nil => rfl
  | cons a l ih =>
    have : bI 1 (a :: l).length (cC (a :: l)) = [.int .i64 a] :: bI 1 l.length (cC l) := rfl
    rw [this, ih]; rfl
end Go.Ev
namespace Go.Ev
open Go.RowKit

/-! a row of one's own, kept for good in the midst of a walk -/
/-- a value, and how it is told when the slice of a row is kept -/
def fzR (id len : Nat) (L : EVal) (v v2 : EVal) : Prop := v2 = v ∨ ∃ cap, v = .slice id 0 len cap ∧ capOK len cap = true ∧ v2 = L
def fzL (id len : Nat) (L : EVal) : List EVal → List EVal → Prop
  | [], [] => True
  | a :: l, b :: m => fzR id len L a b ∧ fzL id len L l m
  | _, _ => False
theorem fzL_length {id len : Nat} {L : EVal} : ∀ {l m : List EVal}, fzL id len L l m → l.length = m.length
  | [], [], _ => rfl
  | a :: l, b :: m, h => by simp only [List.length_cons, fzL_length h.2]
theorem fzL_sound {ρ ρ2 : Loc} {id len : Nat} {L : EVal} (h1 : ρ.le ρ2) (h2 : ∀ cap u, capOK len cap = true → VRel ρ (.slice id 0 len cap) u → VRel ρ2 L u) : ∀ {l m : List EVal} {us : List Value}, fzL id len L l m → VsRel ρ l us → VsRel ρ2 m us
  | [], [], _, _, h => by cases h; exact .nil
  | a :: l, b :: m, _, hf, h => by
    cases h with
    | cons _ u _ us h hs =>
      refine .cons _ _ _ _ ?_ (fzL_sound h1 h2 hf.2 hs)
      rcases hf.1 with rfl | ⟨cap, rfl, hc, rfl⟩
      · exact h.mono h1
      · exact h2 _ _ hc h
theorem aH.fzD {A : Option Nat} {P : Program} {s n m sz len : Nat} {ds : List Nat} {r : Option Nat} {fl fl2 : List (Nat × EVal)} {l l2 : List (Nat × Option EObj)} {k k2 : List (Nat × Option (Nat × TypeId))} {cells cells' : List EVal} {e : TypeId} {lo hi : Nat} {sl : Bool} (id : Nat) (hid : id < 16000)
    (hg : aG l id = some (.row cells e lo hi sl)) (hk : keepL cells = some cells') (hlen : cells'.length = len * sz)
    (hf : ∀ p ∈ fl2, p.1 < 1000 ∧ ∃ v, aX fl p.1 = some v ∧ fzR id len (.lsl (bI sz len cells')) v p.2)
    (hl : ∀ p ∈ l2, p.1 < 16000 ∧ p.1 ≠ id ∧ ∃ o2, p.2 = some o2 ∧ (aG l p.1 = some o2 ∨ ∃ cs1 cs2 e lo hi sl, aG l p.1 = some (.row cs1 e lo hi sl) ∧ o2 = .row cs2 e lo hi sl ∧ fzL id len (.lsl (bI sz len cells')) cs1 cs2))
    (hk2 : ∀ p ∈ k2, p.1 < 250 ∧ ∃ x, p.2 = some x ∧ aG k p.1 = some x) :
    aH A P (mkD s fl ds r) (mkH n l m k) (mkD s fl2 ds r) (mkH n l2 m k2) := by
  intro B0 W0 b t d ρ w F R
  have hg' : (mkH n l m k).get id = some (.row cells e lo hi sl) := by rw [mkH_get hid]; exact hg
  obtain ⟨blk, C, hb, cs, hw, hrel, _⟩ := R.objs _ _ hg'
  obtain ⟨h2, _⟩ := keepL_sound hrel hk
  obtain ⟨uss, c1, c2, c3, c4⟩ := chunk_rel sz len cells' _ h2 hlen
  let ρ2 : Loc := { ρ with fro := fun q => if q = blk then some cs.toList else ρ.fro q }
  have hlt := R.lo _ _ _ hb
  have hnf : ∀ q pre, ρ.fro q = some pre → q ≠ blk := fun q pre hq e => by
    subst e; exact absurd hb (R.free q pre hq _ _ _ hg')
  have hle : ρ.le ρ2 := by
    refine ⟨fun _ _ h => h, fun q pre hq => ?_, fun _ _ _ h => h⟩
    exact ⟨[], by show (if q = blk then some cs.toList else ρ.fro q) = _; rw [if_neg (hnf q pre hq), List.append_nil]; exact hq⟩
  have hfz : ρ.fz.le ρ2.fz := by
    refine ⟨fun _ _ h => (by cases h), fun q pre hq => ?_, fun _ _ _ h => (by cases h)⟩
    have hq' : ρ.fro q = some pre := hq
    exact ⟨[], by show (if q = blk then some cs.toList else ρ.fro q) = _; rw [if_neg (hnf q pre hq'), List.append_nil]; exact hq'⟩
  have key : ∀ cap u, capOK len cap = true → VRel ρ (.slice id 0 len cap) u → VRel ρ2 (.lsl (bI sz len cells')) u := by
    intro cap u hcap hv
    have key : ∀ c', len ≤ c' → VRel ρ2 (.lsl (bI sz len cells')) (.slice (some ⟨blk, 0, none⟩) len c') := by
      intro c' hc
      have hcl : (bI sz len cells').length = len := chunk_length _ _ _
      have := VRel.lsl (ρ := ρ2) (bI sz len cells') uss blk 0 c' sz cs.toList (cs.toList.drop cells.length) (by show (if blk = blk then _ else _) = _; simp) (c1.mono hfz)
        (by rw [List.drop_zero, c2, List.take_append_drop]) (Nat.zero_le _) c3 (by rw [hcl]; exact hc)
      rw [hcl] at this
      exact this
    cases hv with
    | slice _ _ _ c b' C' hb' => rw [hb] at hb'; cases hb'; exact key _ (by simpa [capOK] using hcap)
    | slack _ _ _ _ c b' C' hb' hc hn => rw [hb] at hb'; cases hb'; exact key _ hn
  have hkget : ∀ id x, (mkH n l2 m k2).k.get id = some x → (mkH n l m k).k.get id = some x := by
    intro id x hg
    obtain ⟨h1, x', h2, h3⟩ := hk2 _ (T.ofG_mem hg)
    simp only [Option.some.injEq] at h2
    subst h2
    rw [mkH_k h1]; exact h3
  have hget : ∀ q o2, (mkH n l2 m k2).get q = some o2 → q ≠ id ∧ ∃ o, (mkH n l m k).get q = some o ∧ (o = o2 ∨ ∃ cs1 cs2 e lo hi sl, o = .row cs1 e lo hi sl ∧ o2 = .row cs2 e lo hi sl ∧ fzL id len (.lsl (bI sz len cells')) cs1 cs2) := by
    intro q o2 hg
    obtain ⟨h1, h2, o', h3, h4⟩ := hl _ (T.ofG_mem hg)
    simp only [Option.some.injEq] at h3
    subst h3
    refine ⟨h2, ?_⟩
    rcases h4 with h4 | ⟨cs1, cs2, e', lo', hi', sl', h4, rfl, h5⟩
    · exact ⟨_, by rw [mkH_get h1]; exact h4, .inl rfl⟩
    · exact ⟨_, by rw [mkH_get h1]; exact h4, .inr ⟨_, _, _, _, _, _, rfl, rfl, h5⟩⟩
  refine ⟨ρ2, Loc.leA_of hle, ⟨F.size, fun j v hv => ?_, F.defers.mono hle, (FRel.mono hle F).round⟩, ?_⟩
  · obtain ⟨h1, v0, h3, h4⟩ := hf _ (ofL_look hv)
    have := F.tmps j v0 (by show (T.ofL fl).get j = _; rw [T.get_ofL _ _ h1]; exact h3)
    rcases h4 with rfl | ⟨cap, rfl, hc, rfl⟩
    · exact this.mono hle
    · exact key _ _ hc this
  · refine ⟨R.below, R.base, R.dom, R.lo, fun i j o1 o2 b' C1 C2 g1 g2 r1 r2 => ?_, fun q o hg => ?_, fun b' p hb' => ?_, fun b' p hb' q C' o hg hr => ?_, fun b' hb' => ?_, R.mdom, fun q n' e' hk => ?_, fun q n' e' hk => R.tnew q n' e' (hkget _ _ hk), fun i1 n1 e1 i2 n2 e2 b1 C1 C2 h1 h2 => R.tinj i1 n1 e1 i2 n2 e2 b1 C1 C2 (hkget _ _ h1) (hkget _ _ h2)⟩
    · obtain ⟨_, p1, e1, _⟩ := hget _ _ g1
      obtain ⟨_, p2, e2, _⟩ := hget _ _ g2
      exact R.inj _ _ _ _ _ _ _ e1 e2 r1 r2
    · obtain ⟨_, o0, e1, e2⟩ := hget _ _ hg
      obtain ⟨b', C', hb', r⟩ := R.objs _ _ e1
      refine ⟨b', C', hb', ?_⟩
      rcases e2 with rfl | ⟨cs1, cs2, e', lo', hi', sl', rfl, rfl, h5⟩
      · exact r.mono hle
      · obtain ⟨cs', r1, r2, r3, r4⟩ := r
        have hln := fzL_length h5
        exact ⟨cs', r1, by rw [← hln]; exact fzL_sound hle key h5 r2, by rw [← hln]; exact r3, r4⟩
    · have : (if b' = blk then some cs.toList else ρ.fro b') = some p := hb'
      split at this
      · rename_i e'; subst e'; cases this; exact ⟨cs, e, _, hw, [], by simp⟩
      · exact R.fz b' p this
    · obtain ⟨hne, o0, e1, _⟩ := hget _ _ hg
      have : (if b' = blk then some cs.toList else ρ.fro b') = some p := hb'
      split at this
      · rename_i e'; subst e'
        exact hne (R.inj _ _ _ _ _ _ _ e1 hg' hr hb)
      · exact R.free b' p this q C' o0 e1 hr
    · show (if b' = blk then some cs.toList else ρ.fro b') = _
      rw [if_neg (by omega)]; exact R.fz0 b' hb'
    · obtain ⟨x, h1, h2⟩ := R.toks q n' e' (hkget _ _ hk)
      refine ⟨x, h1, fun b' C' hx => ?_⟩
      obtain ⟨hB, cs', ti', pre', hcs, hti', hcsz, hpre', hpl⟩ := h2 b' C' hx
      exact ⟨hB, cs', ti', pre', hcs, hti', hcsz, by show (if b' = blk then some cs.toList else ρ.fro b') = _; rw [if_neg (hnf _ _ hpre')]; exact hpre', hpl⟩
theorem aH.fz {A : Option Nat} {P : Program} {s n m sz len : Nat} {fl fl2 : List (Nat × EVal)} {l l2 : List (Nat × Option EObj)} {k k2 : List (Nat × Option (Nat × TypeId))} {cells cells' : List EVal} {e : TypeId} {lo hi : Nat} {sl : Bool} (id : Nat) (hid : id < 16000)
    (hg : aG l id = some (.row cells e lo hi sl)) (hk : keepL cells = some cells') (hlen : cells'.length = len * sz)
    (hf : ∀ p ∈ fl2, p.1 < 1000 ∧ ∃ v, aX fl p.1 = some v ∧ fzR id len (.lsl (bI sz len cells')) v p.2)
    (hl : ∀ p ∈ l2, p.1 < 16000 ∧ p.1 ≠ id ∧ ∃ o2, p.2 = some o2 ∧ (aG l p.1 = some o2 ∨ ∃ cs1 cs2 e lo hi sl, aG l p.1 = some (.row cs1 e lo hi sl) ∧ o2 = .row cs2 e lo hi sl ∧ fzL id len (.lsl (bI sz len cells')) cs1 cs2))
    (hk2 : ∀ p ∈ k2, p.1 < 250 ∧ ∃ x, p.2 = some x ∧ aG k p.1 = some x) :
    aH A P (mkF s fl) (mkH n l m k) (mkF s fl2) (mkH n l2 m k2) :=
  aH.fzD (ds := []) (r := none) id hid hg hk hlen hf hl hk2
end Go.Ev
namespace Go.Ev
open Go.RowKit
theorem Top.cut {A : Option Nat} {P : Program} {g : G} {K : aY} {a b : Code} {f f1 f2 : EFr} {h h1 h2 : H} {Q : bK} (hng : cE P) (H1 : ∀ R : bK, R .normal f1 h1 → wp A P g K a f h R) (v : aH A P f1 h1 f2 h2) (H2 : Top A P g K b f2 h2 Q) : Top A P g K (.seq a b) f h Q :=
  Top.seq (aC hng _ _ _ _ (H1 _ (Top.view v H2)))
end Go.Ev
namespace Go.Ev
open Go.RowKit

theorem mkH_fz {n m : Nat} {l : List (Nat × Option EObj)} {k : List (Nat × Option (Nat × TypeId))} : (mkH n l m k).fz = decide (128 ≤ m) := (rfl)
theorem ndEq_yes {P : Program} {ty el : TypeId} (h : P.underlying ty = some (.slice el)) : ndEq P ty (some (.lsl [])) (some .nilslice) = true := by
  unfold ndEq; rw [h]
theorem mkD_putd {n : Nat} {l : List (Nat × EVal)} {ds : List Nat} {r : Option Nat} {i : Nat} {v : EVal} (h : i < n) : (mkD n l ds r).putd (some i) v = mkD n ((i, v) :: l) ds r := by
  unfold EFr.putd mkD
  simp only [Nat.blt_eq, Bool.cond_eq_ite, h, if_true]
  rfl
theorem mkD_putd_none {n : Nat} {l : List (Nat × EVal)} {ds : List Nat} {r : Option Nat} {v : EVal} : (mkD n l ds r).putd none v = mkD n l ds r := (rfl)
theorem mkD_tmps {n : Nat} {l : List (Nat × EVal)} {ds : List Nat} {r : Option Nat} : (mkD n l ds r).tmps = T.ofL l := (rfl)
theorem mkD_defers {n : Nat} {l : List (Nat × EVal)} {ds : List Nat} {r : Option Nat} : (mkD n l ds r).defers = ds := (rfl)
section
variable {P : Program} {g : G} {K : aY}

/-- lists that are written out stand for good from here on -/
theorem aH.mode {A : Option Nat} {f : EFr} {n m : Nat} {l : List (Nat × Option EObj)} {k : List (Nat × Option (Nat × TypeId))} (m' : Nat) (hm : m ≤ m') : aH A P f (mkH n l m k) f (mkH n l m' k) := fun B0 W0 b t d ρ w F R =>
  ⟨ρ, Loc.leA_refl, F, R.below, R.base, R.dom, R.lo, R.inj, R.objs, R.fz, R.free, R.fz0, fun id q hid => R.mdom id q (Nat.le_trans hm hid), R.toks, R.tnew, R.tinj⟩

/-- how a call ends -/
def Ends2 (P : Program) (g : G) (fn : Func) (k : EVal → H → Prop) : bK := fun e f h =>
  (match e with | .normal => True | .ret => True | .exit _ => False) ∧ ∃ h2 es, takeAll h f.defers = some h2 ∧ resultsE P g h2 f.tmps fn.results.toList = some es ∧ k (one es) h2

theorem leN_dom {ρ ρ' : Loc} {B0 : Nat} {W0 : Base} {h : H} {w : World} (R : HRel P B0 W0 ρ h w) (hl : ρ.leA (some h.n) ρ') : ρ.le ρ' := by
  have hl := hl _ rfl
  refine ⟨fun id x hx => ?_, hl.fro, hl.tau⟩
  rcases Nat.lt_or_ge id h.n with h1 | h1
  · exact hl.own id x h1 hx
  · rw [R.dom id h1] at hx; cases hx

/-- A call that may turn memory: its text is walked where the caller stands. -/
theorem CallT.intro {f : FuncId} {args : List EVal} {h : H} {k : EVal → H → Prop} {fn : Func} (hfn : P.funcs[f]? = some fn) {c : Code} (hc : fn.body = some c)
    (H1 : Top (some h.n) P g K c (startFr fn args) h (Ends2 P g fn k)) : CallT P g K f args h k := by
  intro B0 W0 G hK vs ρ w hvs R cs
  let b : Frame := { (default : Frame) with fn := f, kind := .normal, roundOf := none }
  have henter : Frame.enter P f vs .normal = fr b (vs ++ Array.replicate (fn.ntmps - vs.size) undef) [] [.code c] := by
    simp [Frame.enter, fr, hfn, hc, b]
  have F0 : FRel ρ (startFr fn args) b (vs ++ Array.replicate (fn.ntmps - vs.size) undef) [] := by
    have hl : args.length = vs.size := by rw [hvs.length]; simp
    refine ⟨?_, ?_, .nil, trivial⟩
    · simp only [Array.size_append, Array.size_replicate]
      show _ = Nat.max fn.ntmps args.length
      rw [hl]
      simp only [Nat.max_def]; split <;> omega
    · refine initA_sound args 0 _ _ (fun j e hj => ?_) (fun i e hi hor => ?_)
      · obtain ⟨u, hu, hr⟩ := hvs.get hj
        have hlt : j < vs.size := by have := (List.getElem?_eq_some_iff.1 hu).1; simpa using this
        have : (vs ++ Array.replicate (fn.ntmps - vs.size) undef).getD (0 + j) undef = u := by
          rw [Array.getD_eq_getD_getElem?, Nat.zero_add, Array.getElem?_append_left hlt]
          have : vs[j]? = some u := by simpa using hu
          rw [this]; rfl
        rw [this]; exact hr
      · have := T.get_full _ _ _ hi
        cases this
        have : (vs ++ Array.replicate (fn.ntmps - vs.size) undef).getD i undef = undef := by
          rw [Array.getD_eq_getD_getElem?, Array.getElem?_append_right (by omega), Array.getElem?_replicate]
          split <;> rfl
        rw [this]; exact undef_rel _
  obtain ⟨e, f1, h1, ⟨hend, h2, es, hta, hes, hk⟩, t1, d1, w1, ρ1, l1, F1, R1, A1⟩ := H1 B0 W0 G hK b _ [] [] cs ρ w F0 R
  have hle := leN_dom R l1
  rw [← henter] at A1
  have fin : ∀ (todo : List Item), Steps P (lone (Frame.enter P f vs .normal) cs w) (lone { fr b t1 d1 todo with mode := .returning } cs w1) →
      ∃ (e : Ending) (w' : World) (fr' : Frame), (∃ v h' u ρ', k v h' ∧ e = .returned u ∧ ρ.le ρ' ∧ VRel ρ' v u ∧ HRel P B0 W0 ρ' h' w') ∧ Comes P (lone (Frame.enter P f vs .normal) cs w) (lone fr' cs w') e ∧ fr'.fn = f ∧ fr'.leaving P w' e := by
    intro todo hs
    obtain ⟨w2, R2, s2⟩ := takeAll_sound (b := b) (todo := todo) (t := t1) (cs := cs) F1.defers R1 hta
    obtain ⟨us, hu1, hu2⟩ := results_sound G R2 F1.tmps _ _ hes
    refine ⟨.returned (if h : us.toArray.size = 1 then us.toArray[0] else .tuple us.toArray), w2, _, ⟨_, _, _, ρ1, hk, rfl, hle, one_rel hu2, R2⟩, Steps.trans hs s2, rfl, rfl, rfl, rfl, fn, hfn, ?_⟩
    show (results fn t1).run P w2 = _
    unfold results
    rw [Array.mapM_eq_mapM_toList]
    simp only [Sem.run_bind, Sem.run_map, Sem.run_pure]
    have := congrArg (fun q => (q.andThen fun a w' => (Result.ok (a.toArray : Array Value) w' : Result (Array Value))).andThen fun vs w' => (Result.ok (if h : vs.size = 1 then vs[0] else Value.tuple vs) w' : Result Value)) hu1
    exact this
  cases e with
  | ret =>
    obtain ⟨k', s1⟩ := A1
    exact fin _ (Steps.trans s1 (.one (st_ret rfl)))
  | normal => exact fin _ (Steps.trans A1 (.one (st_end rfl)))
  | exit id => exact hend.elim

theorem CallT.mono {f : FuncId} {args : List EVal} {h : H} {k k' : EVal → H → Prop} (H1 : CallT P g K f args h k) (hk : ∀ v h', k v h' → k' v h') : CallT P g K f args h k' := by
  intro B0 W0 G hK vs ρ w hvs R
  refine (H1 B0 W0 G hK vs ρ w hvs R).mono ?_
  rintro e w' ⟨v, h', u, ρ', h1, rest⟩
  exact ⟨v, h', u, ρ', hk _ _ h1, rest⟩

/-- how a round ends -/
def roundEnd (id : Nat) (k : EVal → H → Prop) : bK := fun e _ h => match h.get id with
  | some (.loop _ _ f t ps a b d) => match e with
    | .normal => k (.bool true) (h.put id (.loop .ready none f t ps a b d))
    | .ret => k (.bool false) (h.put id (.loop .done (some .ret) f t ps a b d))
    | .exit i => k (.bool false) (h.put id (.loop .done (some (.exit i)) f t ps a b d))
  | _ => False
/-- behind the part of a round that gives the variables their values -/
def roundMid (A : Option Nat) (P : Program) (g : G) (K : aY) (id : Nat) (y : Code) (k : EVal → H → Prop) : bK := fun e f h => e = .normal ∧ match h.get id with
  | some (.loop .ready pend n t ps a b d) => Top A P g K y f (h.put id (.loop .busy pend n t ps a b d)) (roundEnd id k)
  | _ => False

/-- A round of a loop over a function. -/
theorem RoundT.intro {id : Nat} {args : List EVal} {h : H} {k : EVal → H → Prop} {st : LoopState} {pend : Option Code} {n dd : Nat} {t t' : T EVal} {ps : List Tmp} {x y : Code}
    (hg : h.get id = some (.loop st pend n t ps x y dd)) (hsp : setParams n t ps args = some t')
    (H1 : Top (some h.n) P g K x ⟨n, t', [], some id⟩ h (roundMid (some h.n) P g K id y k)) : RoundT P g K id args h k := by
  intro B0 W0 G hK l C vs ρ w c cs hid hvs R
  obtain ⟨L, hw, hL1, hL2, hL3, hL4, hL5, hL6, hL7, hgo, _⟩ := loopObj R hid hg
  obtain ⟨p1, p2, p3⟩ := setParams_sound ps args vs.toList t t' L.tmps hsp hL4 hL3 hvs
  let tm := (ps.zip vs.toList).foldl (fun (a : Array Value) (x : Tmp × Value) => a.setIfInBounds x.1 x.2) L.tmps
  have hyield : (Instr.yield l vs).run P w = .ok (.round l L.fn tm x y) w := by
    have hsz : ¬ (vs.size ≠ L.params.size) := by
      rw [← hL5] at p1; simp at p1; omega
    have hfold : (L.params.zip vs).foldl (fun (tmps : Array Value) (x : Tmp × Value) => tmps.setIfInBounds x.1 x.2) L.tmps = tm := by
      rw [← Array.foldl_toList, Array.toList_zip, hL5]
    simp only [Instr.yield, Instr.getLoop, Sem.run_bind, hgo, Result.andThen_ok, Sem.run_pure, if_neg hsz]
    rw [hL6, hL7]
    exact congrArg (fun q => Result.ok (Next.round l L.fn q x y) w) hfold
  let b : Frame := { (default : Frame) with fn := L.fn, kind := .normal, roundOf := some l }
  have hround : Frame.round l L.fn tm x y .normal = fr b tm [] [.code x, .beginRound, .code y] := rfl
  have F : FRel ρ ⟨n, t', [], some id⟩ b tm [] := ⟨p3, p2, .nil, ⟨C, hid⟩⟩
  obtain ⟨e1, f1, hh1, hm1, t1, d1, w1, ρ1, l1, F1, R1, A1⟩ := H1 B0 W0 G hK b tm [] [.beginRound, .code y] (c :: cs) ρ w F R
  have hle1 := leN_dom R l1
  unfold roundMid at hm1
  obtain ⟨rfl, hm1⟩ := hm1
  split at hm1
  rotate_left
  · exact hm1.elim
  rename_i pend' n' tt pp aa bb dd' hg1
  have hid1 := hle1.own _ _ hid
  obtain ⟨L1, hw1, hM1, hM2, hM3, hM4, hM5, hM6, hM7, hgo1, hput1⟩ := loopObj R1 hid1 hg1
  obtain ⟨hso1, R2⟩ := hput1 .busy pend' { L1 with state := .busy } (by cases hM2; rfl)
  have hbegin : (Instr.beginRound l).run P w1 = .ok () { w1 with heap := w1.heap.setIfInBounds l (.loop { L1 with state := .busy }) } := by
    simp [Instr.beginRound, Instr.getLoop, hgo1, hso1, hM1]
  obtain ⟨e2, f2, hh2, hm2, t2, d2, w2, ρ2, l2, F2, R3, A2⟩ := hm1 B0 W0 G hK b t1 d1 [] (c :: cs) ρ1 _ F1 R2
  have hle2 : ρ.le ρ2 := leN_dom R (Loc.leA_trans l1 l2)
  have s1 : Steps P (lone (Frame.round l L.fn tm x y .normal) (c :: cs) w) (lone (fr b t1 d1 [.code y]) (c :: cs) { w1 with heap := w1.heap.setIfInBounds l (.loop { L1 with state := .busy }) }) := by
    rw [hround]
    exact Steps.trans A1 (.one (st_beginRound rfl hbegin))
  unfold roundEnd at hm2
  split at hm2
  rotate_left
  · exact hm2.elim
  rename_i st3 pend3 n3 t3 p3 a3 b3 d3 hg3
  have hid2 := hle2.own _ _ hid
  obtain ⟨L2, hw2, hN1, hN2, hN3, hN4, hN5, hN6, hN7, hgo2, hput2⟩ := loopObj R3 hid2 hg3
  have hend : ∀ jump : Option Code, (Instr.endRound l jump).run P w2 = .ok (.bool jump.isNone) { w2 with heap := w2.heap.setIfInBounds l (.loop { L2 with state := if jump.isNone then .ready else .done, pending := jump }) } := by
    intro jump
    obtain ⟨hso, _⟩ := hput2 (if jump.isNone then .ready else .done) jump { L2 with state := if jump.isNone then .ready else .done, pending := jump } rfl
    simp only [Instr.endRound, Instr.getLoop, Sem.run_bind, hgo2, Result.andThen_ok, Sem.run_pure, hso]
  cases e2 with
  | normal =>
    obtain ⟨_, R4⟩ := hput2 .ready none { L2 with state := .ready, pending := none } rfl
    refine ⟨_, _, .bool true, ρ2, _, L.fn, tm, x, y, hm2, hyield, hle2, .bool _, R4, Steps.trans s1 (Steps.trans A2 (.one ?_))⟩
    exact st_leave_end rfl rfl (hend none)
  | ret =>
    obtain ⟨_, R4⟩ := hput2 .done (some .ret) { L2 with state := .done, pending := some .ret } rfl
    obtain ⟨k', A2⟩ := A2
    refine ⟨_, _, .bool false, ρ2, _, L.fn, tm, x, y, hm2, hyield, hle2, .bool _, R4, Steps.trans s1 (Steps.trans A2 (.one ?_))⟩
    exact st_leave_ret rfl rfl (hend (some .ret))
  | exit i =>
    obtain ⟨_, R4⟩ := hput2 .done (some (.exit i)) { L2 with state := .done, pending := some (.exit i) } rfl
    obtain ⟨k', hk', A2⟩ := A2
    refine ⟨_, _, .bool false, ρ2, _, L.fn, tm, x, y, hm2, hyield, hle2, .bool _, R4, Steps.trans s1 (Steps.trans A2 (.one ?_))⟩
    exact st_leave_exit rfl rfl (by rw [hk']; rfl) (hend (some (.exit i)))

/-- behind a loop over a function -/
def rangeEnd (id : Nat) (f1 : EFr) (Q : bK) : EVal → H → Prop := fun _ h => match h.get id with
  | some (.loop st pend f t p a b d) => st ≠ .busy ∧ (match pend with
    | none => Q .normal f1 (h.put id (.loop .exhausted pend f t p a b d))
    | some .ret => Q .ret f1 (h.put id (.loop .exhausted pend f t p a b d))
    | some (.exit i) => Q (.exit i) f1 (h.put id (.loop .exhausted pend f t p a b d))
    | _ => False)
  | _ => False

/-- A loop over a function, outside of rounds. -/
theorem Top.rangeFunc {A : Option Nat} (hng : cE P) {f : Operand} {ps : Array Tmp} {x y : Code} {n : Nat} {tl : T EVal} {ds : List Nat} {h : H} {Q : bK} {kf : FuncId} {caps : List EVal}
    (hf : ev tl f = some (.func kf caps)) (hb : hasBody P kf = true)
    (hc : CallT P g K kf (.yieldf (h.n + 1) :: caps) ((h.new (.deferred false)).new (.loop .ready none n tl ps.toList x y 0)) (rangeEnd (h.n + 1) ⟨n, tl, h.n :: ds, none⟩ Q)) :
    Top A P g K (.rangeFunc f ps x y) ⟨n, tl, ds, none⟩ h Q := by
  intro B0 W0 G hK b t d k cs ρ w F R
  unfold hasBody at hb
  split at hb
  rotate_left
  · cases hb
  rename_i fn hfn
  have hv := F.erel _ _ hf
  generalize hfe : ({ tmps := t, defers := d } : Act).eval f = fv at hv
  cases hv with
  | func _ _ vs hcs =>
  have hb0 : b.roundOf = none := by
    have hround := F.round
    cases hq : b.roundOf with
    | none => rfl
    | some l => rw [hq] at hround; exact hround.elim
  have Rd := R.new (.deferred false) (.deferred (some [])) 0 rfl
  let L : Loop := { state := .ready, pending := none, fn := b.fn, tmps := t, params := ps, assign := x, body := y, defers := w.heap.size }
  have hle1 := Loc.le_add (x := (w.heap.size, 0)) R.fresh
  have hle2 := Loc.le_add (x := ((w.alloc (.deferred (some []))).heap.size, 0)) Rd.fresh
  have Rl := Rd.new (.loop .ready none n tl ps.toList x y 0) (.loop L) 0 ⟨L, rfl, rfl, rfl, F.size, (F.tmps.mono hle1).mono hle2, rfl, rfl, rfl⟩
  have hrun : (Instr.enterLoop b.fn t ps x y b.roundOf).run P w = .ok ((w.alloc (.deferred (some []))).heap.size, [{ target := .collected w.heap.size, args := #[] }]) ((w.alloc (.deferred (some []))).alloc (.loop L)) := by
    rw [hb0]; simp [Instr.enterLoop, L]
  obtain ⟨bl, hbl⟩ : ∃ bl, bl = (w.alloc (.deferred (some []))).heap.size := ⟨_, rfl⟩
  rw [← hbl] at hrun hle2 Rl
  have hle := Loc.le_trans hle1 hle2
  have hl := Loc.add_self (ρ.add h.n (w.heap.size, 0)) (h.n + 1) (bl, 0)
  have hargs : VsRel ((ρ.add h.n (w.heap.size, 0)).add (h.n + 1) (bl, 0)) (.yieldf (h.n + 1) :: caps) (#[Value.func (.yield bl) #[] #[]] ++ vs).toList := by
    rw [Array.toList_append]
    exact .cons _ _ _ _ (.yieldf _ _ _ hl) (hcs.mono hle)
  have F2 : FRel ((ρ.add h.n (w.heap.size, 0)).add (h.n + 1) (bl, 0)) ⟨n, tl, h.n :: ds, none⟩ b t ([{ target := .collected w.heap.size, args := #[] }] ++ d) := by
    refine ⟨F.size, (F.tmps.mono hle1).mono hle2, ?_, ?_⟩
    · exact .cons _ _ 0 _ _ (hle2.own _ _ (Loc.add_self _ _ _)) ((F.defers.mono hle1).mono hle2)
    · rw [hb0]; trivial
  obtain ⟨mark, hmark⟩ : ∃ m : List Deferred, m = [{ target := .collected w.heap.size, args := #[] }] := ⟨_, rfl⟩
  rw [← hmark] at hrun F2
  obtain ⟨e1, w3, fr1, ⟨v, h3, u, ρ3, hm, rfl, hle3, hv3, R3⟩, hcomes, hfn1, hleave⟩ := hc B0 W0 G hK _ _ _ hargs Rl (fr b t (mark ++ d) (.inRangeFunc bl :: k) :: cs)
  have s1 : Steps P (lone (fr b t d (.code (.rangeFunc f ps x y) :: k)) cs w) (lone (fr b t (mark ++ d) (.endRangeFunc bl :: k)) cs w3) := by
    refine .head (st_rangeFunc hng hrun hfe hfn hb) (Steps.trans hcomes (.one ?_))
    exact step_leave_returned hleave
  unfold rangeEnd at hm
  split at hm
  rotate_left
  · exact hm.elim
  rename_i st pend n' tt pp aa bb dd hg
  obtain ⟨hst, hm⟩ := hm
  have hl3 := hle3.own _ _ hl
  obtain ⟨L', hw3, hL1, hL2, hL3, hL4, hL5, hL6, hL7, hgo, hput⟩ := loopObj R3 hl3 hg
  obtain ⟨hso, R4⟩ := hput .exhausted pend { L' with state := .exhausted } (by cases hL2; rfl)
  have hend : (Instr.endLoop bl).run P w3 = .ok pend { w3 with heap := w3.heap.setIfInBounds bl (.loop { L' with state := .exhausted }) } := by
    have hst' : L'.state ≠ LoopState.busy := by rw [hL1]; exact hst
    rw [← hL2]
    simp [Instr.endLoop, Instr.getLoop, hgo, hst', hso]
  have s2 := Steps.trans s1 (.one (st_endRangeFunc (P := P) (b := b) (t := t) (d := mark ++ d) (k := k) (cs := cs) hend))
  have F4 := F2.mono hle3
  have hleA : ρ.leA A ρ3 := Loc.leA_of (Loc.le_trans hle hle3)
  cases pend with
  | none => exact ⟨.normal, _, _, hm, _, _, _, _, hleA, F4, R4, s2⟩
  | some c =>
    cases c with
    | ret => exact ⟨.ret, _, _, hm, _, _, _, _, hleA, F4, R4, k, s2⟩
    | exit i => exact ⟨.exit i, _, _, hm, _, _, _, _, hleA, F4, R4, k, rfl, s2⟩
    | _ => exact hm.elim
end
end Go.Ev
set_option linter.defProp false
namespace Go.Ev
open Go.RowKit
/-- the equations of a walk, together -/
def SS0 := And.intro (And.intro (And.intro (And.intro (And.intro (And.intro (And.intro (@wp_seq) (And.intro (@wp_region) (@wp_block))) (And.intro (And.intro (@wp_scope) (@wp_exit)) (And.intro (@wp_skip) (@wp_label)))) (And.intro (And.intro (@wp_ret) (And.intro (@wp_cond) (@loopQ_normal))) (And.intro (And.intro (@loopQ_exit) (@loopQ_ret)) (And.intro (@seqQ_normal) (@seqQ_exit))))) (And.intro (And.intro (And.intro (@seqQ_ret) (And.intro (@blockQ_normal) (@blockQ_exit))) (And.intro (And.intro (@blockQ_ret) (@wpCond_true)) (And.intro (@wpCond_false) (@wpOps_cons)))) (And.intro (And.intro (@wpOps_nil) (And.intro (@wpStep_true) (@wpStep_false))) (And.intro (And.intro (@wpNext_q) (@wpOp_eq)) (And.intro (@wpOpB_false) (@wpOut_val)))))) (And.intro (And.intro (And.intro (And.intro (@wpOut_enter) (And.intro (@wpKc_some) (@wpDraw_cons))) (And.intro (And.intro (@wpDraw_nil) (@wpDStep_true)) (And.intro (@wpDStep_false) (@wpDNext_q)))) (And.intro (And.intro (@wpDOut_val) (And.intro (@wpDOut_enter) (@wpDKc_some))) (And.intro (And.intro (@wpDSel_pure) (@wpDSel_quiet)) (And.intro (@wpDSel_act) (@Go.Ev.isPure.eq_1))))) (And.intro (And.intro (And.intro (@Go.Ev.isQuiet.eq_1) (And.intro (@Go.Ev.wantedE.eq_1) (@Go.Ev.yieldedE.eq_1))) (And.intro (And.intro (@Go.Ev.eOp.eq_1) (@Go.Ev.mk.eq_1)) (And.intro (@ev_tmp) (@ev_int)))) (And.intro (And.intro (@ev_bool) (And.intro (@ev_str) (@ev_nils))) (And.intro (And.intro (@ev_nilp) (@ev_nilm)) (And.intro (@ev_nilf) (@ev_func))))))) (And.intro (And.intro (And.intro (And.intro (And.intro (@ev_glob) (And.intro (@ev_agg) (@Go.Ev.evs.eq_1))) (And.intro (And.intro (@Go.Ev.evs.eq_2) (@Go.Ev.evParts.eq_1)) (And.intro (@Go.Ev.evParts.eq_2) (@Go.Ev.evOpt.eq_1)))) (And.intro (And.intro (@Go.Ev.evOpt.eq_2) (And.intro (@Go.Ev.absCells.eq_1) (@Go.Ev.absCells.eq_2))) (And.intro (And.intro (@mkF_putd) (@mkF_putd_none)) (And.intro (@mkF_tmps) (@mkF_defers))))) (And.intro (And.intro (And.intro (@T.get_ofL) (And.intro (@Go.Ev.aX.eq_1) (@Go.Ev.aX.eq_2))) (And.intro (And.intro (@mkH_new) (@mkH_put)) (And.intro (@mkH_kill) (@mkH_tok)))) (And.intro (And.intro (@mkH_get) (And.intro (@mkH_k) (@mkH_n))) (And.intro (And.intro (@Go.Ev.aG.eq_1) (@Go.Ev.aG.eq_2)) (And.intro (@Go.Ev.eShl.eq_1) (@Go.Ev.eShr.eq_1)))))) (And.intro (And.intro (And.intro (And.intro (@Go.Ev.eUnOp.eq_1) (And.intro (@Go.Ev.eUnOp.eq_2) (@Go.Ev.eConvOp.eq_1))) (And.intro (And.intro (@Go.Ev.eConvOp.eq_2) (@Go.Ev.eCallB.eq_1)) (And.intro (@Go.Ev.eLenM.eq_1) (@Go.Ev.eAppend.eq_1)))) (And.intro (And.intro (@Go.Ev.eAppendX.eq_1) (And.intro (@Go.Ev.eAppendS.eq_1) (@Go.Ev.eAppendS'.eq_1))) (And.intro (And.intro (@Go.Ev.eAppendG.eq_1) (@Go.Ev.eGrow.eq_1)) (And.intro (@Go.Ev.takeN.eq_1) (@Go.Ev.keepL.eq_1))))) (And.intro (And.intro (And.intro (@Go.Ev.keepL.eq_2) (And.intro (@Go.Ev.bI.eq_1) (@Go.Ev.bI.eq_2))) (And.intro (And.intro (@Go.Ev.eLoadOp.eq_1) (@Go.Ev.eLoadOp.eq_2)) (And.intro (@Go.Ev.eLoad.eq_1) (@Go.Ev.eLoad'.eq_1)))) (And.intro (And.intro (And.intro (@Go.Ev.eLoad'.eq_2) (@Go.Ev.eLoad'.eq_3)) (And.intro (@Go.Ev.aggT.eq_1) (@Go.Ev.eStore.eq_1))) (And.intro (And.intro (@Go.Ev.eStoreCells.eq_1) (@Go.Ev.allOne.eq_1)) (And.intro (@Go.Ev.allOne.eq_2) (@Go.Ev.eFieldAddrOp.eq_1)))))))) (And.intro (And.intro (And.intro (And.intro (And.intro (And.intro (@Go.Ev.eFieldAddrOp.eq_2) (And.intro (@Go.Ev.eFieldAddr.eq_1) (@Go.Ev.eFieldOp.eq_1))) (And.intro (And.intro (@Go.Ev.eFieldOp.eq_2) (@Go.Ev.ePart.eq_1)) (And.intro (@Go.Ev.eIndexAddr'.eq_1) (@Go.Ev.eIndexL.eq_1)))) (And.intro (And.intro (@Go.Ev.eSliceL.eq_1) (And.intro (@Go.Ev.eAlloc.eq_1) (@Go.Ev.eBox.eq_1))) (And.intro (And.intro (@Go.Ev.eBox.eq_2) (@Go.Ev.eBuildS.eq_1)) (And.intro (@Go.Ev.eBuildA.eq_1) (@Go.Ev.eBuildSlice'.eq_1))))) (And.intro (And.intro (And.intro (@Go.Ev.fillE.eq_1) (And.intro (@Go.Ev.fillE.eq_2) (@Go.Ev.placeS.eq_1))) (And.intro (And.intro (@Go.Ev.eMakeSlice'.eq_1) (@Go.Ev.eNextS'.eq_1)) (And.intro (@Go.Ev.argsB.eq_1) (@Go.Ev.argsB.eq_2)))) (And.intro (And.intro (@Go.Ev.capOK.eq_1) (And.intro (@Go.Ev.capOK.eq_2) (@Go.Ev.flatL.eq_1))) (And.intro (And.intro (@Go.Ev.flatL.eq_2) (@known_nil)) (And.intro (@known_hit) (@known_cons)))))) (And.intro (And.intro (And.intro (And.intro (@Go.Ev.undefE.eq_1) (And.intro (@Option.map_some.{0,0}) (@Option.map_none.{0,0}))) (And.intro (And.intro (@Option.some.injEq.{0}) (@if_true.{1})) (And.intro (@if_false.{1}) (@List.getElem?_toArray.{0})))) (And.intro (And.intro (@List.getElem?_cons_zero.{0}) (And.intro (@List.getElem?_cons_succ.{0}) (@List.length_cons.{0}))) (And.intro (And.intro (@List.length_nil.{0}) (@List.append_nil.{0})) (And.intro (@List.nil_append.{0}) (@List.cons_append.{0}))))) (And.intro (And.intro (And.intro (@List.map_cons.{0,0}) (And.intro (@List.map_nil.{0,0}) (@List.any_cons.{0}))) (And.intro (And.intro (@List.any_nil.{0}) (@List.take_succ_cons.{0})) (And.intro (@List.take_zero.{0}) (@List.drop_succ_cons.{0})))) (And.intro (And.intro (@List.drop_zero.{0}) (And.intro (@List.drop_nil.{0}) (@List.take_nil.{0}))) (And.intro (And.intro (@Nat.zero_add) (@Nat.mul_one)) (And.intro (@Nat.zero_le) (@bne_not))))))) (And.intro (And.intro (And.intro (And.intro (And.intro (@some_beq) (And.intro (@none_beq) (@beq_t))) (And.intro (And.intro (@beq_f) (@Int.natCast_nonneg)) (And.intro (@Int.toNat_natCast) (@Int.le_refl)))) (And.intro (And.intro (@Int.toNat_zero) (And.intro (@Int.natCast_zero) (@BEq.rfl.{0}))) (And.intro (And.intro (@beq_self_eq_true.{0}) (@Option.bind_some.{0,0})) (And.intro (@Go.Ev.resultsE.eq_1) (@Go.Ev.resultsE.eq_2))))) (And.intro (And.intro (And.intro (@Go.Ev.resultsE.eq_3) (And.intro (@Go.Ev.keepT.eq_1) (@Go.Ev.keepT.eq_2))) (And.intro (And.intro (@Bool.not_true) (@Bool.not_false)) (And.intro (@Bool.or_false) (@Bool.false_or)))) (And.intro (And.intro (@Bool.or_true) (And.intro (@Bool.true_or) (@Bool.and_true))) (And.intro (And.intro (@Bool.true_and) (@Bool.and_false)) (And.intro (@Bool.false_and) (@Bool.cond_true.{1})))))) (And.intro (And.intro (And.intro (And.intro (@Bool.cond_false.{1}) (And.intro (@decide_true) (@decide_false))) (And.intro (And.intro (@Bool.false_eq_true) (@ne_eq.{1})) (And.intro (@not_true_eq_false) (@not_false_eq_true)))) (And.intro (And.intro (@gt_iff_lt.{0}) (And.intro (@ge_iff_le.{0}) (@or_self))) (And.intro (And.intro (@or_false) (@false_or)) (And.intro (@true_or) (@or_true))))) (And.intro (And.intro (And.intro (@H.start_mk) (And.intro (@Nat.lt_irrefl) (@Nat.le_refl))) (And.intro (And.intro (@List.flatten_cons.{0}) (@List.flatten_nil.{0})) (And.intro (@List.replicate.eq_1.{0}) (@List.replicate.eq_2.{0})))) (And.intro (And.intro (And.intro (@true_and) (@and_true)) (And.intro (@true_implies) (@false_implies))) (And.intro (And.intro (@implies_true.{0}) (@implies_true.{1})) (And.intro (@exists_eq_left'.{1}) (@and_self))))))))
def SS1 := And.intro SS0 (And.intro (And.intro (And.intro (@wpOut_yield) (And.intro (@wpOut_none) (@wpNd_true))) (And.intro (@wpKc_none) (And.intro (@mkH_fz) (@Go.Ev.isStill.eq_1)))) (And.intro (And.intro (@Go.Ev.ndOp.eq_1) (And.intro (@ndEq_yes) (@mkD_putd))) (And.intro (@mkD_putd_none) (And.intro (@mkD_tmps) (@mkD_defers)))))
def SX := And.intro (And.intro (And.intro (And.intro (And.intro (And.intro (And.intro (@Go.Ev.isNew.eq_1) (@Go.Ev.absCell.eq_1)) (And.intro (@Go.Ev.absCell.eq_2) (And.intro (@Go.Ev.absCell.eq_3) (@Go.Ev.absCell.eq_4)))) (And.intro (And.intro (@Go.Ev.absCell.eq_5) (And.intro (@Go.Ev.absCell.eq_6) (@Go.Ev.absCell.eq_7))) (And.intro (@Go.Ev.absCell.eq_8) (And.intro (@Go.Ev.absCell.eq_9) (@Go.Ev.absCell.eq_10))))) (And.intro (And.intro (And.intro (@Go.Ev.absCell.eq_11) (@Go.Ev.eBinOp.eq_1)) (And.intro (@Go.Ev.eBinOp.eq_2) (And.intro (@Go.Ev.eBin.eq_1) (@Go.Ev.eBin.eq_2)))) (And.intro (And.intro (@Go.Ev.eBin.eq_3) (And.intro (@Go.Ev.eBin.eq_4) (@Go.Ev.eBin.eq_5))) (And.intro (@Go.Ev.eInt2.eq_1) (And.intro (@Go.Ev.eInt2.eq_2) (@Go.Ev.eInt2.eq_3)))))) (And.intro (And.intro (And.intro (And.intro (@Go.Ev.eInt.eq_1) (@Go.Ev.eInt.eq_2)) (And.intro (@Go.Ev.eInt.eq_3) (And.intro (@Go.Ev.eInt.eq_4) (@Go.Ev.eInt.eq_5)))) (And.intro (And.intro (@Go.Ev.eInt.eq_6) (And.intro (@Go.Ev.eInt.eq_7) (@Go.Ev.eInt.eq_8))) (And.intro (@Go.Ev.eInt.eq_9) (And.intro (@Go.Ev.eInt.eq_10) (@Go.Ev.eInt.eq_11))))) (And.intro (And.intro (And.intro (@Go.Ev.eInt.eq_12) (@Go.Ev.eInt.eq_13)) (And.intro (@Go.Ev.eInt.eq_14) (And.intro (@Go.Ev.eInt.eq_15) (@Go.Ev.eInt.eq_16)))) (And.intro (And.intro (@Go.Ev.eStr.eq_1) (And.intro (@Go.Ev.eStr.eq_2) (@Go.Ev.eStr.eq_3))) (And.intro (@Go.Ev.eStr.eq_4) (And.intro (@Go.Ev.eStr.eq_5) (@Go.Ev.eStr.eq_6))))))) (And.intro (And.intro (And.intro (And.intro (And.intro (@Go.Ev.eStr.eq_7) (@Go.Ev.eStr.eq_8)) (And.intro (@Go.Ev.eUn.eq_1) (And.intro (@Go.Ev.eUn.eq_2) (@Go.Ev.eUn.eq_3)))) (And.intro (And.intro (@Go.Ev.ePick.eq_1) (And.intro (@Go.Ev.ePick.eq_2) (@Go.Ev.ePick.eq_3))) (And.intro (@Go.Ev.eExtract.eq_1) (And.intro (@Go.Ev.eExtract.eq_2) (@Go.Ev.eNil.eq_1))))) (And.intro (And.intro (And.intro (@Go.Ev.eNil.eq_2) (@Go.Ev.eNil.eq_3)) (And.intro (@Go.Ev.eNil.eq_4) (And.intro (@Go.Ev.eNil.eq_5) (@Go.Ev.eCall.eq_1)))) (And.intro (And.intro (@Go.Ev.eCall.eq_2) (And.intro (@Go.Ev.eCall.eq_3) (@Go.Ev.eCall.eq_4))) (And.intro (@Go.Ev.eCallV.eq_1) (And.intro (@Go.Ev.eCallV.eq_2) (@Go.Ev.eCallV.eq_3)))))) (And.intro (And.intro (And.intro (And.intro (@Go.Ev.eBuiltin.eq_1) (@Go.Ev.eBuiltin.eq_2)) (And.intro (@Go.Ev.eBuiltin.eq_3) (And.intro (@Go.Ev.eBuiltin.eq_4) (@Go.Ev.eBuiltin.eq_5)))) (And.intro (And.intro (@Go.Ev.eBuiltin.eq_6) (And.intro (@Go.Ev.eBuiltin.eq_7) (@Go.Ev.eBuiltin.eq_8))) (And.intro (@Go.Ev.eBuiltin.eq_9) (And.intro (@Go.Ev.eBuiltin.eq_10) (@Go.Ev.eBuiltin.eq_11))))) (And.intro (And.intro (And.intro (@Go.Ev.eBuiltin.eq_12) (@Go.Ev.eBuiltin.eq_13)) (And.intro (@Go.Ev.eBuiltin.eq_14) (And.intro (@Go.Ev.eBuiltin.eq_15) (@Go.Ev.eBuiltin.eq_16)))) (And.intro (And.intro (@Go.Ev.eBuiltin.eq_17) (And.intro (@Go.Ev.eBuiltin.eq_18) (@Go.Ev.eLen.eq_1))) (And.intro (@Go.Ev.eLen.eq_2) (And.intro (@Go.Ev.eLen.eq_3) (@Go.Ev.eLen.eq_4)))))))) (And.intro (And.intro (And.intro (And.intro (And.intro (And.intro (@Go.Ev.eLen.eq_5) (@Go.Ev.eLen.eq_6)) (And.intro (@Go.Ev.eLen.eq_7) (And.intro (@Go.Ev.eLen.eq_8) (@Go.Ev.eCap.eq_1)))) (And.intro (And.intro (@Go.Ev.eCap.eq_2) (And.intro (@Go.Ev.eCap.eq_3) (@Go.Ev.srcCells.eq_1))) (And.intro (@Go.Ev.srcCells.eq_2) (And.intro (@Go.Ev.srcCells.eq_3) (@Go.Ev.srcCells.eq_4))))) (And.intro (And.intro (And.intro (@Go.Ev.srcCells.eq_5) (@Go.Ev.srcCells.eq_6)) (And.intro (@Go.Ev.keepV.eq_1) (And.intro (@Go.Ev.keepV.eq_2) (@Go.Ev.keepV.eq_3)))) (And.intro (And.intro (@Go.Ev.keep1.eq_1) (And.intro (@Go.Ev.keep1.eq_2) (@Go.Ev.keep1.eq_3))) (And.intro (@Go.Ev.keep1.eq_4) (And.intro (@Go.Ev.keep1.eq_5) (@Go.Ev.keep1.eq_6)))))) (And.intro (And.intro (And.intro (And.intro (@Go.Ev.keep1.eq_7) (@Go.Ev.keep1.eq_8)) (And.intro (@Go.Ev.keep1.eq_9) (And.intro (@Go.Ev.keep1.eq_10) (@Go.Ev.keep1.eq_11)))) (And.intro (And.intro (@Go.Ev.keep1.eq_12) (And.intro (@Go.Ev.keep1.eq_13) (@Go.Ev.keep1.eq_14))) (And.intro (@Go.Ev.row?.eq_1) (And.intro (@Go.Ev.row?.eq_2) (@Go.Ev.row?.eq_3))))) (And.intro (And.intro (And.intro (@Go.Ev.row?.eq_4) (@Go.Ev.eStoreOp.eq_1)) (And.intro (@Go.Ev.eStoreOp.eq_2) (And.intro (@Go.Ev.EVal.cells.eq_1) (@Go.Ev.EVal.cells.eq_2)))) (And.intro (And.intro (@Go.Ev.EVal.one.eq_1) (And.intro (@Go.Ev.EVal.one.eq_2) (@Go.Ev.EVal.one.eq_3))) (And.intro (@Go.Ev.eShift.eq_1) (And.intro (@Go.Ev.eShift.eq_2) (@Go.Ev.eShift.eq_3))))))) (And.intro (And.intro (And.intro (And.intro (And.intro (@Go.Ev.eShift.eq_4) (@Go.Ev.eIndexAddrOp.eq_1)) (And.intro (@Go.Ev.eIndexAddrOp.eq_2) (And.intro (@Go.Ev.eIndexAddr.eq_1) (@Go.Ev.eIndexAddr.eq_2)))) (And.intro (And.intro (@Go.Ev.eIndexOp.eq_1) (And.intro (@Go.Ev.eIndexOp.eq_2) (@Go.Ev.eIndex.eq_1))) (And.intro (@Go.Ev.eIndex.eq_2) (And.intro (@Go.Ev.eIndex.eq_3) (@Go.Ev.eSliceOp.eq_1))))) (And.intro (And.intro (And.intro (@Go.Ev.eSliceOp.eq_2) (@Go.Ev.bX.eq_1)) (And.intro (@Go.Ev.bX.eq_2) (And.intro (@Go.Ev.bX.eq_3) (@Go.Ev.eMakeSlice.eq_1)))) (And.intro (And.intro (@Go.Ev.eMakeSlice.eq_2) (And.intro (@Go.Ev.eRange.eq_1) (@Go.Ev.eRange.eq_2))) (And.intro (@Go.Ev.eRange.eq_3) (And.intro (@Go.Ev.eNextS.eq_1) (@Go.Ev.eNextS.eq_2)))))) (And.intro (And.intro (And.intro (And.intro (@Go.Ev.argB.eq_1) (@Go.Ev.argB.eq_2)) (And.intro (@Go.Ev.isLent.eq_1) (And.intro (@Go.Ev.isLent.eq_2) (@Go.Ev.flat.eq_1)))) (And.intro (And.intro (@Go.Ev.flat.eq_2) (And.intro (@Go.Ev.flat.eq_3) (@Go.Ev.flat.eq_4))) (And.intro (@Go.Ev.flat.eq_5) (And.intro (@Go.Ev.flat.eq_6) (@Go.Ev.flat.eq_7))))) (And.intro (And.intro (And.intro (@Go.Ev.flat.eq_8) (And.intro (@Go.Ev.flat.eq_9) (@Go.Ev.flat.eq_10))) (And.intro (@Go.Ev.flat.eq_11) (And.intro (@Go.Ev.flat.eq_12) (@Go.Ev.one.eq_1)))) (And.intro (And.intro (@Go.Ev.one.eq_2) (And.intro (@Go.Ev.keepA.eq_1) (@Go.Ev.keepA.eq_2))) (And.intro (@extB_q) (And.intro (@Option.isNone_none.{0}) (@Option.isNone_some.{0}))))))))
def SS := And.intro SS1 SX
end Go.Ev
namespace Go.Ev
open Go.RowKit

/-! pitches, counted: bytes and numbers alone -/
/-- a letter of a pitch -/
def isP (c : Nat) : Bool := c == 66 || c == 67 || c == 83 || c == 70 || c == 88 || c == 72
/-- a pitch behind which none comes -/
def lastP (c : Nat) : Bool := c == 88 || c == 72
abbrev Cnt := Int × Int
def full (c : Cnt) : Bool := c.1 == 4 || c.2 == 3
def bG (c : Cnt) (x : Nat) : Cnt :=
  if x = 66 then (c.1 + 1, c.2) else if x = 67 ∨ x = 83 then (c.1, c.2 + 1) else if x = 70 then (if c.2 < 2 then (c.1, c.2 + 1) else c) else c
def doneC (c : Cnt) (x : Nat) : Bool := full (bG c x) || lastP x
/-- the count, and whether it is complete; or how far the pitch is that is too many -/
def cnt : Cnt → Bool → List Nat → (Cnt × Bool) ⊕ Nat
  | c, d, [] => .inl (c, d)
  | c, d, x :: l => if d || !isP x then .inr 0 else
    match cnt (bG c x) (doneC c x) l with
    | .inl r => .inl r
    | .inr k => .inr (k + 1)

theorem cnt_append (c : Cnt) (d : Bool) (l m : List Nat) : cnt c d (l ++ m) = match cnt c d l with
    | .inl (c', d') => (match cnt c' d' m with | .inl r => .inl r | .inr k => .inr (l.length + k))
    | .inr k => .inr k := by
  induction l generalizing c d with
  | nil =>
    simp only [List.nil_append, cnt, List.length_nil, Nat.zero_add]
    cases cnt c d m <;> rfl
  | cons x l ih =>
    simp only [List.cons_append, cnt]
    by_cases h : (d || !isP x) = true
    · simp only [h, if_true]
    · simp only [Bool.eq_false_iff.2 h, Bool.false_eq_true, if_false]
      rw [ih]
      cases cnt (bG c x) (doneC c x) l with
      | inr k => rfl
      | inl r =>
        obtain ⟨c', d'⟩ := r
        simp only
        cases cnt c' d' m with
        | inl r => rfl
        | inr k => simp only [List.length_cons]; congr 1; omega

/-- a count that holds -/
def okC (c : Cnt) (d : Bool) : Prop := 0 ≤ c.1 ∧ 0 ≤ c.2 ∧ c.1 ≤ 4 ∧ c.2 ≤ 3 ∧ (d = false → c.1 ≤ 3 ∧ c.2 ≤ 2)
theorem stepC_ok {c : Cnt} {x : Nat} (h : okC c false) : okC (bG c x) (doneC c x) := by
  obtain ⟨h1, h2, h3, h4, h5⟩ := h
  obtain ⟨h5, h6⟩ := h5 rfl
  have : ∃ a b, c = (a, b) := ⟨_, _, rfl⟩
  obtain ⟨a, b, rfl⟩ := this
  unfold doneC okC full bG
  simp only at *
  refine ⟨?_, ?_, ?_, ?_, ?_⟩
  · split <;> (try split) <;> (try split) <;> (try split) <;> simp only <;> omega
  · split <;> (try split) <;> (try split) <;> (try split) <;> simp only <;> omega
  · split <;> (try split) <;> (try split) <;> (try split) <;> simp only <;> omega
  · split <;> (try split) <;> (try split) <;> (try split) <;> simp only <;> omega
  · intro h
    simp only [Bool.or_eq_false_iff, beq_eq_false_iff_ne] at h
    revert h
    split <;> (try split) <;> (try split) <;> (try split) <;> simp only <;> omega
theorem cnt_ok {c : Cnt} {d : Bool} {l : List Nat} {c' : Cnt} {d' : Bool} (h : okC c d) (hc : cnt c d l = .inl (c', d')) : okC c' d' := by
  induction l generalizing c d with
  | nil => simp only [cnt, Sum.inl.injEq, Prod.mk.injEq] at hc; obtain ⟨rfl, rfl⟩ := hc; exact h
  | cons x l ih =>
    simp only [cnt] at hc
    split at hc
    · cases hc
    · rename_i hd
      simp only [Bool.or_eq_true, Bool.not_eq_true', not_or, Bool.not_eq_true, Bool.not_eq_false] at hd
      obtain ⟨rfl, _⟩ := hd
      cases hr : cnt (bG c x) (doneC c x) l with
      | inr k => rw [hr] at hc; cases hc
      | inl r =>
        rw [hr] at hc
        cases hc
        exact ih (stepC_ok h) hr
end Go.Ev
namespace Go.Ev
open Go.RowKit
/-- a sequence cut at a state out of a type -/
theorem Top.seam {A : Option Nat} {P : Program} {g : G} {K : aY} {x y : Code} {f : EFr} {h : H} {Q : bK} {σ : Type} (hng : cE P) (F2 : σ → EFr) (H2 : σ → H)
    (H1 : ∀ R : bK, (∀ s f1 h1, aH A P f1 h1 (F2 s) (H2 s) → R .normal f1 h1) → wp A P g K x f h R) (H3 : ∀ s, Top A P g K y (F2 s) (H2 s) Q) : Top A P g K (.seq x y) f h Q :=
  Top.seq (aC hng _ _ _ _ (H1 _ fun s _ _ v => Top.view v (H3 s)))
end Go.Ev
namespace Go.Ev
open Go.RowKit
end Go.Ev
namespace Go.Ev
open Go.RowKit

/-! values whose lists are told by functions: what a call comes to is then found by the kernel alone -/
inductive V where
  | raw (e : EVal)
  | bool (b : Bool)
  | int (k : IntKind) (n : Int)
  | str (l : List Nat)
  | nils
  | ptr (id off : Nat)
  | sl (id off len : Nat) (cap : ECap)
  | agg (l : List V)
  | tup (l : List V)
  | fl (n : Nat) (f : Nat → List V)
  | el (els : List (List V))
  | gl (id : Nat)
  | lptr (cells : List V) (off : Nat)
  | eptr (s : V) (sz n : Nat) (i : Int) (off : Nat)

noncomputable section
mutual
def V.c : V → EVal
  | .raw e => e
  | .bool b => .bool b
  | .int k n => .int k n
  | .str l => .str l
  | .nils => .nilslice
  | .ptr i o => .ptr i o
  | .sl i o n c => .slice i o n c
  | .agg l => .agg (V.cs l)
  | .tup l => .tup (V.cs l)
  | .fl n f => .lsl ((List.range n).map fun i => V.cs (f i))
  | .el els => .lsl (V.css els)
  | .gl _ => .unk
  | .lptr l o => .lptr (V.cs l) o
  | .eptr s sz _ i off => (eShift (i.toNat * sz + off) (V.c s)).getD .unk
def V.cs : List V → List EVal
  | [] => []
  | v :: l => V.c v :: V.cs l
def V.css : List (List V) → List (List EVal)
  | [] => []
  | v :: l => V.cs v :: V.css l
end

theorem V.cs_map (l : List V) : V.cs l = l.map V.c := by
  induction l with
  | nil => rw [V.cs]; rfl
  | cons v l ih => rw [V.cs, ih]; rfl
theorem V.css_map (l : List (List V)) : V.css l = l.map V.cs := by
  induction l with
  | nil => rw [V.css]; rfl
  | cons v l ih => rw [V.css, ih]; rfl
theorem V.cs_length (l : List V) : (V.cs l).length = l.length := by rw [V.cs_map, List.length_map]
theorem V.css_length (l : List (List V)) : (V.css l).length = l.length := by rw [V.css_map, List.length_map]
theorem V.cs_append (a b : List V) : V.cs (a ++ b) = V.cs a ++ V.cs b := by simp only [V.cs_map, List.map_append]
theorem V.css_append (a b : List (List V)) : V.css (a ++ b) = V.css a ++ V.css b := by simp only [V.css_map, List.map_append]
theorem V.cs_get (l : List V) (i : Nat) : (V.cs l)[i]? = (l[i]?).map V.c := by rw [V.cs_map, List.getElem?_map]

def bA {α : Type} : List (Nat × α) → Nat → Option α
  | [], _ => none
  | (j, v) :: l, i => bif Nat.beq j i then some v else bA l i
theorem lookG_map {α β : Type} {g : α → β} (l : List (Nat × α)) (i : Nat) : aG (l.map fun p => (p.1, some (g p.2))) i = (bA l i).map g := by
  induction l with
  | nil => rfl
  | cons p l ih =>
    obtain ⟨j, v⟩ := p
    simp only [List.map_cons, aG, bA, ih]
    by_cases h : j = i
    · simp [h]
    · have hb : Nat.beq j i = false := by
        cases hq : Nat.beq j i
        · rfl
        · exact absurd (Nat.eq_of_beq_eq_true hq) h
      simp [h, hb]

theorem lookG_mapO {α β : Type} {g : α → β} (l : List (Nat × Option α)) (i : Nat) : aG (l.map fun p => (p.1, p.2.map g)) i = (bA l i).bind fun x => x.map g := by
  induction l with
  | nil => rfl
  | cons p l ih =>
    obtain ⟨j, v⟩ := p
    simp only [List.map_cons, aG, bA, ih]
    by_cases h : j = i
    · simp [h]
    · have hb : Nat.beq j i = false := by
        cases hq : Nat.beq j i
        · rfl
        · exact absurd (Nat.eq_of_beq_eq_true hq) h
      simp [h, hb]

structure DRow where
  cells : List V
  e : TypeId
  sl : Bool
inductive DObj where
  | row (r : DRow)
  | iter (s : List Nat) (pos : Nat)
structure D where
  fr : List (Nat × Option V)
  n : Nat
  hp : List (Nat × Option DObj)
  m : Nat
  tk : List (Nat × (List (List V) × TypeId))

def DRow.o (r : DRow) : EObj := .row (V.cs r.cells) r.e 0 0 r.sl
def DObj.o : DObj → EObj
  | .row r => r.o
  | .iter s p => .iter s p
def tokC (x : List (List V) × TypeId) : Nat × TypeId := (x.1.length, x.2)
def D.H (d : D) : H := mkH d.n (d.hp.map fun p => (p.1, p.2.map DObj.o)) d.m (d.tk.map fun p => (p.1, some (tokC p.2)))
def V.ct (tk : List (Nat × (List (List V) × TypeId))) : V → EVal
  | .gl id => match bA tk id with
    | some x => .gsl id (V.css x.1)
    | none => .unk
  | v => v.c
def D.obj (d : D) (id : Nat) : Option DObj := bif Nat.blt id 16000 then (match bA d.hp id with | some r => r | none => none) else none
def D.row (d : D) (id : Nat) : Option DRow := match d.obj id with
  | some (.row r) => some r
  | _ => none
def D.itr (d : D) (id : Nat) : Option (List Nat × Nat) := match d.obj id with
  | some (.iter s p) => some (s, p)
  | _ => none
theorem D.obj_get {d : D} {id : Nat} {r : DObj} (h : d.obj id = some r) : d.H.get id = some r.o := by
  unfold D.obj at h
  cases hb : Nat.blt id 16000 with
  | false => rw [hb] at h; cases h
  | true =>
    rw [hb] at h
    rw [Nat.blt_eq] at hb
    unfold D.H
    rw [mkH_get hb, lookG_mapO]
    simp only [cond_true] at h
    split at h
    · rename_i r' hr
      subst h; rw [hr]; rfl
    · cases h
theorem D.row_obj {d : D} {id : Nat} {r : DRow} (h : d.row id = some r) : d.obj id = some (.row r) := by
  unfold D.row at h
  split at h
  · rename_i r' hr; cases h; exact hr
  · cases h
theorem D.itr_obj {d : D} {id : Nat} {r : List Nat × Nat} (h : d.itr id = some r) : d.obj id = some (.iter r.1 r.2) := by
  unfold D.itr at h
  split at h
  · rename_i s p hr; cases h; exact hr
  · cases h
theorem D.row_get {d : D} {id : Nat} {r : DRow} (h : d.row id = some r) : d.H.get id = some r.o := D.obj_get (D.row_obj h)
def D.tok (d : D) (id : Nat) : Option (List (List V) × TypeId) := bif Nat.blt id 250 then bA d.tk id else none
theorem D.tok_get {d : D} {id : Nat} {x : List (List V) × TypeId} (h : d.tok id = some x) : d.H.k.get id = some (tokC x) := by
  unfold D.tok at h
  cases hb : Nat.blt id 250 with
  | false => rw [hb] at h; cases h
  | true =>
    rw [hb] at h
    rw [Nat.blt_eq] at hb
    unfold D.H
    rw [mkH_k hb, lookG_map, show bA d.tk id = some x from h]; rfl

/-- the number of an element lies where it must -/
def V.inr : V → Prop
  | .eptr _ _ n i _ => i.toNat < n
  | _ => True
/-- a state of the machine, as told -/
structure Fits (P : Program) (sz : Nat) (d : D) (f : EFr) (h : H) : Prop where
  sz : f.sz = sz
  defers : f.defers = []
  round : f.round = none
  has : ∀ i, i < 1000 → f.tmps.has i
  tmps : ∀ i v, i < 1000 → bA d.fr i = some (some v) → f.tmps.get i = some (v.ct d.tk)
  inr : ∀ i v, bA d.fr i = some (some v) → v.inr
  heap : h = d.H
  lens : ∀ id els e s, bA d.tk id = some (els, e) → aR P e = some s → lensOK s (V.css els) = true

/-! constants -/
mutual
def ofE : EVal → Option V
  | .bool b => some (.bool b)
  | .int k n => some (.int k n)
  | .str l => some (.str l)
  | .nilslice => some .nils
  | .agg l => match ofEs l with
    | some l => some (.agg l)
    | none => none
  | .nilp => some (.raw .nilp)
  | .gptr a b => some (.raw (.gptr a b))
  | .nilmap => some (.raw .nilmap)
  | .nilfunc => some (.raw .nilfunc)
  | .nilif => some (.raw .nilif)
  | .func f [] => some (.raw (.func f []))
  | _ => none
def ofEs : List EVal → Option (List V)
  | [] => some []
  | e :: l => match ofE e, ofEs l with
    | some a, some b => some (a :: b)
    | _, _ => none
end
mutual
theorem ofE_c : ∀ {e : EVal} {v : V}, ofE e = some v → v.c = e ∧ ∀ tk, v.ct tk = e
  | .bool b, v, h => by simp only [ofE, Option.some.injEq] at h; subst h; exact ⟨by rw [V.c], fun _ => by rw [V.ct, V.c]; simp⟩
  | .int k n, v, h => by simp only [ofE, Option.some.injEq] at h; subst h; exact ⟨by rw [V.c], fun _ => by rw [V.ct, V.c]; simp⟩
  | .str l, v, h => by simp only [ofE, Option.some.injEq] at h; subst h; exact ⟨by rw [V.c], fun _ => by rw [V.ct, V.c]; simp⟩
  | .nilslice, v, h => by simp only [ofE, Option.some.injEq] at h; subst h; exact ⟨by rw [V.c], fun _ => by rw [V.ct, V.c]; simp⟩
  | .agg l, v, h => by
    simp only [ofE] at h
    split at h
    · rename_i l' hl
      simp only [Option.some.injEq] at h; subst h
      have := ofEs_c hl
      exact ⟨by rw [V.c, this], fun _ => by rw [V.ct, V.c, this]; simp⟩
    · cases h
  | .nilp, v, h => by simp only [ofE, Option.some.injEq] at h; subst h; exact ⟨by rw [V.c], fun _ => by rw [V.ct, V.c]; simp⟩
  | .gptr a b, v, h => by simp only [ofE, Option.some.injEq] at h; subst h; exact ⟨by rw [V.c], fun _ => by rw [V.ct, V.c]; simp⟩
  | .nilmap, v, h => by simp only [ofE, Option.some.injEq] at h; subst h; exact ⟨by rw [V.c], fun _ => by rw [V.ct, V.c]; simp⟩
  | .nilfunc, v, h => by simp only [ofE, Option.some.injEq] at h; subst h; exact ⟨by rw [V.c], fun _ => by rw [V.ct, V.c]; simp⟩
  | .nilif, v, h => by simp only [ofE, Option.some.injEq] at h; subst h; exact ⟨by rw [V.c], fun _ => by rw [V.ct, V.c]; simp⟩
  | .func f [], v, h => by simp only [ofE, Option.some.injEq] at h; subst h; exact ⟨by rw [V.c], fun _ => by rw [V.ct, V.c]; simp⟩
  | .func f (_ :: _), v, h => by simp [ofE] at h
  | .unk, v, h => by simp [ofE] at h
  | .ptr _ _, v, h => by simp [ofE] at h
  | .slice _ _ _ _, v, h => by simp [ofE] at h
  | .map _, v, h => by simp [ofE] at h
  | .yieldf _, v, h => by simp [ofE] at h
  | .iface _ _, v, h => by simp [ofE] at h
  | .tup _, v, h => by simp [ofE] at h
  | .lsl _, v, h => by simp [ofE] at h
  | .lptr _ _, v, h => by simp [ofE] at h
  | .gsl _ _, v, h => by simp [ofE] at h
theorem ofEs_c : ∀ {l : List EVal} {vs : List V}, ofEs l = some vs → V.cs vs = l
  | [], vs, h => by simp only [ofEs, Option.some.injEq] at h; subst h; rw [V.cs]
  | e :: l, vs, h => by
    simp only [ofEs] at h
    split at h
    · rename_i a b ha hb
      simp only [Option.some.injEq] at h; subst h
      rw [V.cs, (ofE_c ha).1, ofEs_c hb]
    · cases h
end

def dEv (d : D) : Operand → Option V
  | .tmp i => bif Nat.blt i 1000 then (match bA d.fr i with | some v => v | none => none) else none
  | .const v => match absV v with
    | some e => ofE e
    | none => none
  | .global g => some (.raw (.gptr g 0))
  | .func f => some (.raw (.func f []))
def dEvs (d : D) : List Operand → Option (List V)
  | [] => some []
  | x :: l => match dEv d x with
    | some a => match dEvs d l with
      | some b => some (a :: b)
      | none => none
    | none => none
def V.cts (tk : List (Nat × (List (List V) × TypeId))) (l : List V) : List EVal := l.map (V.ct tk)

section
variable {P : Program} {sz : Nat} {d : D} {f : EFr} {h : H}
theorem aZ (F : Fits P sz d f h) {x : Operand} {v : V} (hx : dEv d x = some v) : ev f.tmps x = some (v.ct d.tk) := by
  unfold dEv at hx
  split at hx
  · rename_i i
    cases hb : Nat.blt i 1000 with
    | false => rw [hb] at hx; cases hx
    | true =>
      rw [hb] at hx
      rw [Nat.blt_eq] at hb
      simp only [cond_true] at hx
      split at hx
      · rename_i v' hv
        subst hx
        exact F.tmps _ _ hb hv
      · cases hx
  · rename_i c
    split at hx
    · rename_i e he
      rw [ev, he, (ofE_c hx).2]
    · cases hx
  · simp only [Option.some.injEq] at hx; subst hx; rw [ev, V.ct, V.c]; simp
  · simp only [Option.some.injEq] at hx; subst hx; rw [ev, V.ct, V.c]; simp
theorem ofE_inr {e : EVal} {v : V} (h : ofE e = some v) : v.inr := by
  cases v with
  | eptr s a b c o =>
    unfold ofE at h
    split at h <;> first | (cases h; done) | (split at h <;> cases h)
  | _ => trivial
theorem dEv_inr (F : Fits P sz d f h) {x : Operand} {v : V} (hx : dEv d x = some v) : v.inr := by
  unfold dEv at hx
  split at hx
  · rename_i i
    cases hb : Nat.blt i 1000 with
    | false => rw [hb] at hx; cases hx
    | true =>
      rw [hb] at hx
      simp only [cond_true] at hx
      split at hx
      · rename_i v' hv
        subst hx
        exact F.inr _ _ hv
      · cases hx
  · split at hx
    · exact ofE_inr hx
    · cases hx
  · simp only [Option.some.injEq] at hx; subst hx; trivial
  · simp only [Option.some.injEq] at hx; subst hx; trivial
theorem dEvs_ok (F : Fits P sz d f h) : ∀ {l : List Operand} {vs : List V}, dEvs d l = some vs → evs f.tmps l = some (V.cts d.tk vs)
  | [], vs, hx => by simp only [dEvs, Option.some.injEq] at hx; subst hx; rfl
  | x :: l, vs, hx => by
    simp only [dEvs] at hx
    split at hx
    · rename_i a ha
      split at hx
      · rename_i b hb
        simp only [Option.some.injEq] at hx; subst hx
        rw [evs, aZ F ha, dEvs_ok F hb]; rfl
      · cases hx
    · cases hx
end

/-- a slice under way has no second name -/
def V.plain : V → Bool
  | .gl _ => false
  | _ => true
/-- a part of a value has no names under way -/
def V.safe : V → Bool
  | .gl _ => false
  | .eptr _ _ _ _ _ => false
  | _ => true
theorem V.safe_ok {v : V} (h : v.safe = true) : v.plain = true ∧ v.inr := by
  cases v <;> first | exact ⟨rfl, trivial⟩ | cases h
theorem V.ct_plain {v : V} (h : v.plain = true) (tk) : v.ct tk = v.c := by
  cases v <;> first | rfl | cases h
end
end Go.Ev
namespace Go.Ev
open Go.RowKit

/-! operations over values that are told by functions; conditions stand open -/
noncomputable section
/-- what a row takes in one cell -/
def V.one : V → Bool
  | .bool _ => true
  | .int _ _ => true
  | .str _ => true
  | .nils => true
  | .ptr _ _ => true
  | .sl _ _ _ _ => true
  | .fl _ _ => true
  | .el _ => true
  | .lptr _ _ => true
  | .raw .nilp => true
  | .raw (.gptr _ _) => true
  | .raw .nilmap => true
  | .raw .nilfunc => true
  | .raw .nilif => true
  | .raw (.func _ _) => true
  | _ => false
def ones : List V → Bool
  | [] => true
  | v :: l => bif v.one then ones l else false
def V.cells : V → Option (List V)
  | .agg l => bif ones l then some l else none
  | v => bif v.one then some [v] else none
theorem V.one_c {v : V} (h : v.one = true) : v.c.one = true ∧ v.c.cells = [v.c] := by
  unfold V.one at h
  split at h <;> first | (simp only [V.c]; exact ⟨rfl, rfl⟩) | cases h
theorem ones_c {l : List V} (h : ones l = true) : allOne (V.cs l) = true := by
  induction l with
  | nil => rw [V.cs]; rfl
  | cons v l ih =>
    simp only [ones] at h
    cases hv : v.one with
    | false => rw [hv] at h; cases h
    | true =>
      rw [hv] at h
      rw [V.cs, allOne, (V.one_c hv).1, ih h]; rfl
theorem V.cells_c {v : V} {l : List V} (h : v.cells = some l) : v.c.cells = V.cs l ∧ allOne (V.cs l) = true ∧ v.plain = true := by
  unfold V.cells at h
  split at h
  · rename_i l'
    cases ho : ones l' with
    | false => rw [ho] at h; cases h
    | true =>
      rw [ho] at h
      simp only [cond_true, Option.some.injEq] at h; subst h
      exact ⟨by rw [V.c]; rfl, ones_c ho, rfl⟩
  · rename_i hn
    cases ho : v.one with
    | false => rw [ho] at h; cases h
    | true =>
      rw [ho] at h
      simp only [cond_true, Option.some.injEq] at h; subst h
      obtain ⟨h1, h2⟩ := V.one_c ho
      refine ⟨by rw [h2, V.cs, V.cs], by rw [V.cs, V.cs, allOne, h1]; rfl, ?_⟩
      cases v <;> first | rfl | cases ho

def setV (cs : List V) (o : Nat) (vs : List V) : List V := cs.take o ++ vs ++ cs.drop (o + vs.length)
theorem setV_c (cs : List V) (o : Nat) (vs : List V) : V.cs (setV cs o vs) = setRange (V.cs cs) o (V.cs vs) := by
  unfold setV setRange
  rw [V.cs_append, V.cs_append, V.cs_length]
  simp only [V.cs_map, List.map_take, List.map_drop]

def fillV (place : Nat → Option (Nat × Nat)) (cells : List V) : List (Nat × V) → Option (List V)
  | [] => some cells
  | (i, v) :: rest =>
    match place i with
    | none => none
    | some (off, size) => match v.cells with
      | some vs => bif Nat.beq vs.length size && Nat.ble (off + size) cells.length then fillV place (setV cells off vs) rest else none
      | none => none
theorem fillV_c {place : Nat → Option (Nat × Nat)} : ∀ {ps : List (Nat × V)} {cells cs : List V}, fillV place cells ps = some cs → fillE place (V.cs cells) (ps.map fun p => (p.1, p.2.c)) = some (V.cs cs)
  | [], cells, cs, h => by simp only [fillV, Option.some.injEq] at h; subst h; rfl
  | (i, v) :: rest, cells, cs, h => by
    simp only [fillV] at h
    split at h
    · cases h
    · rename_i off size hp
      split at h
      · rename_i vs hvs
        cases hc : (Nat.beq vs.length size && Nat.ble (off + size) cells.length) with
        | false => rw [hc] at h; cases h
        | true =>
          rw [hc] at h
          simp only [Bool.and_eq_true, Nat.beq_eq, Nat.ble_eq] at hc
          have h1 : fillE place (V.cs (setV cells off vs)) (rest.map fun p => (p.1, p.2.c)) = some (V.cs cs) := fillV_c h
          rw [setV_c, ← (V.cells_c hvs).1] at h1
          simp only [List.map_cons, fillE, hp]
          rw [if_neg]
          · exact h1
          · rw [(V.cells_c hvs).1, V.cs_length, V.cs_length]; omega
      · cases h

def dParts (d : D) : List (Nat × Operand) → Option (List (Nat × V))
  | [] => some []
  | (i, x) :: l => match dEv d x with
    | some a => match dParts d l with
      | some b => some ((i, a) :: b)
      | none => none
    | none => none
def plainsP : List (Nat × V) → Bool
  | [] => true
  | (_, v) :: l => bif v.plain then plainsP l else false
theorem dParts_ok {P : Program} {sz : Nat} {d : D} {f : EFr} {h : H} (F : Fits P sz d f h) : ∀ {l : List (Nat × Operand)} {vs : List (Nat × V)}, dParts d l = some vs → plainsP vs = true → evParts f.tmps l = some (vs.map fun p => (p.1, p.2.c))
  | [], vs, hx, _ => by simp only [dParts, Option.some.injEq] at hx; subst hx; rfl
  | (i, x) :: l, vs, hx, hp => by
    simp only [dParts] at hx
    split at hx
    · rename_i a ha
      split at hx
      · rename_i b hb
        simp only [Option.some.injEq] at hx; subst hx
        simp only [plainsP] at hp
        cases hv : a.plain with
        | false => rw [hv] at hp; cases hp
        | true =>
          rw [hv] at hp
          rw [evParts, aZ F ha, dParts_ok F hb hp, V.ct_plain hv]; rfl
      · cases hx
    · cases hx

/-- as it stands for good -/
def V.keep1 : V → Option V
  | .el els => some (.el els)
  | .fl n f => some (.fl n f)
  | .lptr cs o => some (.lptr cs o)
  | .bool b => some (.bool b)
  | .int k n => some (.int k n)
  | .str l => some (.str l)
  | .nils => some (.el [])
  | .raw .nilp => some (.raw .nilp)
  | .raw (.gptr a b) => some (.raw (.gptr a b))
  | .raw .nilmap => some (.raw .nilmap)
  | .raw .nilfunc => some (.raw .nilfunc)
  | .raw .nilif => some (.raw .nilif)
  | .raw (.func f []) => some (.raw (.func f []))
  | _ => none
def keepsV : List V → Option (List V)
  | [] => some []
  | v :: l => match v.keep1 with
    | some a => match keepsV l with
      | some b => some (a :: b)
      | none => none
    | none => none
theorem V.keep1_c {v w : V} (h : v.keep1 = some w) : Go.Ev.keep1 v.c = some w.c ∧ w.plain = true ∧ v.plain = true ∧ (∀ l, v ≠ .agg l) ∧ (∀ l, v ≠ .tup l) ∧ (∀ a b c e, v ≠ .sl a b c e) ∧ w.c.one = true := by
  unfold V.keep1 at h
  split at h <;> first | (simp only [Option.some.injEq] at h; subst h; refine ⟨by simp only [V.c, V.css]; rfl, rfl, rfl, by simp, by simp, by simp, by simp only [V.c]; rfl⟩) | cases h
theorem keepsV_c : ∀ {l m : List V}, keepsV l = some m → keepL (V.cs l) = some (V.cs m) ∧ m.length = l.length ∧ allOne (V.cs m) = true
  | [], m, h => by simp only [keepsV, Option.some.injEq] at h; subst h; rw [V.cs]; exact ⟨rfl, rfl, rfl⟩
  | v :: l, m, h => by
    simp only [keepsV] at h
    split at h
    · rename_i a ha
      split at h
      · rename_i b hb
        simp only [Option.some.injEq] at h; subst h
        obtain ⟨h1, h2, h3⟩ := keepsV_c hb
        obtain ⟨k1, _, _, _, _, _, k7⟩ := V.keep1_c ha
        simp only [V.cs, keepL, k1, h1, allOne, k7, h3, List.length_cons, h2]
        exact ⟨trivial, trivial, rfl⟩
      · cases h
    · cases h
def chunkV (sz : Nat) : Nat → List V → List (List V)
  | 0, _ => []
  | n + 1, l => l.take sz :: chunkV sz n (l.drop sz)
theorem chunkV_c (sz : Nat) : ∀ (n : Nat) (l : List V), V.css (chunkV sz n l) = bI sz n (V.cs l)
  | 0, l => by rw [chunkV, V.css]; rfl
  | n + 1, l => by
    rw [chunkV, V.css, chunkV_c sz n, bI]
    simp only [V.cs_map, List.map_take, List.map_drop]
theorem chunkV_length (sz : Nat) : ∀ (n : Nat) (l : List V), (chunkV sz n l).length = n
  | 0, l => rfl
  | n + 1, l => by rw [chunkV, List.length_cons, chunkV_length]

/-- one of several values, by a number -/
def selInts (k : IntKind) : List V → Option (List Int)
  | [] => some []
  | .int k' n :: l => match selInts k l with
    | some m => if k' = k then some (n :: m) else none
    | none => none
  | _ :: _ => none
def selBools : List V → Option (List Bool)
  | [] => some []
  | .bool n :: l => match selBools l with
    | some m => some (n :: m)
    | none => none
  | _ :: _ => none
def selStrs : List V → Option (List (List Nat))
  | [] => some []
  | .str n :: l => match selStrs l with
    | some m => some (n :: m)
    | none => none
  | _ :: _ => none
def selV (l : List V) (i : Int) : Option V :=
  match l with
  | .int k _ :: _ => match selInts k l with
    | some m => some (.int k (m.getD i.toNat 0))
    | none => none
  | .bool _ :: _ => match selBools l with
    | some m => some (.bool (m.getD i.toNat false))
    | none => none
  | .str _ :: _ => match selStrs l with
    | some m => some (.str (m.getD i.toNat []))
    | none => none
  | _ => none
theorem selInts_c {k : IntKind} : ∀ {l : List V} {m : List Int}, selInts k l = some m → l = m.map (V.int k)
  | [], m, h => by simp only [selInts, Option.some.injEq] at h; subst h; rfl
  | .int k' n :: l, m, h => by
    simp only [selInts] at h
    split at h
    · rename_i m' hm
      split at h
      · rename_i hk
        simp only [Option.some.injEq] at h; subst h; subst hk
        rw [selInts_c hm]; rfl
      · cases h
    · cases h
  | .raw _ :: _, m, h => by simp [selInts] at h
  | .bool _ :: _, m, h => by simp [selInts] at h
  | .str _ :: _, m, h => by simp [selInts] at h
  | .nils :: _, m, h => by simp [selInts] at h
  | .ptr _ _ :: _, m, h => by simp [selInts] at h
  | .sl _ _ _ _ :: _, m, h => by simp [selInts] at h
  | .agg _ :: _, m, h => by simp [selInts] at h
  | .tup _ :: _, m, h => by simp [selInts] at h
  | .fl _ _ :: _, m, h => by simp [selInts] at h
  | .el _ :: _, m, h => by simp [selInts] at h
  | .gl _ :: _, m, h => by simp [selInts] at h
  | .lptr _ _ :: _, m, h => by simp [selInts] at h
  | .eptr _ _ _ _ _ :: _, m, h => by simp [selInts] at h
theorem selBools_c : ∀ {l : List V} {m : List Bool}, selBools l = some m → l = m.map V.bool
  | [], m, h => by simp only [selBools, Option.some.injEq] at h; subst h; rfl
  | .bool n :: l, m, h => by
    simp only [selBools] at h
    split at h
    · rename_i m' hm
      simp only [Option.some.injEq] at h; subst h
      rw [selBools_c hm]; rfl
    · cases h
  | .raw _ :: _, m, h => by simp [selBools] at h
  | .int _ _ :: _, m, h => by simp [selBools] at h
  | .str _ :: _, m, h => by simp [selBools] at h
  | .nils :: _, m, h => by simp [selBools] at h
  | .ptr _ _ :: _, m, h => by simp [selBools] at h
  | .sl _ _ _ _ :: _, m, h => by simp [selBools] at h
  | .agg _ :: _, m, h => by simp [selBools] at h
  | .tup _ :: _, m, h => by simp [selBools] at h
  | .fl _ _ :: _, m, h => by simp [selBools] at h
  | .el _ :: _, m, h => by simp [selBools] at h
  | .gl _ :: _, m, h => by simp [selBools] at h
  | .lptr _ _ :: _, m, h => by simp [selBools] at h
  | .eptr _ _ _ _ _ :: _, m, h => by simp [selBools] at h
theorem selStrs_c : ∀ {l : List V} {m : List (List Nat)}, selStrs l = some m → l = m.map V.str
  | [], m, h => by simp only [selStrs, Option.some.injEq] at h; subst h; rfl
  | .str n :: l, m, h => by
    simp only [selStrs] at h
    split at h
    · rename_i m' hm
      simp only [Option.some.injEq] at h; subst h
      rw [selStrs_c hm]; rfl
    · cases h
  | .raw _ :: _, m, h => by simp [selStrs] at h
  | .int _ _ :: _, m, h => by simp [selStrs] at h
  | .bool _ :: _, m, h => by simp [selStrs] at h
  | .nils :: _, m, h => by simp [selStrs] at h
  | .ptr _ _ :: _, m, h => by simp [selStrs] at h
  | .sl _ _ _ _ :: _, m, h => by simp [selStrs] at h
  | .agg _ :: _, m, h => by simp [selStrs] at h
  | .tup _ :: _, m, h => by simp [selStrs] at h
  | .fl _ _ :: _, m, h => by simp [selStrs] at h
  | .el _ :: _, m, h => by simp [selStrs] at h
  | .gl _ :: _, m, h => by simp [selStrs] at h
  | .lptr _ _ :: _, m, h => by simp [selStrs] at h
  | .eptr _ _ _ _ _ :: _, m, h => by simp [selStrs] at h
theorem selV_c {l : List V} {i : Int} {w : V} (h : selV l i = some w) (hi : i.toNat < l.length) : l[i.toNat]? = some w ∧ w.plain = true := by
  unfold selV at h
  split at h
  · split at h
    · rename_i m hm
      simp only [Option.some.injEq] at h; subst h
      have := selInts_c hm
      rw [this] at hi ⊢
      simp only [List.length_map] at hi
      refine ⟨?_, rfl⟩
      rw [List.getElem?_map, List.getElem?_eq_getElem hi, List.getD_eq_getElem?_getD, List.getElem?_eq_getElem hi]; rfl
    · cases h
  · split at h
    · rename_i m hm
      simp only [Option.some.injEq] at h; subst h
      have := selBools_c hm
      rw [this] at hi ⊢
      simp only [List.length_map] at hi
      refine ⟨?_, rfl⟩
      rw [List.getElem?_map, List.getElem?_eq_getElem hi, List.getD_eq_getElem?_getD, List.getElem?_eq_getElem hi]; rfl
    · cases h
  · split at h
    · rename_i m hm
      simp only [Option.some.injEq] at h; subst h
      have := selStrs_c hm
      rw [this] at hi ⊢
      simp only [List.length_map] at hi
      refine ⟨?_, rfl⟩
      rw [List.getElem?_map, List.getElem?_eq_getElem hi, List.getD_eq_getElem?_getD, List.getElem?_eq_getElem hi]; rfl
    · cases h
  · cases h
/-- the cells of the same place of n elements -/
def candV (cs : List V) (sz off : Nat) : Nat → Nat → Option (List V)
  | 0, _ => some []
  | n + 1, o => match cs[o + off]? with
    | some v => match candV cs sz off n (o + sz) with
      | some l => some (v :: l)
      | none => none
    | none => none
theorem candV_get {cs : List V} {sz off : Nat} : ∀ {n o : Nat} {l : List V}, candV cs sz off n o = some l → l.length = n ∧ ∀ i, i < n → l[i]? = cs[o + i * sz + off]?
  | 0, o, l, h => by simp only [candV, Option.some.injEq] at h; subst h; exact ⟨rfl, fun i hi => by omega⟩
  | n + 1, o, l, h => by
    simp only [candV] at h
    split at h
    · rename_i v hv
      split at h
      · rename_i l' hl
        simp only [Option.some.injEq] at h; subst h
        obtain ⟨h1, h2⟩ := candV_get hl
        refine ⟨by simp [h1], fun i hi => ?_⟩
        cases i with
        | zero => simp [hv]
        | succ i =>
          rw [List.getElem?_cons_succ, h2 i (by omega)]
          congr 1
          rw [Nat.succ_mul]; omega
      · cases h
    · cases h
/-- so many cells from a place that a number tells -/
def selsV (cs : List V) (sz n o : Nat) (i : Int) : Nat → Nat → Option (List V)
  | 0, _ => some []
  | k + 1, off => match candV cs sz off n o with
    | some l => match selV l i with
      | some v => match selsV cs sz n o i k (off + 1) with
        | some r => some (v :: r)
        | none => none
      | none => none
    | none => none
theorem selsV_c {cs : List V} {sz n o : Nat} {i : Int} (hi : i.toNat < n) : ∀ {k off : Nat} {r : List V}, selsV cs sz n o i k off = some r → r = (cs.drop (o + i.toNat * sz + off)).take k ∧ r.length = k
  | 0, off, r, h => by simp only [selsV, Option.some.injEq] at h; subst h; simp
  | k + 1, off, r, h => by
    simp only [selsV] at h
    split at h
    · rename_i l hl
      split at h
      · rename_i v hv
        split at h
        · rename_i r' hr
          simp only [Option.some.injEq] at h; subst h
          obtain ⟨h1, h2⟩ := candV_get hl
          have h3 := (selV_c hv (by rw [h1]; exact hi)).1
          rw [h2 _ hi] at h3
          obtain ⟨h4, h5⟩ := selsV_c hi hr
          refine ⟨?_, by simp [h5]⟩
          obtain ⟨h6, h7⟩ := List.getElem?_eq_some_iff.1 h3
          rw [List.drop_eq_getElem_cons h6, List.take_succ_cons, h7, h4]
          rw [show o + i.toNat * sz + off + 1 = o + i.toNat * sz + (off + 1) by omega]
        · cases h
      · cases h
    · cases h
variable {R : Type} {r : R}
theorem aI {c : Bool} {a : Option R} (h : cond c a none = some r) : c = true ∧ a = some r := by
  cases c with
  | true => exact ⟨rfl, h⟩
  | false => cases h
theorem cond_some' {c : Bool} {a : Option R} (h : cond c none a = some r) : c = false ∧ a = some r := by
  cases c with
  | true => cases h
  | false => exact ⟨rfl, h⟩

def takeV (cs : List V) (o n : Nat) : Option (List V) := bif Nat.beq ((cs.drop o).take n).length n then some ((cs.drop o).take n) else none
theorem takeV_c {cs r : List V} {o n : Nat} (h : takeV cs o n = some r) : takeN (V.cs cs) o n = some (V.cs r) := by
  unfold takeV at h
  obtain ⟨h1, h2⟩ := aI h
  simp only [Option.some.injEq] at h2; subst h2
  simp only [Nat.beq_eq] at h1
  have e : V.cs ((cs.drop o).take n) = ((V.cs cs).drop o).take n := by simp only [V.cs_map, List.map_take, List.map_drop]
  unfold takeN
  simp only
  rw [e, if_pos]
  rw [← e, V.cs_length, h1]
/-- values of a struct or an array, cell by cell; that the type is one of plain cells is asked beforehand -/
def eqV : V → V → Option Bool
  | .int _ a, .int _ b => some (a == b)
  | .bool a, .bool b => some (a == b)
  | .str a, .str b => some (decide (a = b))
  | _, _ => none
def eqVs : List V → List V → Option Bool
  | [], [] => some true
  | a :: l, b :: m => match eqV a b with
    | some q => match eqVs l m with
      | some s => some (q && s)
      | none => none
    | none => none
  | _, _ => none
end
end Go.Ev
namespace Go.Ev
open Go.RowKit

/-! structs and arrays of plain cells, compared cell by cell -/
noncomputable section
/-- 0 a number, 1 a bool, 2 a string -/
def kindB (P : Program) (t : TypeId) : Option Nat := match P.underlying t with
  | some (.int _) => some 0
  | some .bool => some 1
  | some .string => some 2
  | _ => none
def kindV : Nat → V → Bool
  | 0, .int k _ => decide (k = .i64)
  | 1, .bool _ => true
  | 2, .str _ => true
  | _, _ => false
def kindsV : List Nat → List V → Bool
  | [], [] => true
  | k :: ks, v :: vs => bif kindV k v then kindsV ks vs else false
  | _, _ => false
theorem eqBasic_of {P : Program} {t : TypeId} {k : Nat} (hk : kindB P t = some k) {a b : V} (ha : kindV k a = true) (hb : kindV k b = true) : ∃ q, eqV a b = some q ∧ eqBasic P t a.c b.c = some q := by
  unfold kindB at hk
  split at hk
  · rename_i kk hu
    cases hk
    cases a <;> first | (simp [kindV] at ha; done) | skip
    cases b <;> first | (simp [kindV] at hb; done) | skip
    rename_i k1 n1 k2 n2
    simp only [kindV, decide_eq_true_eq] at ha hb
    subst ha hb
    exact ⟨n1 == n2, rfl, by simp only [eqBasic, hu, V.c, eqIntE, if_true]⟩
  · rename_i hu
    cases hk
    cases a <;> first | (simp [kindV] at ha; done) | skip
    cases b <;> first | (simp [kindV] at hb; done) | skip
    rename_i n1 n2
    exact ⟨n1 == n2, rfl, by simp only [eqBasic, hu, V.c, eqBoolE]⟩
  · rename_i hu
    cases hk
    cases a <;> first | (simp [kindV] at ha; done) | skip
    cases b <;> first | (simp [kindV] at hb; done) | skip
    rename_i n1 n2
    exact ⟨decide (n1 = n2), rfl, by simp only [eqBasic, hu, V.c, eqStrE]⟩
  · cases hk
/-- n cells of one type -/
theorem eqItems_of {P : Program} {e : TypeId} {k : Nat} (hk : kindB P e = some k) : ∀ {n : Nat} {xs ys : List V} {ks : List Nat}, kindsV (List.replicate n k ++ ks) xs = true → kindsV (List.replicate n k ++ ks) ys = true →
    ∃ q, eqVs (xs.take n) (ys.take n) = some q ∧ eqItemsE P e (V.cs (xs.take n)) (V.cs (ys.take n)) = some q ∧ (xs.take n).length = n ∧ (ys.take n).length = n ∧ kindsV ks (xs.drop n) = true ∧ kindsV ks (ys.drop n) = true
  | 0, xs, ys, ks, hx, hy => ⟨true, by simp only [List.take_zero]; rfl, by simp only [List.take_zero, V.cs]; rfl, rfl, rfl, hx, hy⟩
  | n + 1, xs, ys, ks, hx, hy => by
    cases xs with
    | nil => cases hx
    | cons a xs =>
      cases ys with
      | nil => cases hy
      | cons b ys =>
        simp only [List.replicate_succ, List.cons_append, kindsV] at hx hy
        obtain ⟨ha, hx⟩ : kindV k a = true ∧ kindsV (List.replicate n k ++ ks) xs = true := by cases h : kindV k a <;> rw [h] at hx <;> first | cases hx | exact ⟨rfl, hx⟩
        obtain ⟨hb, hy⟩ : kindV k b = true ∧ kindsV (List.replicate n k ++ ks) ys = true := by cases h : kindV k b <;> rw [h] at hy <;> first | cases hy | exact ⟨rfl, hy⟩
        obtain ⟨q1, h1, h2⟩ := eqBasic_of hk ha hb
        obtain ⟨q2, h3, h4, h5, h6, h7, h8⟩ := eqItems_of hk hx hy
        refine ⟨q1 && q2, ?_, ?_, by simp [h5], by simp [h6], h7, h8⟩
        · simp only [List.take_succ_cons, eqVs, h1, h3]
        · simp only [List.take_succ_cons, V.cs, eqItemsE, h2]
          cases q1
          · rfl
          · simp only [h4, Bool.true_and]
/-- the kinds of the cells of fields that follow one another from a place on -/
def kindsF (P : Program) : List Field → Nat → Option (List Nat)
  | [], _ => some []
  | f :: fs, o => bif Nat.beq f.offset o && !decide (f.name = "_") then
      match aggT P f.type with
      | some true => match P.underlying f.type with
        | some (.array n e) => match aR P f.type with
          | some s => bif Nat.beq s n then match aR P e with
            | some 1 => match kindB P e with
              | some k => match kindsF P fs (o + n) with
                | some ks => some (List.replicate n k ++ ks)
                | none => none
              | none => none
            | _ => none
            else none
          | none => none
        | _ => none
      | some false => match kindB P f.type with
        | some k => match kindsF P fs (o + 1) with
          | some ks => some (k :: ks)
          | none => none
        | none => none
      | none => none
    else none
theorem eqVs_append {a b c d : List V} {p q : Bool} (h1 : eqVs a c = some p) (h2 : eqVs b d = some q) : eqVs (a ++ b) (c ++ d) = some (p && q) := by
  induction a generalizing c p with
  | nil =>
    cases c with
    | nil => simp only [eqVs, Option.some.injEq] at h1; subst h1; simpa using h2
    | cons _ _ => cases h1
  | cons x a ih =>
    cases c with
    | nil => cases h1
    | cons y c =>
      simp only [eqVs] at h1
      split at h1
      · rename_i q1 hq1
        split at h1
        · rename_i s hs
          cases h1
          simp only [List.cons_append, eqVs, hq1, ih hs, Bool.and_assoc]
        · cases h1
      · cases h1
theorem eqFields_of {P : Program} : ∀ {fs : List Field} {o : Nat} {ks : List Nat}, kindsF P fs o = some ks → ∀ {xs ys : List V}, kindsV ks (xs.drop o) = true → kindsV ks (ys.drop o) = true →
    ∃ q, eqVs (xs.drop o) (ys.drop o) = some q ∧ eqFieldsE P fs (V.cs xs) (V.cs ys) = some q
  | [], o, ks, h, xs, ys, hx, hy => by
    simp only [kindsF, Option.some.injEq] at h; subst h
    refine ⟨true, ?_, rfl⟩
    cases hx' : xs.drop o with
    | nil =>
      cases hy' : ys.drop o with
      | nil => rfl
      | cons _ _ => rw [hy'] at hy; cases hy
    | cons _ _ => rw [hx'] at hx; cases hx
  | f :: fs, o, ks, h, xs, ys, hx, hy => by
    simp only [kindsF] at h
    obtain ⟨hc, h⟩ := aI h
    simp only [Bool.and_eq_true, Nat.beq_eq, Bool.not_eq_true', decide_eq_false_iff_not] at hc
    obtain ⟨ho, hnm⟩ := hc
    split at h
    · rename_i hagg
      split at h
      · rename_i n e hu
        split at h
        · rename_i s hs
          obtain ⟨hsn, h⟩ := aI h
          simp only [Nat.beq_eq] at hsn
          split at h
          · rename_i he1
            split at h
            · rename_i k hk
              split at h
              · rename_i ks' hks
                cases h
                obtain ⟨q1, h1, h2, h3, h4, h5, h6⟩ := eqItems_of hk hx hy
                rw [List.drop_drop] at h5 h6
                obtain ⟨q2, h7, h8⟩ := eqFields_of hks h5 h6
                refine ⟨q1 && q2, ?_, ?_⟩
                · have e1 := eqVs_append h1 h7
                  rw [← List.drop_drop, ← List.drop_drop, List.take_append_drop, List.take_append_drop] at e1
                  exact e1
                · have tx : takeN (V.cs xs) o n = some (V.cs ((xs.drop o).take n)) := takeV_c (by unfold takeV; rw [h3, Nat.beq_refl]; rfl)
                  have ty : takeN (V.cs ys) o n = some (V.cs ((ys.drop o).take n)) := takeV_c (by unfold takeV; rw [h4, Nat.beq_refl]; rfl)
                  simp only [eqFieldsE, if_neg hnm, eqPartE, hagg, ho, eqArrE, hu, hs, hsn, if_true, he1, tx, ty, h2]
                  cases q1
                  · rfl
                  · simp only [h8, Bool.true_and]
              · cases h
            · cases h
          · cases h
        · cases h
      · cases h
    · rename_i hagg
      split at h
      · rename_i k hk
        split at h
        · rename_i ks' hks
          cases h
          obtain ⟨q1, h1, h2, h3, h4, h5, h6⟩ := eqItems_of (n := 1) hk (show kindsV (List.replicate 1 k ++ ks') (xs.drop o) = true from hx) (show kindsV (List.replicate 1 k ++ ks') (ys.drop o) = true from hy)
          rw [List.drop_drop] at h5 h6
          obtain ⟨q2, h7, h8⟩ := eqFields_of hks h5 h6
          refine ⟨q1 && q2, ?_, ?_⟩
          · have e1 := eqVs_append h1 h7
            rw [← List.drop_drop, ← List.drop_drop, List.take_append_drop, List.take_append_drop] at e1
            exact e1
          · obtain ⟨a, ha⟩ : ∃ a, xs[o]? = some a := by
              cases hq : xs.drop o with
              | nil => rw [hq] at h3; cases h3
              | cons a l => exact ⟨a, by rw [← List.head?_drop, hq]; rfl⟩
            obtain ⟨b, hb⟩ : ∃ b, ys[o]? = some b := by
              cases hq : ys.drop o with
              | nil => rw [hq] at h4; cases h4
              | cons a l => exact ⟨a, by rw [← List.head?_drop, hq]; rfl⟩
            have tx : (xs.drop o).take 1 = [a] := by rw [List.drop_eq_getElem_cons (List.getElem?_eq_some_iff.1 ha).1]; simp [(List.getElem?_eq_some_iff.1 ha).2]
            have ty : (ys.drop o).take 1 = [b] := by rw [List.drop_eq_getElem_cons (List.getElem?_eq_some_iff.1 hb).1]; simp [(List.getElem?_eq_some_iff.1 hb).2]
            rw [tx, ty] at h2
            simp only [V.cs, eqItemsE] at h2
            have h9 : eqBasic P f.type a.c b.c = some q1 := by
              cases hq : eqBasic P f.type a.c b.c with
              | none => rw [hq] at h2; cases h2
              | some z => rw [hq] at h2; cases z <;> simp_all
            simp only [eqFieldsE, if_neg hnm, eqPartE, hagg, ho, V.cs_get, ha, hb, Option.map_some, h9]
            cases q1
            · rfl
            · simp only [h8, Bool.true_and]
        · cases h
      · cases h
    · cases h
/-- what the cells of a type are, where its values may be compared -/
def kindsT (P : Program) (t : TypeId) : Option (List Nat) := match P.eqGuardType P.depth t with
  | true => none
  | false => match P.underlying t with
    | some (.struct fs) => match P.stoodInHeld t with
      | true => none
      | false => kindsF P fs.toList 0
    | some (.array n e) => match aR P e with
      | some 1 => match kindB P e with
        | some k => some (List.replicate n k)
        | none => none
      | _ => none
    | _ => none
theorem eqAgg_of {P : Program} {t : TypeId} {ks : List Nat} (h : kindsT P t = some ks) {xs ys : List V} (hx : kindsV ks xs = true) (hy : kindsV ks ys = true) {q : Bool} (hq : eqVs xs ys = some q) : eqX P t (.agg (V.cs xs)) (.agg (V.cs ys)) = some q := by
  unfold kindsT at h
  split at h
  · cases h
  · rename_i hg
    split at h
    · rename_i fs hu
      split at h
      · cases h
      · rename_i hh
        obtain ⟨q', h1, h2⟩ := eqFields_of h (xs := xs) (ys := ys) hx hy
        rw [List.drop_zero, List.drop_zero, hq] at h1
        cases h1
        simp only [eqX, hu, eqAgg, hg, hh, h2]
    · rename_i n e hu
      split at h
      · rename_i hs
        split at h
        · rename_i k hk
          cases h
          obtain ⟨q', h1, h2, h3, h4, h5, h6⟩ := eqItems_of (n := n) (ks := []) hk (by simpa using hx) (by simpa using hy)
          have lx : xs.take n = xs := by
            have : xs.drop n = [] := by cases hd : xs.drop n with
              | nil => rfl
              | cons _ _ => rw [hd] at h5; cases h5
            conv => rhs; rw [← List.take_append_drop n xs, this, List.append_nil]
          have ly : ys.take n = ys := by
            have : ys.drop n = [] := by cases hd : ys.drop n with
              | nil => rfl
              | cons _ _ => rw [hd] at h6; cases h6
            conv => rhs; rw [← List.take_append_drop n ys, this, List.append_nil]
          rw [lx] at h1 h2 h3
          rw [ly] at h1 h2 h4
          rw [hq] at h1
          cases h1
          simp only [eqX, hu, eqAgg, hg, hs]
          rw [if_pos ⟨by rw [V.cs_length]; exact h3, by rw [V.cs_length]; exact h4⟩]
          exact h2
        · cases h
      · cases h
    · cases h
end
end Go.Ev
namespace Go.Ev
open Go.RowKit

noncomputable section
variable {R : Type} {r : R}
/-! numbers -/
def dInt (op : BinOp) (k : IntKind) (a b : Int) (kk : V → Option R) : Option R :=
  match op with
  | .add => kk (.int k (k.wrap (a + b)))
  | .sub => kk (.int k (k.wrap (a - b)))
  | .mul => kk (.int k (k.wrap (a * b)))
  | .quo => cond (decide (b = 0)) none (kk (.int k (k.wrap (a.tdiv b))))
  | .rem => cond (decide (b = 0)) none (kk (.int k (a.tmod b)))
  | .eql => kk (.bool (a == b))
  | .neq => kk (.bool (!(a == b)))
  | .lss => kk (.bool (decide (a < b)))
  | .leq => kk (.bool (decide (a ≤ b)))
  | .gtr => kk (.bool (decide (b < a)))
  | .geq => kk (.bool (decide (b ≤ a)))
  | _ => none
theorem dInt_ok {op : BinOp} {k : IntKind} {a b : Int} {kk : V → Option R} (h : dInt op k a b kk = some r) : ∃ w : V, eInt2 op k k a b = some w.c ∧ w.safe = true ∧ kk w = some r := by
  unfold dInt at h
  split at h
  all_goals first
    | (refine ⟨_, ?_, rfl, h⟩; simp only [eInt2, eInt, if_true, V.c]; done)
    | (obtain ⟨h1, h2⟩ := cond_some' h; refine ⟨_, ?_, rfl, h2⟩; simp only [decide_eq_false_iff_not] at h1; simp only [eInt2, eInt, if_true, V.c, if_neg h1]; done)
    | (refine ⟨_, ?_, rfl, h⟩; simp only [eInt2, eInt, if_true, V.c]; rfl)
    | cases h
def dStr (op : BinOp) (a b : List Nat) (kk : V → Option R) : Option R :=
  match op with
  | .add => cond (decide (a.length + b.length < 1000000000)) (kk (.str (a ++ b))) none
  | .eql => kk (.bool (decide (a = b)))
  | .neq => kk (.bool (!decide (a = b)))
  | .lss => kk (.bool (lessL a b))
  | .leq => kk (.bool (lessL a b || decide (a = b)))
  | .gtr => kk (.bool (!(lessL a b || decide (a = b))))
  | .geq => kk (.bool (!lessL a b))
  | _ => none
theorem dStr_ok {op : BinOp} {a b : List Nat} {kk : V → Option R} (h : dStr op a b kk = some r) : ∃ w : V, eStr op a b = some w.c ∧ w.safe = true ∧ kk w = some r := by
  unfold dStr at h
  split at h
  all_goals first
    | (refine ⟨_, ?_, rfl, h⟩; simp only [eStr, V.c]; done)
    | (obtain ⟨h1, h2⟩ := aI h; refine ⟨_, ?_, rfl, h2⟩; simp only [decide_eq_true_eq] at h1; simp only [eStr, V.c, if_pos h1]; done)
    | cases h
/-- what is compared with nil, and with other things than numbers and strings -/
def dEqX (P : Program) (t : TypeId) (a b : V) : Option Bool :=
  match P.underlying t with
  | some .bool => match a, b with
    | .bool x, .bool y => some (x == y)
    | _, _ => none
  | some (.pointer e) => bif (aR P e).isSome then
      match a, b with
      | .raw .nilp, .ptr _ _ => some false
      | .ptr _ _, .raw .nilp => some false
      | .raw .nilp, .raw .nilp => some true
      | _, _ => none
    else none
  | some (.slice _) => match a, b with
    | .nils, .nils => some true
    | .sl _ _ _ _, .nils => some false
    | .nils, .sl _ _ _ _ => some false
    | .el (_ :: _), .nils => some false
    | _, _ => none
  | some (.func _ _ _) => match a, b with
    | .raw .nilfunc, .raw .nilfunc => some true
    | .raw (.func _ _), .raw .nilfunc => some false
    | .raw .nilfunc, .raw (.func _ _) => some false
    | _, _ => none
  | _ => none
theorem dEqX_ok {P : Program} {t : TypeId} {a b : V} {q : Bool} (h : dEqX P t a b = some q) : eqX P t a.c b.c = some q ∧ a.plain = true ∧ b.plain = true ∧ (∀ k n, a ≠ .int k n) ∧ (∀ l, a ≠ .str l) := by
  unfold dEqX at h
  split at h
  · rename_i hu
    split at h
    · simp only [Option.some.injEq] at h; subst h
      refine ⟨by simp only [eqX, hu, V.c, eqBoolE], rfl, rfl, by simp, by simp⟩
    · cases h
  · rename_i e hu
    cases hs : (aR P e).isSome with
    | false => rw [hs] at h; cases h
    | true =>
      rw [hs] at h
      simp only [cond_true] at h
      split at h <;> first | (simp only [Option.some.injEq] at h; subst h; refine ⟨by simp only [eqX, hu, V.c, hs, if_true, eqNil], rfl, rfl, by simp, by simp⟩) | cases h
  · rename_i e hu
    split at h <;> first | (simp only [Option.some.injEq] at h; subst h; refine ⟨by simp only [eqX, hu, V.c, V.css, eqNilS], rfl, rfl, by simp, by simp⟩) | cases h
  · rename_i hu
    split at h <;> first | (simp only [Option.some.injEq] at h; subst h; refine ⟨by simp only [eqX, hu, V.c, eqNilF], rfl, rfl, by simp, by simp⟩) | cases h
  · cases h
/-- the types whose values are compared so -/
def EqT (P : Program) (T : TypeId → Option (List Nat)) : Prop := ∀ t ks, T t = some ks → kindsT P t = some ks

def dBin (P : Program) (T : TypeId → Option (List Nat)) (op : BinOp) (t : TypeId) (x y : V) (kk : V → Option R) : Option R :=
  match x with
  | .int k a => match y with
    | .int k' b => bif decide (k = k') then dInt op k a b kk else none
    | _ => none
  | .str a => match y with
    | .str b => dStr op a b kk
    | _ => none
  | .agg xs => match y with
    | .agg ys => match T t with
      | some ks => bif kindsV ks xs && kindsV ks ys then match eqVs xs ys with
        | some q => match op with
          | .eql => kk (.bool q)
          | .neq => kk (.bool (!q))
          | _ => none
        | none => none
        else none
      | none => none
    | _ => none
  | x => match dEqX P t x y with
    | some q => match op with
      | .eql => kk (.bool q)
      | .neq => kk (.bool (!q))
      | _ => none
    | none => none
theorem eBin_other {P : Program} {op : BinOp} {t : TypeId} {x y : EVal} (h1 : ∀ k n, x ≠ .int k n) (h2 : ∀ l, x ≠ .str l) : eBin P op t x y = eOther P op t x y := by
  unfold eBin
  split
  · rename_i k n; exact absurd rfl (h1 k n)
  · rename_i l; exact absurd rfl (h2 l)
  · rfl
theorem dEqX_shape {P : Program} {t : TypeId} {a b : V} {q : Bool} (h : dEqX P t a b = some q) : (∀ k n, a.c ≠ .int k n) ∧ (∀ l, a.c ≠ .str l) := by
  unfold dEqX at h
  split at h
  · split at h
    · exact ⟨by simp [V.c], by simp [V.c]⟩
    · cases h
  · rename_i e _
    cases hs : (aR P e).isSome with
    | false => rw [hs] at h; cases h
    | true =>
      rw [hs] at h
      simp only [cond_true] at h
      split at h <;> first | (cases h; done) | exact ⟨by simp [V.c], by simp [V.c]⟩
  · split at h <;> first | (cases h; done) | exact ⟨by simp [V.c], by simp [V.c]⟩
  · split at h <;> first | (cases h; done) | exact ⟨by simp [V.c], by simp [V.c]⟩
  · cases h
theorem dBin_ok {P : Program} {T : TypeId → Option (List Nat)} (hT : EqT P T) {op : BinOp} {t : TypeId} {x y : V} {kk : V → Option R} (h : dBin P T op t x y kk = some r) :
    ∃ w : V, eBin P op t x.c y.c = some w.c ∧ w.safe = true ∧ x.plain = true ∧ y.plain = true ∧ kk w = some r := by
  unfold dBin at h
  split at h
  · split at h
    · obtain ⟨hk, h'⟩ := aI h
      have hk := of_decide_eq_true hk
      subst hk
      obtain ⟨w, h1, h2, h3⟩ := dInt_ok h'
      exact ⟨w, by simp only [V.c, eBin]; exact h1, h2, rfl, rfl, h3⟩
    · cases h
  · split at h
    · obtain ⟨w, h1, h2, h3⟩ := dStr_ok h
      exact ⟨w, by simp only [V.c, eBin]; exact h1, h2, rfl, rfl, h3⟩
    · cases h
  · split at h
    · split at h
      rotate_left
      · cases h
      rename_i ks hks
      obtain ⟨ht, h⟩ := aI h
      simp only [Bool.and_eq_true] at ht
      split at h
      · rename_i q hq
        have e := eqAgg_of (hT t ks hks) ht.1 ht.2 hq
        split at h
        · exact ⟨_, by simp only [V.c]; rw [eBin_other (by simp) (by simp), eOther, e]; rfl, rfl, rfl, rfl, h⟩
        · exact ⟨_, by simp only [V.c]; rw [eBin_other (by simp) (by simp), eOther, e]; rfl, rfl, rfl, rfl, h⟩
        · cases h
      · cases h
    · cases h
  · split at h
    · rename_i q hq
      obtain ⟨e, h1, h2, _, _⟩ := dEqX_ok hq
      obtain ⟨s1, s2⟩ := dEqX_shape hq
      split at h
      · exact ⟨_, by rw [eBin_other s1 s2, eOther, e]; simp only [V.c]; rfl, rfl, h1, h2, h⟩
      · exact ⟨_, by rw [eBin_other s1 s2, eOther, e]; simp only [V.c]; rfl, rfl, h1, h2, h⟩
      · cases h
    · cases h

/-! memory -/
/-- where a pointer leads -/
def dRow (gD : Nat → Option (List V)) (d : D) : V → Option (List V × Nat)
  | .ptr id o => match d.row id with
    | some r => some (r.cells, o)
    | none => none
  | .lptr cs o => some (cs, o)
  | .raw (.gptr b o) => match gD b with
    | some cs => some (cs, o)
    | none => none
  | _ => none
def GD (g : G) (gD : Nat → Option (List V)) : Prop := ∀ b cs, gD b = some cs → g b = some (V.cs cs)
theorem dRow_ok {g : G} {gD : Nat → Option (List V)} (hg : GD g gD) {d : D} {a : V} {cs : List V} {o : Nat} (h : dRow gD d a = some (cs, o)) :
    row? g d.H a.c = some (V.cs cs, o) ∧ a.plain = true ∧ (∀ k e, eShift k a.c = some e → row? g d.H e = some (V.cs cs, o + k)) ∧ ∃ e : Nat → EVal, ∀ k, eShift k a.c = some (e k) := by
  cases a with
  | ptr id o' =>
    simp only [dRow] at h
    split at h
    · rename_i r hr
      simp only [Option.some.injEq, Prod.mk.injEq] at h
      obtain ⟨rfl, rfl⟩ := h
      have hg := D.row_get hr
      simp only [V.c]
      refine ⟨by simp only [row?, hg, DRow.o], rfl, fun k e he => ?_, fun k => .ptr id (o' + k), fun k => rfl⟩
      simp only [eShift, Option.some.injEq] at he; subst he
      simp only [row?, hg, DRow.o]
    · cases h
  | lptr cs' o' =>
    simp only [dRow, Option.some.injEq, Prod.mk.injEq] at h
    obtain ⟨rfl, rfl⟩ := h
    simp only [V.c]
    refine ⟨by simp only [row?], rfl, fun k e he => ?_, fun k => .lptr (V.cs cs') (o' + k), fun k => rfl⟩
    simp only [eShift, Option.some.injEq] at he; subst he
    simp only [row?]
  | raw e =>
    cases e with
    | gptr b o' =>
      simp only [dRow] at h
      split at h
      · rename_i cs' hb
        simp only [Option.some.injEq, Prod.mk.injEq] at h
        obtain ⟨rfl, rfl⟩ := h
        have hb' := hg _ _ hb
        simp only [V.c]
        refine ⟨by simp only [row?, hb'], rfl, fun k e he => ?_, fun k => .gptr b (o' + k), fun k => rfl⟩
        simp only [eShift, Option.some.injEq] at he; subst he
        simp only [row?, hb']
      · cases h
    | _ => simp [dRow] at h
  | _ => simp [dRow] at h
def dLoad (P : Program) (gD : Nat → Option (List V)) (d : D) (t : TypeId) (a : V) : Option V :=
  match a with
  | .eptr s sz n i off => match dRow gD d s with
    | some (cs, o) => match aggT P t with
      | some true => match P.info? t with
        | some inf => match selsV cs sz n o i inf.size off with
          | some r => some (.agg r)
          | none => none
        | none => none
      | some false => match candV cs sz off n o with
        | some l => bif Nat.beq l.length n then selV l i else none
        | none => none
      | none => none
    | none => none
  | a => match dRow gD d a with
    | some (cs, o) => match aggT P t with
      | some true => match P.info? t with
        | some inf => match takeV cs o inf.size with
          | some r => some (.agg r)
          | none => none
        | none => none
      | some false => cs[o]?
      | none => none
    | none => none
theorem dLoad_ok {P : Program} {g : G} {gD : Nat → Option (List V)} (hg : GD g gD) {d : D} {t : TypeId} {a w : V} (ha : a.inr) (h : dLoad P gD d t a = some w) :
    eLoad P g d.H t a.c = some w.c ∧ a.plain = true := by
  unfold dLoad at h
  split at h
  · rename_i s sz n i off
    split at h
    · rename_i cs o hr
      obtain ⟨_, _, h3, e, h4⟩ := dRow_ok hg hr
      have h5 : row? g d.H (V.eptr s sz n i off).c = some (V.cs cs, o + (i.toNat * sz + off)) := by
        rw [V.c, h4, Option.getD_some]; exact h3 _ _ (h4 _)
      refine ⟨?_, rfl⟩
      unfold eLoad
      rw [h5]
      simp only
      split at h
      · rename_i hagg
        split at h
        · rename_i inf hinf
          split at h
          · rename_i r hr2
            simp only [Option.some.injEq] at h; subst h
            obtain ⟨e1, e2⟩ := selsV_c (show i.toNat < n from ha) hr2
            have ec : V.cs r = ((V.cs cs).drop (o + i.toNat * sz + off)).take inf.size := by rw [e1]; simp only [V.cs_map, List.map_take, List.map_drop]
            have el : (((V.cs cs).drop (o + i.toNat * sz + off)).take inf.size).length = inf.size := by rw [← ec, V.cs_length, e2]
            rw [hagg]
            simp only [eLoad', hinf, takeN, ← Nat.add_assoc]
            rw [if_pos el]
            simp only [V.c, ec]
          · cases h
        · cases h
      · rename_i hagg
        split at h
        · rename_i l hl
          obtain ⟨hb, h⟩ := aI h
          obtain ⟨h6, h7⟩ := candV_get hl
          have h8 := (selV_c h (by rw [h6]; exact ha)).1
          rw [h7 _ ha] at h8
          rw [hagg]
          simp only [eLoad', V.cs_get, ← Nat.add_assoc, h8, Option.map_some]
        · cases h
      · cases h
    · cases h
  · split at h
    · rename_i cs o hr
      obtain ⟨h1, h2, _, _⟩ := dRow_ok hg hr
      refine ⟨?_, h2⟩
      unfold eLoad
      rw [h1]
      simp only
      split at h
      · rename_i hagg
        split at h
        · rename_i inf hinf
          split at h
          · rename_i r hr2
            simp only [Option.some.injEq] at h; subst h
            rw [hagg]
            simp only [eLoad', hinf, takeV_c hr2, V.c]
          · cases h
        · cases h
      · rename_i hagg
        rw [hagg]
        simp only [eLoad', V.cs_get, h, Option.map_some]
      · cases h
    · cases h
end
end Go.Ev
namespace Go.Ev
open Go.RowKit

noncomputable section
variable {R : Type} {r : R}
/-- a number that tells a place, one by one -/
def dSplit (i : Int) (kk : Nat → Option R) : Nat → Nat → Option R
  | 0, _ => none
  | n + 1, j => cond (i == (j : Int)) (kk j) (dSplit i kk n (j + 1))
theorem dSplit_ok {i : Int} {kk : Nat → Option R} : ∀ {n j : Nat}, dSplit i kk n j = some r → ∃ q : Nat, j ≤ q ∧ q < j + n ∧ i = (q : Int) ∧ kk q = some r
  | 0, j, h => by cases h
  | n + 1, j, h => by
    simp only [dSplit] at h
    cases hc : (i == (j : Int)) with
    | true =>
      rw [hc] at h
      exact ⟨j, Nat.le_refl _, by omega, by simpa using hc, h⟩
    | false =>
      rw [hc] at h
      obtain ⟨q, h1, h2, h3, h4⟩ := dSplit_ok h
      exact ⟨q, by omega, by omega, h3, h4⟩
def inR (i : Int) (n : Nat) : Bool := decide (0 ≤ i) && decide (i < (n : Int))
theorem inR_ok {i : Int} {n : Nat} (h : inR i n = true) : 0 ≤ i ∧ i < (n : Int) ∧ i.toNat < n := by
  simp only [inR, Bool.and_eq_true, decide_eq_true_eq] at h
  omega

/-! addresses -/
def dShift (k : Nat) : V → Option V
  | .ptr id o => some (.ptr id (o + k))
  | .lptr cs o => some (.lptr cs (o + k))
  | .raw (.gptr b o) => some (.raw (.gptr b (o + k)))
  | .eptr s sz n i off => match s with
    | .ptr _ _ => some (.eptr s sz n i (off + k))
    | .lptr _ _ => some (.eptr s sz n i (off + k))
    | .raw (.gptr _ _) => some (.eptr s sz n i (off + k))
    | _ => none
  | _ => none
theorem dShift_ok {k : Nat} {a w : V} (h : dShift k a = some w) : eShift k a.c = some w.c ∧ a.plain = true ∧ w.plain = true ∧ (a.inr → w.inr) := by
  cases a with
  | ptr id o => simp only [dShift, Option.some.injEq] at h; subst h; exact ⟨by simp only [V.c, eShift], rfl, rfl, fun _ => trivial⟩
  | lptr cs o => simp only [dShift, Option.some.injEq] at h; subst h; exact ⟨by simp only [V.c, eShift], rfl, rfl, fun _ => trivial⟩
  | raw e =>
    cases e with
    | gptr b o => simp only [dShift, Option.some.injEq] at h; subst h; exact ⟨by simp only [V.c, eShift], rfl, rfl, fun _ => trivial⟩
    | _ => simp [dShift] at h
  | eptr s sz n i off =>
    cases s with
    | ptr id o => simp only [dShift, Option.some.injEq] at h; subst h; exact ⟨by simp only [V.c, eShift, Option.getD_some, Nat.add_assoc], rfl, rfl, fun h => h⟩
    | lptr cs o => simp only [dShift, Option.some.injEq] at h; subst h; exact ⟨by simp only [V.c, eShift, Option.getD_some, Nat.add_assoc], rfl, rfl, fun h => h⟩
    | raw e =>
      cases e with
      | gptr b o => simp only [dShift, Option.some.injEq] at h; subst h; exact ⟨by simp only [V.c, eShift, Option.getD_some, Nat.add_assoc], rfl, rfl, fun h => h⟩
      | _ => simp [dShift] at h
    | _ => simp [dShift] at h
  | _ => simp [dShift] at h
def dFieldAddr (P : Program) (s : TypeId) (f : Nat) (x : V) : Option V :=
  match P.underlying s with
  | some (.struct fs) => match fs[f]? with
    | some fd => match aR P fd.type with
      | some sz => bif Nat.beq sz 0 then none else dShift fd.offset x
      | none => none
    | none => none
  | _ => none
theorem dFieldAddr_ok {P : Program} {s : TypeId} {f : Nat} {x w : V} (h : dFieldAddr P s f x = some w) : eFieldAddr P s x.c f = some w.c ∧ x.plain = true ∧ w.plain = true ∧ (x.inr → w.inr) := by
  unfold dFieldAddr at h
  split at h
  · rename_i fs hu
    split at h
    · rename_i fd hf
      split at h
      · rename_i sz hs
        obtain ⟨h0, h⟩ := cond_some' h
        obtain ⟨h1, h2, h3, h4⟩ := dShift_ok h
        refine ⟨?_, h2, h3, h4⟩
        simp only [eFieldAddr, hu, hf, hs]
        rw [if_neg]
        · exact h1
        · intro e; subst e; cases h0
      · cases h
    · cases h
  · cases h
def dPart (P : Program) (t : TypeId) (cs : List V) (o : Nat) : Option V :=
  match aggT P t with
  | some true => match P.info? t with
    | some inf => match takeV cs o inf.size with
      | some r => some (.agg r)
      | none => none
    | none => none
  | some false => cs[o]?
  | none => none
theorem dPart_ok {P : Program} {t : TypeId} {cs : List V} {o : Nat} {w : V} (h : dPart P t cs o = some w) : ePart P t (V.cs cs) o = some w.c := by
  unfold dPart at h
  unfold ePart
  split at h
  · rename_i hagg
    split at h
    · rename_i inf hinf
      split at h
      · rename_i r hr2
        simp only [Option.some.injEq] at h; subst h
        rw [hagg]
        simp only [eLoad', hinf, takeV_c hr2, V.c]
      · cases h
    · cases h
  · rename_i hagg
    rw [hagg]
    simp only [eLoad', V.cs_get, h, Option.map_some]
  · cases h
def dField (P : Program) (s : TypeId) (f : Nat) (x : V) : Option V :=
  match x with
  | .agg cs => match P.underlying s with
    | some (.struct fs) => match fs[f]? with
      | some fd => dPart P fd.type cs fd.offset
      | none => none
    | _ => none
  | _ => none
theorem dField_ok {P : Program} {s : TypeId} {f : Nat} {x w : V} (h : dField P s f x = some w) : aQ P s x.c f = some w.c ∧ x.plain = true := by
  unfold dField at h
  split at h
  · split at h
    · rename_i fs hu
      split at h
      · rename_i fd hf
        refine ⟨?_, rfl⟩
        simp only [V.c, aQ, hu, hf, dPart_ok h]
      · cases h
    · cases h
  · cases h
/-- the address of an element: of a list that stands for good, or by its number -/
def dIndexAddr (P : Program) (lz : Bool) (t : TypeId) (x ix : V) (kk : V → Option R) : Option R :=
  match ix with
  | .int _ i => match P.underlying t with
    | some (.array n e) => match aR P e with
      | some sz => match lz with
        | true => match x with
          | .ptr a b => cond (inR i n) (kk (.eptr (.ptr a b) sz n i 0)) none
          | .lptr a b => cond (inR i n) (kk (.eptr (.lptr a b) sz n i 0)) none
          | .raw (.gptr a b) => cond (inR i n) (kk (.eptr (.raw (.gptr a b)) sz n i 0)) none
          | _ => none
        | false => dSplit i (fun j => match dShift (j * sz) x with
          | some w => kk w
          | none => none) n 0
      | none => none
    | some (.slice e) => match aR P e with
      | some sz => match x with
        | .sl id o len _ => dSplit i (fun j => kk (.ptr id (o + j * sz))) len 0
        | .fl n f => cond (inR i n) (bif Nat.beq (f i.toNat).length sz then kk (.lptr (f i.toNat) 0) else none) none
        | .el els => dSplit i (fun j => match els[j]? with
          | some c => bif Nat.beq c.length sz then kk (.lptr c 0) else none
          | none => none) els.length 0
        | _ => none
      | none => none
    | _ => none
  | _ => none
theorem rangeMap_get {α : Type} {f : Nat → α} {n i : Nat} (h : i < n) : ((List.range n).map f)[i]? = some (f i) := by
  rw [List.getElem?_map, List.getElem?_range h]; rfl
theorem dIndexAddr_ok {P : Program} {lz : Bool} {t : TypeId} {x ix : V} {kk : V → Option R} (hi0 : x.inr) (h : dIndexAddr P lz t x ix kk = some r) :
    ∃ w : V, eIndexAddr P t x.c ix.c = some w.c ∧ x.plain = true ∧ ix.plain = true ∧ w.plain = true ∧ w.inr ∧ kk w = some r := by
  cases ix with
  | int k i =>
    simp only [dIndexAddr] at h
    split at h
    · rename_i n e hu
      split at h
      · rename_i sz hs
        cases lz with
        | true =>
          simp only at h
          have key : ∀ s : V, (∀ k, ∃ e, eShift k s.c = some e) → s.plain = true → cond (inR i n) (kk (.eptr s sz n i 0)) none = some r → ∃ w : V, eIndexAddr P t s.c (V.int k i).c = some w.c ∧ s.plain = true ∧ (V.int k i).plain = true ∧ w.plain = true ∧ w.inr ∧ kk w = some r := by
            intro s hsh hp h
            obtain ⟨h1, h2⟩ := aI h
            obtain ⟨q1, q2, q3⟩ := inR_ok h1
            refine ⟨.eptr s sz n i 0, ?_, hp, rfl, rfl, q3, h2⟩
            obtain ⟨e', he⟩ := hsh (i.toNat * sz)
            simp only [V.c, eIndexAddr, hu, eIndexAddr', hs]
            rw [if_pos ⟨q1, q2⟩, Nat.add_zero, he, Option.getD_some]
          split at h
          · exact key _ (fun k => ⟨_, by simp only [V.c]; rfl⟩) rfl h
          · exact key _ (fun k => ⟨_, by simp only [V.c]; rfl⟩) rfl h
          · exact key _ (fun k => ⟨_, by simp only [V.c]; rfl⟩) rfl h
          · cases h
        | false =>
          simp only at h
          obtain ⟨q, _, q2, hq, hk⟩ := dSplit_ok h
          subst hq
          clear h
          have h := hk
          clear hk
          try simp only at h
          split at h
          · rename_i w hw
            obtain ⟨h1, h2, h3, h4⟩ := dShift_ok hw
            refine ⟨w, ?_, h2, rfl, h3, h4 hi0, h⟩
            simp only [V.c, eIndexAddr, hu, eIndexAddr', hs]
            rw [if_pos ⟨Int.natCast_nonneg _, by omega⟩, Int.toNat_natCast]
            exact h1
          · cases h
      · cases h
    · rename_i e hu
      split at h
      · rename_i sz hs
        split at h
        · rename_i id o len cap
          obtain ⟨q, _, q2, hq, hk⟩ := dSplit_ok h
          subst hq
          clear h
          have h := hk
          clear hk
          try simp only at h
          refine ⟨.ptr id (o + q * sz), ?_, rfl, rfl, rfl, trivial, h⟩
          simp only [V.c, eIndexAddr, hu, eIndexAddr', hs, eShift]
          rw [if_pos ⟨Int.natCast_nonneg _, by omega⟩, Int.toNat_natCast]
        · rename_i n f
          obtain ⟨h1, h2⟩ := aI h
          obtain ⟨h3, h4⟩ := aI h2
          obtain ⟨q1, q2, q3⟩ := inR_ok h1
          simp only [Nat.beq_eq] at h3
          refine ⟨.lptr (f i.toNat) 0, ?_, rfl, rfl, rfl, trivial, h4⟩
          simp only [V.c, eIndexAddr, hu, eIndexL]
          rw [if_pos q1, rangeMap_get q3]
          simp only
          rw [if_pos (by rw [hs, V.cs_length, h3])]
        · rename_i els
          obtain ⟨q, _, q2, hq, hk⟩ := dSplit_ok h
          subst hq
          clear h
          split at hk
          · rename_i c hc
            obtain ⟨h3, h4⟩ := aI hk
            simp only [Nat.beq_eq] at h3
            refine ⟨.lptr c 0, ?_, rfl, rfl, rfl, trivial, h4⟩
            simp only [V.c, eIndexAddr, hu, eIndexL]
            rw [if_pos (Int.natCast_nonneg _), Int.toNat_natCast, V.css_map, List.getElem?_map, hc]
            simp only [Option.map_some]
            rw [if_pos (by rw [hs, V.cs_length, h3])]
          · cases hk
        · cases h
      · cases h
    · cases h
  | _ => simp [dIndexAddr] at h
def dIndex (P : Program) (t : TypeId) (x ix : V) (kk : V → Option R) : Option R :=
  match ix with
  | .int _ i => match P.underlying t with
    | some (.array n e) => match aR P e with
      | some sz => match x with
        | .agg cs => dSplit i (fun j => match dPart P e cs (j * sz) with
          | some w => bif w.safe then kk w else none
          | none => none) n 0
        | _ => none
      | none => none
    | some .string => match x with
      | .str l => cond (inR i l.length) (kk (.int .u8 ((l.getD i.toNat 0 : Nat) : Int))) none
      | _ => none
    | _ => none
  | _ => none
theorem dIndex_ok {P : Program} {t : TypeId} {x ix : V} {kk : V → Option R} (h : dIndex P t x ix kk = some r) :
    ∃ w : V, eIndex P t x.c ix.c = some w.c ∧ x.plain = true ∧ ix.plain = true ∧ w.plain = true ∧ w.inr ∧ kk w = some r := by
  cases ix with
  | int k i =>
    simp only [dIndex] at h
    split at h
    · rename_i n e hu
      split at h
      · rename_i sz hs
        split at h
        · rename_i cs
          obtain ⟨q, _, q2, hq, hk⟩ := dSplit_ok h
          subst hq
          clear h
          have h := hk
          clear hk
          try simp only at h
          split at h
          · rename_i w hw
            obtain ⟨h1, h2⟩ := aI h
            obtain ⟨s1, s2⟩ := V.safe_ok h1
            refine ⟨w, ?_, rfl, rfl, s1, s2, h2⟩
            simp only [V.c, eIndex, hu, hs]
            rw [if_pos ⟨Int.natCast_nonneg _, by omega⟩, Int.toNat_natCast]
            exact dPart_ok hw
          · cases h
        · cases h
      · cases h
    · rename_i hu
      split at h
      · rename_i l
        obtain ⟨h1, h2⟩ := aI h
        obtain ⟨q1, q2, q3⟩ := inR_ok h1
        refine ⟨.int .u8 ((l.getD i.toNat 0 : Nat) : Int), ?_, rfl, rfl, rfl, trivial, h2⟩
        simp only [V.c, eIndex, hu]
        rw [if_pos q1, List.getElem?_eq_getElem q3]
        simp only [List.getD_eq_getElem?_getD, List.getElem?_eq_getElem q3, Option.getD_some]
      · cases h
    · cases h
  | _ => simp [dIndex] at h

/-! stores -/
def D.setRow (d : D) (id : Nat) (r : DRow) : D := { d with hp := (id, some (.row r)) :: d.hp }
def D.newRow (d : D) (r : DRow) : D := { d with n := d.n + 1, hp := (d.n, some (.row r)) :: d.hp }
theorem D.setRow_H {d : D} {id : Nat} {r : DRow} : (d.setRow id r).H = d.H.put id r.o := by
  unfold D.H D.setRow; rw [mkH_put]; rfl
theorem D.newRow_H {d : D} {r : DRow} : (d.newRow r).H = d.H.new r.o := by
  unfold D.H D.newRow; rw [mkH_new]; rfl
def dStore (P : Program) (d : D) (t : TypeId) (a v : V) : Option D :=
  match P.info? t with
  | some inf => match v.cells with
    | some vs => match a with
      | .ptr id o => match d.row id with
        | some r => bif Nat.beq vs.length inf.size && Nat.ble (o + vs.length) r.cells.length then some (d.setRow id { r with cells := setV r.cells o vs }) else none
        | none => none
      | _ => none
    | none => none
  | none => none
theorem dStore_ok {P : Program} {d d' : D} {t : TypeId} {a v : V} (h : dStore P d t a v = some d') :
    eStore P d.H t a.c v.c = some d'.H ∧ a.plain = true ∧ v.plain = true ∧ d'.fr = d.fr ∧ d'.tk = d.tk := by
  unfold dStore at h
  split at h
  · rename_i inf hinf
    split at h
    · rename_i vs hvs
      obtain ⟨k1, k2, k3⟩ := V.cells_c hvs
      split at h
      · rename_i id o
        split at h
        · rename_i r hr
          obtain ⟨h1, h2⟩ := aI h
          simp only [Option.some.injEq] at h2; subst h2
          simp only [Bool.and_eq_true, Nat.beq_eq, Nat.ble_eq] at h1
          refine ⟨?_, rfl, k3, rfl, rfl⟩
          simp only [V.c, eStore, hinf, k1]
          rw [if_pos (by rw [V.cs_length]; exact h1.1)]
          simp only [eStoreCells, D.row_get hr, DRow.o]
          rw [if_pos ⟨by rw [V.cs_length, V.cs_length]; exact h1.2, Nat.zero_le _, k2⟩, D.setRow_H]
          simp only [DRow.o, setV_c]
        · cases h
      · cases h
    · cases h
  · cases h
end
end Go.Ev
