import Derived.Test.YtdbjdkkgpnkiaaaGreatDoorEvTop
set_option linter.unusedSimpArgs false
set_option linter.unusedVariables false
namespace Go.Ev
open Go.RowKit

/-! frames as lists -/
def look : List (Nat × EVal) → Nat → Option EVal
  | [], _ => none
  | (j, v) :: l, i => if j = i then some v else look l i

/-- the places that a trie has -/
def T.has {α : Type} : T α → Nat → Prop
  | .nil, _ => False
  | .node _ l r, n => if n = 0 then True else if n % 2 = 1 then l.has (n / 2) else r.has (n / 2 - 1)

theorem T.get_node {α : Type} (v : Option α) (l r : T α) (j : Nat) : T.get (.node v l r) j = if j = 0 then v else if j % 2 = 1 then T.get l (j / 2) else T.get r (j / 2 - 1) := by
  have : T.get (.node v l r) j = bif Nat.beq j 0 then v else bif Nat.beq (Nat.mod j 2) 1 then T.get l (Nat.div j 2) else T.get r (Nat.pred (Nat.div j 2)) := rfl
  rw [this]
  simp only [Nat.beq_eq, Bool.cond_eq_ite, Nat.pred_eq_sub_one]
  rfl

theorem T.set_node {α : Type} (v : Option α) (l r : T α) (i : Nat) (x : Option α) : T.set (.node v l r) i x = if i = 0 then .node x l r else if i % 2 = 1 then .node v (T.set l (i / 2) x) r else .node v l (T.set r (i / 2 - 1) x) := by
  have : T.set (.node v l r) i x = bif Nat.beq i 0 then .node x l r else bif Nat.beq (Nat.mod i 2) 1 then .node v (T.set l (Nat.div i 2) x) r else .node v l (T.set r (Nat.pred (Nat.div i 2)) x) := rfl
  rw [this]
  simp only [Nat.beq_eq, Bool.cond_eq_ite, Nat.pred_eq_sub_one]
  rfl

theorem T.get_set_same {α : Type} (t : T α) (i : Nat) (x : Option α) (h : t.has i) : (t.set i x).get i = x := by
  induction t generalizing i with
  | nil => exact h.elim
  | node v l r hl hr =>
    rw [T.set_node]
    unfold T.has at h
    split
    · rename_i h0; subst h0; rw [T.get_node]; simp
    · rename_i h0
      rw [if_neg h0] at h
      split
      · rename_i h1
        rw [if_pos h1] at h
        rw [T.get_node, if_neg h0, if_pos h1]; exact hl _ h
      · rename_i h1
        rw [if_neg h1] at h
        rw [T.get_node, if_neg h0, if_neg h1]; exact hr _ h

theorem T.get_set_ne {α : Type} (t : T α) (i j : Nat) (x : Option α) (h : j ≠ i) : (t.set i x).get j = t.get j := by
  induction t generalizing i j with
  | nil => rfl
  | node v l r hl hr =>
    rw [T.set_node]
    split
    · rename_i h0; subst h0; rw [T.get_node, T.get_node, if_neg h, if_neg h]
    · rename_i h0
      split
      · rename_i h1
        rw [T.get_node, T.get_node]
        split
        · rfl
        · split
          · exact hl _ _ (by omega)
          · rfl
      · rename_i h1
        rw [T.get_node, T.get_node]
        split
        · rfl
        · split
          · rfl
          · exact hr _ _ (by omega)

theorem T.has_set {α : Type} (t : T α) (i j : Nat) (x : Option α) : (t.set i x).has j ↔ t.has j := by
  induction t generalizing i j with
  | nil => exact Iff.rfl
  | node v l r hl hr =>
    rw [T.set_node]
    split
    · simp only [T.has]
    · split
      · simp only [T.has]
        split
        · rfl
        · split
          · exact hl _ _
          · rfl
      · simp only [T.has]
        split
        · rfl
        · split
          · rfl
          · exact hr _ _

theorem T.has_full {α : Type} (x : Option α) (n i : Nat) (h : i + 1 < 2 ^ n) : (T.full x n).has i := by
  induction n generalizing i with
  | zero => omega
  | succ n ih =>
    unfold T.full T.has
    split
    · trivial
    · split
      · exact ih _ (by rw [Nat.pow_succ] at h; omega)
      · exact ih _ (by rw [Nat.pow_succ] at h; omega)

noncomputable def T.ofL (l : List (Nat × EVal)) : T EVal := l.foldr (fun p t => t.set p.1 (some p.2)) (T.full none 10)

theorem T.has_ofL (l : List (Nat × EVal)) (i : Nat) (h : i < 1000) : (T.ofL l).has i := by
  induction l with
  | nil => exact T.has_full _ _ _ (by omega)
  | cons p l ih => exact (T.has_set _ _ _ _).2 ih

theorem T.get_ofL (l : List (Nat × EVal)) (i : Nat) (h : i < 1000) : (T.ofL l).get i = look l i := by
  induction l with
  | nil =>
    cases hq : (T.full (none : Option EVal) 10).get i with
    | none => exact hq
    | some e => cases T.get_full _ _ _ hq
  | cons p l ih =>
    obtain ⟨j, v⟩ := p
    show (T.set (T.ofL l) j (some v)).get i = look ((j, v) :: l) i
    unfold look
    split
    · rename_i e; subst e; exact T.get_set_same _ _ _ (T.has_ofL l _ h)
    · rename_i e; rw [T.get_set_ne _ _ _ _ (Ne.symm e)]; exact ih

/-- a frame of so many slots -/
noncomputable def mkF (n : Nat) (l : List (Nat × EVal)) : EFr := ⟨n, T.ofL l, [], none⟩

theorem mkF_putd {n : Nat} {l : List (Nat × EVal)} {i : Nat} {v : EVal} (h : i < n) : (mkF n l).putd (some i) v = mkF n ((i, v) :: l) := by
  unfold EFr.putd mkF
  simp only [Nat.blt_eq, Bool.cond_eq_ite, h, if_true]
  rfl
theorem mkF_putd_none {n : Nat} {l : List (Nat × EVal)} {v : EVal} : (mkF n l).putd none v = mkF n l := (rfl)
theorem mkF_tmps {n : Nat} {l : List (Nat × EVal)} : (mkF n l).tmps = T.ofL l := (rfl)
theorem mkF_defers {n : Nat} {l : List (Nat × EVal)} : (mkF n l).defers = [] := (rfl)

section
variable {P : Program} {g : G} {K : Known}

/-- what an operation must come to, for k to hold behind it -/
def wpOut (P : Program) (K : Known) (k : EVal → H → Prop) : Option EOut → Prop
  | some (.val v h) => k v h
  | some (.enter fn args h) => match kcall P K h fn args with
    | some v => k v h
    | none => False
  | _ => False

def wpOp (P : Program) (g : G) (K : Known) (o : Oper) (f : EFr) (h : H) (k : EVal → H → Prop) : Prop :=
  match o.op with
  | .next it false => match nextMapO h (ev f.tmps it) with
    | some l => ∀ p ∈ l, k p.1 p.2
    | none => False
  | _ => wpOut P K k (eOp P g h f.tmps o)

def wpOps (P : Program) (g : G) (K : Known) (all : Array Oper) (Q : EFr → H → Prop) : List Oper → EFr → H → Prop
  | [], f, h => Q f h
  | o :: rest, f, h => match wantedE all f.tmps o with
    | some true => wpOp P g K o f h (fun v h' => wpOps P g K all Q rest (f.putd o.dst v) h')
    | some false => wpOps P g K all Q rest (f.putd o.dst undefE) h
    | none => False

/-- the same, a step at a time -/
def wpNext (P : Program) (g : G) (K : Known) (all : Array Oper) (Q : EFr → H → Prop) (d : Option Tmp) (rest : List Oper) (f : EFr) (v : EVal) (h : H) : Prop := wpOps P g K all Q rest (f.putd d v) h
def wpStep (P : Program) (g : G) (K : Known) (all : Array Oper) (Q : EFr → H → Prop) (o : Oper) (rest : List Oper) (f : EFr) (h : H) : Option Bool → Prop
  | some true => wpOp P g K o f h (wpNext P g K all Q o.dst rest f)
  | some false => wpOps P g K all Q rest (f.putd o.dst undefE) h
  | none => False
theorem wpOps_nil {P : Program} {g : G} {K : Known} {all : Array Oper} {Q : EFr → H → Prop} {f : EFr} {h : H} : wpOps P g K all Q [] f h = Q f h := (rfl)
theorem wpOps_cons {P : Program} {g : G} {K : Known} {all : Array Oper} {Q : EFr → H → Prop} {o : Oper} {rest : List Oper} {f : EFr} {h : H} :
    wpOps P g K all Q (o :: rest) f h = wpStep P g K all Q o rest f h (wantedE all f.tmps o) := by
  simp only [wpOps]
  unfold wpStep
  split <;> rfl
theorem wpStep_sym {P : Program} {g : G} {K : Known} {all : Array Oper} {Q : EFr → H → Prop} {o : Oper} {rest : List Oper} {f : EFr} {h : H} {q : Bool} (h1 : q = true → wpStep P g K all Q o rest f h (some true)) (h2 : q = false → wpStep P g K all Q o rest f h (some false)) :
    wpStep P g K all Q o rest f h (some q) := by
  cases q with
  | true => exact h1 rfl
  | false => exact h2 rfl

theorem wpOps_sound (hng : NoNG P) {B0 : Nat} {W0 : Base} (G : GRel B0 W0.w g) (hK : KOK P B0 W0 K) {all : Array Oper} {Q : EFr → H → Prop} : ∀ (l : List Oper) (f : EFr) (h : H), wpOps P g K all Q l f h → ∀ (js : List Nat), js.map (all[·]?) = l.map some →
    ∀ (b : Frame) (t : Array Value) (d : List Deferred) (k : List Item) (cs : List Frame) (ρ : Loc) (w : World), FRel ρ f b t d → HRel P B0 W0 ρ h w →
    ∃ f' h', Q f' h' ∧ ∃ t' w' ρ', ρ.le ρ' ∧ FRel ρ' f' b t' d ∧ HRel P B0 W0 ρ' h' w' ∧ Steps P (lone (fr b t d (.inRegion all js :: k)) cs w) (lone (fr b t' d k) cs w')
  | [], f, h, hq, js, hjs, b, t, d, k, cs, ρ, w, F, R => by
    obtain rfl : js = [] := by simpa using hjs
    exact ⟨f, h, hq, t, w, ρ, Loc.le_refl _, F, R, .one st_region_end⟩
  | o :: rest, f, h, hq, js, hjs, b, t, d, k, cs, ρ, w, F, R => by
    cases js with
    | nil => simp at hjs
    | cons i js =>
      simp only [List.map_cons, List.cons.injEq] at hjs
      obtain ⟨ho, hjs⟩ := hjs
      have next : ∀ {e : EVal} {h' : H} {ρ' : Loc} {v : Value} {w' : World}, wpOps P g K all Q rest (f.putd o.dst e) h' → ρ.le ρ' → VRel ρ' e v → HRel P B0 W0 ρ' h' w' →
          Steps P (lone (fr b t d (.inRegion all (i :: js) :: k)) cs w) (lone (fr b (putT t o.dst v) d (.inRegion all js :: k)) cs w') →
          ∃ f' h', Q f' h' ∧ ∃ t' w' ρ', ρ.le ρ' ∧ FRel ρ' f' b t' d ∧ HRel P B0 W0 ρ' h' w' ∧ Steps P (lone (fr b t d (.inRegion all (i :: js) :: k)) cs w) (lone (fr b t' d k) cs w') := by
        intro e h' ρ' v w' hr hle hv R' hst
        obtain ⟨f2, h2, hm, t2, w2, ρ2, l2, F2, R2, S2⟩ := wpOps_sound hng G hK rest _ _ hr js hjs b _ d k cs ρ' w' ((F.mono hle).put hv) R'
        exact ⟨f2, h2, hm, t2, w2, ρ2, Loc.le_trans hle l2, F2, R2, hst.trans S2⟩
      unfold wpOps at hq
      split at hq
      rotate_left
      · rename_i hw
        exact next hq (Loc.le_refl _) (undef_rel _) R (.one (st_op_skip ho (wanted_sound F.tmps hw)))
      rotate_left
      · rename_i hw
        have hwant := wanted_sound F.tmps hw
        · have hr := hq
          clear hq
          unfold wpOp at hr
          split at hr
          · rename_i it hop
            split at hr
            · rename_i l hl
              cases hx : ev f.tmps it with
              | none => rw [hx] at hl; cases hl
              | some x =>
                rw [hx] at hl
                obtain ⟨e, h', u, w', hm, hrun, hv, R'⟩ := nextMap_sound R o.type (F.erel _ _ hx) hl
                refine next (hr _ hm) (Loc.le_refl _) hv R' (.one (st_value ho hwant (fun c hc => by rw [hop] at hc; cases hc) ?_))
                unfold execOp
                rw [hop]
                simp only [Sem.run_bind]
                rw [hrun]
                rfl
            · exact hr.elim
          · unfold wpOut at hr
            split at hr
            · rename_i v h' hop
              obtain ⟨w', ρ', hle, R', hres⟩ := op_sound hng G R F.erel hop
              rcases hres with ⟨u, hrun, hv⟩ | ⟨hrun, rfl⟩
              · exact next hr hle hv R' (.one (st_value ho hwant (op_not_defer hop) hrun))
              · exact next hr hle (undef_rel _) R' (.one (st_skipv ho hwant (op_not_defer hop) hrun))
            · rename_i fn args h' hop
              obtain ⟨rfl, vs, hrun, hvs⟩ := op_sound hng G R F.erel hop
              split at hr
              · rename_i v hk
                obtain ⟨e1, w1, fr1, ⟨u, ρ', rfl, hle, hv, R'⟩, hcomes, hfn, hleave⟩ := kcall_sound hK R hk hvs (fr b t d (.inRegion all (i :: js) :: k) :: cs)
                refine next hr hle hv R' ?_
                refine .head (st_enter ho hwant (op_not_defer hop) hrun) (Steps.trans hcomes (.one ?_))
                rw [← finish_fr ho]
                exact step_leave_returned hleave
              · exact hr.elim
            · exact hr.elim
      · exact hq.elim

def seqQ (wb : EFr → H → Post → Prop) (Q : Post) : Post := fun e f h => match e with
  | .normal => wb f h Q
  | e => Q e f h
theorem seqQ_normal {wb : EFr → H → Post → Prop} {Q : Post} {f : EFr} {h : H} : seqQ wb Q .normal f h = wb f h Q := (rfl)
theorem seqQ_exit {wb : EFr → H → Post → Prop} {Q : Post} {f : EFr} {h : H} {i : Nat} : seqQ wb Q (.exit i) f h = Q (.exit i) f h := (rfl)
theorem seqQ_ret {wb : EFr → H → Post → Prop} {Q : Post} {f : EFr} {h : H} : seqQ wb Q .ret f h = Q .ret f h := (rfl)
def blockQ (id : Nat) (Q : Post) : Post := fun e f h => match e with
  | .exit i => if i = id then Q .normal f h else Q (.exit i) f h
  | e => Q e f h
theorem blockQ_normal {id : Nat} {Q : Post} {f : EFr} {h : H} : blockQ id Q .normal f h = Q .normal f h := (rfl)
theorem blockQ_exit {id : Nat} {Q : Post} {f : EFr} {h : H} {i : Nat} : blockQ id Q (.exit i) f h = if i = id then Q .normal f h else Q (.exit i) f h := (rfl)
theorem blockQ_ret {id : Nat} {Q : Post} {f : EFr} {h : H} : blockQ id Q .ret f h = Q .ret f h := (rfl)
def condQ (a b : Prop) : Option EVal → Prop
  | some (.bool q) => (q = true → a) ∧ (q = false → b)
  | _ => False

/-- what a piece of code without loops must come to -/
def wp (P : Program) (g : G) (K : Known) : Code → EFr → H → Post → Prop
  | .skip, f, h, Q => Q .normal f h
  | .label _, f, h, Q => Q .normal f h
  | .region _ ops false, f, h, Q => wpOps P g K ops (Q .normal) ops.toList f h
  | .seq a b, f, h, Q => wp P g K a f h (seqQ (wp P g K b) Q)
  | .cond c a b, f, h, Q => match ev f.tmps c with
    | some (.bool q) => (q = true → wp P g K a f h Q) ∧ (q = false → wp P g K b f h Q)
    | _ => False
  | .block id a, f, h, Q => wp P g K a f h (blockQ id Q)
  | .scope a, f, h, Q => wp P g K a f h Q
  | .exit id, f, h, Q => Q (.exit id) f h
  | .ret, f, h, Q => Q .ret f h
  | c, f, h, Q => Top P g K c f h Q

/-- a condition, where its value is known or not -/
def wpCond (P : Program) (g : G) (K : Known) (a b : Code) (f : EFr) (h : H) (Q : Post) : Option EVal → Prop
  | some (.bool true) => wp P g K a f h Q
  | some (.bool false) => wp P g K b f h Q
  | _ => False
theorem wp_cond {c : Operand} {a b : Code} {f : EFr} {h : H} {Q : Post} : wp P g K (.cond c a b) f h Q = wpCond P g K a b f h Q (ev f.tmps c) := by
  simp only [wp]
  generalize ev f.tmps c = x
  cases x with
  | none => rfl
  | some e =>
    cases e with
    | bool q => cases q <;> simp [wpCond]
    | _ => rfl
theorem wpCond_sym {a b : Code} {f : EFr} {h : H} {Q : Post} {q : Bool} (h1 : q = true → wp P g K a f h Q) (h2 : q = false → wp P g K b f h Q) : wpCond P g K a b f h Q (some (.bool q)) := by
  cases q with
  | true => exact h1 rfl
  | false => exact h2 rfl

theorem wp_sound (hng : NoNG P) : ∀ (c : Code) (f : EFr) (h : H) (Q : Post), wp P g K c f h Q → Top P g K c f h Q
  | .skip, f, h, Q, hw => .skip hw
  | .label _, f, h, Q, hw => .label hw
  | .region _ ops false, f, h, Q, hw => fun B0 W0 G hK b t d k cs ρ w F R => by
    obtain ⟨f', h', hq, t', w', ρ', _, F', R', hst⟩ := wpOps_sound hng G hK _ f h hw (List.range ops.size) (by
        apply List.ext_getElem?
        intro i
        simp only [List.getElem?_map]
        by_cases hi : i < ops.size
        · rw [List.getElem?_range hi]; simp [hi]
        · rw [List.getElem?_eq_none (by simpa using Nat.le_of_not_lt hi), List.getElem?_eq_none (by simpa using Nat.le_of_not_lt hi)]; rfl) b t d k cs ρ w F R
    exact ⟨.normal, f', h', hq, t', d, w', ρ', F', R', .head st_region hst⟩
  | .region _ ops true, f, h, Q, hw => hw
  | .seq a b, f, h, Q, hw => .seq ((wp_sound hng a f h _ hw).mono fun e f' h' hq => by
    cases e with
    | normal => exact wp_sound hng b f' h' Q hq
    | exit i => exact hq
    | ret => exact hq)
  | .cond c a b, f, h, Q, hw => by
    unfold wp at hw
    split at hw
    · rename_i q hq
      exact .cond hq (fun e => wp_sound hng a f h Q (hw.1 e)) (fun e => wp_sound hng b f h Q (hw.2 e))
    · exact hw.elim
  | .block id a, f, h, Q, hw => .block (wp_sound hng a f h _ hw)
  | .scope a, f, h, Q, hw => .scope (wp_sound hng a f h _ hw)
  | .exit id, f, h, Q, hw => .exit hw
  | .ret, f, h, Q, hw => .ret hw
  | .loop _, f, h, Q, hw => hw
  | .rangeFunc _ _ _ _, f, h, Q, hw => hw
  | .goto _, f, h, Q, hw => hw
  | .refuse _, f, h, Q, hw => hw
end
end Go.Ev
