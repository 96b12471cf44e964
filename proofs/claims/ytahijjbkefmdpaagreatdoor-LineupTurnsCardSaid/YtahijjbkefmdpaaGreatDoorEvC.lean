import Derived.Test.YtahijjbkefmdpaaGreatDoorEvB
import Derived.OpenShut
import Derived.ChangeArms
import Derived.LaidLaws
set_option linter.unusedSimpArgs false
set_option linter.unusedVariables false
namespace Go.Ev
open Go.RowKit
def pK : List (Nat × EVal) → Nat → Option EVal
 | [], _ => none
 | (j, v) :: l, i => if j = i then some v else pK l i
def T.has {α : Type} : T α → Nat → Prop
 | .nil, _ => False
 | .node _ l r, n => if n = 0 then True else if n % 2 = 1 then l.has (n / 2) else r.has (n / 2 - 1)
theorem T.get_node {α : Type} (v : Option α) (l r : T α) (j : Nat) : T.get (.node v l r) j = if j = 0 then v else if j % 2 = 1 then T.get l (j / 2) else T.get r (j / 2 - 1) := by
 have : T.get (.node v l r) j = bif Nat.beq j 0 then v else bif Nat.beq (Nat.mod j 2) 1 then T.get l (Nat.div j 2) else T.get r (Nat.pred (Nat.div j 2)) := rfl
 rw [this]
 simp only [Nat.beq_eq, Bool.cond_eq_ite, Nat.pred_eq_sub_one]
 rfl
theorem T.set_node {α : Type} (v : Option α) (l r : T α) (i : Nat) (x : Option α) : T.set (.node v l r) i x = if i = 0 then .node x l r else if i % 2 = 1 then .node v (T.set l (i / 2) x) r else .node v l (T.set r (i / 2 - 1) x) := by
 have : T.set (.node v l r) i x = bif Nat.beq i 0 then .node x l r else bif Nat.beq (Nat.mod i 2) 1 then .node v (T.set l (Nat.div i 2) x) r else .node v l (T.set r (Nat.pred (Nat.div i 2)) x) := rfl
 rw [this]
 simp only [Nat.beq_eq, Bool.cond_eq_ite, Nat.pred_eq_sub_one]
 rfl
theorem T.get_set_same {α : Type} (t : T α) (i : Nat) (x : Option α) (h : t.has i) : (t.set i x).get i = x := by
 induction t generalizing i with
 | nil => exact h.elim
 | node v l r hl hr =>
   rw [T.set_node]
   unfold T.has at h
   split
   · rename_i h0; subst h0; rw [T.get_node]; simp
   · rename_i h0
     rw [if_neg h0] at h
     split
     · rename_i h1
       rw [if_pos h1] at h
       rw [T.get_node, if_neg h0, if_pos h1]; exact hl _ h
     · rename_i h1
       rw [if_neg h1] at h
       rw [T.get_node, if_neg h0, if_neg h1]; exact hr _ h
theorem T.get_set_ne {α : Type} (t : T α) (i j : Nat) (x : Option α) (h : j ≠ i) : (t.set i x).get j = t.get j := by
 induction t generalizing i j with
 | nil => rfl
 | node v l r hl hr =>
   rw [T.set_node]
   split
   · rename_i h0; subst h0; rw [T.get_node, T.get_node, if_neg h, if_neg h]
   · rename_i h0
     split
     · rename_i h1
       rw [T.get_node, T.get_node]
       split
       · rfl
       · split
         · exact hl _ _ (by omega)
         · rfl
     · rename_i h1
       rw [T.get_node, T.get_node]
       split
       · rfl
       · split
         · rfl
         · exact hr _ _ (by omega)
theorem T.has_set {α : Type} (t : T α) (i j : Nat) (x : Option α) : (t.set i x).has j ↔ t.has j := by
 induction t generalizing i j with
 | nil => exact Iff.rfl
 | node v l r hl hr =>
   rw [T.set_node]
   split
   · simp only [T.has]
   · split
     · simp only [T.has]
       split
       · rfl
       · split
         · exact hl _ _
         · rfl
     · simp only [T.has]
       split
       · rfl
       · split
         · rfl
         · exact hr _ _
theorem T.has_full {α : Type} (x : Option α) (n i : Nat) (h : i + 1 < 2 ^ n) : (T.full x n).has i := by
 induction n generalizing i with
 | zero => omega
 | succ n ih =>
   unfold T.full T.has
   split
   · trivial
   · split
     · exact ih _ (by rw [Nat.pow_succ] at h; omega)
     · exact ih _ (by rw [Nat.pow_succ] at h; omega)
noncomputable def T.ofL (l : List (Nat × EVal)) : T EVal := l.foldr (fun p t => t.set p.1 (some p.2)) (T.full none 10)
theorem T.has_ofL (l : List (Nat × EVal)) (i : Nat) (h : i < 1000) : (T.ofL l).has i := by
 induction l with
 | nil => exact T.has_full _ _ _ (by omega)
 | cons p l ih => exact (T.has_set _ _ _ _).2 ih
theorem T.get_ofL (l : List (Nat × EVal)) (i : Nat) (h : i < 1000) : (T.ofL l).get i = pK l i := by
 induction l with
 | nil =>
   cases hq : (T.full (none : Option EVal) 10).get i with
   | none => exact hq
   | some e => cases T.get_full _ _ _ hq
 | cons p l ih =>
   obtain ⟨j, v⟩ := p
   show (T.set (T.ofL l) j (some v)).get i = pK ((j, v) :: l) i
   unfold pK
   split
   · rename_i e; subst e; exact T.get_set_same _ _ _ (T.has_ofL l _ h)
   · rename_i e; rw [T.get_set_ne _ _ _ _ (Ne.symm e)]; exact ih
noncomputable def mkF (n : Nat) (l : List (Nat × EVal)) : EFr := ⟨n, T.ofL l, [], none⟩
theorem aj8 {P : Program} {ρ : Loc} {ty el : TypeId} {x y : Operand} {u v : Value} (hu : VRel ρ (.lsl []) u) (hv : VRel ρ .nilslice v) (hk : P.underlying ty = some (.slice el)) (w : World) :
  ∃ q, (do eqGuard .eql ty x y u v; binOp .eql ty u v : Sem Value).run P w = .ok (.bool q) w := by
 cases hv
 have hg : ∀ a n m, (eqGuard .eql ty x y (.slice a n m) (.slice none 0 0)).run P w = .ok () w := fun a n m => by rw [eqGuard_at_slice]; rfl
 cases hu with
 | lsl _ us b o c sz pre rest hf hs hw ho hz hc =>
   refine ⟨false, ?_⟩
   have := (bC (P := P) (w := w) (t := ty) (u := .slice (some ⟨b, o, none⟩) 0 c) (v := .slice none 0 0) (r := false) (fun d => by simp [Op.equalIn, run_underlying hk]) (by simp only [binOp]) (by simp only [binOp])).1
   simp [hg, this]
 | lsl0 p c =>
   refine ⟨false, ?_⟩
   have := (bC (P := P) (w := w) (t := ty) (u := .slice (some p) 0 c) (v := .slice none 0 0) (r := false) (fun d => by simp [Op.equalIn, run_underlying hk]) (by simp only [binOp]) (by simp only [binOp])).1
   simp [hg, this]
 | lsln =>
   refine ⟨true, ?_⟩
   have := (bC (P := P) (w := w) (t := ty) (u := .slice none 0 0) (v := .slice none 0 0) (r := true) (fun d => by simp [Op.equalIn, run_underlying hk]) (by simp only [binOp]) (by simp only [binOp])).1
   simp [hg, this]
def ndEq (P : Program) (ty : TypeId) : Option EVal → Option EVal → Bool
 | some (.lsl []), some .nilslice => match P.underlying ty with
   | some (.slice _) => true
   | _ => false
 | _, _ => false
noncomputable def ndOp (P : Program) (t : T EVal) (o : Oper) : Bool :=
 match o.op with
 | .binOp .eql ty x y _ => ndEq P ty (ev t x) (ev t y)
 | _ => false
def wpNd (k : EVal → H → Prop) (h : H) : Bool → Prop
 | true => ∀ q : Bool, k (.bool q) h
 | false => False
section
variable {A : Option Nat} {P : Program} {g : G} {K : aS}
def t5 (P : Program) (g : G) (K : aS) (nd : Bool) (h0 : H) (k : EVal → H → Prop) : Option EOut → Prop
 | some (.val v h) => k v h
 | some (.enter fn args h) => match kcall P K h fn args with
   | some v => k v h
   | none => CallT P g K fn args h k
 | some (.yield id args h) => RoundT P g K id args h k
 | none => wpNd k h0 nd
def wpOp (P : Program) (g : G) (K : aS) (o : Oper) (f : EFr) (h : H) (k : EVal → H → Prop) : Prop :=
 match o.op with
 | .next it false => match wL h (ev f.tmps it) with
   | some l => ∀ p ∈ l, k p.1 p.2
   | none => False
 | _ => t5 P g K (ndOp P f.tmps o) h k (eOp P g h f.tmps o)
end
end Go.Ev
namespace Go.Ev
open Go.RowKit
section
variable {A : Option Nat} {P : Program} {g : G} {K : aS}
def wpKc (k : EVal → H → Prop) (h : H) (c : Prop) : Option EVal → Prop
 | some v => k v h
 | none => c
theorem zE {k : EVal → H → Prop} {h : H} {c : Prop} {v : EVal} : wpKc k h c (some v) = k v h := (rfl)
theorem zF {k : EVal → H → Prop} {h : H} {c : Prop} : wpKc k h c none = c := (rfl)
theorem gC {nd : Bool} {h0 : H} {k : EVal → H → Prop} {h : H} {v : EVal} : t5 P g K nd h0 k (some (.val v h)) = k v h := (rfl)
theorem mV {nd : Bool} {h0 : H} {k : EVal → H → Prop} {h : H} {fn : FuncId} {args : List EVal} : t5 P g K nd h0 k (some (.enter fn args h)) = wpKc k h (CallT P g K fn args h k) (kcall P K h fn args) := by
 show (match kcall P K h fn args with | some v => k v h | none => CallT P g K fn args h k) = _
 cases kcall P K h fn args <;> rfl
theorem t4 {nd : Bool} {h0 : H} {k : EVal → H → Prop} {h : H} {id : Nat} {args : List EVal} : t5 P g K nd h0 k (some (.yield id args h)) = RoundT P g K id args h k := (rfl)
def uY : Op → Bool
 | .next _ false => true
 | _ => false
def wpOpB (P : Program) (g : G) (K : aS) (o : Oper) (f : EFr) (h : H) (k : EVal → H → Prop) : Bool → Prop
 | true => wpOp P g K o f h k
 | false => t5 P g K (ndOp P f.tmps o) h k (eOp P g h f.tmps o)
theorem qG {o : Oper} {f : EFr} {h : H} {k : EVal → H → Prop} : wpOp P g K o f h k = wpOpB P g K o f h k (uY o.op) := by
 unfold wpOpB
 split
 · rfl
 · rename_i hn
   unfold wpOp
   split
   · rename_i heq; rw [heq] at hn; cases hn
   · rfl
theorem bM {o : Oper} {f : EFr} {h : H} {k : EVal → H → Prop} : wpOpB P g K o f h k false = t5 P g K (ndOp P f.tmps o) h k (eOp P g h f.tmps o) := (rfl)
end
section
variable {A : Option Nat} {P : Program} {f : EFr} {h : H}
theorem hN {l : List (Nat × EVal)} {i : Nat} {v : EVal} (h : (T.ofL l).get i = some v) : (i, v) ∈ l := by
 induction l with
 | nil => cases T.get_full _ _ _ h
 | cons p l ih =>
   obtain ⟨j, u⟩ := p
   rcases T.get_set _ _ _ _ h with ⟨rfl, e⟩ | ⟨_, e⟩
   · cases e; exact List.mem_cons_self
   · exact List.mem_cons_of_mem _ (ih e)
theorem View.slots {n : Nat} {l : List (Nat × EVal)} (hn : f.sz = n) (hd : f.defers = []) (hr : f.round = none)
  (hv : ∀ p ∈ l, f.tmps.get p.1 = some p.2) : View A P f h (mkF n l) h := fun B0 W0 b t d ρ w F R => by
 refine ⟨ρ, Loc.leA_refl, ⟨by rw [F.size, hn]; rfl, fun i e he => F.tmps i e (hv _ (hN he)), ?_, ?_⟩, R⟩
 · have := F.defers; rw [hd] at this; exact this
 · have := F.round; rw [hr] at this; exact this
def tQ : Nat → List EVal → List (Nat × EVal)
 | _, [] => []
 | i, v :: l => (i, v) :: tQ (i + 1) l
theorem s3 : ∀ (l : List EVal) (i : Nat) (t : T EVal), (∀ j, j < 1000 → t.has j) → i + l.length < 1000 → (∀ p ∈ tQ i l, (q4 l i t).get p.1 = some p.2) ∧ (∀ j, j < i → (q4 l i t).get j = t.get j)
 | [], _, _, _, _ => ⟨fun p hp => (by cases hp), fun _ _ => rfl⟩
 | v :: l, i, t, ht, hl => by
   have ht' : ∀ j, j < 1000 → (t.set i (some v)).has j := fun j hj => (T.has_set _ _ _ _).2 (ht j hj)
   simp only [List.length_cons] at hl
   obtain ⟨h1, h2⟩ := s3 l (i + 1) (t.set i (some v)) ht' (by omega)
   refine ⟨fun p hp => ?_, fun j hj => ?_⟩
   · rcases List.mem_cons.1 hp with rfl | hp
     · show (q4 l (i + 1) (t.set i (some v))).get i = some v
       rw [h2 i (by omega)]; exact T.get_set_same _ _ _ (ht i (by omega))
     · exact h1 p hp
   · show (q4 l (i + 1) (t.set i (some v))).get j = _
     rw [h2 j (by omega), T.get_set_ne _ _ _ _ (by omega)]
theorem View.start {fn : Func} {args : List EVal} {n : Nat} (hn : Nat.max fn.ntmps args.length = n) (hl : args.length < 1000) : View A P (mW fn args) h (mkF n (tQ 0 args)) h :=
 View.slots hn rfl rfl fun p hp => (s3 args 0 _ (fun j hj => T.has_full _ _ _ (by omega)) (by omega)).1 p hp
end
theorem aj5 (b : Bool) : ((none : Option Bool) == some b) = false := by cases b <;> rfl
end Go.Ev
namespace Go.Ev
open Go.RowKit
section
variable {α : Type}
noncomputable def T.ofG (n : Nat) (l : List (Nat × Option α)) : T α := l.foldr (fun p t => t.set p.1 p.2) (T.full none n)
def eO : List (Nat × Option α) → Nat → Option α
 | [], _ => none
 | (j, v) :: l, i => if j = i then v else eO l i
theorem T.has_ofG (n : Nat) (l : List (Nat × Option α)) (i : Nat) (h : i + 1 < 2 ^ n) : (T.ofG n l).has i := by
 induction l with
 | nil => exact T.has_full _ _ _ h
 | cons p l ih => exact (T.has_set _ _ _ _).2 ih
theorem T.get_ofG (n : Nat) (l : List (Nat × Option α)) (i : Nat) (h : i + 1 < 2 ^ n) : (T.ofG n l).get i = eO l i := by
 induction l with
 | nil =>
   cases hq : (T.full (none : Option α) n).get i with
   | none => exact hq
   | some e => cases T.get_full _ _ _ hq
 | cons p l ih =>
   obtain ⟨j, v⟩ := p
   show (T.set (T.ofG n l) j v).get i = eO ((j, v) :: l) i
   unfold eO
   split
   · rename_i e; subst e; exact T.get_set_same _ _ _ (T.has_ofG n l _ h)
   · rename_i e; rw [T.get_set_ne _ _ _ _ (Ne.symm e)]; exact ih
theorem T.ofG_mem {n : Nat} {l : List (Nat × Option α)} {i : Nat} {v : α} (h : (T.ofG n l).get i = some v) : (i, some v) ∈ l := by
 induction l with
 | nil => cases T.get_full _ _ _ h
 | cons p l ih =>
   obtain ⟨j, u⟩ := p
   rcases T.get_set _ _ _ _ h with ⟨rfl, e⟩ | ⟨_, e⟩
   · rw [← e]; exact List.mem_cons_self
   · exact List.mem_cons_of_mem _ (ih e)
end
noncomputable def mkH (n : Nat) (l : List (Nat × Option gB)) (m : Nat) (k : List (Nat × Option (Nat × TypeId))) : H := ⟨n, T.ofG 14 l, m, T.ofG 8 k⟩
section
variable {n m : Nat} {l : List (Nat × Option gB)} {k : List (Nat × Option (Nat × TypeId))}
theorem nC {o : gB} : (mkH n l m k).new o = mkH (n + 1) ((n, some o) :: l) m k := rfl
theorem qV {id : Nat} {o : gB} : (mkH n l m k).put id o = mkH n ((id, some o) :: l) m k := rfl
theorem aj9 {id : Nat} : (mkH n l m k).kill id = mkH n ((id, none) :: l) m k := rfl
theorem mkH_tok {id q : Nat} {e : TypeId} : (mkH n l m k).tok id q e = mkH n l m ((id, some (q, e)) :: k) := rfl
theorem dE {id : Nat} (h : id < 16000) : (mkH n l m k).get id = eO l id := T.get_ofG 14 l id (by omega)
theorem aja {id : Nat} (h : id < 250) : (mkH n l m k).k.get id = eO k id := T.get_ofG 8 k id (by omega)
end
mutual
def below (N : Nat) : EVal → Bool
 | .ptr id _ => Nat.blt id N
 | .slice id _ _ _ => Nat.blt id N
 | .map id => Nat.blt id N
 | .yieldf id => Nat.blt id N
 | .func _ cs => g6 N cs
 | .bound _ cs => g6 N cs
 | .iface _ v => below N v
 | .agg l => g6 N l
 | .tup l => g6 N l
 | _ => true
def g6 (N : Nat) : List EVal → Bool
 | [] => true
 | v :: l => below N v && g6 N l
end
def belowO (N : Nat) : gB → Bool
 | .row cells _ _ _ _ => g6 N cells
 | .map es _ => es.all fun e => below N e.1 && below N e.2.1
 | .iter _ _ => true
 | .miter m _ _ _ => Nat.blt m N
 | .deferred _ => true
 | _ => false
def okO (N : Nat) (o : gB) : Prop := belowO N o = true ∨ ∃ st pend n t ps a b d, o = .loop st pend n t ps a b d ∧ ∀ i e, t.get i = some e → below N e = true
theorem aj1 {N n d : Nat} {st : LoopState} {pend : Option Code} {l : List (Nat × EVal)} {ps : List Tmp} {a b : Code} (h : ∀ p ∈ l, below N p.2 = true) : okO N (.loop st pend n (T.ofL l) ps a b d) :=
 .inr ⟨_, _, _, _, _, _, _, _, rfl, fun i e he => h _ (hN he)⟩
noncomputable def mkD (n : Nat) (l : List (Nat × EVal)) (ds : List Nat) (r : Option Nat) : EFr := ⟨n, T.ofL l, ds, r⟩
def Loc.cut (ρ : Loc) (N : Nat) : Loc := { ρ with own := fun id => if id < N then ρ id else none }
theorem fT {ρ : Loc} {N id : Nat} {x : Nat × Nat} (hb : Nat.blt id N = true) (h : ρ id = some x) : (ρ.cut N) id = some x := by
 show (if id < N then ρ id else none) = some x
 rw [if_pos (by simpa using hb)]; exact h
mutual
theorem VRel.cut {ρ : Loc} {N : Nat} : ∀ {e : EVal} {v : Value}, VRel ρ e v → below N e = true → VRel (ρ.cut N) e v
 | _, _, .unk k n, _ => .unk k n
 | _, _, .bool b, _ => .bool b
 | _, _, .int k n, _ => .int k n
 | _, _, .str l s h, _ => .str l s h
 | _, _, .nilp, _ => .nilp
 | _, _, .gptr g o, _ => .gptr g o
 | _, _, .ptr id o b C h, hb => .ptr id o b C (fT hb h)
 | _, _, .nilslice, _ => .nilslice
 | _, _, .slice id o n c b C h, hb => .slice id o n c b C (fT hb h)
 | _, _, .slack id o n s c b C h hc hn, hb => .slack id o n s c b C (fT hb h) hc hn
 | _, _, .nilmap, _ => .nilmap
 | _, _, .map id b C h, hb => .map id b C (fT hb h)
 | _, _, .func f cs vs h, hb => .func f cs vs (VsRel.cut h hb)
 | _, _, .bound f cs vs h, hb => .bound f cs vs (VsRel.cut h hb)
 | _, _, .yieldf id b C h, hb => .yieldf id b C (fT hb h)
 | _, _, .nilfunc, _ => .nilfunc
 | _, _, .iface t e v h, hb => .iface t e v (VRel.cut h hb)
 | _, _, .nilif, _ => .nilif
 | _, _, .zsl p, _ => .zsl p
 | _, _, .zslt p id, _ => .zslt p id
 | _, _, .agg l cs h, hb => .agg l cs (VsRel.cut h hb)
 | _, _, .tup l cs h, hb => .tup l cs (VsRel.cut h hb)
 | _, _, .lsl els us b o c sz pre rest hf hs hw ho hz hc, _ => .lsl els us b o c sz pre rest hf hs hw ho hz hc
 | _, _, .lsl0 p c, _ => .lsl0 p c
 | _, _, .lsln, _ => .lsln
 | _, _, .lptr cells off us b base pre rest hf hs hw ho, _ => .lptr cells off us b base pre rest hf hs hw ho
 | _, _, .gnil o id ht, _ => .gnil o id ht
 | _, _, .gsl id els us b C sz pre rest ht hf hs hw hz hc, _ => .gsl id els us b C sz pre rest ht hf hs hw hz hc
theorem VsRel.cut {ρ : Loc} {N : Nat} : ∀ {es : List EVal} {vs : List Value}, VsRel ρ es vs → g6 N es = true → VsRel (ρ.cut N) es vs
 | _, _, .nil, _ => .nil
 | _, _, .cons e v es vs h hs, hb => by
   simp only [g6, Bool.and_eq_true] at hb
   exact .cons e v es vs (VRel.cut h hb.1) (VsRel.cut hs hb.2)
end
section
variable {P : Program} {B0 : Nat} {W0 : f9}
theorem zV {ρ ρ' : Loc} {x : Option Nat} (h : mT ρ none x) : mT ρ' none x := by
 cases x with
 | none => trivial
 | some l => exact h.elim
theorem MRel.cut {ρ : Loc} {N : Nat} {es : List (EVal × EVal × Nat)} {ms : List MapEntry} (hb : (es.all fun e => Go.Ev.below N e.1 && Go.Ev.below N e.2.1) = true) (h : MRel ρ es ms) : MRel (ρ.cut N) es ms := by
 induction h with
 | nil => exact .nil
 | cons k v t es m ms hk hv hbn h ih =>
   simp only [List.all_cons, Bool.and_eq_true] at hb
   exact .cons k v t es m ms (hk.cut hb.1.1) (hv.cut hb.1.2) hbn (ih hb.2)
theorem ORel.cut {ρ : Loc} {N : Nat} {o : gB} {C : Nat} {x : Option Obj} (hb : belowO N o = true) (h : ORel P ρ o C x) : ORel P (ρ.cut N) o C x := by
 cases o with
 | row cells e lo hi sl => obtain ⟨cs, h1, h2, h3, h4⟩ := h; exact ⟨cs, h1, h2.cut hb, h3, h4⟩
 | map es clock => obtain ⟨m, h1, h2⟩ := h; exact ⟨m, h1, h2.cut hb⟩
 | miter m since seen stepped => obtain ⟨b, C, h1, h2⟩ := h; exact ⟨b, C, fT hb h1, h2⟩
 | iter l pos => exact h
 | loop st pend sz t ps a b d => cases hb
 | deferred tk => exact h
theorem ORel.cut' {ρ : Loc} {N : Nat} {o : gB} {C : Nat} {x : Option Obj} (hb : okO N o) (h : ORel P ρ o C x) : ORel P (ρ.cut N) o C x := by
 rcases hb with hb | ⟨st, pend, n, t, ps, a, b, d, rfl, hb⟩
 · exact h.cut hb
 · obtain ⟨L, h1, h2, h3, h4, h5, h6⟩ := h; exact ⟨L, h1, h2, h3, h4, fun i e he => (h5 i e he).cut (hb i e he), h6⟩
theorem DRel.cut {ρ : Loc} {N : Nat} {l : List Nat} {ds : List Deferred} (h : DRel ρ l ds) (hb : ∀ i ∈ l, i < N) : DRel (ρ.cut N) l ds := by
 induction h with
 | nil => exact .nil
 | cons id b C l ds h hs ih => exact .cons _ _ C _ _ (fT (by simpa using hb id List.mem_cons_self) h) (ih fun i hi => hb i (List.mem_cons_of_mem _ hi))
theorem View.dropD {A : Option Nat} {s n N m : Nat} {ds : List Nat} {r : Option Nat} {fl fl2 : List (Nat × EVal)} {l l2 : List (Nat × Option gB)} {k k2 : List (Nat × Option (Nat × TypeId))}
  (hA : ∀ q, A = some q → q ≤ N) (hds : ∀ i ∈ ds, i < N) (hr : ∀ i, r = some i → i < N) (hf : ∀ p ∈ fl2, p.1 < 1000 ∧ pK fl p.1 = some p.2 ∧ below N p.2 = true) (hl : ∀ p ∈ l2, p.1 < 16000 ∧ p.1 < N ∧ ∃ o, p.2 = some o ∧ eO l p.1 = some o ∧ okO N o)
  (hk : ∀ p ∈ k2, p.1 < 250 ∧ ∃ x, p.2 = some x ∧ eO k p.1 = some x) :
  View A P (mkD s fl ds r) (mkH n l m k) (mkD s fl2 ds r) (mkH N l2 m k2) := by
 intro B0 W0 b t d ρ w F R
 have hkget : ∀ id x, (mkH N l2 m k2).k.get id = some x → (mkH n l m k).k.get id = some x := by
  intro id x hg
  obtain ⟨h1, x', h2, h3⟩ := hk _ (T.ofG_mem hg)
  simp only [Option.some.injEq] at h2
  subst h2
  rw [aja h1]; exact h3
 have hget : ∀ id o, (mkH N l2 m k2).get id = some o → id < N ∧ (mkH n l m k).get id = some o ∧ okO N o := by
  intro id o hg
  obtain ⟨h1, h2, o', h3, h4, h5⟩ := hl _ (T.ofG_mem hg)
  simp only [Option.some.injEq] at h3
  subst h3
  exact ⟨h2, by rw [dE h1]; exact h4, h5⟩
 have hown : ∀ {id x}, (ρ.cut N) id = some x → ρ id = some x := by
  intro id x hx
  have : (if id < N then ρ id else none) = some x := hx
  split at this
  · exact this
  · cases this
 refine ⟨ρ.cut N, fun q hq => ⟨fun id x hid hx => ?_, fun b pre hb => ⟨[], by rw [List.append_nil]; exact hb⟩, fun _ _ _ h => h⟩, ⟨F.size, fun i e he => ?_, F.defers.cut hds, ?_⟩, ?_⟩
 · show (if id < N then ρ id else none) = _
   rw [if_pos (by have := hA q hq; omega)]; exact hx
 · obtain ⟨h1, h2, h3⟩ := hf _ (hN he)
   exact (F.tmps i e (by show (T.ofL fl).get i = _; rw [T.get_ofL _ _ h1]; exact h2)).cut h3
 · have := F.round
   cases r with
   | none => exact zV this
   | some i =>
     generalize b.roundOf = x at this ⊢
     cases x with
     | none => exact this.elim
     | some l => obtain ⟨C, hC⟩ := this; exact ⟨C, fT (by simpa using hr i rfl) hC⟩
 · refine ⟨R.below, R.base, fun id hid => ?_, fun id b' C hb' => R.lo id b' C (hown hb'), fun i j o1 o2 b' C C' g1 g2 r1 r2 => R.inj i j o1 o2 b' C C' (hget _ _ g1).2.1 (hget _ _ g2).2.1 (hown r1) (hown r2), fun id o hg => ?_, R.fz,
    fun b' pre hb' id C o hg hr => R.free b' pre hb' id C o (hget _ _ hg).2.1 (hown hr), R.fz0, R.mdom, fun id q e hk => ?_, fun id q e hk => R.tnew id q e (hkget _ _ hk), fun i1 n1 e1 i2 n2 e2 b1 C1 C2 h1 h2 => R.tinj i1 n1 e1 i2 n2 e2 b1 C1 C2 (hkget _ _ h1) (hkget _ _ h2)⟩
   · have hid : N ≤ id := hid
     show (if id < N then ρ id else none) = none
     rw [if_neg (by omega)]
   · obtain ⟨h1, h2, h3⟩ := hget _ _ hg
     obtain ⟨b', C, hb', r⟩ := R.objs _ _ h2
     exact ⟨b', C, fT (by simpa using h1) hb', r.cut' h3⟩
   · obtain ⟨x, h1, h2⟩ := R.toks id q e (hkget _ _ hk)
     exact ⟨x, h1, fun b' C hx => (h2 b' C hx).keep rfl rfl⟩
theorem View.mode0 {A : Option Nat} {f : EFr} {n m : Nat} {l : List (Nat × Option gB)} {k : List (Nat × Option (Nat × TypeId))} (m' : Nat) (hm : m % 1048576 ≤ m' % 1048576) : View A P f (mkH n l m k) f (mkH n l m' k) := fun B0 W0 b t d ρ w F R =>
 ⟨ρ, Loc.leA_refl, F, R.below, R.base, R.dom, R.lo, R.inj, R.objs, R.fz, R.free, R.fz0, fun id q hid => R.mdom id q (Nat.le_trans hm hid), R.toks, R.tnew, R.tinj⟩
theorem View.spare {A : Option Nat} {n m : Nat} {f : EFr} {l : List (Nat × Option gB)} {k : List (Nat × Option (Nat × TypeId))} (e : TypeId) (hm : m % 1048576 < 250) :
  View A P f (mkH n l m k) f (mkH n l (m % 1048576 + 1 + 1048576) ((m % 1048576, some (0, e)) :: k)) := by
 intro B0 W0 b t d ρ w F R
 have hm1 : ∀ id q, m % 1048576 ≤ id → ρ.tau id q = none := R.mdom
 generalize m % 1048576 = j at hm hm1 ⊢
 have hm0 : ∀ q, ρ.tau j q = none := fun q => hm1 j q (Nat.le_refl _)
 let ρ2 : Loc := { ρ with tau := fun id q => if id = j then (if q = 0 then some none else none) else ρ.tau id q }
 have hle : ρ.le ρ2 := ⟨fun _ _ h => h, fun b pre h => ⟨[], by simpa using h⟩, fun id q x hx => by
  show (if id = j then (if q = 0 then some none else none) else ρ.tau id q) = some x
  rw [if_neg]; exact hx
  rintro rfl; rw [hm0] at hx; cases hx⟩
 have htau : ∀ id q, ρ2.tau id q = if id = j then (if q = 0 then some none else none) else ρ.tau id q := fun _ _ => rfl
 have hget : ∀ id q e', (mkH n l (j + 1 + 1048576) ((j, some (0, e)) :: k)).k.get id = some (q, e') → (id = j ∧ q = 0 ∧ e' = e) ∨ (id ≠ j ∧ (mkH n l m k).k.get id = some (q, e')) := by
  intro id q e' hg
  rcases T.get_set _ _ _ _ hg with ⟨a, b⟩ | ⟨a, b⟩
  · cases b; exact .inl ⟨a, rfl, rfl⟩
  · exact .inr ⟨a, b⟩
 refine ⟨ρ2, Loc.leA_of hle, FRel.mono hle F, ?_⟩
 refine ⟨R.below, R.base, R.dom, R.lo, R.inj, fun id o hg => ?_, R.fz, R.free, R.fz0, fun id q hid => ?_, fun id q e' hk => ?_, fun id q e' hk q' hq => ?_, fun i1 n1 e1 i2 n2 e2 b1 C1 C2 h1 h2 t1 t2 => ?_⟩
 · obtain ⟨b', C, hb', r⟩ := R.objs _ _ hg
   exact ⟨b', C, hb', r.mono hle⟩
 · have hid : (j + 1 + 1048576) % 1048576 ≤ id := hid
   rw [htau, if_neg (by omega)]
   exact hm1 id q (by omega)
 · rcases hget _ _ _ hk with ⟨rfl, rfl, rfl⟩ | ⟨hne, hk⟩
   · exact ⟨none, by rw [htau]; simp, fun _ _ hx => by cases hx⟩
   · obtain ⟨x, h1, h2⟩ := R.toks id q e' hk
     exact ⟨x, by rw [htau, if_neg hne]; exact h1, fun b' C hx => (h2 b' C hx).keep rfl rfl⟩
 · rcases hget _ _ _ hk with ⟨rfl, rfl, rfl⟩ | ⟨hne, hk⟩
   · rw [htau, if_pos rfl, if_neg (by omega)]
   · rw [htau, if_neg hne]; exact R.tnew _ _ _ hk _ hq
 · rcases hget _ _ _ h1 with ⟨rfl, rfl, rfl⟩ | ⟨hne1, g1⟩
   · rw [htau] at t1; simp at t1
   · rcases hget _ _ _ h2 with ⟨rfl, rfl, rfl⟩ | ⟨hne2, g2⟩
     · rw [htau] at t2; simp at t2
     · rw [htau, if_neg hne1] at t1
       rw [htau, if_neg hne2] at t2
       exact R.tinj _ _ _ _ _ _ _ _ _ g1 g2 t1 t2
theorem View.growD {A : Option Nat} {s n m : Nat} {ds : List Nat} {r : Option Nat} {fl : List (Nat × EVal)} {l : List (Nat × Option gB)} {k : List (Nat × Option (Nat × TypeId))} (i : Nat) (e : TypeId) (hi : i < 1000) (hm : m < 250) (h : pK fl i = some .nilslice) :
  View A P (mkD s fl ds r) (mkH n l m k) (mkD s ((i, .gsl m []) :: fl) ds r) (mkH n l (m + 1) ((m, some (0, e)) :: k)) := by
 intro B0 W0 b t d ρ w F R
 have hm0 : ∀ q, ρ.tau m q = none := fun q => R.mdom m q (by show m % 1048576 ≤ m; omega)
 let ρ2 : Loc := { ρ with tau := fun id q => if id = m then (if q = 0 then some none else none) else ρ.tau id q }
 have hle : ρ.le ρ2 := ⟨fun _ _ h => h, fun b pre h => ⟨[], by simpa using h⟩, fun id q x hx => by
  show (if id = m then (if q = 0 then some none else none) else ρ.tau id q) = some x
  rw [if_neg]; exact hx
  rintro rfl; rw [hm0] at hx; cases hx⟩
 have htau : ∀ id q, ρ2.tau id q = if id = m then (if q = 0 then some none else none) else ρ.tau id q := fun _ _ => rfl
 have hget : ∀ id q e', (mkH n l (m + 1) ((m, some (0, e)) :: k)).k.get id = some (q, e') → (id = m ∧ q = 0 ∧ e' = e) ∨ (id ≠ m ∧ (mkH n l m k).k.get id = some (q, e')) := by
  intro id q e' hg
  rcases T.get_set _ _ _ _ hg with ⟨a, b⟩ | ⟨a, b⟩
  · cases b; exact .inl ⟨a, rfl, rfl⟩
  · exact .inr ⟨a, b⟩
 refine ⟨ρ2, Loc.leA_of hle, ⟨F.size, fun j v hv => ?_, F.defers.mono hle, (FRel.mono hle F).round⟩, ?_⟩
 · rcases T.get_set _ _ _ _ hv with ⟨rfl, hv⟩ | ⟨_, hv⟩
   · cases hv
     have := F.tmps j _ (by show (T.ofL fl).get j = _; rw [T.get_ofL _ _ hi]; exact h)
     generalize t.getD j undef = u at this
     cases this
     exact .gnil none m (by rw [htau]; simp)
   · exact (F.tmps j v hv).mono hle
 · refine ⟨R.below, R.base, R.dom, R.lo, R.inj, fun id o hg => ?_, R.fz, R.free, R.fz0, fun id q hid => ?_, fun id q e' hk => ?_, fun id q e' hk q' hq => ?_, fun i1 n1 e1 i2 n2 e2 b1 C1 C2 h1 h2 t1 t2 => ?_⟩
   · obtain ⟨b', C, hb', r⟩ := R.objs _ _ hg
     exact ⟨b', C, hb', r.mono hle⟩
   · have hid : (m + 1) % 1048576 ≤ id := hid
     rw [htau, if_neg (by omega)]
     exact R.mdom id q (by show m % 1048576 ≤ id; omega)
   · rcases hget _ _ _ hk with ⟨rfl, rfl, rfl⟩ | ⟨hne, hk⟩
     · exact ⟨none, by rw [htau]; simp, fun _ _ hx => by cases hx⟩
     · obtain ⟨x, h1, h2⟩ := R.toks id q e' hk
       exact ⟨x, by rw [htau, if_neg hne]; exact h1, fun b' C hx => (h2 b' C hx).keep rfl rfl⟩
   · rcases hget _ _ _ hk with ⟨rfl, rfl, rfl⟩ | ⟨hne, hk⟩
     · rw [htau, if_pos rfl, if_neg (by omega)]
     · rw [htau, if_neg hne]; exact R.tnew _ _ _ hk _ hq
   · rcases hget _ _ _ h1 with ⟨rfl, rfl, rfl⟩ | ⟨hne1, g1⟩
     · rw [htau] at t1; simp at t1
     · rcases hget _ _ _ h2 with ⟨rfl, rfl, rfl⟩ | ⟨hne2, g2⟩
       · rw [htau] at t2; simp at t2
       · rw [htau, if_neg hne1] at t1
         rw [htau, if_neg hne2] at t2
         exact R.tinj _ _ _ _ _ _ _ _ _ g1 g2 t1 t2
end
end Go.Ev
namespace Go.Ev
open Go.RowKit
end Go.Ev
namespace Go.Ev
open Go.RowKit
end Go.Ev
namespace Go.Ev
open Go.RowKit
structure HGrow (h hh : H) : Prop where
 m : hh.m = h.m
 obj : ∀ id e, h.get id = some e → hh.get id = some e
theorem HGrow.refl (h : H) : HGrow h h := ⟨rfl, fun _ _ x => x⟩
theorem HGrow.trans {a b c : H} (h1 : HGrow a b) (h2 : HGrow b c) : HGrow a c := ⟨h2.m.trans h1.m, fun id e x => h2.obj id e (h1.obj id e x)⟩
theorem HGrow.new {h : H} {o : gB} (hn : h.get h.n = none) : HGrow h (h.new o) := ⟨rfl, fun id e x => by
 have hne : h.n ≠ id := fun e2 => by rw [← e2, hn] at x; cases x
 show (h.t.set h.n (some o)).get id = some e
 rw [T.get_set_ne _ _ _ _ (Ne.symm hne)]; exact x⟩
section
variable {P : Program} {g : G} {K : aS} {h hh : H}
theorem row_ext (hg : HGrow h hh) {x : EVal} {r : List EVal × Nat} (he : row? g h x = some r) : row? g hh x = some r := by
 unfold row? at he ⊢
 split at he
 · exact he
 · split at he
   · rename_i hget
     rw [hg.obj _ _ hget]; exact he
   · cases he
 · exact he
 · cases he
theorem ajc (hg : HGrow h hh) {t : TypeId} {x v : EVal} (he : nY P g h t x = some v) : nY P g hh t x = some v := by
 unfold nY at he ⊢
 split at he
 · rename_i hr
   rw [row_ext hg hr]; exact he
 · cases he
theorem xW (hg : HGrow h hh) {t : TypeId} {x i v : EVal} {ok : Bool} (he : eT P h t x i ok = some v) : eT P hh t x i ok = some v := by
 unfold eT at he ⊢
 split at he
 · split at he
   · rename_i hk
     simp only [hk, if_true]
     split at he
     · exact he
     · split at he
       · rename_i hget
         rw [hg.obj _ _ hget]; exact he
       · cases he
     · cases he
   · cases he
 · cases he
theorem vK (hg : HGrow h hh) {s d : TypeId} {x v : EVal} (he : dN P h s d x = some v) : dN P hh s d x = some v := by
 unfold dN at he ⊢
 split at he
 · exact he
 · exact he
 · exact he
 · split at he
   · rename_i hget
     rw [hg.obj _ _ hget]; exact he
   · cases he
 · split at he
   · rename_i hget
     rw [hg.obj _ _ hget]; exact he
   · cases he
 · cases he
theorem len_ext (hg : HGrow h hh) {t : TypeId} {x v : EVal} (he : vA P h t x = some v) : vA P hh t x = some v := by
 unfold vA at he ⊢
 split at he
 · exact he
 · exact he
 · exact he
 · exact he
 · split at he
   · exact he
   · unfold eLenM at he ⊢
     split at he
     · rename_i hget
       rw [hg.obj _ _ hget]; exact he
     · cases he
   · cases he
 · cases he
theorem axH (hg : HGrow h hh) {x v : EVal} (he : axc P h x = some v) : axc P hh x = some v := by
 unfold axc at he ⊢
 split at he
 · split at he
   · rename_i hget
     rw [hg.obj _ _ hget]; exact he
   · cases he
 · exact he
theorem tR (hg : HGrow h hh) : ∀ {l l' : List EVal}, j8 P h l = some l' → j8 P hh l = some l'
 | [], _, he => he
 | x :: l, l', he => by
   unfold j8 at he ⊢
   split at he
   · rename_i a b ha hb
     rw [axH hg ha, tR hg hb]; exact he
   · cases he
theorem aqH (hg : HGrow h hh) {f : FuncId} {args : List EVal} {v : EVal} (he : kcall P K h f args = some v) : kcall P K hh f args = some v := by
 unfold kcall at he ⊢
 split at he
 · rename_i ts ha
   rw [tR hg ha]; exact he
 · cases he
theorem aqB {x : Option EVal} {v : EVal} {h1 : H} (he : Go.Ev.mk x h = some (.val v h1)) : x = some v := by
 cases x with
 | none => cases he
 | some u => cases he; rfl
theorem sQ (hg : HGrow h hh) {t : T EVal} {o : Oper} {v : EVal} {h1 : H} (hq : fL o = true) (he : eOp P g h t o = some (.val v h1)) : ∃ h2, eOp P g hh t o = some (.val v h2) := by
 unfold fL at hq
 unfold eOp at he ⊢
 split at hq
 · rename_i ty a heq
   rw [heq] at he ⊢
   simp only [i5] at he ⊢
   split at he
   · rename_i x hx
     have := aqB he
     rw [ajc hg this]; exact ⟨_, rfl⟩
   · cases he
 · rename_i heq
   rw [heq] at he ⊢
   simp only [fB] at he ⊢
   split at he
   · have := aqB he
     rw [xW hg this]; exact ⟨_, rfl⟩
   · cases he
 · rename_i heq
   rw [heq] at he ⊢
   simp only [kW] at he ⊢
   split at he
   · have := aqB he
     rw [vK hg this]; exact ⟨_, rfl⟩
   · cases he
 · rename_i heq
   rw [heq] at he ⊢
   simp only [cD] at he ⊢
   split at he
   · split at he
     · cases he; rename_i hs; simp only [hs, if_true]; exact ⟨_, rfl⟩
     · rename_i hs
       simp only [if_neg hs]
       split at he
       · cases he; exact ⟨_, rfl⟩
       · cases he
   · cases he
 · rename_i c heq
   rw [heq] at he ⊢
   simp only [eU] at he ⊢
   split at he
   · cases he
   · split at hq
     · rename_i hc
       rw [hc] at he ⊢
       simp only [dV, aJ] at he ⊢
       split at he
       · rename_i u h2 hb
         split at hb
         · simp only [Option.map_eq_some_iff] at hb
           obtain ⟨w, hl, e⟩ := hb
           cases e
           cases he
           rw [len_ext hg hl]; exact ⟨_, rfl⟩
         · cases hb
       · cases he
     · rename_i hc
       rw [hc] at he ⊢
       simp only [dV, aJ] at he ⊢
       split at he
       · rename_i u h2 hb
         split at hb
         · simp only [Option.map_eq_some_iff] at hb
           obtain ⟨w, hl, e⟩ := hb
           cases e
           cases he
           rw [hl]; exact ⟨_, rfl⟩
         · cases hb
       · cases he
     · rename_i hc
       rw [hc] at he ⊢
       simp only [dV, aJ] at he ⊢
       split at he
       · rename_i u h2 hb
         split at hb
         · cases hb; cases he; exact ⟨_, rfl⟩
         · split at hb
           · cases hb
           · rename_i hcond
             cases hb
             cases he
             simp only [hcond, if_false]
             exact ⟨_, rfl⟩
         · cases hb
       · cases he
     · cases hq
 · cases hq
theorem src_ext (hg : HGrow h hh) {sz : Nat} {x : EVal} {r : List EVal × Nat} (he : aM h sz x = some r) : aM hh sz x = some r := by
 unfold aM at he ⊢
 split at he
 · exact he
 · exact he
 · split at he
   · rename_i hget
     rw [hg.obj _ _ hget]; exact he
   · cases he
 · exact he
 · exact he
 · exact he
 · cases he
theorem axZ (hg : HGrow h hh) : hh.fz = h.fz := by unfold H.fz; rw [hg.m]
theorem oK (hg : HGrow h hh) {t : TypeId} {s x : EVal} {l : List (List EVal)} {h1 : H} (he : aO P h t s x = some (.lsl l, h1)) : aO P hh t s x = some (.lsl l, hh) := by
 obtain ⟨rfl, hf, _, e, i, new, n, new', hu, hi, hs, hk, hc, rfl⟩ := lC he
 unfold aO
 simp only [hu, hi, src_ext hg hs, eM]
 rw [axZ hg, hf]
 simp only [hk, if_pos hc]
theorem yW (hg : HGrow h hh) {ts : List TypeId} {args : List EVal} {v : EVal} {h1 : H} (hv : v.kept = true) (he : aJ P h .append ts args = some (v, h1)) : aJ P hh .append ts args = some (v, hh) := by
 obtain ⟨l, rfl⟩ := EVal.kept_lsl hv
 unfold aJ at he ⊢
 simp only at he ⊢
 split at he
 · split at he
   · exact oK hg he
   · exact oK hg he
   · exact absurd he oJ
   · cases he
 · cases he
theorem zJ (hg : HGrow h hh) {t : T EVal} {o : Oper} {v : EVal} {h1 : H} (hq : isStill o h1 v = true) (he : eOp P g h t o = some (.val v h1)) : ∃ h2, eOp P g hh t o = some (.val v h2) ∧ isStill o h2 v = true := by
 have hsame := mH hq he
 subst hsame
 have hq0 := hq
 unfold isStill at hq
 split at hq
 · rename_i ty len parts hop
   have hm : h1.fz = true := hq
   have hm2 : hh.fz = true := by rw [axZ hg]; exact hm
   have key : eOp P g hh t o = some (.val v hh) := by
    unfold eOp at he ⊢
    rw [hop] at he ⊢
    simp only at he ⊢
    unfold aN at he ⊢
    split at he
    · split at he
      · unfold aR at he ⊢
        split at he
        · rename_i hc
          rw [if_pos hc]
          split at he
          · rw [hm] at he
            rw [hm2]
            simp only at he ⊢
            split at he
            · rename_i h0
              simp only [Option.some.injEq, EOut.val.injEq] at he
              rw [if_pos h0, ← he.1, show hh.z0 = h1.z0 by unfold H.z0; rw [hg.m]]
            · rename_i h0
              rw [if_neg h0]
              split at he
              · split at he
                · rename_i hl
                  rw [if_pos hl]
                  simp only [Option.some.injEq, EOut.val.injEq] at he ⊢
                  exact ⟨he.1, trivial⟩
                · cases he
              · cases he
          · cases he
        · cases he
      · cases he
    · cases he
   exact ⟨hh, key, by unfold isStill; rw [hop]; exact hm2⟩
 · rename_i c hop
   split at hq
   · rename_i hc
     refine ⟨hh, ?_, by unfold isStill; rw [hop]; simp only [hc]; exact hq⟩
     unfold eOp at he ⊢
     rw [hop] at he ⊢
     simp only [eU] at he ⊢
     split at he
     · cases he
     · rw [hc] at he ⊢
       simp only [dV] at he ⊢
       split at he
       · rename_i v1 h2 hb
         simp only [Option.some.injEq, EOut.val.injEq] at he
         obtain ⟨rfl, rfl⟩ := he
         rw [yW hg hq hb]
       · cases he
   · rename_i hn
     obtain ⟨h2, e⟩ := sQ hg hq he
     refine ⟨h2, e, ?_⟩
     unfold isStill at hq0 ⊢
     rw [hop] at hq0 ⊢
     exact hq0
 · rename_i hb hc
   obtain ⟨h2, e⟩ := sQ hg hq he
   refine ⟨h2, e, ?_⟩
   unfold isStill
   split
   · rename_i hop; exact absurd hop (hb _ _ _)
   · rename_i hop; exact absurd hop (hc _)
   · exact hq
theorem aq3 {t : T EVal} {o : Oper} {f : FuncId} {args : List EVal} {h1 : H} (he : eOp P g h t o = some (.enter f args h1)) : h1 = h ∧ eOp P g hh t o = some (.enter f args hh) := by
 have nomk : ∀ x : Option EVal, Go.Ev.mk x h ≠ some (.enter f args h1) := fun x e => by cases x <;> cases e
 unfold eOp at he ⊢
 split at he
 all_goals try (exfalso; exact nomk _ he)
 all_goals try (exfalso; simp only [u9, gU, aq6, fZ, i7, i8, aN, aR, i5, iD, ax4, tC, aq4, kW, cD, cQ, dG, iE, dQ, j3, dP, j2, fB, cZ, gP, l5, kU, gR, gQ, dM] at he; repeat' (split at he)
                all_goals first | (cases he; done) | exact nomk _ he)
 · cases he
 · exfalso
   unfold gP at he
   repeat' (split at he)
   all_goals first | (cases he; done) | exact nomk _ he | (unfold eRangeMap at he; split at he <;> cases he)
 · rename_i c heq
   unfold eU at he ⊢
   split at he
   · cases he
   · rename_i args' ha
     split at he
     · simp only [dV] at he
       split at he <;> cases he
     · simp only [iR] at he ⊢
       split at he
       · rename_i f' cs hv
         unfold iS at he ⊢
         split at he
         · rename_i fn hfn
           split at he
           · exfalso
             simp only [i6, eB, kV, fA, kS] at he
             repeat' (split at he)
             all_goals first | (cases he; done) | exact nomk _ he
           · rename_i hb
             cases he
             simp only [hb]
             exact ⟨trivial, by simp⟩
         · cases he
       · rename_i f' fs' hv
         unfold iS at he ⊢
         split at he
         · rename_i fn hfn
           split at he
           · exfalso
             simp only [i6, eB, kV, fA, kS] at he
             repeat' (split at he)
             all_goals first | (cases he; done) | exact nomk _ he
           · rename_i hb
             cases he
             simp only [hb]
             exact ⟨trivial, by simp⟩
         · cases he
       · cases he
       · cases he
     · cases he
 · cases he
end
def ajh (o : Oper) : Bool :=
 match o.op with
 | .alloc _ => true
 | .box _ _ => true
 | .call c => match c.callee with
   | .value _ => true
   | _ => false
 | _ => false
noncomputable def ax1 (o : Oper) (h : H) : Bool := ajh o && (h.get h.n).isNone
theorem aj7 {P : Program} {g : G} {h h1 : H} {t : T EVal} {o : Oper} {v : EVal} (hb : ax1 o h = true) (he : eOp P g h t o = some (.val v h1)) : HGrow h h1 := by
 unfold ax1 ajh at hb
 simp only [Bool.and_eq_true, Option.isNone_iff_eq_none] at hb
 obtain ⟨h2, h3⟩ := hb
 unfold eOp at he
 split at h2
 · rename_i heq
   rw [heq] at he
   simp only [gU] at he
   split at he
   · cases he; exact .new h3
   · cases he
 · rename_i heq
   rw [heq] at he
   simp only [aq6] at he
   split at he
   · cases he; exact .new h3
   · cases he
 · rename_i c heq
   rw [heq] at he
   split at h2
   · rename_i x hx
     simp only [eU, hx] at he
     repeat' (split at he)
     all_goals first
      | (cases he; done)
      | (simp only [iR] at he
         repeat' (split at he)
         all_goals first
          | (cases he; done)
          | (unfold iS at he
             repeat' (split at he)
             all_goals first
              | (cases he; done)
              | (simp only [i6, eB, kV, fA, kS] at he
                 repeat' (split at he)
                 all_goals first
                  | (cases he; done)
                  | (cases he; exact .refl _)
                  | (cases he; exact .new h3))))
   · cases h2
 · cases h2
mutual
theorem EVal.beq_refl : ∀ a : EVal, EVal.beq a a = true
 | .unk => rfl
 | .bool a => by simp [EVal.beq]
 | .int k a => by simp [EVal.beq]
 | .str a => by simp [EVal.beq]
 | .nilp => rfl
 | .gptr a b => by simp [EVal.beq]
 | .ptr a b => by simp [EVal.beq]
 | .nilslice => rfl
 | .slice a b c x => by simp [EVal.beq]
 | .nilmap => rfl
 | .map a => by simp [EVal.beq]
 | .nilfunc => rfl
 | .nilif => rfl
 | .zsl => rfl
 | .zslt a => by simp [EVal.beq]
 | .func f a => by simp [EVal.beq, eI a]
 | .bound f a => by simp [EVal.beq, eI a]
 | .yieldf a => by simp [EVal.beq]
 | .iface t a => by simp [EVal.beq, EVal.beq_refl a]
 | .agg a => by simp only [EVal.beq]; exact eI a
 | .tup a => by simp only [EVal.beq]; exact eI a
 | .lsl a => by simp only [EVal.beq]; exact lB a
 | .lptr a i => by simp [EVal.beq, eI a]
 | .gsl i a => by simp [EVal.beq, lB a]
theorem eI : ∀ l : List EVal, zA l l = true
 | [] => rfl
 | a :: l => by simp [zA, EVal.beq_refl a, eI l]
theorem lB : ∀ l : List (List EVal), vR l l = true
 | [] => rfl
 | a :: l => by simp [vR, eI a, lB l]
end
end Go.Ev
namespace Go.Ev
open Go.RowKit
section
variable {P : Program} {g : G}
theorem c0 {h h' : H} {id o : Nat} {vs : List EVal} (he : aP h id o vs = some h') : h'.m = h.m := by
 unfold aP at he
 split at he
 · split at he
   · simp only [Option.some.injEq] at he; subst he; rfl
   · cases he
 · cases he
theorem rC {h h' : H} {e sz bytes old new need v} (he : gA P h e sz bytes old new need = some (v, h')) : h'.m = h.m := by
 unfold gA at he
 split at he
 · simp only [Option.some.injEq, Prod.mk.injEq] at he; obtain ⟨_, rfl⟩ := he; rfl
 · cases he
theorem tD {h h' : H} {t : TypeId} {s x v : EVal} (he : aO P h t s x = some (v, h')) : h'.m = h.m := by
 unfold aO at he
 repeat' (split at he)
 all_goals first
  | (cases he; done)
  | (simp only [Option.some.injEq, Prod.mk.injEq] at he; obtain ⟨_, rfl⟩ := he; rfl)
  | exact rC he
  | skip
 · unfold eM at he
   repeat' (split at he)
   all_goals first
    | (cases he; done)
    | (simp only [Option.some.injEq, Prod.mk.injEq] at he; obtain ⟨_, rfl⟩ := he; rfl)
    | exact rC he
 · unfold fQ at he
   repeat' (split at he)
   all_goals first
    | (cases he; done)
    | (simp only [Option.some.injEq, Prod.mk.injEq] at he; obtain ⟨_, rfl⟩ := he; rfl)
 · unfold d6 at he
   split at he
   · split at he
     · rename_i hs
       simp only [Option.some.injEq, Prod.mk.injEq] at he; obtain ⟨_, rfl⟩ := he; exact c0 hs
     · cases he
   · split at he
     · exact rC he
     · cases he
 · unfold fR at he
   split at he
   · unfold gS at he
     split at he
     · simp only [Option.some.injEq, Prod.mk.injEq] at he; obtain ⟨_, rfl⟩ := he; rfl
     · split at he
       · split at he
         · split at he
           · rename_i hs
             simp only [Option.some.injEq, Prod.mk.injEq] at he; obtain ⟨_, rfl⟩ := he; exact c0 hs
           · cases he
         · split at he
           · simp only [Option.some.injEq, Prod.mk.injEq] at he; obtain ⟨_, rfl⟩ := he; rfl
           · cases he
       · cases he
   · cases he
 · unfold bV at he
   repeat' (split at he)
   all_goals first
    | (cases he; done)
    | (simp only [Option.some.injEq, Prod.mk.injEq] at he; obtain ⟨_, rfl⟩ := he; rfl)
theorem yI {h h' : H} {b : Builtin} {ts : List TypeId} {args : List EVal} {v : EVal} (he : aJ P h b ts args = some (v, h')) : h'.m = h.m := by
 unfold aJ at he
 split at he
 · split at he
   · split at he
     · exact tD he
     · exact tD he
     · unfold iH at he
       repeat' (split at he)
       all_goals first
        | (cases he; done)
        | exact rC he
     · cases he
   · cases he
 · split at he
   · simp only [Option.map_eq_some_iff, Prod.mk.injEq] at he; obtain ⟨_, _, _, rfl⟩ := he; rfl
   · cases he
 · split at he
   · simp only [Option.map_eq_some_iff, Prod.mk.injEq] at he; obtain ⟨_, _, _, rfl⟩ := he; rfl
   · cases he
 · split at he
   · unfold yH at he
     repeat' (split at he)
     all_goals first
      | (cases he; done)
      | (simp only [Option.some.injEq, Prod.mk.injEq] at he; obtain ⟨_, rfl⟩ := he; first | rfl | (exact c0 (by assumption)))
   · cases he
 · repeat' (split at he)
   all_goals first
    | (cases he; done)
    | (simp only [Option.some.injEq, Prod.mk.injEq] at he; obtain ⟨_, rfl⟩ := he; rfl)
 · repeat' (split at he)
   all_goals first
    | (cases he; done)
    | (simp only [Option.some.injEq, Prod.mk.injEq] at he; obtain ⟨_, rfl⟩ := he; rfl)
 · repeat' (split at he)
   all_goals first
    | (cases he; done)
    | (simp only [Option.some.injEq, Prod.mk.injEq] at he; obtain ⟨_, rfl⟩ := he; rfl)
 · split at he
   · split at he
     · unfold dZ eS at he
       repeat' (split at he)
       all_goals first
        | (cases he; done)
        | (simp only [Option.some.injEq, Prod.mk.injEq] at he; obtain ⟨_, rfl⟩ := he; rfl)
     · cases he
   · cases he
 · repeat' (split at he)
   all_goals first
    | (cases he; done)
    | (unfold wX at he
       repeat' (split at he)
       all_goals first
        | (cases he; done)
        | (simp only [Option.some.injEq, Prod.mk.injEq] at he; obtain ⟨_, rfl⟩ := he; first | rfl | (exact c0 (by assumption))))
 · cases he
theorem eOp_m {h h' : H} {t : T EVal} {o : Oper} {v : EVal} (he : eOp P g h t o = some (.val v h')) : h'.m = h.m := by
 cases hp : isPure o with
 | true =>
   obtain ⟨v0, e0, _⟩ := qR hp _ _ he
   simp only [EOut.val.injEq] at e0; rw [e0.2]
 | false =>
 cases hq : fL o with
 | true => rw [qQ hq he]
 | false =>
 obtain ⟨dst, op, ty, pos, after, guard⟩ := o
 cases op <;> first | (cases hp; done) | (cases hq; done) | (cases he; done) | skip
 case alloc e =>
  have he : gU P h e = some (.val v h') := he
  unfold gU at he
  split at he
  · (simp only [Option.some.injEq, EOut.val.injEq] at he; obtain ⟨_, rfl⟩ := he; rfl)
  · cases he
 case box e x =>
  have he : aq6 h e (ev t x) = some (.val v h') := he
  unfold aq6 at he
  split at he
  · (simp only [Option.some.injEq, EOut.val.injEq] at he; obtain ⟨_, rfl⟩ := he; rfl)
  · cases he
 case buildSlice ty len parts =>
  have he : aN P h ty len (cJ t parts.toList) = some (.val v h') := he
  unfold aN aR at he
  repeat' (split at he)
  all_goals first
   | (cases he; done)
   | (simp only [Option.some.injEq, EOut.val.injEq] at he; obtain ⟨_, rfl⟩ := he; rfl)
 case store ty a x =>
  have he : iD P h ty (ev t a) (ev t x) = some (.val v h') := he
  unfold iD at he
  split at he
  · split at he
    · rename_i hs
      unfold pT at hs
      repeat' (split at hs)
      all_goals first
       | (cases hs; done)
       | (simp only [Option.some.injEq, EOut.val.injEq] at he; obtain ⟨_, rfl⟩ := he; exact c0 hs)
    · cases he
  · cases he
 case makeFunc f first cs =>
  cases f with
  | func f =>
    have he : cD h f first (evs t first.toList) (evs t cs.toList) = some (.val v h') := he
    unfold cD at he
    repeat' (split at he)
    all_goals first
     | (cases he; done)
     | (simp only [Option.some.injEq, EOut.val.injEq] at he; obtain ⟨_, rfl⟩ := he; rfl)
  | _ => cases he
 case makeMap mt r =>
  cases r with
  | none =>
    have he : some (EOut.val (.map h.n) (h.new (.map [] 0))) = some (.val v h') := he
    (simp only [Option.some.injEq, EOut.val.injEq] at he; obtain ⟨_, rfl⟩ := he; rfl)
  | some _ => cases he
 case makeSlice ty l c =>
  have he : cQ P h ty (ev t l) (ev t c) = some (.val v h') := he
  unfold cQ dG at he
  repeat' (split at he)
  all_goals first
   | (cases he; done)
   | (simp only [Option.some.injEq, EOut.val.injEq] at he; obtain ⟨_, rfl⟩ := he; rfl)
 case slice ty x lo hi mx =>
  cases mx with
  | none => cases hp
  | some _ => cases he
 case range ty x =>
  have he : gP P h ty (ev t x) = some (.val v h') := he
  unfold gP eRangeMap at he
  repeat' (split at he)
  all_goals first
   | (cases he; done)
   | (simp only [Option.some.injEq, EOut.val.injEq] at he; obtain ⟨_, rfl⟩ := he; rfl)
 case next it b =>
  cases b with
  | true =>
    have he : gR h (ev t it) = some (.val v h') := he
    unfold gR gQ at he
    repeat' (split at he)
    all_goals first
     | (cases he; done)
     | (simp only [Option.some.injEq, EOut.val.injEq] at he; obtain ⟨_, rfl⟩ := he; rfl)
  | false => cases he
 case entry x =>
  have he : l5 h (ev t x) = some (.val v h') := he
  unfold l5 kU at he
  repeat' (split at he)
  all_goals first
   | (cases he; done)
   | (simp only [Option.some.injEq, EOut.val.injEq] at he; obtain ⟨_, rfl⟩ := he; rfl)
 case call c =>
  have he : eU P h t c.callee c.argTypes (evs t c.args.toList) = some (.val v h') := he
  unfold eU at he
  split at he
  · cases he
  · split at he
    · unfold dV at he
      split at he
      · rename_i hb
        simp only [Option.some.injEq, EOut.val.injEq] at he; obtain ⟨_, rfl⟩ := he
        exact yI hb
      · cases he
    · unfold iR iS i6 at he
      repeat' (split at he)
      all_goals first
       | (cases he; done)
       | (simp at he; done)
       | (unfold eB at he; split at he <;> first | (cases he; done) | (split at he <;> first | (cases he; done) | (simp only [Option.some.injEq, EOut.val.injEq] at he; obtain ⟨_, rfl⟩ := he; rfl)))
       | (unfold kV at he; split at he <;> first | (cases he; done) | (split at he <;> first | (cases he; done) | (simp only [Option.some.injEq, EOut.val.injEq] at he; obtain ⟨_, rfl⟩ := he; rfl)))
       | (unfold fA at he; split at he <;> first | (cases he; done) | (simp only [Option.some.injEq, EOut.val.injEq] at he; obtain ⟨_, rfl⟩ := he; rfl))
       | (unfold kS at he
          repeat' (split at he)
          all_goals first
           | (cases he; done)
           | (simp only [Option.some.injEq, EOut.val.injEq] at he; obtain ⟨_, rfl⟩ := he; rfl))
    · cases he
 all_goals
  have he : cZ P h _ (ev t _) (ev t _) (ev t _) = some (.val v h') := he
  unfold cZ at he
  split at he
  · split at he
    · rename_i hs
      simp only [Option.some.injEq, EOut.val.injEq] at he; obtain ⟨_, rfl⟩ := he
      unfold i4 at hs
      repeat' (split at hs)
      all_goals first
       | (cases hs; done)
       | (unfold cE at hs
          repeat' (split at hs)
          all_goals first
           | (cases hs; done)
           | (simp only [Option.some.injEq] at hs; subst hs; rfl))
    · cases he
  · cases he
theorem qA {h h1 hh : H} {t : T EVal} {o : Oper} {v : EVal} {ty : TypeId} {len : Nat} {parts : Array (Nat × Operand)} (hop : o.op = .buildSlice ty len parts) (hm : h.fz = true) (he : eOp P g h t o = some (.val v h1)) (hg : hh.m = h.m) : h1 = h ∧ eOp P g hh t o = some (.val v hh) := by
 have hm2 : hh.fz = true := by rw [← hm]; unfold H.fz; rw [hg]
 unfold eOp at he ⊢
 rw [hop] at he ⊢
 simp only at he ⊢
 unfold aN at he ⊢
 split at he
 · split at he
   · unfold aR at he ⊢
     split at he
     · rename_i hc
       rw [if_pos hc]
       split at he
       · rw [hm] at he
         rw [hm2]
         simp only at he ⊢
         split at he
         · rename_i h0
           simp only [Option.some.injEq, EOut.val.injEq] at he
           rw [if_pos h0, ← he.1, show hh.z0 = h.z0 by unfold H.z0; rw [hg]]
           exact ⟨he.2.symm, rfl⟩
         · rename_i h0
           rw [if_neg h0]
           split at he
           · split at he
             · rename_i hl
               rw [if_pos hl]
               simp only [Option.some.injEq, EOut.val.injEq] at he ⊢
               exact ⟨he.2.symm, he.1, trivial⟩
             · cases he
           · cases he
       · cases he
     · cases he
   · cases he
 · cases he
end
end Go.Ev
namespace Go.Ev
open Go.RowKit
theorem evs_congr {t u : T EVal} : ∀ {l : List Operand}, (∀ x ∈ l, ev t x = ev u x) → evs t l = evs u l
 | [], _ => rfl
 | x :: l, h => by simp only [evs]; rw [h x (by simp), evs_congr (fun y hy => h y (by simp [hy]))]
theorem evParts_congr {t u : T EVal} : ∀ {l : List (Nat × Operand)}, (∀ x ∈ l.map (·.2), ev t x = ev u x) → cJ t l = cJ u l
 | [], _ => rfl
 | (i, x) :: l, h => by simp only [cJ]; rw [h x (by simp), evParts_congr (fun y hy => h y (by simp at hy ⊢; exact .inr hy))]
theorem evOpt_congr {t u : T EVal} {x : Option Operand} (h : ∀ y, x = some y → ev t y = ev u y) : iN t x = iN u x := by
 cases x with
 | none => rfl
 | some y => simp only [iN]; rw [h y rfl]
theorem aq5 {P : Program} {g : G} {h : H} {t u : T EVal} {o : Oper} (hx : ∀ x ∈ o.op.operands.toList, ev t x = ev u x) : eOp P g h t o = eOp P g h u o := by
 unfold eOp
 split
 all_goals first | (rfl; done) | skip
 all_goals first
  | (rename_i hop; rw [hop] at hx; refine congrArg _ (evParts_congr (fun x h => hx x ?_)); simpa [Op.operands] using h)
  | (rename_i hop; rw [hop] at hx; refine congrArg _ (evs_congr (fun x h => hx x ?_)); simp only [Op.operands, Array.toList_append, List.mem_append]; exact .inr h)
  | (rename_i fs cs hop; rw [hop] at hx; rw [show evs t fs.toList = evs u fs.toList from evs_congr (fun x h => hx x (by simp only [Op.operands, Array.toList_append, List.mem_append]; exact .inl h)), show evs t cs.toList = evs u cs.toList from evs_congr (fun x h => hx x (by simp only [Op.operands, Array.toList_append, List.mem_append]; exact .inr h))])
  | (rename_i x lo hi hop; rw [hop] at hx; rw [hx x (by simp [Op.operands]), evOpt_congr (x := lo) (fun y hy => hx y (by subst hy; simp [Op.operands])), evOpt_congr (x := hi) (fun y hy => hx y (by subst hy; simp [Op.operands]))])
  | (rename_i hop; rw [hop] at hx; simp only [Op.operands, List.mem_cons, List.not_mem_nil, or_false, forall_eq, forall_eq_or_imp] at hx; first | rw [hx] | rw [hx.1, hx.2] | rw [hx.1, hx.2.1, hx.2.2])
  | skip
 rename_i c hop
 rw [hop] at hx
 have hc : ∀ x ∈ c.operands.toList, ev t x = ev u x := hx
 unfold Call.operands at hc
 have h1 : evs t c.args.toList = evs u c.args.toList := evs_congr (fun x h => hc x (by rw [Array.toList_append, List.mem_append]; exact .inr h))
 rw [h1]
 unfold eU
 cases hcal : c.callee with
 | value f =>
   have h2 : ev t f = ev u f := hc f (by rw [hcal]; simp)
   simp only [h2]
 | _ => rfl
theorem pE (t : T EVal) (s : Nat) (l : List Nat) : uH t (s :: l) = (uH t l).set s (t.get s) := (rfl)
theorem zX (t : T EVal) (l : List Nat) (i : Nat) (h : i < 1000) : (uH t l).has i := by
 induction l with
 | nil => exact T.has_full _ _ _ (by omega)
 | cons s l ih => rw [pE]; exact (T.has_set _ _ _ _).2 ih
theorem kK (t : T EVal) {l : List Nat} {i : Nat} (h : i < 1000) (hm : i ∈ l) : (uH t l).get i = t.get i := by
 induction l with
 | nil => cases hm
 | cons s l ih =>
   rw [pE]
   by_cases e : i = s
   · subst e; exact T.get_set_same _ _ _ (zX _ _ _ h)
   · rw [T.get_set_ne _ _ _ _ e]
     exact ih ((List.mem_cons.1 hm).resolve_left e)
theorem d9 {i : Nat} : ∀ {l : List Operand}, .tmp i ∈ l → i ∈ lS l
 | .tmp j :: l, h => by
   simp only [lS, List.mem_cons]
   rcases List.mem_cons.1 h with h | h
   · cases h; exact .inl rfl
   · exact .inr (d9 h)
 | .const _ :: l, h => by simp only [lS]; exact d9 ((List.mem_cons.1 h).resolve_left (by simp))
 | .global _ :: l, h => by simp only [lS]; exact d9 ((List.mem_cons.1 h).resolve_left (by simp))
 | .func _ :: l, h => by simp only [lS]; exact d9 ((List.mem_cons.1 h).resolve_left (by simp))
section
variable {P : Program} {g : G} {K : aS}
theorem jR {ops : Array Oper} {o : Oper} {f : EFr} {h : H} (hs : ∀ s ∈ bK ops o, s < 1000) : eOp P g h (aL ops o f) o = eOp P g h f.tmps o := by
 refine aq5 fun x hx => ?_
 cases x with
 | tmp i =>
   have : i ∈ bK ops o := List.mem_append_left _ (d9 hx)
   exact kK _ (hs i this) this
 | _ => rfl
theorem lN {ops : Array Oper} {o : Oper} {f : EFr} (hs : ∀ s ∈ bK ops o, s < 1000) : a9 ops (aL ops o f) o = a9 ops f.tmps o := by
 unfold a9
 split
 · rfl
 · rename_i j want hg
   have : dH ops (aL ops o f) j = dH ops f.tmps j := by
    unfold dH
    split
    · rename_i q hq
      split
      · rename_i d hd
        have hm : d ∈ bK ops o := List.mem_append_right _ (by unfold s4; rw [hg]; simp [hq, hd])
        have : (aL ops o f).get d = f.tmps.get d := kK _ (hs d hm) hm
        rw [this]
      · rfl
    · rfl
   rw [this]
def actIdx : List (Bool × Bool) → Nat → List Nat
 | [], _ => []
 | (a, _) :: l, i => if a then i :: actIdx l (i + 1) else actIdx l (i + 1)
noncomputable def cM : List (Bool × Bool) → Nat → List (Nat × Bool)
 | [], _ => []
 | (a, e) :: l, i => bif a then (i, e) :: cM l (i + 1) else cM l (i + 1)
noncomputable def eY (A : List Nat) (i : Nat) : List (Nat × Bool) → Bool
 | [] => true
 | (a, e) :: l => bif Nat.blt a i then (bif hasB (nthM A i) a then eY A i l else false) else
   (bif hasB (nthM A i) a then false else bif hasB (nthM A a) i then true else bif e then eY A i l else false)
noncomputable def hI (A : List Nat) (acts : List (Nat × Bool)) : List (Bool × Bool) → Nat → Bool
 | [], _ => true
 | (a, nd) :: l, i => bif (bif nd then (bif a then true else eY A i acts) else true) then hI A acts l (i + 1) else false
noncomputable def qT (A : List Nat) (fl : List (Bool × Bool)) : Bool :=
 match actIdx fl 0 with
 | [] => true
 | acts => bif fU A acts acts then hI A (cM fl 0) fl 0 else false
def jG (P : Program) (K : aS) (k : EVal → H → Bool × Bool → Prop) (o : Oper) (h : H) : Option EOut → Prop
 | some (.val v h') => if isPure o = true then k v h (false, false) else if isStill o h' v = true then k v h (false, true) else k v h' (true, ax1 o h)
 | some (.enter fn args h') => match kcall P K h' fn args with
   | some v => k v h (false, true)
   | none => False
 | _ => False
def axP (P : Program) (g : G) (K : aS) (all : Array Oper) (Q : List (Bool × Bool) → EFr → H → Prop) : List Oper → List (Bool × Bool) → EFr → H → Prop
 | [], fl, f, h => Q fl f h
 | o :: rest, fl, f, h => match a9 all f.tmps o with
   | some true => jG P K (fun v h' b => axP P g K all Q rest (b :: fl) (f.putd o.dst v) h') o h (eOp P g h f.tmps o)
   | some false => axP P g K all Q rest ((false, false) :: fl) (f.putd o.dst bY) h
   | none => False
def rZ (k : EVal → H → Bool × Bool → Prop) (v : EVal) (h h' : H) (e : Bool) : Bool → Bool → Prop
 | true, _ => k v h (false, false)
 | false, true => k v h (false, true)
 | false, false => k v h' (true, e)
theorem t7 {k : EVal → H → Bool × Bool → Prop} {v : EVal} {h h' : H} {e q : Bool} : rZ k v h h' e true q = k v h (false, false) := by cases q <;> rfl
theorem lF {k : EVal → H → Bool × Bool → Prop} {v : EVal} {h h' : H} {e : Bool} : rZ k v h h' e false true = k v h (false, true) := (rfl)
theorem xN {k : EVal → H → Bool × Bool → Prop} {v : EVal} {h h' : H} {e : Bool} : rZ k v h h' e false false = k v h' (true, e) := (rfl)
def wpDKc (k : EVal → H → Bool × Bool → Prop) (h : H) : Option EVal → Prop
 | some v => k v h (false, true)
 | none => False
theorem xO {k : EVal → H → Bool × Bool → Prop} {h : H} {v : EVal} : wpDKc k h (some v) = k v h (false, true) := (rfl)
theorem o7 {k : EVal → H → Bool × Bool → Prop} {o : Oper} {h h' : H} {v : EVal} : jG P K k o h (some (.val v h')) = rZ k v h h' (ax1 o h) (isPure o) (isStill o h' v) := by
 show (if isPure o = true then k v h (false, false) else if isStill o h' v = true then k v h (false, true) else k v h' (true, ax1 o h)) = _
 unfold rZ
 cases isPure o <;> cases isStill o h' v <;> rfl
theorem sA {k : EVal → H → Bool × Bool → Prop} {o : Oper} {h h' : H} {fn : FuncId} {args : List EVal} : jG P K k o h (some (.enter fn args h')) = wpDKc k h (kcall P K h' fn args) := by
 show (match kcall P K h' fn args with | some v => k v h (false, true) | none => False) = _
 cases kcall P K h' fn args <;> rfl
noncomputable def kX (ops : Array Oper) (n : Nat) : Bool :=
 hD ops (rU ops.toList []) && ops.toList.all fun o => nZ o n && (bK ops o).all fun s => Nat.blt s 1000
inductive kC (P : Program) (g : G) (K : aS) (all : Array Oper) : List aH → List (Bool × Bool) → H → Prop
 | nil (h : H) : kC P g K all [] [] h
 | cons (x : aH) (b : Bool × Bool) (st : List aH) (fl : List (Bool × Bool)) (h : H) (hh : x.h = h) (ha : x.act.isSome = b.1)
   (hn : iM all x = true → (b.2 = true ∧ b.1 = false ∧ ∀ h2, HGrow x.h h2 → cG P g K all x h2 = true) ∨ ∀ h2, h2.m = x.h.m → cG P g K all x h2 = true)
   (he : ∀ h', x.act = some h' → h'.m = x.h.m ∧ (b.2 = true → HGrow x.h h')) (rest : kC P g K all st fl (x.act.getD h)) : kC P g K all (x :: st) (b :: fl) h
theorem sN {ops : Array Oper} {o : Oper} {f : EFr} (hs : ∀ s ∈ bK ops o, s < 1000) : isKept (aL ops o f) o = isKept f.tmps o := by
 unfold isKept
 split
 · rename_i ty x hop
   have : ev (aL ops o f) x = ev f.tmps x := by
    cases x with
    | tmp i =>
      have : i ∈ bK ops o := List.mem_append_left _ (d9 (by rw [hop]; simp [Op.operands]))
      exact kK _ (hs i this) this
    | _ => rfl
   rw [this]
 · rfl
def kO (h : H) (o : Oper) : Bool := match o.op with
 | .buildSlice _ _ _ => h.fz
 | _ => false
def bX (P : Program) (g : G) (K : aS) (all : Array Oper) (Q : List (Bool × Bool) → EFr → H → Prop) : List Oper → List (Bool × Bool) → EFr → H → Prop
 | [], fl, f, h => Q fl f h
 | o :: rest, fl, f, h => match a9 all f.tmps o with
   | some true => ((isKept f.tmps o = true ∨ kO h o = true) ∧ ∃ v, eOp P g h f.tmps o = some (.val v h) ∧ bX P g K all Q rest ((false, false) :: fl) (f.putd o.dst v) h) ∨
     jG P K (fun v h' b => bX P g K all Q rest (b :: fl) (f.putd o.dst v) h') o h (eOp P g h f.tmps o)
   | some false => bX P g K all Q rest ((false, false) :: fl) (f.putd o.dst bY) h
   | none => False
def t6 (P : Program) (g : G) (K : aS) (all : Array Oper) (Q : List (Bool × Bool) → EFr → H → Prop) (o : Oper) (rest : List Oper) (fl : List (Bool × Bool)) (f : EFr) (h : H) : Option Bool → Prop
 | some true => ((isKept f.tmps o = true ∨ kO h o = true) ∧ ∃ v, eOp P g h f.tmps o = some (.val v h) ∧ bX P g K all Q rest ((false, false) :: fl) (f.putd o.dst v) h) ∨
   jG P K (fun v h' b => bX P g K all Q rest (b :: fl) (f.putd o.dst v) h') o h (eOp P g h f.tmps o)
 | some false => bX P g K all Q rest ((false, false) :: fl) (f.putd o.dst bY) h
 | none => False
theorem t8 {k k' : EVal → H → Bool × Bool → Prop} (hk : ∀ v h b, k v h b → k' v h b) {o : Oper} {h : H} {x : Option EOut} (hw : jG P K k o h x) : jG P K k' o h x := by
 unfold jG at hw ⊢
 split at hw
 · split at hw
   · rename_i h1; rw [if_pos h1]; exact hk _ _ _ hw
   · rename_i h1
     rw [if_neg h1]
     split at hw
     · rename_i h2; rw [if_pos h2]; exact hk _ _ _ hw
     · rename_i h2; rw [if_neg h2]; exact hk _ _ _ hw
 · split at hw
   · exact hk _ _ _ hw
   · exact hw
 · exact hw
theorem eJ {all : Array Oper} {Q Q' : List (Bool × Bool) → EFr → H → Prop} (hq : ∀ fl f h, Q fl f h → Q' fl f h) : ∀ {l : List Oper} {fl : List (Bool × Bool)} {f : EFr} {h : H}, bX P g K all Q l fl f h → bX P g K all Q' l fl f h
 | [], _, _, _, hw => hq _ _ _ hw
 | o :: rest, fl, f, h, hw => by
   simp only [bX] at hw ⊢
   split at hw
   · rcases hw with ⟨h1, v, h2, hw⟩ | hw
     · exact .inl ⟨h1, v, h2, eJ hq hw⟩
     · exact .inr (t8 (fun v h b hq' => eJ hq hq') hw)
   · exact eJ hq hw
   · exact hw
theorem o6 {all : Array Oper} {Q : List (Bool × Bool) → EFr → H → Prop} {r : Rec} : ∀ (l : List Oper) (fl : List (Bool × Bool)) (f : EFr) (h : H), (∀ o ∈ l, nZ o f.sz = true ∧ ∀ s ∈ bK all o, s < 1000) → bX P g K all Q l fl f h →
  ∃ st f' h' fl', f6 P g K r all l f h = some (st, f', h') ∧ kC P g K all st fl' h ∧ Q (fl'.reverse ++ fl) f' h'
 | [], fl, f, h, _, hw => ⟨[], f, h, [], rfl, .nil _, hw⟩
 | o :: l, fl, f, h, hs, hw => by
   obtain ⟨hd, hr⟩ := hs o (by simp)
   have hgo : f6 P g K r all (o :: l) f h = (match nZ o f.sz with
    | false => none
    | true => match gW P g K r o (aL all o f) h (a9 all (aL all o f) o) with
      | some (v, none) => rO ⟨o, f, v, h, none⟩ (f6 P g K r all l (f.putd o.dst v) h)
      | some (v, some h') => rO ⟨o, f, v, h, some h'⟩ (f6 P g K r all l (f.putd o.dst v) h')
      | none => none) := rfl
   rw [hgo, hd]
   simp only
   have hsz : ∀ v, (f.putd o.dst v).sz = f.sz := fun v => by
    unfold EFr.putd
    split
    · simp only [Bool.cond_eq_ite]; split <;> rfl
    · rfl
   have hs' : ∀ v, ∀ o' ∈ l, nZ o' (f.putd o.dst v).sz = true ∧ ∀ s ∈ bK all o', s < 1000 := fun v o' ho' => by rw [hsz]; exact hs o' (by simp [ho'])
   have next : ∀ (v : EVal) (h' : H) (act : Option H) (b : Bool × Bool), act.isSome = b.1 → act.getD h = h' → (iM all ⟨o, f, v, h, act⟩ = true → (b.2 = true ∧ b.1 = false ∧ ∀ h2, HGrow h h2 → cG P g K all ⟨o, f, v, h, act⟩ h2 = true) ∨ ∀ h2, h2.m = h.m → cG P g K all ⟨o, f, v, h, act⟩ h2 = true) →
     (∀ h2, act = some h2 → h2.m = h.m ∧ (b.2 = true → HGrow h h2)) → bX P g K all Q l (b :: fl) (f.putd o.dst v) h' →
     ∃ st f' h2 fl', rO ⟨o, f, v, h, act⟩ (f6 P g K r all l (f.putd o.dst v) h') = some (st, f', h2) ∧ kC P g K all st fl' h ∧ Q (fl'.reverse ++ fl) f' h2 := by
    intro v h' act b hb1 hb3 hb2 hb4 hq
    obtain ⟨st, f', h2, fl', e1, e2, e3⟩ := o6 (r := r) l (b :: fl) _ h' (hs' v) hq
    subst hb3
    refine ⟨_, f', h2, b :: fl', by rw [e1]; rfl, .cons ⟨o, f, v, h, act⟩ _ _ _ _ rfl hb1 hb2 hb4 e2, ?_⟩
    rw [List.reverse_cons, List.append_assoc]; exact e3
   unfold bX at hw
   rw [lN hr]
   split at hw
   · rename_i hwant
     rw [hwant]
     simp only [gW]
     rw [jR hr]
     rcases hw with ⟨hk, v, heq, hw⟩ | hw
     · rw [heq]
       rcases hk with hk | hk
       · simp only [pW, Bool.cond_eq_ite, xY hk, Bool.or_true, if_true]
         exact next v h none (false, false) rfl rfl (by simp [iM, sN hr, hk]) (fun _ e => by cases e) hw
       · have hst : isStill o h v = true := by
          unfold kO at hk
          unfold isStill
          split at hk
          · rename_i hop; rw [hop]; exact hk
          · cases hk
         simp only [pW, Bool.cond_eq_ite, hst, Bool.or_true, if_true]
         refine next v h none (false, false) rfl rfl (fun _ => .inr fun h2 hm => ?_) (fun _ e => by cases e) hw
         unfold kO at hk
         split at hk
         · rename_i hop
           obtain ⟨_, e3⟩ := qA hop hk heq hm
           show lP P K _ (eOp P g h2 (aL all o f) o) = true
           rw [jR hr, e3]
           have hst2 : isStill o h2 v = true := by
            unfold isStill; rw [hop]
            show h2.fz = true
            rw [← hk]; unfold H.fz; rw [hm]
           simp only [lP, hst2, EVal.beq_refl, Bool.and_self]
         · cases hk
     unfold jG at hw
     split at hw
     · rename_i v h' heq
       rw [heq]
       simp only [pW, Bool.cond_eq_ite]
       split at hw
       · rename_i hp
         simp only [hp, Bool.true_or, if_true]
         exact next v h none (false, false) rfl rfl (by simp [iM, hp]) (fun _ e => by cases e) hw
       · rename_i hp
         have hp' : isPure o = false := by simpa using hp
         split at hw
         · rename_i hqt
           simp only [hp', hqt, Bool.or_true, if_true]
           refine next v h none (false, true) rfl rfl (fun _ => .inl ⟨rfl, rfl, fun h2 hg => ?_⟩) (fun _ e => by cases e) hw
           obtain ⟨h3, e3, e4⟩ := zJ hg hqt heq
           show lP P K _ (eOp P g h2 (aL all o f) o) = true
           rw [jR hr, e3]
           simp only [lP, e4, EVal.beq_refl, Bool.and_self]
         · rename_i hqt
           have hqt' : isStill o h' v = false := by simpa using hqt
           simp only [hp', hqt', Bool.or_false, Bool.false_eq_true, if_false]
           exact next v h' (some h') (true, ax1 o h) rfl rfl (by simp [iM]) (fun h2 e => by cases e; exact ⟨eOp_m heq, fun hb => aj7 hb heq⟩) hw
     · rename_i fn args h' heq
       rw [heq]
       simp only [pW]
       split at hw
       · rename_i v hk
         rw [hk]
         refine next v h none (false, true) rfl rfl (fun _ => .inl ⟨rfl, rfl, fun h2 hg => ?_⟩) (fun _ e => by cases e) hw
         obtain ⟨rfl, e3⟩ := aq3 (hh := h2) heq
         show lP P K _ (eOp P g h2 (aL all o f) o) = true
         rw [jR hr, e3]
         simp only [lP, aqH hg hk, EVal.beq_refl]
       · exact hw.elim
     · exact hw.elim
   · rename_i hwant
     rw [hwant]
     simp only [gW]
     refine next bY h none (false, false) rfl rfl (fun hn => ?_) (fun _ e => by cases e) hw
     unfold iM at hn
     simp only [lN hr, hwant] at hn
     generalize (isPure o || isKept _ o) = q at hn
     cases q <;> cases hn
   · exact hw.elim
theorem tU {all : Array Oper} {st : List aH} {fl : List (Bool × Bool)} {h : H} (H1 : kC P g K all st fl h) : ∀ i, actsOf st i = actIdx fl i := by
 induction H1 with
 | nil => intro i; rfl
 | cons x b st fl h hh ha hn he rest ih =>
   intro i
   obtain ⟨a, nd⟩ := b
   have e : actsOf (x :: st) i = Option.rec (motive := fun _ => List Nat) (actsOf st (Nat.succ i)) (fun _ => i :: actsOf st (Nat.succ i)) x.act := rfl
   rw [e]
   simp only [actIdx]
   cases hx : x.act with
   | none => rw [hx] at ha; simp at ha; subst ha; simpa using ih (i + 1)
   | some h' => rw [hx] at ha; simp at ha; subst ha; simpa using ih (i + 1)
theorem g9 {all : Array Oper} {A : List Nat} {i a : Nat} {x y : aH} {h : H} {l : List aH} : eW P g K all A i x a h (y :: l) = (match y.act with
  | none => eW P g K all A i x (a + 1) h l
  | some h' => bif hasB (nthM A i) a then eW P g K all A i x (a + 1) h' l
    else bif hasB (nthM A a) i then cG P g K all x h
    else cG P g K all x h && eW P g K all A i x (a + 1) h' l) := rfl
theorem gE {all : Array Oper} {A : List Nat} {i : Nat} {x : aH} (hx : ∀ h2, HGrow x.h h2 → cG P g K all x h2 = true) : ∀ {st : List aH} {fl : List (Bool × Bool)} {h : H}, kC P g K all st fl h → ∀ a, i < a → HGrow x.h h → eY A i (cM fl a) = true → eW P g K all A i x a h st = true
 | _, _, h, .nil _, a, _, hg, _ => hx h hg
 | _, _, h, .cons y b st fl _ hh ha hn he rest, a, hi, hg, hq => by
   obtain ⟨b1, b2⟩ := b
   rw [g9]
   cases hy : y.act with
   | none =>
     rw [hy] at ha rest
     simp at ha
     subst ha
     exact gE hx rest (a + 1) (by omega) hg hq
   | some h' =>
     rw [hy] at ha rest
     change kC P g K all st fl h' at rest
     simp at ha
     subst ha
     simp only
     have e : eY A i ((a, b2) :: cM fl (a + 1)) = true := hq
     have hlt : Nat.blt a i = false := by rw [Bool.eq_false_iff]; intro e; rw [Nat.blt_eq] at e; omega
     simp only [eY, hlt, cond_false] at e
     cases h1 : hasB (nthM A i) a with
     | true => rw [h1] at e; cases e
     | false =>
       rw [h1] at e
       simp only [cond_false] at e ⊢
       cases h2 : hasB (nthM A a) i with
       | true => simp only [cond_true]; exact hx h hg
       | false =>
         rw [h2] at e
         simp only [cond_false] at e ⊢
         cases h3 : b2 with
         | false => rw [h3] at e; cases e
         | true =>
           rw [h3] at e
           simp only [cond_true] at e
           subst hh
           rw [hx _ hg, gE hx rest (a + 1) (by omega) (hg.trans ((he h' hy).2 h3)) e]; rfl
theorem kF {all : Array Oper} {A : List Nat} {i : Nat} {x : aH} {m : Nat} (hx : ∀ h2, h2.m = m → cG P g K all x h2 = true) : ∀ {st : List aH} {fl : List (Bool × Bool)} {h : H}, kC P g K all st fl h → ∀ a, h.m = m → eW P g K all A i x a h st = true
 | _, _, h, .nil _, a, hg => hx h hg
 | _, _, h, .cons y b st fl _ hh ha hn he rest, a, hg => by
   rw [g9]
   cases hy : y.act with
   | none =>
     rw [hy] at rest
     exact kF hx rest (a + 1) hg
   | some h' =>
     rw [hy] at rest
     change kC P g K all st fl h' at rest
     have hm : h'.m = m := by rw [(he h' hy).1, hh]; exact hg
     simp only
     rw [hx h hg, kF hx rest (a + 1) hm]
     cases hasB (nthM A i) a <;> cases hasB (nthM A a) i <;> rfl
theorem aqW {all : Array Oper} {x : aH} {l2 : List aH} : ∀ (l1 : List aH) {fl : List (Bool × Bool)} {h : H}, kC P g K all (l1 ++ x :: l2) fl h → h.m = x.h.m
 | [], _, h, HF => by
   rw [List.nil_append] at HF
   cases HF with
   | cons _ b st fl _ hh ha hn he rest => rw [hh]
 | y :: l1, _, h, HF => by
   rw [List.cons_append] at HF
   cases HF with
   | cons _ b st fl _ hh ha hn he rest =>
     rw [← aqW l1 rest]
     cases hy : y.act with
     | none => rfl
     | some h' => rw [← hh]; exact ((he h' hy).1).symm
theorem iT {all : Array Oper} {A : List Nat} {i : Nat} {x : aH} {l2 : List aH} (h3 : ∀ h2, HGrow x.h h2 → cG P g K all x h2 = true) (hact : x.act = none) : ∀ (l1 : List aH) {fl : List (Bool × Bool)} {h : H}, kC P g K all (l1 ++ x :: l2) fl h → ∀ a, a + l1.length = i → eY A i (cM fl a) = true → eW P g K all A i x a h (l1 ++ x :: l2) = true
 | [], _, h, HF, a, hi, hq => by
   rw [List.nil_append] at HF
   cases HF with
   | cons _ b st fl _ hh ha hn he rest =>
   obtain ⟨b1, b2⟩ := b
   simp only [List.length_nil, Nat.add_zero] at hi
   subst hi
   show eW P g K all A a x a h (x :: l2) = true
   rw [g9]
   have hb1 : b1 = false := by rw [hact] at ha; simpa using ha.symm
   subst hb1
   rw [hact] at rest
   rw [hact]
   exact gE h3 rest (a + 1) (by omega) (by subst hh; exact HGrow.refl _) hq
 | y :: l1, _, h, HF, a, hi, hq => by
   rw [List.cons_append] at HF
   cases HF with
   | cons _ b st fl _ hh ha hn he rest =>
   obtain ⟨b1, b2⟩ := b
   simp only [List.length_cons] at hi
   show eW P g K all A i x a h (y :: (l1 ++ x :: l2)) = true
   rw [g9]
   cases hy : y.act with
   | none =>
     rw [hy] at ha rest
     simp at ha
     subst ha
     exact iT h3 hact l1 rest (a + 1) (by omega) hq
   | some h' =>
     rw [hy] at ha rest
     simp at ha
     subst ha
     simp only
     have e : eY A i ((a, b2) :: cM fl (a + 1)) = true := hq
     have hlt : Nat.blt a i = true := by rw [Nat.blt_eq]; omega
     simp only [eY, hlt, cond_true] at e
     cases h1 : hasB (nthM A i) a with
     | false => rw [h1] at e; cases e
     | true =>
       rw [h1] at e
       simp only [cond_true] at e ⊢
       exact iT h3 hact l1 rest (a + 1) (by omega) e
theorem iP {all : Array Oper} {A acts : List Nat} {h0 : H} {fl0 : List (Bool × Bool)} : ∀ (st l1 : List aH) (fl : List (Bool × Bool)) (h : H), kC P g K all (l1 ++ st) fl0 h0 → kC P g K all st fl h → hI A (cM fl0 0) fl l1.length = true → dI P g K all A (l1 ++ st) h0 acts st l1.length = true
 | [], _, _, _, _, _, _ => rfl
 | x :: st, l1, _, _, H0, .cons _ b _ fl h hh ha hn he rest, hq => by
   obtain ⟨a, nd⟩ := b
   have e : dI P g K all A (l1 ++ x :: st) h0 acts (x :: st) l1.length = (bif (bif quick A l1.length acts then true else bif iM all x then eW P g K all A l1.length x 0 h0 (l1 ++ x :: st) else true) then dI P g K all A (l1 ++ x :: st) h0 acts st (Nat.succ l1.length) else false) := rfl
   have hq2 : (bif (bif nd then (bif a then true else eY A l1.length (cM fl0 0)) else true) then hI A (cM fl0 0) fl (l1.length + 1) else false) = true := hq
   have hrest : hI A (cM fl0 0) fl (l1.length + 1) = true := by
    cases hc : (bif nd then (bif a then true else eY A l1.length (cM fl0 0)) else true) with
    | true => rw [hc] at hq2; exact hq2
    | false => rw [hc] at hq2; cases hq2
   have h1 : (bif iM all x then eW P g K all A l1.length x 0 h0 (l1 ++ x :: st) else true) = true := by
    cases hnx : iM all x with
    | false => rfl
    | true =>
      have hact : x.act = none := by
       cases hx : x.act with
       | none => rfl
       | some _ => unfold iM at hnx; rw [hx] at hnx; cases hnx
      rcases hn hnx with ⟨e1, e2, h3⟩ | hall
      rotate_left
      · exact kF hall H0 0 (aqW l1 H0)
      simp only at e1 e2
      subst e1 e2
      have h2 : eY A l1.length (cM fl0 0) = true := by
       cases hc : eY A l1.length (cM fl0 0) with
       | true => rfl
       | false => simp only [cond_true, cond_false, hc] at hq2; cases hq2
      exact iT h3 hact l1 H0 0 (by omega) h2
   have ih := iP (acts := acts) st (l1 ++ [x]) fl _ (by rw [List.append_assoc]; exact H0) rest (by rw [List.length_append]; exact hrest)
   rw [List.append_assoc] at ih
   have ih2 : dI P g K all A (l1 ++ x :: st) h0 acts st (l1.length + 1) = true := by
    have := ih
    rw [List.length_append] at this
    exact this
   rw [e, h1]
   cases quick A l1.length acts <;> exact ih2
theorem Top.drawK {A : Option Nat} (hm : P.follows .mixedOrders = true) (hng : kB P) {id : Nat} {ops : Array Oper} {f : EFr} {h : H} {Q : tW} (hs : kX ops f.sz = true)
  (hw : bX P g K ops (fun fl f' h' => qT (rU ops.toList []) fl.reverse = true ∧ Q .normal f' h') ops.toList [] f h) : Top A P g K (.region id ops true) f h Q := by
 unfold kX at hs
 simp only [Bool.and_eq_true, List.all_eq_true, Nat.blt_eq] at hs
 obtain ⟨st, f', h', fl', e1, e2, e3, e4⟩ := o6 (r := Go.Ev.run P g K 0) ops.toList [] f h hs.2 hw
 simp only [List.append_nil, List.reverse_reverse] at e3
 refine Top.runDraw hm hng (n := 0) (outs := [.code .normal f' h']) ?_ (fun e f'' h'' hmem => by simp at hmem; obtain ⟨rfl, rfl, rfl⟩ := hmem; exact e4)
 unfold Go.Ev.runDraw
 rw [e1]
 simp only [vB]
 rw [hs.1]
 have : tV P g K ops (rU ops.toList []) st h (actsOf st 0) = true := by
  rw [tU e2]
  unfold qT at e3
  generalize actIdx fl' 0 = acts at e3
  cases acts with
  | nil => rfl
  | cons a acts =>
    have e4 : fU (rU ops.toList []) (a :: acts) (a :: acts) = true ∧ hI (rU ops.toList []) (cM fl' 0) fl' 0 = true := by
     cases hc : fU (rU ops.toList []) (a :: acts) (a :: acts) with
     | true => simp only [hc, cond_true] at e3; exact ⟨rfl, e3⟩
     | false => simp only [hc, cond_false] at e3; cases e3
    show (bif fU _ (a :: acts) (a :: acts) then dI P g K ops _ st h (a :: acts) st 0 else false) = true
    rw [e4.1]
    exact iP st [] fl' h e2 e2 e4.2
 rw [this]; rfl
end
end Go.Ev


namespace Go.Ev
open Go.RowKit
theorem ajb {n : Nat} {l : List (Nat × EVal)} {ds : List Nat} {r : Option Nat} {i : Nat} {v : EVal} (h : i < n) : (mkD n l ds r).putd (some i) v = mkD n ((i, v) :: l) ds r := by
 unfold EFr.putd mkD
 simp only [Nat.blt_eq, Bool.cond_eq_ite, h, if_true]
 rfl
section
variable {P : Program} {g : G} {K : aS}
theorem View.mode {A : Option Nat} {f : EFr} {n m : Nat} {l : List (Nat × Option gB)} {k : List (Nat × Option (Nat × TypeId))} (m' : Nat) (hm : m % 1048576 ≤ m' % 1048576) : View A P f (mkH n l m k) f (mkH n l m' k) := fun B0 W0 b t d ρ w F R =>
 ⟨ρ, Loc.leA_refl, F, R.below, R.base, R.dom, R.lo, R.inj, R.objs, R.fz, R.free, R.fz0, fun id q hid => R.mdom id q (Nat.le_trans hm hid), R.toks, R.tnew, R.tinj⟩
def Ends2 (P : Program) (g : G) (fn : Func) (k : EVal → H → Prop) : tW := fun e f h =>
 (match e with | .normal => True | .ret => True | .exit _ => False) ∧ ∃ h2 es, dD h f.defers = some h2 ∧ a0 P g h2 f.tmps fn.results.toList = some es ∧ k (one es) h2
theorem uS {ρ ρ' : Loc} {B0 : Nat} {W0 : f9} {h : H} {w : World} (R : HRel P B0 W0 ρ h w) (hl : ρ.leA (some h.n) ρ') : ρ.le ρ' := by
 have hl := hl _ rfl
 refine ⟨fun id x hx => ?_, hl.fro, hl.tau⟩
 rcases Nat.lt_or_ge id h.n with h1 | h1
 · exact hl.own id x h1 hx
 · rw [R.dom id h1] at hx; cases hx
theorem CallT.intro {f : FuncId} {args : List EVal} {h : H} {k : EVal → H → Prop} {fn : Func} (hfn : P.funcs[f]? = some fn) {c : Code} (hc : fn.body = some c)
  (H1 : Top (some h.n) P g K c (mW fn args) h (Ends2 P g fn k)) : CallT P g K f args h k := by
 intro B0 W0 G hK vs ρ w hvs R cs
 let b : Frame := { (default : Frame) with fn := f, kind := .normal, roundOf := none }
 have henter : Frame.enter P f vs .normal = fr b (vs ++ Array.replicate (fn.ntmps - vs.size) undef) [] [.code c] := by
  simp [Frame.enter, fr, hfn, hc, b]
 have F0 : FRel ρ (mW fn args) b (vs ++ Array.replicate (fn.ntmps - vs.size) undef) [] := by
  have hl : args.length = vs.size := by rw [hvs.length]; simp
  refine ⟨?_, ?_, .nil, trivial⟩
  · simp only [Array.size_append, Array.size_replicate]
    show _ = Nat.max fn.ntmps args.length
    rw [hl]
    simp only [Nat.max_def]; split <;> omega
  · refine fM args 0 _ _ (fun j e hj => ?_) (fun i e hi hor => ?_)
    · obtain ⟨u, hu, hr⟩ := hvs.get hj
      have hlt : j < vs.size := by have := (List.getElem?_eq_some_iff.1 hu).1; simpa using this
      have : (vs ++ Array.replicate (fn.ntmps - vs.size) undef).getD (0 + j) undef = u := by
       rw [Array.getD_eq_getD_getElem?, Nat.zero_add, Array.getElem?_append_left hlt]
       have : vs[j]? = some u := by simpa using hu
       rw [this]; rfl
      rw [this]; exact hr
    · have := T.get_full _ _ _ hi
      cases this
      have : (vs ++ Array.replicate (fn.ntmps - vs.size) undef).getD i undef = undef := by
       rw [Array.getD_eq_getD_getElem?, Array.getElem?_append_right (by omega), Array.getElem?_replicate]
       split <;> rfl
      rw [this]; exact cT _
 obtain ⟨e, f1, h1, ⟨hend, h2, es, hta, hes, hk⟩, t1, d1, w1, ρ1, l1, F1, R1, A1⟩ := H1 B0 W0 G hK b _ [] [] cs ρ w F0 R
 have hle := uS R l1
 rw [← henter] at A1
 have fin : ∀ (todo : List Item), Steps P (lone (Frame.enter P f vs .normal) cs w) (lone { fr b t1 d1 todo with mode := .returning } cs w1) →
   ∃ (e : Ending) (w' : World) (fr' : Frame), (∃ v h' u ρ', k v h' ∧ e = .returned u ∧ ρ.le ρ' ∧ VRel ρ' v u ∧ HRel P B0 W0 ρ' h' w') ∧ Comes P (lone (Frame.enter P f vs .normal) cs w) (lone fr' cs w') e ∧ fr'.fn = f ∧ fr'.leaving P w' e := by
  intro todo hs
  obtain ⟨w2, R2, s2⟩ := dW (b := b) (todo := todo) (t := t1) (cs := cs) F1.defers R1 hta
  obtain ⟨us, hu1, hu2⟩ := cU G R2 F1.tmps _ _ hes
  refine ⟨.returned (if h : us.toArray.size = 1 then us.toArray[0] else .tuple us.toArray), w2, _, ⟨_, _, _, ρ1, hk, rfl, hle, uL hu2, R2⟩, Steps.trans hs s2, rfl, rfl, rfl, rfl, fn, hfn, ?_⟩
  show (results fn t1).run P w2 = _
  unfold results
  rw [Array.mapM_eq_mapM_toList]
  simp only [Sem.run_bind, Sem.run_map, Sem.run_pure]
  have := congrArg (fun q => (q.andThen fun a w' => (Result.ok (a.toArray : Array Value) w' : Result (Array Value))).andThen fun vs w' => (Result.ok (if h : vs.size = 1 then vs[0] else Value.tuple vs) w' : Result Value)) hu1
  exact this
 cases e with
 | ret =>
   obtain ⟨k', s1⟩ := A1
   exact fin _ (Steps.trans s1 (.one (zL rfl)))
 | normal => exact fin _ (Steps.trans A1 (.one (zO rfl)))
 | exit id => exact hend.elim
theorem CallT.mono {f : FuncId} {args : List EVal} {h : H} {k k' : EVal → H → Prop} (H1 : CallT P g K f args h k) (hk : ∀ v h', k v h' → k' v h') : CallT P g K f args h k' := by
 intro B0 W0 G hK vs ρ w hvs R
 refine (H1 B0 W0 G hK vs ρ w hvs R).mono ?_
 rintro e w' ⟨v, h', u, ρ', h1, rest⟩
 exact ⟨v, h', u, ρ', hk _ _ h1, rest⟩
def qO (id : Nat) (k : EVal → H → Prop) : tW := fun e _ h => match h.get id with
 | some (.loop _ _ f t ps a b d) => match e with
   | .normal => k (.bool true) (h.put id (.loop .ready none f t ps a b d))
   | .ret => k (.bool false) (h.put id (.loop .done (some .ret) f t ps a b d))
   | .exit i => k (.bool false) (h.put id (.loop .done (some (.exit i)) f t ps a b d))
 | _ => False
def wD (A : Option Nat) (P : Program) (g : G) (K : aS) (id : Nat) (y : Code) (k : EVal → H → Prop) : tW := fun e f h => e = .normal ∧ match h.get id with
 | some (.loop .ready pend n t ps a b d) => Top A P g K y f (h.put id (.loop .busy pend n t ps a b d)) (qO id k)
 | _ => False
theorem RoundT.intro {id : Nat} {args : List EVal} {h : H} {k : EVal → H → Prop} {st : LoopState} {pend : Option Code} {n dd : Nat} {t t' : T EVal} {ps : List Tmp} {x y : Code}
  (hg : h.get id = some (.loop st pend n t ps x y dd)) (hsp : bN n t ps args = some t')
  (H1 : Top (some h.n) P g K x ⟨n, t', [], some id⟩ h (wD (some h.n) P g K id y k)) : RoundT P g K id args h k := by
 intro B0 W0 G hK l C vs ρ w c cs hid hvs R
 obtain ⟨L, hw, hL1, hL2, hL3, hL4, hL5, hL6, hL7, hgo, _⟩ := fI R hid hg
 obtain ⟨p1, p2, p3⟩ := eC ps args vs.toList t t' L.tmps hsp hL4 hL3 hvs
 let tm := (ps.zip vs.toList).foldl (fun (a : Array Value) (x : Tmp × Value) => a.setIfInBounds x.1 x.2) L.tmps
 have hyield : (Instr.yield l vs).run P w = .ok (.round l L.fn tm x y) w := by
  have hsz : ¬ (vs.size ≠ L.params.size) := by
   rw [← hL5] at p1; simp at p1; omega
  have hfold : (L.params.zip vs).foldl (fun (tmps : Array Value) (x : Tmp × Value) => tmps.setIfInBounds x.1 x.2) L.tmps = tm := by
   rw [← Array.foldl_toList, Array.toList_zip, hL5]
  simp only [Instr.yield, Instr.getLoop, Sem.run_bind, hgo, Result.andThen_ok, Sem.run_pure, if_neg hsz]
  rw [hL6, hL7]
  exact congrArg (fun q => Result.ok (Next.round l L.fn q x y) w) hfold
 let b : Frame := { (default : Frame) with fn := L.fn, kind := .normal, roundOf := some l }
 have hround : Frame.round l L.fn tm x y .normal = fr b tm [] [.code x, .beginRound, .code y] := rfl
 have F : FRel ρ ⟨n, t', [], some id⟩ b tm [] := ⟨p3, p2, .nil, ⟨C, hid⟩⟩
 obtain ⟨e1, f1, hh1, hm1, t1, d1, w1, ρ1, l1, F1, R1, A1⟩ := H1 B0 W0 G hK b tm [] [.beginRound, .code y] (c :: cs) ρ w F R
 have hle1 := uS R l1
 unfold wD at hm1
 obtain ⟨rfl, hm1⟩ := hm1
 split at hm1
 rotate_left
 · exact hm1.elim
 rename_i pend' n' tt pp aa bb dd' hg1
 have hid1 := hle1.own _ _ hid
 obtain ⟨L1, hw1, hM1, hM2, hM3, hM4, hM5, hM6, hM7, hgo1, hput1⟩ := fI R1 hid1 hg1
 obtain ⟨hso1, R2⟩ := hput1 .busy pend' { L1 with state := .busy } (by cases hM2; rfl)
 have hbegin : (Instr.beginRound l).run P w1 = .ok () { w1 with heap := w1.heap.setIfInBounds l (.loop { L1 with state := .busy }) } := by
  simp [Instr.beginRound, Instr.getLoop, hgo1, hso1, hM1]
 obtain ⟨e2, f2, hh2, hm2, t2, d2, w2, ρ2, l2, F2, R3, A2⟩ := hm1 B0 W0 G hK b t1 d1 [] (c :: cs) ρ1 _ F1 R2
 have hle2 : ρ.le ρ2 := uS R (Loc.leA_trans l1 l2)
 have s1 : Steps P (lone (Frame.round l L.fn tm x y .normal) (c :: cs) w) (lone (fr b t1 d1 [.code y]) (c :: cs) { w1 with heap := w1.heap.setIfInBounds l (.loop { L1 with state := .busy }) }) := by
  rw [hround]
  exact Steps.trans A1 (.one (jP rfl hbegin))
 unfold qO at hm2
 split at hm2
 rotate_left
 · exact hm2.elim
 rename_i st3 pend3 n3 t3 p3 a3 b3 d3 hg3
 have hid2 := hle2.own _ _ hid
 obtain ⟨L2, hw2, hN1, hN2, hN3, hN4, hN5, hN6, hN7, hgo2, hput2⟩ := fI R3 hid2 hg3
 have hend : ∀ jump : Option Code, (Instr.endRound l jump).run P w2 = .ok (.bool jump.isNone) { w2 with heap := w2.heap.setIfInBounds l (.loop { L2 with state := if jump.isNone then .ready else .done, pending := jump }) } := by
  intro jump
  obtain ⟨hso, _⟩ := hput2 (if jump.isNone then .ready else .done) jump { L2 with state := if jump.isNone then .ready else .done, pending := jump } rfl
  simp only [Instr.endRound, Instr.getLoop, Sem.run_bind, hgo2, Result.andThen_ok, Sem.run_pure, hso]
 cases e2 with
 | normal =>
   obtain ⟨_, R4⟩ := hput2 .ready none { L2 with state := .ready, pending := none } rfl
   refine ⟨_, _, .bool true, ρ2, _, L.fn, tm, x, y, hm2, hyield, hle2, .bool _, R4, Steps.trans s1 (Steps.trans A2 (.one ?_))⟩
   exact lK rfl rfl (hend none)
 | ret =>
   obtain ⟨_, R4⟩ := hput2 .done (some .ret) { L2 with state := .done, pending := some .ret } rfl
   obtain ⟨k', A2⟩ := A2
   refine ⟨_, _, .bool false, ρ2, _, L.fn, tm, x, y, hm2, hyield, hle2, .bool _, R4, Steps.trans s1 (Steps.trans A2 (.one ?_))⟩
   exact lJ rfl rfl (hend (some .ret))
 | exit i =>
   obtain ⟨_, R4⟩ := hput2 .done (some (.exit i)) { L2 with state := .done, pending := some (.exit i) } rfl
   obtain ⟨k', hk', A2⟩ := A2
   refine ⟨_, _, .bool false, ρ2, _, L.fn, tm, x, y, hm2, hyield, hle2, .bool _, R4, Steps.trans s1 (Steps.trans A2 (.one ?_))⟩
   exact jM rfl rfl (by rw [hk']; rfl) (hend (some (.exit i)))
def mM (id : Nat) (f1 : EFr) (Q : tW) : EVal → H → Prop := fun _ h => match h.get id with
 | some (.loop st pend f t p a b d) => st ≠ .busy ∧ (match pend with
   | none => Q .normal f1 (h.put id (.loop .exhausted pend f t p a b d))
   | some .ret => Q .ret f1 (h.put id (.loop .exhausted pend f t p a b d))
   | some (.exit i) => Q (.exit i) f1 (h.put id (.loop .exhausted pend f t p a b d))
   | _ => False)
 | _ => False
theorem Top.rangeFunc {A : Option Nat} (hng : kB P) {f : Operand} {ps : Array Tmp} {x y : Code} {n : Nat} {tl : T EVal} {ds : List Nat} {h : H} {Q : tW} {kf : FuncId} {caps : List EVal}
  (hf : ev tl f = some (.func kf caps)) (hb : nM P kf = true)
  (hc : CallT P g K kf (.yieldf (h.n + 1) :: caps) ((h.new (.deferred false)).new (.loop .ready none n tl ps.toList x y 0)) (mM (h.n + 1) ⟨n, tl, h.n :: ds, none⟩ Q)) :
  Top A P g K (.rangeFunc f ps x y) ⟨n, tl, ds, none⟩ h Q := by
 intro B0 W0 G hK b t d k cs ρ w F R
 unfold nM at hb
 split at hb
 rotate_left
 · cases hb
 rename_i fn hfn
 have hv := F.erel _ _ hf
 generalize hfe : ({ tmps := t, defers := d } : Act).eval f = fv at hv
 cases hv with
 | func _ _ vs hcs =>
 have hb0 : b.roundOf = none := by
  have hround := F.round
  cases hq : b.roundOf with
  | none => rfl
  | some l => rw [hq] at hround; exact hround.elim
 have Rd := R.new (.deferred false) (.deferred (some [])) 0 rfl
 let L : Loop := { state := .ready, pending := none, fn := b.fn, tmps := t, params := ps, assign := x, body := y, defers := w.heap.size }
 have hle1 := Loc.le_add (x := (w.heap.size, 0)) R.fresh
 have hle2 := Loc.le_add (x := ((w.alloc (.deferred (some []))).heap.size, 0)) Rd.fresh
 have Rl := Rd.new (.loop .ready none n tl ps.toList x y 0) (.loop L) 0 ⟨L, rfl, rfl, rfl, F.size, (F.tmps.mono hle1).mono hle2, rfl, rfl, rfl⟩
 have hrun : (Instr.enterLoop b.fn t ps x y b.roundOf).run P w = .ok ((w.alloc (.deferred (some []))).heap.size, [{ target := .collected w.heap.size, args := #[] }]) ((w.alloc (.deferred (some []))).alloc (.loop L)) := by
  rw [hb0]; simp [Instr.enterLoop, L]
 obtain ⟨bl, hbl⟩ : ∃ bl, bl = (w.alloc (.deferred (some []))).heap.size := ⟨_, rfl⟩
 rw [← hbl] at hrun hle2 Rl
 have hle := Loc.le_trans hle1 hle2
 have hl := Loc.add_self (ρ.add h.n (w.heap.size, 0)) (h.n + 1) (bl, 0)
 have hargs : VsRel ((ρ.add h.n (w.heap.size, 0)).add (h.n + 1) (bl, 0)) (.yieldf (h.n + 1) :: caps) (#[Value.func (.yield bl) #[] #[]] ++ vs).toList := by
  rw [Array.toList_append]
  exact .cons _ _ _ _ (.yieldf _ _ _ hl) (hcs.mono hle)
 have F2 : FRel ((ρ.add h.n (w.heap.size, 0)).add (h.n + 1) (bl, 0)) ⟨n, tl, h.n :: ds, none⟩ b t ([{ target := .collected w.heap.size, args := #[] }] ++ d) := by
  refine ⟨F.size, (F.tmps.mono hle1).mono hle2, ?_, ?_⟩
  · exact .cons _ _ 0 _ _ (hle2.own _ _ (Loc.add_self _ _ _)) ((F.defers.mono hle1).mono hle2)
  · rw [hb0]; trivial
 obtain ⟨mark, hmark⟩ : ∃ m : List Deferred, m = [{ target := .collected w.heap.size, args := #[] }] := ⟨_, rfl⟩
 rw [← hmark] at hrun F2
 obtain ⟨e1, w3, fr1, ⟨v, h3, u, ρ3, hm, rfl, hle3, hv3, R3⟩, hcomes, hfn1, hleave⟩ := hc B0 W0 G hK _ _ _ hargs Rl (fr b t (mark ++ d) (.inRangeFunc bl :: k) :: cs)
 have s1 : Steps P (lone (fr b t d (.code (.rangeFunc f ps x y) :: k)) cs w) (lone (fr b t (mark ++ d) (.endRangeFunc bl :: k)) cs w3) := by
  refine .head (lI hng hrun hfe hfn hb) (Steps.trans hcomes (.one ?_))
  exact step_leave_returned hleave
 unfold mM at hm
 split at hm
 rotate_left
 · exact hm.elim
 rename_i st pend n' tt pp aa bb dd hg
 obtain ⟨hst, hm⟩ := hm
 have hl3 := hle3.own _ _ hl
 obtain ⟨L', hw3, hL1, hL2, hL3, hL4, hL5, hL6, hL7, hgo, hput⟩ := fI R3 hl3 hg
 obtain ⟨hso, R4⟩ := hput .exhausted pend { L' with state := .exhausted } (by cases hL2; rfl)
 have hend : (Instr.endLoop bl).run P w3 = .ok pend { w3 with heap := w3.heap.setIfInBounds bl (.loop { L' with state := .exhausted }) } := by
  have hst' : L'.state ≠ LoopState.busy := by rw [hL1]; exact hst
  rw [← hL2]
  simp [Instr.endLoop, Instr.getLoop, hgo, hst', hso]
 have s2 := Steps.trans s1 (.one (gF (P := P) (b := b) (t := t) (d := mark ++ d) (k := k) (cs := cs) hend))
 have F4 := F2.mono hle3
 have hleA : ρ.leA A ρ3 := Loc.leA_of (Loc.le_trans hle hle3)
 cases pend with
 | none => exact ⟨.normal, _, _, hm, _, _, _, _, hleA, F4, R4, s2⟩
 | some c =>
   cases c with
   | ret => exact ⟨.ret, _, _, hm, _, _, _, _, hleA, F4, R4, k, s2⟩
   | exit i => exact ⟨.exit i, _, _, hm, _, _, _, _, hleA, F4, R4, k, rfl, s2⟩
   | _ => exact hm.elim
end
end Go.Ev


namespace Go.Ev
open Go.RowKit
inductive V where
 | raw (e : EVal)
 | bool (b : Bool)
 | int (k : IntKind) (n : Int)
 | str (l : List Nat)
 | nils
 | ptr (id off : Nat)
 | sl (id off len : Nat) (cap : ECap)
 | agg (l : List V)
 | tup (l : List V)
 | fl (w n : Nat) (f : Nat → List V)
 | el (els : List (List V))
 | gl (id : Nat)
 | lptr (cells : List V) (off : Nat)
 | eptr (s : V) (sz n : Nat) (i : Int) (off : Nat)
 | fn (f : FuncId) (caps : List V)
noncomputable section
def V.kept : V → Bool
 | .bool _ => true
 | .int _ _ => true
 | .str _ => true
 | .fl _ _ _ => true
 | .el _ => true
 | .lptr _ _ => true
 | .raw .nilp => true
 | .raw .nilfunc => true
 | _ => false
def keptB : List V → Bool
 | [] => true
 | v :: l => bif v.kept then keptB l else false
def okW (w : Nat) (l : List V) : Bool := Nat.beq l.length w && keptB l
mutual
def V.c : V → EVal
 | .raw e => e
 | .bool b => .bool b
 | .int k n => .int k n
 | .str l => .str l
 | .nils => .nilslice
 | .ptr i o => .ptr i o
 | .sl i o n c => .slice i o n c
 | .agg l => .agg (V.cs l)
 | .tup l => .tup (V.cs l)
 | .fl w n f => .lsl ((List.range n).map fun i => bif okW w (f i) then V.cs (f i) else List.replicate w (.bool false))
 | .el els => .lsl (V.css els)
 | .gl _ => .unk
 | .lptr l o => .lptr (V.cs l) o
 | .eptr s sz _ i off => (bQ (i.toNat * sz + off) (V.c s)).getD .unk
 | .fn f l => .func f (V.cs l)
def V.cs : List V → List EVal
 | [] => []
 | v :: l => V.c v :: V.cs l
def V.css : List (List V) → List (List EVal)
 | [] => []
 | v :: l => V.cs v :: V.css l
end
theorem V.cs_map (l : List V) : V.cs l = l.map V.c := by
 induction l with
 | nil => rw [V.cs]; rfl
 | cons v l ih => rw [V.cs, ih]; rfl
theorem V.css_map (l : List (List V)) : V.css l = l.map V.cs := by
 induction l with
 | nil => rw [V.css]; rfl
 | cons v l ih => rw [V.css, ih]; rfl
theorem V.cs_length (l : List V) : (V.cs l).length = l.length := by rw [V.cs_map, List.length_map]
theorem V.css_length (l : List (List V)) : (V.css l).length = l.length := by rw [V.css_map, List.length_map]
theorem V.cs_append (a b : List V) : V.cs (a ++ b) = V.cs a ++ V.cs b := by simp only [V.cs_map, List.map_append]
theorem V.css_append (a b : List (List V)) : V.css (a ++ b) = V.css a ++ V.css b := by simp only [V.css_map, List.map_append]
theorem V.cs_get (l : List V) (i : Nat) : (V.cs l)[i]? = (l[i]?).map V.c := by rw [V.cs_map, List.getElem?_map]
def lookA {α : Type} : List (Nat × α) → Nat → Option α
 | [], _ => none
 | (j, v) :: l, i => bif Nat.beq j i then some v else lookA l i
theorem gI {α β : Type} {g : α → β} (l : List (Nat × α)) (i : Nat) : eO (l.map fun p => (p.1, some (g p.2))) i = (lookA l i).map g := by
 induction l with
 | nil => rfl
 | cons p l ih =>
   obtain ⟨j, v⟩ := p
   simp only [List.map_cons, eO, lookA, ih]
   by_cases h : j = i
   · simp [h]
   · have hb : Nat.beq j i = false := by
      cases hq : Nat.beq j i
      · rfl
      · exact absurd (Nat.eq_of_beq_eq_true hq) h
     simp [h, hb]
theorem kM {α β : Type} {g : α → β} (l : List (Nat × Option α)) (i : Nat) : eO (l.map fun p => (p.1, p.2.map g)) i = (lookA l i).bind fun x => x.map g := by
 induction l with
 | nil => rfl
 | cons p l ih =>
   obtain ⟨j, v⟩ := p
   simp only [List.map_cons, eO, lookA, ih]
   by_cases h : j = i
   · simp [h]
   · have hb : Nat.beq j i = false := by
      cases hq : Nat.beq j i
      · rfl
      · exact absurd (Nat.eq_of_beq_eq_true hq) h
     simp [h, hb]
structure DRow where
 cells : List V
 e : TypeId
 sl : Bool
inductive DObj where
 | row (r : DRow)
 | iter (s : List Nat) (pos : Nat)
 | loop (st : LoopState) (pend : Option Code) (sz : Nat) (fr : List (Nat × V)) (ps : List Tmp) (x y : Code)
 | dfr (b : Bool)
 | sset (ks : List (List Nat))
 | iset (ks : List Int)
 | mp (es : List (V × V × Nat)) (c : Nat)
structure Fr where
 l : List (Nat × Option V)
 ds : List Nat
 rd : Option Nat
 sh : List (List (Nat × V))
structure D where
 fr : Fr
 n : Nat
 hp : List (Nat × Option DObj)
 m : Nat
 tk : List (Nat × (List (List V) × TypeId))
def DRow.o (r : DRow) : gB := .row (V.cs r.cells) r.e 0 0 r.sl
def uC (i : Nat) : List (List Nat) → List (EVal × EVal × Nat)
 | [] => []
 | k :: l => (.str k, .bool true, i) :: uC (i + 1) l
def uD (i : Nat) : List Int → List (EVal × EVal × Nat)
 | [] => []
 | k :: l => (.int .i64 k, .bool true, i) :: uD (i + 1) l
def DObj.o : DObj → gB
 | .row r => r.o
 | .iter s p => .iter s p
 | .loop st pend sz fr ps x y => .loop st pend sz (T.ofL (fr.map fun p => (p.1, p.2.c))) ps x y 0
 | .dfr b => .deferred b
 | .sset ks => .map (uC 0 ks) ks.length
 | .iset ks => .map (uD 0 ks) ks.length
 | .mp es c => .map (es.map fun e => (e.1.c, e.2.1.c, e.2.2)) c
def o9 (x : List (List V) × TypeId) : Nat × TypeId := (x.1.length, x.2)
def D.H (d : D) : H := mkH d.n (d.hp.map fun p => (p.1, p.2.map DObj.o)) d.m (d.tk.map fun p => (p.1, some (o9 p.2)))
def V.ct (tk : List (Nat × (List (List V) × TypeId))) : V → EVal
 | .gl id => match lookA tk id with
   | some x => .gsl id (V.css x.1)
   | none => .unk
 | v => v.c
def D.obj (d : D) (id : Nat) : Option DObj := bif Nat.blt id 16000 then (match lookA d.hp id with | some r => r | none => none) else none
def D.row (d : D) (id : Nat) : Option DRow := match d.obj id with
 | some (.row r) => some r
 | _ => none
def D.itr (d : D) (id : Nat) : Option (List Nat × Nat) := match d.obj id with
 | some (.iter s p) => some (s, p)
 | _ => none
theorem D.obj_get {d : D} {id : Nat} {r : DObj} (h : d.obj id = some r) : d.H.get id = some r.o := by
 unfold D.obj at h
 cases hb : Nat.blt id 16000 with
 | false => rw [hb] at h; cases h
 | true =>
   rw [hb] at h
   rw [Nat.blt_eq] at hb
   unfold D.H
   rw [dE hb, kM]
   simp only [cond_true] at h
   split at h
   · rename_i r' hr
     subst h; rw [hr]; rfl
   · cases h
theorem D.row_obj {d : D} {id : Nat} {r : DRow} (h : d.row id = some r) : d.obj id = some (.row r) := by
 unfold D.row at h
 split at h
 · rename_i r' hr; cases h; exact hr
 · cases h
theorem D.itr_obj {d : D} {id : Nat} {r : List Nat × Nat} (h : d.itr id = some r) : d.obj id = some (.iter r.1 r.2) := by
 unfold D.itr at h
 split at h
 · rename_i s p hr; cases h; exact hr
 · cases h
theorem D.row_get {d : D} {id : Nat} {r : DRow} (h : d.row id = some r) : d.H.get id = some r.o := D.obj_get (D.row_obj h)
def D.tok (d : D) (id : Nat) : Option (List (List V) × TypeId) := bif Nat.blt id 250 then lookA d.tk id else none
theorem D.tok_get {d : D} {id : Nat} {x : List (List V) × TypeId} (h : d.tok id = some x) : d.H.k.get id = some (o9 x) := by
 unfold D.tok at h
 cases hb : Nat.blt id 250 with
 | false => rw [hb] at h; cases h
 | true =>
   rw [hb] at h
   rw [Nat.blt_eq] at hb
   unfold D.H
   rw [aja hb, gI, show lookA d.tk id = some x from h]; rfl
def V.inr : V → Prop
 | .eptr _ _ n i _ => i.toNat < n
 | _ => True
structure Fits (sh : List (List (Nat × V))) (P : Program) (sz : Nat) (d : D) (f : EFr) (h : H) : Prop where
 sz : f.sz = sz
 defers : f.defers = d.fr.ds
 round : f.round = d.fr.rd
 has : ∀ i, i < 1000 → f.tmps.has i
 tmps : ∀ i v, i < 1000 → lookA d.fr.l i = some (some v) → f.tmps.get i = some (v.ct d.tk)
 inr : ∀ i v, lookA d.fr.l i = some (some v) → v.inr
 sh : d.fr.sh = sh
 heap : h = d.H
 lens : ∀ id els e s, lookA d.tk id = some (els, e) → aK P e = some s → aW s (V.css els) = true
mutual
def ofE : EVal → Option V
 | .bool b => some (.bool b)
 | .int k n => some (.int k n)
 | .str l => some (.str l)
 | .nilslice => some .nils
 | .agg l => match aj2 l with
   | some l => some (.agg l)
   | none => none
 | .nilp => some (.raw .nilp)
 | .gptr a b => some (.raw (.gptr a b))
 | .nilmap => some (.raw .nilmap)
 | .nilfunc => some (.raw .nilfunc)
 | .nilif => some (.raw .nilif)
 | .func f [] => some (.raw (.func f []))
 | _ => none
def aj2 : List EVal → Option (List V)
 | [] => some []
 | e :: l => match ofE e, aj2 l with
   | some a, some b => some (a :: b)
   | _, _ => none
end
mutual
theorem ofE_c : ∀ {e : EVal} {v : V}, ofE e = some v → v.c = e ∧ ∀ tk, v.ct tk = e
 | .bool b, v, h => by simp only [ofE, Option.some.injEq] at h; subst h; exact ⟨by rw [V.c], fun _ => by rw [V.ct, V.c]; simp⟩
 | .int k n, v, h => by simp only [ofE, Option.some.injEq] at h; subst h; exact ⟨by rw [V.c], fun _ => by rw [V.ct, V.c]; simp⟩
 | .str l, v, h => by simp only [ofE, Option.some.injEq] at h; subst h; exact ⟨by rw [V.c], fun _ => by rw [V.ct, V.c]; simp⟩
 | .nilslice, v, h => by simp only [ofE, Option.some.injEq] at h; subst h; exact ⟨by rw [V.c], fun _ => by rw [V.ct, V.c]; simp⟩
 | .agg l, v, h => by
   simp only [ofE] at h
   split at h
   · rename_i l' hl
     simp only [Option.some.injEq] at h; subst h
     have := nA hl
     exact ⟨by rw [V.c, this], fun _ => by rw [V.ct, V.c, this]; simp⟩
   · cases h
 | .nilp, v, h => by simp only [ofE, Option.some.injEq] at h; subst h; exact ⟨by rw [V.c], fun _ => by rw [V.ct, V.c]; simp⟩
 | .gptr a b, v, h => by simp only [ofE, Option.some.injEq] at h; subst h; exact ⟨by rw [V.c], fun _ => by rw [V.ct, V.c]; simp⟩
 | .nilmap, v, h => by simp only [ofE, Option.some.injEq] at h; subst h; exact ⟨by rw [V.c], fun _ => by rw [V.ct, V.c]; simp⟩
 | .nilfunc, v, h => by simp only [ofE, Option.some.injEq] at h; subst h; exact ⟨by rw [V.c], fun _ => by rw [V.ct, V.c]; simp⟩
 | .nilif, v, h => by simp only [ofE, Option.some.injEq] at h; subst h; exact ⟨by rw [V.c], fun _ => by rw [V.ct, V.c]; simp⟩
 | .func f [], v, h => by simp only [ofE, Option.some.injEq] at h; subst h; exact ⟨by rw [V.c], fun _ => by rw [V.ct, V.c]; simp⟩
 | .func f (_ :: _), v, h => by simp [ofE] at h
 | .unk, v, h => by simp [ofE] at h
 | .ptr _ _, v, h => by simp [ofE] at h
 | .slice _ _ _ _, v, h => by simp [ofE] at h
 | .map _, v, h => by simp [ofE] at h
 | .yieldf _, v, h => by simp [ofE] at h
 | .iface _ _, v, h => by simp [ofE] at h
 | .tup _, v, h => by simp [ofE] at h
 | .lsl _, v, h => by simp [ofE] at h
 | .lptr _ _, v, h => by simp [ofE] at h
 | .gsl _ _, v, h => by simp [ofE] at h
theorem nA : ∀ {l : List EVal} {vs : List V}, aj2 l = some vs → V.cs vs = l
 | [], vs, h => by simp only [aj2, Option.some.injEq] at h; subst h; rw [V.cs]
 | e :: l, vs, h => by
   simp only [aj2] at h
   split at h
   · rename_i a b ha hb
     simp only [Option.some.injEq] at h; subst h
     rw [V.cs, (ofE_c ha).1, nA hb]
   · cases h
end
def dEv (d : D) : Operand → Option V
 | .tmp i => bif Nat.blt i 1000 then (match lookA d.fr.l i with | some v => v | none => none) else none
 | .const v => match absV v with
   | some e => ofE e
   | none => none
 | .global g => some (.raw (.gptr g 0))
 | .func f => some (.raw (.func f []))
def ax8 (d : D) : List Operand → Option (List V)
 | [] => some []
 | x :: l => match dEv d x with
   | some a => match ax8 d l with
     | some b => some (a :: b)
     | none => none
   | none => none
def V.cts (tk : List (Nat × (List (List V) × TypeId))) (l : List V) : List EVal := l.map (V.ct tk)
section
variable {P : Program} {sz : Nat} {d : D} {f : EFr} {h : H} {sh : List (List (Nat × V))}
theorem aG (F : Fits sh P sz d f h) {x : Operand} {v : V} (hx : dEv d x = some v) : ev f.tmps x = some (v.ct d.tk) := by
 unfold dEv at hx
 split at hx
 · rename_i i
   cases hb : Nat.blt i 1000 with
   | false => rw [hb] at hx; cases hx
   | true =>
     rw [hb] at hx
     rw [Nat.blt_eq] at hb
     simp only [cond_true] at hx
     split at hx
     · rename_i v' hv
       subst hx
       exact F.tmps _ _ hb hv
     · cases hx
 · rename_i c
   split at hx
   · rename_i e he
     rw [ev, he, (ofE_c hx).2]
   · cases hx
 · simp only [Option.some.injEq] at hx; subst hx; rw [ev, V.ct, V.c]; simp
 · simp only [Option.some.injEq] at hx; subst hx; rw [ev, V.ct, V.c]; simp
theorem ofE_inr {e : EVal} {v : V} (h : ofE e = some v) : v.inr := by
 cases v with
 | eptr s a b c o =>
   unfold ofE at h
   split at h <;> first | (cases h; done) | (split at h <;> cases h)
 | _ => trivial
theorem fS (F : Fits sh P sz d f h) {x : Operand} {v : V} (hx : dEv d x = some v) : v.inr := by
 unfold dEv at hx
 split at hx
 · rename_i i
   cases hb : Nat.blt i 1000 with
   | false => rw [hb] at hx; cases hx
   | true =>
     rw [hb] at hx
     simp only [cond_true] at hx
     split at hx
     · rename_i v' hv
       subst hx
       exact F.inr _ _ hv
     · cases hx
 · split at hx
   · exact ofE_inr hx
   · cases hx
 · simp only [Option.some.injEq] at hx; subst hx; trivial
 · simp only [Option.some.injEq] at hx; subst hx; trivial
theorem oC (F : Fits sh P sz d f h) : ∀ {l : List Operand} {vs : List V}, ax8 d l = some vs → evs f.tmps l = some (V.cts d.tk vs)
 | [], vs, hx => by simp only [ax8, Option.some.injEq] at hx; subst hx; rfl
 | x :: l, vs, hx => by
   simp only [ax8] at hx
   split at hx
   · rename_i a ha
     split at hx
     · rename_i b hb
       simp only [Option.some.injEq] at hx; subst hx
       rw [evs, aG F ha, oC F hb]; rfl
     · cases hx
   · cases hx
end
def V.plain : V → Bool
 | .gl _ => false
 | _ => true
def lQ : List V → Bool
 | [] => true
 | v :: l => bif v.plain then lQ l else false
def V.safe : V → Bool
 | .gl _ => false
 | .eptr _ _ _ _ _ => false
 | _ => true
theorem V.safe_ok {v : V} (h : v.safe = true) : v.plain = true ∧ v.inr := by
 cases v <;> first | exact ⟨rfl, trivial⟩ | cases h
theorem V.ct_plain {v : V} (h : v.plain = true) (tk) : v.ct tk = v.c := by
 cases v <;> first | rfl | cases h
theorem j5 {l : List V} (h : lQ l = true) (tk) : V.cts tk l = V.cs l := by
 induction l with
 | nil => rw [V.cs]; rfl
 | cons v l ih =>
   simp only [lQ] at h
   cases hv : v.plain with
   | false => rw [hv] at h; cases h
   | true =>
     rw [hv] at h
     rw [V.cs, ← ih h, ← V.ct_plain hv tk]; rfl
end
end Go.Ev
namespace Go.Ev
open Go.RowKit
noncomputable section
def V.one : V → Bool
 | .bool _ => true
 | .int _ _ => true
 | .str _ => true
 | .nils => true
 | .ptr _ _ => true
 | .sl _ _ _ _ => true
 | .fl _ _ _ => true
 | .el _ => true
 | .lptr _ _ => true
 | .raw .nilp => true
 | .raw (.gptr _ _) => true
 | .raw .nilmap => true
 | .raw (.map _) => true
 | .raw .nilfunc => true
 | .raw .nilif => true
 | .raw .zsl => true
 | .raw (.zslt _) => true
 | .raw (.func _ _) => true
 | .fn _ _ => true
 | _ => false
def ones : List V → Bool
 | [] => true
 | v :: l => bif v.one then ones l else false
def V.cells : V → Option (List V)
 | .agg l => bif ones l then some l else none
 | v => bif v.one then some [v] else none
theorem V.one_c {v : V} (h : v.one = true) : v.c.one = true ∧ v.c.cells = [v.c] := by
 unfold V.one at h
 split at h <;> first | (simp only [V.c]; exact ⟨rfl, rfl⟩) | cases h
theorem z6 {l : List V} (h : ones l = true) : f7 (V.cs l) = true := by
 induction l with
 | nil => rw [V.cs]; rfl
 | cons v l ih =>
   simp only [ones] at h
   cases hv : v.one with
   | false => rw [hv] at h; cases h
   | true =>
     rw [hv] at h
     rw [V.cs, f7, (V.one_c hv).1, ih h]; rfl
theorem V.cells_c {v : V} {l : List V} (h : v.cells = some l) : v.c.cells = V.cs l ∧ f7 (V.cs l) = true ∧ v.plain = true := by
 unfold V.cells at h
 split at h
 · rename_i l'
   cases ho : ones l' with
   | false => rw [ho] at h; cases h
   | true =>
     rw [ho] at h
     simp only [cond_true, Option.some.injEq] at h; subst h
     exact ⟨by rw [V.c]; rfl, z6 ho, rfl⟩
 · rename_i hn
   cases ho : v.one with
   | false => rw [ho] at h; cases h
   | true =>
     rw [ho] at h
     simp only [cond_true, Option.some.injEq] at h; subst h
     obtain ⟨h1, h2⟩ := V.one_c ho
     refine ⟨by rw [h2, V.cs, V.cs], by rw [V.cs, V.cs, f7, h1]; rfl, ?_⟩
     cases v <;> first | rfl | cases ho
def setV (cs : List V) (o : Nat) (vs : List V) : List V := cs.take o ++ vs ++ cs.drop (o + vs.length)
theorem zQ (cs : List V) (o : Nat) (vs : List V) : V.cs (setV cs o vs) = setRange (V.cs cs) o (V.cs vs) := by
 unfold setV setRange
 rw [V.cs_append, V.cs_append, V.cs_length]
 simp only [V.cs_map, List.map_take, List.map_drop]
def u3 (place : Nat → Option (Nat × Nat)) (cells : List V) : List (Nat × V) → Option (List V)
 | [] => some cells
 | (i, v) :: rest =>
   match place i with
   | none => none
   | some (off, size) => match v.cells with
     | some vs => bif Nat.beq vs.length size && Nat.ble (off + size) cells.length then u3 place (setV cells off vs) rest else none
     | none => none
theorem rA {place : Nat → Option (Nat × Nat)} : ∀ {ps : List (Nat × V)} {cells cs : List V}, u3 place cells ps = some cs → oT place (V.cs cells) (ps.map fun p => (p.1, p.2.c)) = some (V.cs cs)
 | [], cells, cs, h => by simp only [u3, Option.some.injEq] at h; subst h; rfl
 | (i, v) :: rest, cells, cs, h => by
   simp only [u3] at h
   split at h
   · cases h
   · rename_i off size hp
     split at h
     · rename_i vs hvs
       cases hc : (Nat.beq vs.length size && Nat.ble (off + size) cells.length) with
       | false => rw [hc] at h; cases h
       | true =>
         rw [hc] at h
         simp only [Bool.and_eq_true, Nat.beq_eq, Nat.ble_eq] at hc
         have h1 : oT place (V.cs (setV cells off vs)) (rest.map fun p => (p.1, p.2.c)) = some (V.cs cs) := rA h
         rw [zQ, ← (V.cells_c hvs).1] at h1
         simp only [List.map_cons, oT, hp]
         rw [if_neg]
         · exact h1
         · rw [(V.cells_c hvs).1, V.cs_length, V.cs_length]; omega
     · cases h
def pY (d : D) : List (Nat × Operand) → Option (List (Nat × V))
 | [] => some []
 | (i, x) :: l => match dEv d x with
   | some a => match pY d l with
     | some b => some ((i, a) :: b)
     | none => none
   | none => none
def m7 : List (Nat × V) → Bool
 | [] => true
 | (_, v) :: l => bif v.plain then m7 l else false
theorem oA {sh : List (List (Nat × V))} {P : Program} {sz : Nat} {d : D} {f : EFr} {h : H} (F : Fits sh P sz d f h) : ∀ {l : List (Nat × Operand)} {vs : List (Nat × V)}, pY d l = some vs → m7 vs = true → cJ f.tmps l = some (vs.map fun p => (p.1, p.2.c))
 | [], vs, hx, _ => by simp only [pY, Option.some.injEq] at hx; subst hx; rfl
 | (i, x) :: l, vs, hx, hp => by
   simp only [pY] at hx
   split at hx
   · rename_i a ha
     split at hx
     · rename_i b hb
       simp only [Option.some.injEq] at hx; subst hx
       simp only [m7] at hp
       cases hv : a.plain with
       | false => rw [hv] at hp; cases hp
       | true =>
         rw [hv] at hp
         rw [cJ, aG F ha, oA F hb hp, V.ct_plain hv]; rfl
     · cases hx
   · cases hx
def capV : V → Bool
 | .lptr _ _ => true
 | .el _ => true
 | .fl _ _ _ => true
 | .bool _ => true
 | .int _ _ => true
 | .str _ => true
 | _ => false
def yR : List V → Bool
 | [] => true
 | v :: l => bif capV v then yR l else false
theorem aqt : ∀ {l : List V}, yR l = true → vN (V.cs l) = true
 | [], _ => by rw [V.cs]; rfl
 | v :: l, h => by
   simp only [yR] at h
   cases hv : capV v with
   | false => rw [hv] at h; cases h
   | true =>
     rw [hv] at h
     have : capB v.c = true := by
      unfold capV at hv
      split at hv <;> first | (rw [V.c]; rfl) | cases hv
     rw [V.cs, vN, this, aqt h]; rfl
theorem q7 {f : FuncId} {l : List V} (h : yR l = true) : Go.Ev.keep1 (V.fn f l).c = some (V.fn f l).c := by
 have := aqt h
 rw [V.c]
 cases l with
 | nil => rw [V.cs]; rfl
 | cons a l => rw [V.cs] at this ⊢; simp only [keep1, this, cond_true]
def V.keep1 : V → Option V
 | .el els => some (.el els)
 | .fl w n f => some (.fl w n f)
 | .lptr cs o => some (.lptr cs o)
 | .bool b => some (.bool b)
 | .int k n => some (.int k n)
 | .str l => some (.str l)
 | .nils => some (.el [])
 | .raw .nilp => some (.raw .nilp)
 | .raw (.gptr a b) => some (.raw (.gptr a b))
 | .raw .nilmap => some (.raw .nilmap)
 | .raw .nilfunc => some (.raw .nilfunc)
 | .raw .nilif => some (.raw .nilif)
 | .raw .zsl => some (.el [])
 | .raw (.zslt _) => some (.el [])
 | .raw (.func f []) => some (.raw (.func f []))
 | .fn f l => bif yR l then some (.fn f l) else none
 | _ => none
def lV : List V → Option (List V)
 | [] => some []
 | v :: l => match v.keep1 with
   | some a => match lV l with
     | some b => some (a :: b)
     | none => none
   | none => none
theorem V.keep1_c {v w : V} (h : v.keep1 = some w) : Go.Ev.keep1 v.c = some w.c ∧ w.plain = true ∧ v.plain = true ∧ (∀ l, v ≠ .agg l) ∧ (∀ l, v ≠ .tup l) ∧ (∀ a b c e, v ≠ .sl a b c e) ∧ w.c.one = true := by
 unfold V.keep1 at h
 split at h <;> first | (simp only [Option.some.injEq] at h; subst h; refine ⟨by simp only [V.c, V.css]; rfl, rfl, rfl, by simp, by simp, by simp, by simp only [V.c]; rfl⟩) | (cases h; done) | skip
 rename_i f l
 cases hc : yR l with
 | false => rw [hc] at h; cases h
 | true =>
 rw [hc] at h
 simp only [cond_true, Option.some.injEq] at h; subst h
 exact ⟨q7 hc, rfl, rfl, by simp, by simp, by simp, by simp only [V.c]; rfl⟩
theorem hX : ∀ {l m : List V}, lV l = some m → bP (V.cs l) = some (V.cs m) ∧ m.length = l.length ∧ f7 (V.cs m) = true
 | [], m, h => by simp only [lV, Option.some.injEq] at h; subst h; rw [V.cs]; exact ⟨rfl, rfl, rfl⟩
 | v :: l, m, h => by
   simp only [lV] at h
   split at h
   · rename_i a ha
     split at h
     · rename_i b hb
       simp only [Option.some.injEq] at h; subst h
       obtain ⟨h1, h2, h3⟩ := hX hb
       obtain ⟨k1, _, _, _, _, _, k7⟩ := V.keep1_c ha
       simp only [V.cs, bP, k1, h1, f7, k7, h3, List.length_cons, h2]
       exact ⟨trivial, trivial, rfl⟩
     · cases h
   · cases h
def eH (sz : Nat) : Nat → List V → List (List V)
 | 0, _ => []
 | n + 1, l => l.take sz :: eH sz n (l.drop sz)
theorem j7 (sz : Nat) : ∀ (n : Nat) (l : List V), V.css (eH sz n l) = aV sz n (V.cs l)
 | 0, l => by rw [eH, V.css]; rfl
 | n + 1, l => by
   rw [eH, V.css, j7 sz n, aV]
   simp only [V.cs_map, List.map_take, List.map_drop]
theorem j6 (sz : Nat) : ∀ (n : Nat) (l : List V), (eH sz n l).length = n
 | 0, l => rfl
 | n + 1, l => by rw [eH, List.length_cons, j6]
def bJ (k : IntKind) : List V → Option (List Int)
 | [] => some []
 | .int k' n :: l => match bJ k l with
   | some m => if k' = k then some (n :: m) else none
   | none => none
 | _ :: _ => none
def aT : List V → Option (List Bool)
 | [] => some []
 | .bool n :: l => match aT l with
   | some m => some (n :: m)
   | none => none
 | _ :: _ => none
def bI : List V → Option (List (List Nat))
 | [] => some []
 | .str n :: l => match bI l with
   | some m => some (n :: m)
   | none => none
 | _ :: _ => none
def selV (l : List V) (i : Int) : Option V :=
 match l with
 | .int k _ :: _ => match bJ k l with
   | some m => some (.int k (m.getD i.toNat 0))
   | none => none
 | .bool _ :: _ => match aT l with
   | some m => some (.bool (m.getD i.toNat false))
   | none => none
 | .str _ :: _ => match bI l with
   | some m => some (.str (m.getD i.toNat []))
   | none => none
 | _ => none
theorem sJ {k : IntKind} : ∀ {l : List V} {m : List Int}, bJ k l = some m → l = m.map (V.int k)
 | [], m, h => by simp only [bJ, Option.some.injEq] at h; subst h; rfl
 | .int k' n :: l, m, h => by
   simp only [bJ] at h
   split at h
   · rename_i m' hm
     split at h
     · rename_i hk
       simp only [Option.some.injEq] at h; subst h; subst hk
       rw [sJ hm]; rfl
     · cases h
   · cases h
 | .raw _ :: _, m, h => by simp [bJ] at h
 | .bool _ :: _, m, h => by simp [bJ] at h
 | .str _ :: _, m, h => by simp [bJ] at h
 | .nils :: _, m, h => by simp [bJ] at h
 | .ptr _ _ :: _, m, h => by simp [bJ] at h
 | .sl _ _ _ _ :: _, m, h => by simp [bJ] at h
 | .agg _ :: _, m, h => by simp [bJ] at h
 | .tup _ :: _, m, h => by simp [bJ] at h
 | .fl _ _ _ :: _, m, h => by simp [bJ] at h
 | .el _ :: _, m, h => by simp [bJ] at h
 | .gl _ :: _, m, h => by simp [bJ] at h
 | .lptr _ _ :: _, m, h => by simp [bJ] at h
 | .eptr _ _ _ _ _ :: _, m, h => by simp [bJ] at h
theorem pD : ∀ {l : List V} {m : List Bool}, aT l = some m → l = m.map V.bool
 | [], m, h => by simp only [aT, Option.some.injEq] at h; subst h; rfl
 | .bool n :: l, m, h => by
   simp only [aT] at h
   split at h
   · rename_i m' hm
     simp only [Option.some.injEq] at h; subst h
     rw [pD hm]; rfl
   · cases h
 | .raw _ :: _, m, h => by simp [aT] at h
 | .int _ _ :: _, m, h => by simp [aT] at h
 | .str _ :: _, m, h => by simp [aT] at h
 | .nils :: _, m, h => by simp [aT] at h
 | .ptr _ _ :: _, m, h => by simp [aT] at h
 | .sl _ _ _ _ :: _, m, h => by simp [aT] at h
 | .agg _ :: _, m, h => by simp [aT] at h
 | .tup _ :: _, m, h => by simp [aT] at h
 | .fl _ _ _ :: _, m, h => by simp [aT] at h
 | .el _ :: _, m, h => by simp [aT] at h
 | .gl _ :: _, m, h => by simp [aT] at h
 | .lptr _ _ :: _, m, h => by simp [aT] at h
 | .eptr _ _ _ _ _ :: _, m, h => by simp [aT] at h
theorem sI : ∀ {l : List V} {m : List (List Nat)}, bI l = some m → l = m.map V.str
 | [], m, h => by simp only [bI, Option.some.injEq] at h; subst h; rfl
 | .str n :: l, m, h => by
   simp only [bI] at h
   split at h
   · rename_i m' hm
     simp only [Option.some.injEq] at h; subst h
     rw [sI hm]; rfl
   · cases h
 | .raw _ :: _, m, h => by simp [bI] at h
 | .int _ _ :: _, m, h => by simp [bI] at h
 | .bool _ :: _, m, h => by simp [bI] at h
 | .nils :: _, m, h => by simp [bI] at h
 | .ptr _ _ :: _, m, h => by simp [bI] at h
 | .sl _ _ _ _ :: _, m, h => by simp [bI] at h
 | .agg _ :: _, m, h => by simp [bI] at h
 | .tup _ :: _, m, h => by simp [bI] at h
 | .fl _ _ _ :: _, m, h => by simp [bI] at h
 | .el _ :: _, m, h => by simp [bI] at h
 | .gl _ :: _, m, h => by simp [bI] at h
 | .lptr _ _ :: _, m, h => by simp [bI] at h
 | .eptr _ _ _ _ _ :: _, m, h => by simp [bI] at h
theorem axQ {l : List V} {i : Int} {w : V} (h : selV l i = some w) (hi : i.toNat < l.length) : l[i.toNat]? = some w ∧ w.plain = true := by
 unfold selV at h
 split at h
 · split at h
   · rename_i m hm
     simp only [Option.some.injEq] at h; subst h
     have := sJ hm
     rw [this] at hi ⊢
     simp only [List.length_map] at hi
     refine ⟨?_, rfl⟩
     rw [List.getElem?_map, List.getElem?_eq_getElem hi, List.getD_eq_getElem?_getD, List.getElem?_eq_getElem hi]; rfl
   · cases h
 · split at h
   · rename_i m hm
     simp only [Option.some.injEq] at h; subst h
     have := pD hm
     rw [this] at hi ⊢
     simp only [List.length_map] at hi
     refine ⟨?_, rfl⟩
     rw [List.getElem?_map, List.getElem?_eq_getElem hi, List.getD_eq_getElem?_getD, List.getElem?_eq_getElem hi]; rfl
   · cases h
 · split at h
   · rename_i m hm
     simp only [Option.some.injEq] at h; subst h
     have := sI hm
     rw [this] at hi ⊢
     simp only [List.length_map] at hi
     refine ⟨?_, rfl⟩
     rw [List.getElem?_map, List.getElem?_eq_getElem hi, List.getD_eq_getElem?_getD, List.getElem?_eq_getElem hi]; rfl
   · cases h
 · cases h
def yS (cs : List V) (sz off : Nat) : Nat → Nat → Option (List V)
 | 0, _ => some []
 | n + 1, o => match cs[o + off]? with
   | some v => match yS cs sz off n (o + sz) with
     | some l => some (v :: l)
     | none => none
   | none => none
theorem oG {cs : List V} {sz off : Nat} : ∀ {n o : Nat} {l : List V}, yS cs sz off n o = some l → l.length = n ∧ ∀ i, i < n → l[i]? = cs[o + i * sz + off]?
 | 0, o, l, h => by simp only [yS, Option.some.injEq] at h; subst h; exact ⟨rfl, fun i hi => by omega⟩
 | n + 1, o, l, h => by
   simp only [yS] at h
   split at h
   · rename_i v hv
     split at h
     · rename_i l' hl
       simp only [Option.some.injEq] at h; subst h
       obtain ⟨h1, h2⟩ := oG hl
       refine ⟨by simp [h1], fun i hi => ?_⟩
       cases i with
       | zero => simp [hv]
       | succ i =>
         rw [List.getElem?_cons_succ, h2 i (by omega)]
         congr 1
         rw [Nat.succ_mul]; omega
     · cases h
   · cases h
def zT (cs : List V) (sz n o : Nat) (i : Int) : Nat → Nat → Option (List V)
 | 0, _ => some []
 | k + 1, off => match yS cs sz off n o with
   | some l => match selV l i with
     | some v => match zT cs sz n o i k (off + 1) with
       | some r => some (v :: r)
       | none => none
     | none => none
   | none => none
theorem zS {cs : List V} {sz n o : Nat} {i : Int} (hi : i.toNat < n) : ∀ {k off : Nat} {r : List V}, zT cs sz n o i k off = some r → r = (cs.drop (o + i.toNat * sz + off)).take k ∧ r.length = k
 | 0, off, r, h => by simp only [zT, Option.some.injEq] at h; subst h; simp
 | k + 1, off, r, h => by
   simp only [zT] at h
   split at h
   · rename_i l hl
     split at h
     · rename_i v hv
       split at h
       · rename_i r' hr
         simp only [Option.some.injEq] at h; subst h
         obtain ⟨h1, h2⟩ := oG hl
         have h3 := (axQ hv (by rw [h1]; exact hi)).1
         rw [h2 _ hi] at h3
         obtain ⟨h4, h5⟩ := zS hi hr
         refine ⟨?_, by simp [h5]⟩
         obtain ⟨h6, h7⟩ := List.getElem?_eq_some_iff.1 h3
         rw [List.drop_eq_getElem_cons h6, List.take_succ_cons, h7, h4]
         rw [show o + i.toNat * sz + off + 1 = o + i.toNat * sz + (off + 1) by omega]
       · cases h
     · cases h
   · cases h
variable {R : Type} {r : R}
theorem aA {c : Bool} {a : Option R} (h : cond c a none = some r) : c = true ∧ a = some r := by
 cases c with
 | true => exact ⟨rfl, h⟩
 | false => cases h
theorem pZ {c : Bool} {a : Option R} (h : cond c none a = some r) : c = false ∧ a = some r := by
 cases c with
 | true => cases h
 | false => exact ⟨rfl, h⟩
def sE (cs : List V) (o n : Nat) : Option (List V) := bif Nat.beq ((cs.drop o).take n).length n then some ((cs.drop o).take n) else none
theorem kH {cs r : List V} {o n : Nat} (h : sE cs o n = some r) : dC (V.cs cs) o n = some (V.cs r) := by
 unfold sE at h
 obtain ⟨h1, h2⟩ := aA h
 simp only [Option.some.injEq] at h2; subst h2
 simp only [Nat.beq_eq] at h1
 have e : V.cs ((cs.drop o).take n) = ((V.cs cs).drop o).take n := by simp only [V.cs_map, List.map_take, List.map_drop]
 unfold dC
 simp only
 rw [e, if_pos]
 rw [← e, V.cs_length, h1]
def eqV : V → V → Option Bool
 | .int _ a, .int _ b => some (a == b)
 | .bool a, .bool b => some (a == b)
 | .str a, .str b => some (decide (a = b))
 | _, _ => none
def y9 : List V → List V → Option Bool
 | [], [] => some true
 | a :: l, b :: m => match eqV a b with
   | some q => match y9 l m with
     | some s => some (q && s)
     | none => none
   | none => none
 | _, _ => none
end
end Go.Ev
namespace Go.Ev
open Go.RowKit
noncomputable section
def xX (P : Program) (t : TypeId) : Option Nat := match P.underlying t with
 | some (.int _) => some 0
 | some .bool => some 1
 | some .string => some 2
 | _ => none
def kindV : Nat → V → Bool
 | 0, .int k _ => decide (k = .i64)
 | 1, .bool _ => true
 | 2, .str _ => true
 | _, _ => false
def dU : List Nat → List V → Bool
 | [], [] => true
 | k :: ks, v :: vs => bif kindV k v then dU ks vs else false
 | _, _ => false
theorem yE {P : Program} {t : TypeId} {k : Nat} (hk : xX P t = some k) {a b : V} (ha : kindV k a = true) (hb : kindV k b = true) : ∃ q, eqV a b = some q ∧ eR P t a.c b.c = some q := by
 unfold xX at hk
 split at hk
 · rename_i kk hu
   cases hk
   cases a <;> first | (simp [kindV] at ha; done) | skip
   cases b <;> first | (simp [kindV] at hb; done) | skip
   rename_i k1 n1 k2 n2
   simp only [kindV, decide_eq_true_eq] at ha hb
   subst ha hb
   exact ⟨n1 == n2, rfl, by simp only [eR, hu, V.c, aq0, if_true]⟩
 · rename_i hu
   cases hk
   cases a <;> first | (simp [kindV] at ha; done) | skip
   cases b <;> first | (simp [kindV] at hb; done) | skip
   rename_i n1 n2
   exact ⟨n1 == n2, rfl, by simp only [eR, hu, V.c, kP]⟩
 · rename_i hu
   cases hk
   cases a <;> first | (simp [kindV] at ha; done) | skip
   cases b <;> first | (simp [kindV] at hb; done) | skip
   rename_i n1 n2
   exact ⟨decide (n1 = n2), rfl, by simp only [eR, hu, V.c, aqX]⟩
 · cases hk
theorem iC {P : Program} {e : TypeId} {k : Nat} (hk : xX P e = some k) : ∀ {n : Nat} {xs ys : List V} {ks : List Nat}, dU (List.replicate n k ++ ks) xs = true → dU (List.replicate n k ++ ks) ys = true →
  ∃ q, y9 (xs.take n) (ys.take n) = some q ∧ cY P e (V.cs (xs.take n)) (V.cs (ys.take n)) = some q ∧ (xs.take n).length = n ∧ (ys.take n).length = n ∧ dU ks (xs.drop n) = true ∧ dU ks (ys.drop n) = true
 | 0, xs, ys, ks, hx, hy => ⟨true, by simp only [List.take_zero]; rfl, by simp only [List.take_zero, V.cs]; rfl, rfl, rfl, hx, hy⟩
 | n + 1, xs, ys, ks, hx, hy => by
   cases xs with
   | nil => cases hx
   | cons a xs =>
     cases ys with
     | nil => cases hy
     | cons b ys =>
       simp only [List.replicate_succ, List.cons_append, dU] at hx hy
       obtain ⟨ha, hx⟩ : kindV k a = true ∧ dU (List.replicate n k ++ ks) xs = true := by cases h : kindV k a <;> rw [h] at hx <;> first | cases hx | exact ⟨rfl, hx⟩
       obtain ⟨hb, hy⟩ : kindV k b = true ∧ dU (List.replicate n k ++ ks) ys = true := by cases h : kindV k b <;> rw [h] at hy <;> first | cases hy | exact ⟨rfl, hy⟩
       obtain ⟨q1, h1, h2⟩ := yE hk ha hb
       obtain ⟨q2, h3, h4, h5, h6, h7, h8⟩ := iC hk hx hy
       refine ⟨q1 && q2, ?_, ?_, by simp [h5], by simp [h6], h7, h8⟩
       · simp only [List.take_succ_cons, y9, h1, h3]
       · simp only [List.take_succ_cons, V.cs, cY, h2]
         cases q1
         · rfl
         · simp only [h4, Bool.true_and]
def pN (P : Program) : List Field → Nat → Option (List Nat)
 | [], _ => some []
 | f :: fs, o => bif Nat.beq f.offset o && !decide (f.name = "_") then
   match qE P f.type with
   | some true => match P.underlying f.type with
     | some (.array n e) => match aK P f.type with
       | some s => bif Nat.beq s n then match aK P e with
         | some 1 => match xX P e with
           | some k => match pN P fs (o + n) with
             | some ks => some (List.replicate n k ++ ks)
             | none => none
           | none => none
         | _ => none
         else none
       | none => none
     | _ => none
   | some false => match xX P f.type with
     | some k => match pN P fs (o + 1) with
       | some ks => some (k :: ks)
       | none => none
     | none => none
   | none => none
   else none
theorem nV {a b c d : List V} {p q : Bool} (h1 : y9 a c = some p) (h2 : y9 b d = some q) : y9 (a ++ b) (c ++ d) = some (p && q) := by
 induction a generalizing c p with
 | nil =>
   cases c with
   | nil => simp only [y9, Option.some.injEq] at h1; subst h1; simpa using h2
   | cons _ _ => cases h1
 | cons x a ih =>
   cases c with
   | nil => cases h1
   | cons y c =>
     simp only [y9] at h1
     split at h1
     · rename_i q1 hq1
       split at h1
       · rename_i s hs
         cases h1
         simp only [List.cons_append, y9, hq1, ih hs, Bool.and_assoc]
       · cases h1
     · cases h1
theorem i3 {P : Program} : ∀ {fs : List Field} {o : Nat} {ks : List Nat}, pN P fs o = some ks → ∀ {xs ys : List V}, dU ks (xs.drop o) = true → dU ks (ys.drop o) = true →
  ∃ q, y9 (xs.drop o) (ys.drop o) = some q ∧ cC P fs (V.cs xs) (V.cs ys) = some q
 | [], o, ks, h, xs, ys, hx, hy => by
   simp only [pN, Option.some.injEq] at h; subst h
   refine ⟨true, ?_, rfl⟩
   cases hx' : xs.drop o with
   | nil =>
     cases hy' : ys.drop o with
     | nil => rfl
     | cons _ _ => rw [hy'] at hy; cases hy
   | cons _ _ => rw [hx'] at hx; cases hx
 | f :: fs, o, ks, h, xs, ys, hx, hy => by
   simp only [pN] at h
   obtain ⟨hc, h⟩ := aA h
   simp only [Bool.and_eq_true, Nat.beq_eq, Bool.not_eq_true', decide_eq_false_iff_not] at hc
   obtain ⟨ho, hnm⟩ := hc
   split at h
   · rename_i hagg
     split at h
     · rename_i n e hu
       split at h
       · rename_i s hs
         obtain ⟨hsn, h⟩ := aA h
         simp only [Nat.beq_eq] at hsn
         split at h
         · rename_i he1
           split at h
           · rename_i k hk
             split at h
             · rename_i ks' hks
               cases h
               obtain ⟨q1, h1, h2, h3, h4, h5, h6⟩ := iC hk hx hy
               rw [List.drop_drop] at h5 h6
               obtain ⟨q2, h7, h8⟩ := i3 hks h5 h6
               refine ⟨q1 && q2, ?_, ?_⟩
               · have e1 := nV h1 h7
                 rw [← List.drop_drop, ← List.drop_drop, List.take_append_drop, List.take_append_drop] at e1
                 exact e1
               · have tx : dC (V.cs xs) o n = some (V.cs ((xs.drop o).take n)) := kH (by unfold sE; rw [h3, Nat.beq_refl]; rfl)
                 have ty : dC (V.cs ys) o n = some (V.cs ((ys.drop o).take n)) := kH (by unfold sE; rw [h4, Nat.beq_refl]; rfl)
                 simp only [cC, if_neg hnm, nW, hagg, ho, aq1, hu, hs, hsn, if_true, he1, tx, ty, h2]
                 cases q1
                 · rfl
                 · simp only [h8, Bool.true_and]
             · cases h
           · cases h
         · cases h
       · cases h
     · cases h
   · rename_i hagg
     split at h
     · rename_i k hk
       split at h
       · rename_i ks' hks
         cases h
         obtain ⟨q1, h1, h2, h3, h4, h5, h6⟩ := iC (n := 1) hk (show dU (List.replicate 1 k ++ ks') (xs.drop o) = true from hx) (show dU (List.replicate 1 k ++ ks') (ys.drop o) = true from hy)
         rw [List.drop_drop] at h5 h6
         obtain ⟨q2, h7, h8⟩ := i3 hks h5 h6
         refine ⟨q1 && q2, ?_, ?_⟩
         · have e1 := nV h1 h7
           rw [← List.drop_drop, ← List.drop_drop, List.take_append_drop, List.take_append_drop] at e1
           exact e1
         · obtain ⟨a, ha⟩ : ∃ a, xs[o]? = some a := by
            cases hq : xs.drop o with
            | nil => rw [hq] at h3; cases h3
            | cons a l => exact ⟨a, by rw [← List.head?_drop, hq]; rfl⟩
           obtain ⟨b, hb⟩ : ∃ b, ys[o]? = some b := by
            cases hq : ys.drop o with
            | nil => rw [hq] at h4; cases h4
            | cons a l => exact ⟨a, by rw [← List.head?_drop, hq]; rfl⟩
           have tx : (xs.drop o).take 1 = [a] := by rw [List.drop_eq_getElem_cons (List.getElem?_eq_some_iff.1 ha).1]; simp [(List.getElem?_eq_some_iff.1 ha).2]
           have ty : (ys.drop o).take 1 = [b] := by rw [List.drop_eq_getElem_cons (List.getElem?_eq_some_iff.1 hb).1]; simp [(List.getElem?_eq_some_iff.1 hb).2]
           rw [tx, ty] at h2
           simp only [V.cs, cY] at h2
           have h9 : eR P f.type a.c b.c = some q1 := by
            cases hq : eR P f.type a.c b.c with
            | none => rw [hq] at h2; cases h2
            | some z => rw [hq] at h2; cases z <;> simp_all
           simp only [cC, if_neg hnm, nW, hagg, ho, V.cs_get, ha, hb, Option.map_some, h9]
           cases q1
           · rfl
           · simp only [h8, Bool.true_and]
       · cases h
     · cases h
   · cases h
def wQ (P : Program) (t : TypeId) : Option (List Nat) := match P.eqGuardType P.depth t with
 | true => none
 | false => match P.underlying t with
   | some (.struct fs) => match P.stoodInHeld t with
     | true => none
     | false => pN P fs.toList 0
   | some (.array n e) => match aK P e with
     | some 1 => match xX P e with
       | some k => some (List.replicate n k)
       | none => none
     | _ => none
   | _ => none
theorem ajk {P : Program} {t : TypeId} {ks : List Nat} (h : wQ P t = some ks) {xs ys : List V} (hx : dU ks xs = true) (hy : dU ks ys = true) {q : Bool} (hq : y9 xs ys = some q) : eqX P t (.agg (V.cs xs)) (.agg (V.cs ys)) = some q := by
 unfold wQ at h
 split at h
 · cases h
 · rename_i hg
   split at h
   · rename_i fs hu
     split at h
     · cases h
     · rename_i hh
       obtain ⟨q', h1, h2⟩ := i3 h (xs := xs) (ys := ys) hx hy
       rw [List.drop_zero, List.drop_zero, hq] at h1
       cases h1
       simp only [eqX, hu, aq2, hg, hh, h2]
   · rename_i n e hu
     split at h
     · rename_i hs
       split at h
       · rename_i k hk
         cases h
         obtain ⟨q', h1, h2, h3, h4, h5, h6⟩ := iC (n := n) (ks := []) hk (by simpa using hx) (by simpa using hy)
         have lx : xs.take n = xs := by
          have : xs.drop n = [] := by cases hd : xs.drop n with
           | nil => rfl
           | cons _ _ => rw [hd] at h5; cases h5
          conv => rhs; rw [← List.take_append_drop n xs, this, List.append_nil]
         have ly : ys.take n = ys := by
          have : ys.drop n = [] := by cases hd : ys.drop n with
           | nil => rfl
           | cons _ _ => rw [hd] at h6; cases h6
          conv => rhs; rw [← List.take_append_drop n ys, this, List.append_nil]
         rw [lx] at h1 h2 h3
         rw [ly] at h1 h2 h4
         rw [hq] at h1
         cases h1
         simp only [eqX, hu, aq2, hg, hs]
         rw [if_pos ⟨by rw [V.cs_length]; exact h3, by rw [V.cs_length]; exact h4⟩]
         exact h2
       · cases h
     · cases h
   · cases h
end
end Go.Ev
namespace Go.Ev
open Go.RowKit
noncomputable section
variable {R : Type} {r : R}
def dInt (op : BinOp) (k : IntKind) (a b : Int) (kk : V → Option R) : Option R :=
 match op with
 | .add => kk (.int k (k.wrap (a + b)))
 | .sub => kk (.int k (k.wrap (a - b)))
 | .mul => kk (.int k (k.wrap (a * b)))
 | .quo => cond (decide (b = 0)) none (kk (.int k (k.wrap (a.tdiv b))))
 | .rem => cond (decide (b = 0)) none (kk (.int k (a.tmod b)))
 | .eql => kk (.bool (a == b))
 | .neq => kk (.bool (!(a == b)))
 | .lss => kk (.bool (decide (a < b)))
 | .leq => kk (.bool (decide (a ≤ b)))
 | .gtr => kk (.bool (decide (b < a)))
 | .geq => kk (.bool (decide (b ≤ a)))
 | _ => none
theorem dInt_ok {op : BinOp} {k : IntKind} {a b : Int} {kk : V → Option R} (h : dInt op k a b kk = some r) : ∃ w : V, yG op k k a b = some w.c ∧ w.safe = true ∧ kk w = some r := by
 unfold dInt at h
 split at h
 all_goals first
  | (refine ⟨_, ?_, rfl, h⟩; simp only [yG, eInt, if_true, V.c]; done)
  | (obtain ⟨h1, h2⟩ := pZ h; refine ⟨_, ?_, rfl, h2⟩; simp only [decide_eq_false_iff_not] at h1; simp only [yG, eInt, if_true, V.c, if_neg h1]; done)
  | (refine ⟨_, ?_, rfl, h⟩; simp only [yG, eInt, if_true, V.c]; rfl)
  | cases h
def dStr (op : BinOp) (a b : List Nat) (kk : V → Option R) : Option R :=
 match op with
 | .add => cond (decide (a.length + b.length < 1000000000)) (kk (.str (a ++ b))) none
 | .eql => kk (.bool (decide (a = b)))
 | .neq => kk (.bool (!decide (a = b)))
 | .lss => kk (.bool (lessL a b))
 | .leq => kk (.bool (lessL a b || decide (a = b)))
 | .gtr => kk (.bool (!(lessL a b || decide (a = b))))
 | .geq => kk (.bool (!lessL a b))
 | _ => none
theorem dStr_ok {op : BinOp} {a b : List Nat} {kk : V → Option R} (h : dStr op a b kk = some r) : ∃ w : V, eStr op a b = some w.c ∧ w.safe = true ∧ kk w = some r := by
 unfold dStr at h
 split at h
 all_goals first
  | (refine ⟨_, ?_, rfl, h⟩; simp only [eStr, V.c]; done)
  | (obtain ⟨h1, h2⟩ := aA h; refine ⟨_, ?_, rfl, h2⟩; simp only [decide_eq_true_eq] at h1; simp only [eStr, if_true, V.c, if_pos h1]; done)
  | cases h
def dEqX (P : Program) (t : TypeId) (a b : V) : Option Bool :=
 match P.underlying t with
 | some .bool => match a, b with
   | .bool x, .bool y => some (x == y)
   | _, _ => none
 | some (.pointer e) => bif (aK P e).isSome then
   match a, b with
   | .raw .nilp, .ptr _ _ => some false
   | .ptr _ _, .raw .nilp => some false
   | .raw .nilp, .raw .nilp => some true
   | _, _ => none
   else none
 | some (.slice _) => match a, b with
   | .nils, .nils => some true
   | .sl _ _ _ _, .nils => some false
   | .nils, .sl _ _ _ _ => some false
   | .el (_ :: _), .nils => some false
   | _, _ => none
 | some (.func _ _ _) => match a, b with
   | .raw .nilfunc, .raw .nilfunc => some true
   | .raw (.func _ _), .raw .nilfunc => some false
   | .raw .nilfunc, .raw (.func _ _) => some false
   | _, _ => none
 | _ => none
theorem dEqX_ok {P : Program} {t : TypeId} {a b : V} {q : Bool} (h : dEqX P t a b = some q) : eqX P t a.c b.c = some q ∧ a.plain = true ∧ b.plain = true ∧ (∀ k n, a ≠ .int k n) ∧ (∀ l, a ≠ .str l) := by
 unfold dEqX at h
 split at h
 · rename_i hu
   split at h
   · simp only [Option.some.injEq] at h; subst h
     refine ⟨by simp only [eqX, hu, V.c, kP], rfl, rfl, by simp, by simp⟩
   · cases h
 · rename_i e hu
   cases hs : (aK P e).isSome with
   | false => rw [hs] at h; cases h
   | true =>
     rw [hs] at h
     simp only [cond_true] at h
     split at h <;> first | (simp only [Option.some.injEq] at h; subst h; refine ⟨by simp only [eqX, hu, V.c, hs, if_true, eqNil], rfl, rfl, by simp, by simp⟩) | cases h
 · rename_i e hu
   split at h <;> first | (simp only [Option.some.injEq] at h; subst h; refine ⟨by simp only [eqX, hu, V.c, V.css, aqY], rfl, rfl, by simp, by simp⟩) | cases h
 · rename_i hu
   split at h <;> first | (simp only [Option.some.injEq] at h; subst h; refine ⟨by simp only [eqX, hu, V.c, aqZ], rfl, rfl, by simp, by simp⟩) | cases h
 · cases h
def EqT (P : Program) (T : TypeId → Option (List Nat)) : Prop := ∀ t ks, T t = some ks → wQ P t = some ks
def dBin (P : Program) (T : TypeId → Option (List Nat)) (op : BinOp) (t : TypeId) (x y : V) (kk : V → Option R) : Option R :=
 match x with
 | .int k a => match y with
   | .int k' b => bif decide (k = k') then dInt op k a b kk else none
   | _ => none
 | .str a => match y with
   | .str b => dStr op a b kk
   | _ => none
 | .agg xs => match y with
   | .agg ys => match T t with
     | some ks => bif dU ks xs && dU ks ys then match y9 xs ys with
       | some q => match op with
         | .eql => kk (.bool q)
         | .neq => kk (.bool (!q))
         | _ => none
       | none => none
       else none
     | none => none
   | _ => none
 | x => match dEqX P t x y with
   | some q => match op with
     | .eql => kk (.bool q)
     | .neq => kk (.bool (!q))
     | _ => none
   | none => none
theorem iG {P : Program} {op : BinOp} {t : TypeId} {x y : EVal} (h1 : ∀ k n, x ≠ .int k n) (h2 : ∀ l, x ≠ .str l) : ax5 P op t x y = nX P op t x y := by
 unfold ax5
 split
 · rename_i k n; exact absurd rfl (h1 k n)
 · rename_i l; exact absurd rfl (h2 l)
 · rfl
theorem yN {P : Program} {t : TypeId} {a b : V} {q : Bool} (h : dEqX P t a b = some q) : (∀ k n, a.c ≠ .int k n) ∧ (∀ l, a.c ≠ .str l) := by
 unfold dEqX at h
 split at h
 · split at h
   · exact ⟨by simp [V.c], by simp [V.c]⟩
   · cases h
 · rename_i e _
   cases hs : (aK P e).isSome with
   | false => rw [hs] at h; cases h
   | true =>
     rw [hs] at h
     simp only [cond_true] at h
     split at h <;> first | (cases h; done) | exact ⟨by simp [V.c], by simp [V.c]⟩
 · split at h <;> first | (cases h; done) | exact ⟨by simp [V.c], by simp [V.c]⟩
 · split at h <;> first | (cases h; done) | exact ⟨by simp [V.c], by simp [V.c]⟩
 · cases h
theorem dBin_ok {P : Program} {T : TypeId → Option (List Nat)} (hT : EqT P T) {op : BinOp} {t : TypeId} {x y : V} {kk : V → Option R} (h : dBin P T op t x y kk = some r) :
  ∃ w : V, ax5 P op t x.c y.c = some w.c ∧ w.safe = true ∧ x.plain = true ∧ y.plain = true ∧ kk w = some r := by
 unfold dBin at h
 split at h
 · split at h
   · obtain ⟨hk, h'⟩ := aA h
     have hk := of_decide_eq_true hk
     subst hk
     obtain ⟨w, h1, h2, h3⟩ := dInt_ok h'
     exact ⟨w, by simp only [V.c, ax5]; exact h1, h2, rfl, rfl, h3⟩
   · cases h
 · split at h
   · obtain ⟨w, h1, h2, h3⟩ := dStr_ok h
     exact ⟨w, by simp only [V.c, ax5]; exact h1, h2, rfl, rfl, h3⟩
   · cases h
 · split at h
   · split at h
     rotate_left
     · cases h
     rename_i ks hks
     obtain ⟨ht, h⟩ := aA h
     simp only [Bool.and_eq_true] at ht
     split at h
     · rename_i q hq
       have e := ajk (hT t ks hks) ht.1 ht.2 hq
       split at h
       · exact ⟨_, by simp only [V.c]; rw [iG (by simp) (by simp), nX, e]; rfl, rfl, rfl, rfl, h⟩
       · exact ⟨_, by simp only [V.c]; rw [iG (by simp) (by simp), nX, e]; rfl, rfl, rfl, rfl, h⟩
       · cases h
     · cases h
   · cases h
 · split at h
   · rename_i q hq
     obtain ⟨e, h1, h2, _, _⟩ := dEqX_ok hq
     obtain ⟨s1, s2⟩ := yN hq
     split at h
     · exact ⟨_, by rw [iG s1 s2, nX, e]; simp only [V.c]; rfl, rfl, h1, h2, h⟩
     · exact ⟨_, by rw [iG s1 s2, nX, e]; simp only [V.c]; rfl, rfl, h1, h2, h⟩
     · cases h
   · cases h
def ax6 (gD : Nat → Option (List V)) (d : D) : V → Option (List V × Nat)
 | .ptr id o => match d.row id with
   | some r => some (r.cells, o)
   | none => none
 | .lptr cs o => some (cs, o)
 | .raw (.gptr b o) => match gD b with
   | some cs => some (cs, o)
   | none => none
 | _ => none
def GD (g : G) (gD : Nat → Option (List V)) : Prop := ∀ b cs, gD b = some cs → g b = some (V.cs cs)
theorem aqc {g : G} {gD : Nat → Option (List V)} (hg : GD g gD) {d : D} {a : V} {cs : List V} {o : Nat} (h : ax6 gD d a = some (cs, o)) :
  row? g d.H a.c = some (V.cs cs, o) ∧ a.plain = true ∧ (∀ k e, bQ k a.c = some e → row? g d.H e = some (V.cs cs, o + k)) ∧ ∃ e : Nat → EVal, ∀ k, bQ k a.c = some (e k) := by
 cases a with
 | ptr id o' =>
   simp only [ax6] at h
   split at h
   · rename_i r hr
     simp only [Option.some.injEq, Prod.mk.injEq] at h
     obtain ⟨rfl, rfl⟩ := h
     have hg := D.row_get hr
     simp only [V.c]
     refine ⟨by simp only [row?, hg, DRow.o], rfl, fun k e he => ?_, fun k => .ptr id (o' + k), fun k => rfl⟩
     simp only [bQ, Option.some.injEq] at he; subst he
     simp only [row?, hg, DRow.o]
   · cases h
 | lptr cs' o' =>
   simp only [ax6, Option.some.injEq, Prod.mk.injEq] at h
   obtain ⟨rfl, rfl⟩ := h
   simp only [V.c]
   refine ⟨by simp only [row?], rfl, fun k e he => ?_, fun k => .lptr (V.cs cs') (o' + k), fun k => rfl⟩
   simp only [bQ, Option.some.injEq] at he; subst he
   simp only [row?]
 | raw e =>
   cases e with
   | gptr b o' =>
     simp only [ax6] at h
     split at h
     · rename_i cs' hb
       simp only [Option.some.injEq, Prod.mk.injEq] at h
       obtain ⟨rfl, rfl⟩ := h
       have hb' := hg _ _ hb
       simp only [V.c]
       refine ⟨by simp only [row?, hb'], rfl, fun k e he => ?_, fun k => .gptr b (o' + k), fun k => rfl⟩
       simp only [bQ, Option.some.injEq] at he; subst he
       simp only [row?, hb']
     · cases h
   | _ => simp [ax6] at h
 | _ => simp [ax6] at h
def ajp (P : Program) (gD : Nat → Option (List V)) (d : D) (t : TypeId) (a : V) : Option V :=
 match a with
 | .eptr s sz n i off => match ax6 gD d s with
   | some (cs, o) => match qE P t with
     | some true => match P.info? t with
       | some inf => match zT cs sz n o i inf.size off with
         | some r => some (.agg r)
         | none => none
       | none => none
     | some false => match yS cs sz off n o with
       | some l => bif Nat.beq l.length n then selV l i else none
       | none => none
     | none => none
   | none => none
 | a => match ax6 gD d a with
   | some (cs, o) => match qE P t with
     | some true => match P.info? t with
       | some inf => match sE cs o inf.size with
         | some r => some (.agg r)
         | none => none
       | none => none
     | some false => cs[o]?
     | none => none
   | none => none
theorem w7 {P : Program} {g : G} {gD : Nat → Option (List V)} (hg : GD g gD) {d : D} {t : TypeId} {a w : V} (ha : a.inr) (h : ajp P gD d t a = some w) :
  nY P g d.H t a.c = some w.c ∧ a.plain = true := by
 unfold ajp at h
 split at h
 · rename_i s sz n i off
   split at h
   · rename_i cs o hr
     obtain ⟨_, _, h3, e, h4⟩ := aqc hg hr
     have h5 : row? g d.H (V.eptr s sz n i off).c = some (V.cs cs, o + (i.toNat * sz + off)) := by
      rw [V.c, h4, Option.getD_some]; exact h3 _ _ (h4 _)
     refine ⟨?_, rfl⟩
     unfold nY
     rw [h5]
     simp only
     split at h
     · rename_i hagg
       split at h
       · rename_i inf hinf
         split at h
         · rename_i r hr2
           simp only [Option.some.injEq] at h; subst h
           obtain ⟨e1, e2⟩ := zS (show i.toNat < n from ha) hr2
           have ec : V.cs r = ((V.cs cs).drop (o + i.toNat * sz + off)).take inf.size := by rw [e1]; simp only [V.cs_map, List.map_take, List.map_drop]
           have el : (((V.cs cs).drop (o + i.toNat * sz + off)).take inf.size).length = inf.size := by rw [← ec, V.cs_length, e2]
           rw [hagg]
           simp only [fC, hinf, dC, ← Nat.add_assoc]
           rw [if_pos el]
           simp only [V.c, ec]
         · cases h
       · cases h
     · rename_i hagg
       split at h
       · rename_i l hl
         obtain ⟨hb, h⟩ := aA h
         obtain ⟨h6, h7⟩ := oG hl
         have h8 := (axQ h (by rw [h6]; exact ha)).1
         rw [h7 _ ha] at h8
         rw [hagg]
         simp only [fC, V.cs_get, ← Nat.add_assoc, h8, Option.map_some]
       · cases h
     · cases h
   · cases h
 · split at h
   · rename_i cs o hr
     obtain ⟨h1, h2, _, _⟩ := aqc hg hr
     refine ⟨?_, h2⟩
     unfold nY
     rw [h1]
     simp only
     split at h
     · rename_i hagg
       split at h
       · rename_i inf hinf
         split at h
         · rename_i r hr2
           simp only [Option.some.injEq] at h; subst h
           rw [hagg]
           simp only [fC, hinf, kH hr2, V.c]
         · cases h
       · cases h
     · rename_i hagg
       rw [hagg]
       simp only [fC, V.cs_get, h, Option.map_some]
     · cases h
   · cases h
end
end Go.Ev
namespace Go.Ev
open Go.RowKit
noncomputable section
variable {R : Type} {r : R}
def n8 (i : Int) (kk : Nat → Option R) : Nat → Nat → Option R
 | 0, _ => none
 | n + 1, j => cond (i == (j : Int)) (kk j) (n8 i kk n (j + 1))
theorem gY {i : Int} {kk : Nat → Option R} : ∀ {n j : Nat}, n8 i kk n j = some r → ∃ q : Nat, j ≤ q ∧ q < j + n ∧ i = (q : Int) ∧ kk q = some r
 | 0, j, h => by cases h
 | n + 1, j, h => by
   simp only [n8] at h
   cases hc : (i == (j : Int)) with
   | true =>
     rw [hc] at h
     exact ⟨j, Nat.le_refl _, by omega, by simpa using hc, h⟩
   | false =>
     rw [hc] at h
     obtain ⟨q, h1, h2, h3, h4⟩ := gY h
     exact ⟨q, by omega, by omega, h3, h4⟩
def inR (i : Int) (n : Nat) : Bool := decide (0 ≤ i) && decide (i < (n : Int))
theorem aqP {i : Int} {n : Nat} (h : inR i n = true) : 0 ≤ i ∧ i < (n : Int) ∧ i.toNat < n := by
 simp only [inR, Bool.and_eq_true, decide_eq_true_eq] at h
 omega
def fE (k : Nat) : V → Option V
 | .ptr id o => some (.ptr id (o + k))
 | .lptr cs o => some (.lptr cs (o + k))
 | .raw (.gptr b o) => some (.raw (.gptr b (o + k)))
 | .eptr s sz n i off => match s with
   | .ptr _ _ => some (.eptr s sz n i (off + k))
   | .lptr _ _ => some (.eptr s sz n i (off + k))
   | .raw (.gptr _ _) => some (.eptr s sz n i (off + k))
   | _ => none
 | _ => none
theorem tF {k : Nat} {a w : V} (h : fE k a = some w) : bQ k a.c = some w.c ∧ a.plain = true ∧ w.plain = true ∧ (a.inr → w.inr) := by
 cases a with
 | ptr id o => simp only [fE, Option.some.injEq] at h; subst h; exact ⟨by simp only [V.c, bQ], rfl, rfl, fun _ => trivial⟩
 | lptr cs o => simp only [fE, Option.some.injEq] at h; subst h; exact ⟨by simp only [V.c, bQ], rfl, rfl, fun _ => trivial⟩
 | raw e =>
   cases e with
   | gptr b o => simp only [fE, Option.some.injEq] at h; subst h; exact ⟨by simp only [V.c, bQ], rfl, rfl, fun _ => trivial⟩
   | _ => simp [fE] at h
 | eptr s sz n i off =>
   cases s with
   | ptr id o => simp only [fE, Option.some.injEq] at h; subst h; exact ⟨by simp only [V.c, bQ, Option.getD_some, Nat.add_assoc], rfl, rfl, fun h => h⟩
   | lptr cs o => simp only [fE, Option.some.injEq] at h; subst h; exact ⟨by simp only [V.c, bQ, Option.getD_some, Nat.add_assoc], rfl, rfl, fun h => h⟩
   | raw e =>
     cases e with
     | gptr b o => simp only [fE, Option.some.injEq] at h; subst h; exact ⟨by simp only [V.c, bQ, Option.getD_some, Nat.add_assoc], rfl, rfl, fun h => h⟩
     | _ => simp [fE] at h
   | _ => simp [fE] at h
 | _ => simp [fE] at h
def kZ (P : Program) (s : TypeId) (f : Nat) (x : V) : Option V :=
 match P.underlying s with
 | some (.struct fs) => match fs[f]? with
   | some fd => match aK P fd.type with
     | some sz => bif Nat.beq sz 0 then none else fE fd.offset x
     | none => none
   | none => none
 | _ => none
theorem rI {P : Program} {s : TypeId} {f : Nat} {x w : V} (h : kZ P s f x = some w) : fD P s x.c f = some w.c ∧ x.plain = true ∧ w.plain = true ∧ (x.inr → w.inr) := by
 unfold kZ at h
 split at h
 · rename_i fs hu
   split at h
   · rename_i fd hf
     split at h
     · rename_i sz hs
       obtain ⟨h0, h⟩ := pZ h
       obtain ⟨h1, h2, h3, h4⟩ := tF h
       refine ⟨?_, h2, h3, h4⟩
       simp only [fD, hu, hf, hs]
       rw [if_neg]
       · exact h1
       · intro e; subst e; cases h0
     · cases h
   · cases h
 · cases h
def ajn (P : Program) (t : TypeId) (cs : List V) (o : Nat) : Option V :=
 match qE P t with
 | some true => match P.info? t with
   | some inf => match sE cs o inf.size with
     | some r => some (.agg r)
     | none => none
   | none => none
 | some false => cs[o]?
 | none => none
theorem w5 {P : Program} {t : TypeId} {cs : List V} {o : Nat} {w : V} (h : ajn P t cs o = some w) : yF P t (V.cs cs) o = some w.c := by
 unfold ajn at h
 unfold yF
 split at h
 · rename_i hagg
   split at h
   · rename_i inf hinf
     split at h
     · rename_i r hr2
       simp only [Option.some.injEq] at h; subst h
       rw [hagg]
       simp only [fC, hinf, kH hr2, V.c]
     · cases h
   · cases h
 · rename_i hagg
   rw [hagg]
   simp only [fC, V.cs_get, h, Option.map_some]
 · cases h
def aql (P : Program) (s : TypeId) (f : Nat) (x : V) : Option V :=
 match x with
 | .agg cs => match P.underlying s with
   | some (.struct fs) => match fs[f]? with
     | some fd => ajn P fd.type cs fd.offset
     | none => none
   | _ => none
 | _ => none
theorem aqk {P : Program} {s : TypeId} {f : Nat} {x w : V} (h : aql P s f x = some w) : tB P s x.c f = some w.c ∧ x.plain = true := by
 unfold aql at h
 split at h
 · split at h
   · rename_i fs hu
     split at h
     · rename_i fd hf
       refine ⟨?_, rfl⟩
       simp only [V.c, tB, hu, hf, w5 h]
     · cases h
   · cases h
 · cases h
def iI (P : Program) (lz : Bool) (t : TypeId) (x ix : V) (kk : V → Option R) : Option R :=
 match ix with
 | .int _ i => match P.underlying t with
   | some (.array n e) => match aK P e with
     | some sz => match lz with
       | true => match x with
         | .ptr a b => cond (inR i n) (kk (.eptr (.ptr a b) sz n i 0)) none
         | .lptr a b => cond (inR i n) (kk (.eptr (.lptr a b) sz n i 0)) none
         | .raw (.gptr a b) => cond (inR i n) (kk (.eptr (.raw (.gptr a b)) sz n i 0)) none
         | _ => none
       | false => n8 i (fun j => match fE (j * sz) x with
         | some w => kk w
         | none => none) n 0
     | none => none
   | some (.slice e) => match aK P e with
     | some sz => match x with
       | .sl id o len _ => n8 i (fun j => kk (.ptr id (o + j * sz))) len 0
       | .fl w n f => cond (inR i n) (bif Nat.beq (f i.toNat).length sz && okW w (f i.toNat) then kk (.lptr (f i.toNat) 0) else none) none
       | .el els => n8 i (fun j => match els[j]? with
         | some c => bif Nat.beq c.length sz then kk (.lptr c 0) else none
         | none => none) els.length 0
       | _ => none
     | none => none
   | _ => none
 | _ => none
theorem sP {α : Type} {f : Nat → α} {n i : Nat} (h : i < n) : ((List.range n).map f)[i]? = some (f i) := by
 rw [List.getElem?_map, List.getElem?_range h]; rfl
theorem rG {P : Program} {lz : Bool} {t : TypeId} {x ix : V} {kk : V → Option R} (hi0 : x.inr) (h : iI P lz t x ix kk = some r) :
  ∃ w : V, bH P t x.c ix.c = some w.c ∧ x.plain = true ∧ ix.plain = true ∧ w.plain = true ∧ w.inr ∧ kk w = some r := by
 cases ix with
 | int k i =>
   simp only [iI] at h
   split at h
   · rename_i n e hu
     split at h
     · rename_i sz hs
       cases lz with
       | true =>
         simp only at h
         have key : ∀ s : V, (∀ k, ∃ e, bQ k s.c = some e) → s.plain = true → cond (inR i n) (kk (.eptr s sz n i 0)) none = some r → ∃ w : V, bH P t s.c (V.int k i).c = some w.c ∧ s.plain = true ∧ (V.int k i).plain = true ∧ w.plain = true ∧ w.inr ∧ kk w = some r := by
          intro s hsh hp h
          obtain ⟨h1, h2⟩ := aA h
          obtain ⟨q1, q2, q3⟩ := aqP h1
          refine ⟨.eptr s sz n i 0, ?_, hp, rfl, rfl, q3, h2⟩
          obtain ⟨e', he⟩ := hsh (i.toNat * sz)
          simp only [V.c, bH, hu, cK, hs]
          rw [if_pos ⟨q1, q2⟩, Nat.add_zero, he, Option.getD_some]
         split at h
         · exact key _ (fun k => ⟨_, by simp only [V.c]; rfl⟩) rfl h
         · exact key _ (fun k => ⟨_, by simp only [V.c]; rfl⟩) rfl h
         · exact key _ (fun k => ⟨_, by simp only [V.c]; rfl⟩) rfl h
         · cases h
       | false =>
         simp only at h
         obtain ⟨q, _, q2, hq, hk⟩ := gY h
         subst hq
         clear h
         have h := hk
         clear hk
         try simp only at h
         split at h
         · rename_i w hw
           obtain ⟨h1, h2, h3, h4⟩ := tF hw
           refine ⟨w, ?_, h2, rfl, h3, h4 hi0, h⟩
           simp only [V.c, bH, hu, cK, hs]
           rw [if_pos ⟨Int.natCast_nonneg _, by omega⟩, Int.toNat_natCast]
           exact h1
         · cases h
     · cases h
   · rename_i e hu
     split at h
     · rename_i sz hs
       split at h
       · rename_i id o len cap
         obtain ⟨q, _, q2, hq, hk⟩ := gY h
         subst hq
         clear h
         have h := hk
         clear hk
         try simp only at h
         refine ⟨.ptr id (o + q * sz), ?_, rfl, rfl, rfl, trivial, h⟩
         simp only [V.c, bH, hu, cK, hs, bQ]
         rw [if_pos ⟨Int.natCast_nonneg _, by omega⟩, Int.toNat_natCast]
       · rename_i w n f
         obtain ⟨h1, h2⟩ := aA h
         obtain ⟨h3, h4⟩ := aA h2
         obtain ⟨q1, q2, q3⟩ := aqP h1
         rw [Bool.and_eq_true] at h3
         obtain ⟨h3, h5⟩ := h3
         simp only [Nat.beq_eq] at h3
         refine ⟨.lptr (f i.toNat) 0, ?_, rfl, rfl, rfl, trivial, h4⟩
         simp only [V.c, bH, hu, kT]
         rw [if_pos q1, sP q3]
         simp only [h5, cond_true]
         rw [if_pos (by rw [hs, V.cs_length, h3])]
       · rename_i els
         obtain ⟨q, _, q2, hq, hk⟩ := gY h
         subst hq
         clear h
         split at hk
         · rename_i c hc
           obtain ⟨h3, h4⟩ := aA hk
           simp only [Nat.beq_eq] at h3
           refine ⟨.lptr c 0, ?_, rfl, rfl, rfl, trivial, h4⟩
           simp only [V.c, bH, hu, kT]
           rw [if_pos (Int.natCast_nonneg _), Int.toNat_natCast, V.css_map, List.getElem?_map, hc]
           simp only [Option.map_some]
           rw [if_pos (by rw [hs, V.cs_length, h3])]
         · cases hk
       · cases h
     · cases h
   · cases h
 | _ => simp [iI] at h
def w9 (P : Program) (t : TypeId) (x ix : V) (kk : V → Option R) : Option R :=
 match ix with
 | .int _ i => match P.underlying t with
   | some (.array n e) => match aK P e with
     | some sz => match x with
       | .agg cs => n8 i (fun j => match ajn P e cs (j * sz) with
         | some w => bif w.safe then kk w else none
         | none => none) n 0
       | _ => none
     | none => none
   | some .string => match x with
     | .str l => cond (inR i l.length) (kk (.int .u8 ((l.getD i.toNat 0 : Nat) : Int))) none
     | _ => none
   | _ => none
 | _ => none
theorem aqg {P : Program} {t : TypeId} {x ix : V} {kk : V → Option R} (h : w9 P t x ix kk = some r) :
  ∃ w : V, pU P t x.c ix.c = some w.c ∧ x.plain = true ∧ ix.plain = true ∧ w.plain = true ∧ w.inr ∧ kk w = some r := by
 cases ix with
 | int k i =>
   simp only [w9] at h
   split at h
   · rename_i n e hu
     split at h
     · rename_i sz hs
       split at h
       · rename_i cs
         obtain ⟨q, _, q2, hq, hk⟩ := gY h
         subst hq
         clear h
         have h := hk
         clear hk
         try simp only at h
         split at h
         · rename_i w hw
           obtain ⟨h1, h2⟩ := aA h
           obtain ⟨s1, s2⟩ := V.safe_ok h1
           refine ⟨w, ?_, rfl, rfl, s1, s2, h2⟩
           simp only [V.c, pU, hu, hs]
           rw [if_pos ⟨Int.natCast_nonneg _, by omega⟩, Int.toNat_natCast]
           exact w5 hw
         · cases h
       · cases h
     · cases h
   · rename_i hu
     split at h
     · rename_i l
       obtain ⟨h1, h2⟩ := aA h
       obtain ⟨q1, q2, q3⟩ := aqP h1
       refine ⟨.int .u8 ((l.getD i.toNat 0 : Nat) : Int), ?_, rfl, rfl, rfl, trivial, h2⟩
       simp only [V.c, pU, hu]
       rw [if_pos q1, List.getElem?_eq_getElem q3]
       simp only [List.getD_eq_getElem?_getD, List.getElem?_eq_getElem q3, Option.getD_some]
     · cases h
   · cases h
 | _ => simp [w9] at h
def D.setRow (d : D) (id : Nat) (r : DRow) : D := { d with hp := (id, some (.row r)) :: d.hp }
def D.newRow (d : D) (r : DRow) : D := { d with n := d.n + 1, hp := (d.n, some (.row r)) :: d.hp }
theorem D.setRow_H {d : D} {id : Nat} {r : DRow} : (d.setRow id r).H = d.H.put id r.o := by
 unfold D.H D.setRow; rw [qV]; rfl
theorem D.newRow_H {d : D} {r : DRow} : (d.newRow r).H = d.H.new r.o := by
 unfold D.H D.newRow; rw [nC]; rfl
def aqa (P : Program) (d : D) (t : TypeId) (a v : V) : Option D :=
 match P.info? t with
 | some inf => match v.cells with
   | some vs => match a with
     | .ptr id o => match d.row id with
       | some r => bif Nat.beq vs.length inf.size && Nat.ble (o + vs.length) r.cells.length then some (d.setRow id { r with cells := setV r.cells o vs }) else none
       | none => none
     | _ => none
   | none => none
 | none => none
theorem aq9 {P : Program} {d d' : D} {t : TypeId} {a v : V} (h : aqa P d t a v = some d') :
  pT P d.H t a.c v.c = some d'.H ∧ a.plain = true ∧ v.plain = true ∧ d'.fr = d.fr ∧ d'.tk = d.tk := by
 unfold aqa at h
 split at h
 · rename_i inf hinf
   split at h
   · rename_i vs hvs
     obtain ⟨k1, k2, k3⟩ := V.cells_c hvs
     split at h
     · rename_i id o
       split at h
       · rename_i r hr
         obtain ⟨h1, h2⟩ := aA h
         simp only [Option.some.injEq] at h2; subst h2
         simp only [Bool.and_eq_true, Nat.beq_eq, Nat.ble_eq] at h1
         refine ⟨?_, rfl, k3, rfl, rfl⟩
         simp only [V.c, pT, hinf, k1]
         rw [if_pos (by rw [V.cs_length]; exact h1.1)]
         simp only [aP, D.row_get hr, DRow.o]
         rw [if_pos ⟨by rw [V.cs_length, V.cs_length]; exact h1.2, Nat.zero_le _, k2⟩, D.setRow_H]
         simp only [DRow.o, zQ]
       · cases h
     · cases h
   · cases h
 · cases h
end
end Go.Ev
namespace Go.Ev
open Go.RowKit
noncomputable section
variable {R : Type} {r : R}
theorem uM : ∀ {l : List EVal} {vs : List V}, aj2 l = some vs → vs.length = l.length := fun {l vs} h => by rw [← V.cs_length, nA h]
def aqq (P : Program) (d : D) (e : TypeId) : Option (V × D) :=
 match jF P e with
 | some z => match aj2 z with
   | some vs => some (.ptr d.n 0, d.newRow ⟨vs, e, false⟩)
   | none => none
 | none => none
theorem aqp {P : Program} {d d' : D} {e : TypeId} {w : V} (h : aqq P d e = some (w, d')) : gU P d.H e = some (.val w.c d'.H) ∧ w.safe = true ∧ d'.fr = d.fr ∧ d'.tk = d.tk := by
 unfold aqq at h
 split at h
 · rename_i z hz
   split at h
   · rename_i vs hvs
     simp only [Option.some.injEq, Prod.mk.injEq] at h
     obtain ⟨rfl, rfl⟩ := h
     refine ⟨?_, rfl, rfl, rfl⟩
     simp only [gU, hz, V.c, D.newRow_H, DRow.o, nA hvs]; rfl
   · cases h
 · cases h
def dBox (d : D) (e : TypeId) (v : V) : Option (V × D) :=
 match v.cells with
 | some vs => some (.ptr d.n 0, d.newRow ⟨vs, e, false⟩)
 | none => none
theorem dBox_ok {d d' : D} {e : TypeId} {v w : V} (h : dBox d e v = some (w, d')) : aq6 d.H e (some v.c) = some (.val w.c d'.H) ∧ v.plain = true ∧ w.safe = true ∧ d'.fr = d.fr ∧ d'.tk = d.tk := by
 unfold dBox at h
 split at h
 · rename_i vs hvs
   simp only [Option.some.injEq, Prod.mk.injEq] at h
   obtain ⟨rfl, rfl⟩ := h
   obtain ⟨k1, _, k3⟩ := V.cells_c hvs
   refine ⟨?_, k3, rfl, rfl, rfl⟩
   simp only [aq6, k1, V.c, D.newRow_H, DRow.o]; rfl
 · cases h
def aqn (P : Program) (ty : TypeId) (ps : List (Nat × V)) : Option V :=
 match jF P ty with
 | some z => match aj2 z with
   | some zs => match P.underlying ty with
     | some (.struct fs) => match u3 (wG P fs) zs ps with
       | some cs => bif mQ P fs then some (.agg cs) else none
       | none => none
     | some (.array _ e) => match aK P e with
       | some sz => match u3 (fun i => some (i * sz, sz)) zs ps with
         | some cs => some (.agg cs)
         | none => none
       | none => none
     | _ => none
   | none => none
 | none => none
theorem aqm {P : Program} {h0 : H} {ty : TypeId} {ps : List (Nat × V)} {w : V} (h : aqn P ty ps = some w) :
  fZ P h0 ty (some (ps.map fun p => (p.1, p.2.c))) = some (.val w.c h0) ∧ w.safe = true := by
 unfold aqn at h
 split at h
 · rename_i z hz
   split at h
   · rename_i zs hzs
     split at h
     · rename_i fs hu
       split at h
       · rename_i cs hcs
         obtain ⟨h1, h2⟩ := aA h
         simp only [Option.some.injEq] at h2; subst h2
         have := rA hcs
         rw [nA hzs] at this
         refine ⟨?_, rfl⟩
         simp only [fZ, hz, hu, i7, this, h1, if_true, V.c]
       · cases h
     · rename_i e hu
       split at h
       · rename_i sz hs
         split at h
         · rename_i cs hcs
           simp only [Option.some.injEq] at h; subst h
           have := rA hcs
           rw [nA hzs] at this
           refine ⟨?_, rfl⟩
           simp only [fZ, hz, hu, i8, hs, this, V.c]
         · cases h
       · cases h
     · cases h
   · cases h
 · cases h
def zZ (z : List V) : Nat → List V
 | 0 => []
 | n + 1 => z ++ zZ z n
theorem zY (z : List V) : ∀ n, V.cs (zZ z n) = rY (V.cs z) n
 | 0 => by rw [zZ, V.cs]; rfl
 | n + 1 => by rw [zZ, V.cs_append, zY z n, rY]
def D.z0 (d : D) : EVal := bif Nat.ble 1048576 d.m then .zslt (d.m % 1048576 - 1) else .zsl
def jB (P : Program) (d : D) (ty : TypeId) (len : Nat) (ps : List (Nat × V)) : Option (V × D) :=
 match P.underlying ty with
 | some (.slice e) => match aK P e with
   | some sz => match jF P e with
     | some z => match aj2 z with
       | some zs => bif Nat.ble (len * sz) 1000 && Nat.beq zs.length sz then
         match u3 (fun i => some (i * sz, sz)) (zZ zs len) ps with
         | some cs => match Nat.ble 128 (d.m % 1024) with
           | false => some (.sl d.n 0 len (.exact len), d.newRow ⟨cs, e, false⟩)
           | true => bif Nat.beq len 0 then some (.raw d.z0, d) else match lV cs with
             | some cs' => bif Nat.beq cs'.length (len * sz) then some (.el (eH sz len cs'), d) else none
             | none => none
         | none => none
         else none
       | none => none
     | none => none
   | none => none
 | _ => none
theorem D.fz {d : D} : d.H.fz = decide (128 ≤ d.m % 1024) := rfl
theorem D.z0_c {d : D} : (V.raw d.z0).c = d.H.z0 ∧ (V.raw d.z0).safe = true := by
 unfold D.z0 H.z0
 show _ ∧ _
 have e : d.H.m = d.m := rfl
 rw [e]
 cases hb : Nat.ble 1048576 d.m with
 | true => rw [Nat.ble_eq] at hb; rw [if_pos hb]; exact ⟨by simp only [cond_true, V.c], rfl⟩
 | false =>
   have hn : ¬ 1048576 ≤ d.m := fun h => by rw [← Nat.ble_eq] at h; rw [h] at hb; cases hb
   rw [if_neg hn]; exact ⟨by simp only [cond_false, V.c], rfl⟩
theorem oZ {P : Program} {d d' : D} {ty : TypeId} {len : Nat} {ps : List (Nat × V)} {w : V} (h : jB P d ty len ps = some (w, d')) :
  aN P d.H ty len (some (ps.map fun p => (p.1, p.2.c))) = some (.val w.c d'.H) ∧ w.safe = true ∧ d'.fr = d.fr ∧ d'.tk = d.tk := by
 unfold jB at h
 split at h
 · rename_i e hu
   split at h
   · rename_i sz hs
     split at h
     · rename_i z hz
       split at h
       · rename_i zs hzs
         obtain ⟨h1, h⟩ := aA h
         simp only [Bool.and_eq_true, Nat.beq_eq, Nat.ble_eq] at h1
         have hzl := uM hzs
         split at h
         · rename_i cs hcs
           have hf := rA hcs
           rw [zY, nA hzs] at hf
           simp only [aN, hu, hs, hz, aR]
           rw [if_pos ⟨h1.1, by omega⟩]
           simp only [hf, D.fz]
           split at h
           · rename_i hm
             have : decide (128 ≤ d.m % 1024) = false := by
              simp only [decide_eq_false_iff_not]
              intro hc
              rw [← Nat.ble_eq] at hc
              rw [hc] at hm; cases hm
             simp only [Option.some.injEq, Prod.mk.injEq] at h
             obtain ⟨rfl, rfl⟩ := h
             refine ⟨?_, rfl, rfl, rfl⟩
             simp only [this, V.c, D.newRow_H, DRow.o]; rfl
           · rename_i hm
             rw [Nat.ble_eq] at hm
             cases h0 : Nat.beq len 0 with
             | true =>
               rw [h0] at h
               simp only [cond_true, Option.some.injEq, Prod.mk.injEq] at h
               obtain ⟨rfl, rfl⟩ := h
               refine ⟨?_, D.z0_c.2, rfl, rfl⟩
               simp only [decide_eq_true hm, D.z0_c.1]
               rw [if_pos (Nat.eq_of_beq_eq_true h0)]
             | false =>
             rw [h0, cond_false] at h
             have h0' : ¬ len = 0 := fun e => by rw [e] at h0; cases h0
             split at h
             · rename_i cs' hk
               obtain ⟨h3, h⟩ := aA h
               simp only [Option.some.injEq, Prod.mk.injEq] at h
               obtain ⟨rfl, rfl⟩ := h
               simp only [Nat.beq_eq] at h3
               refine ⟨?_, rfl, rfl, rfl⟩
               have e1 := (hX hk).1
               simp only [decide_eq_true hm, e1]
               rw [if_neg h0', if_pos (by rw [V.cs_length]; exact h3)]
               simp only [V.c, j7]
             · cases h
         · cases h
       · cases h
     · cases h
   · cases h
 · cases h
def dUn (op : UnOp) (x : V) : Option V :=
 match op, x with
 | .neg, .int k n => some (.int k (k.wrap (0 - n)))
 | .not, .bool b => some (.bool !b)
 | _, _ => none
theorem dUn_ok {op : UnOp} {x w : V} (h : dUn op x = some w) : eUn op x.c = some w.c ∧ x.plain = true ∧ w.safe = true := by
 unfold dUn at h
 split at h <;> first | (cases h; done) | (simp only [Option.some.injEq] at h; subst h; exact ⟨by simp only [V.c, eUn], rfl, rfl⟩)
def dConv (P : Program) (s t : TypeId) (x : V) : Option V :=
 match P.underlying s with
 | some (.unsafePointer) => none
 | some (.pointer _) => none
 | some _ => match P.underlying t with
   | some (.int k) => match x with
     | .int _ n => some (.int k (k.wrap n))
     | _ => none
   | some .string => match x with
     | .int _ n => some (.str (runeE n))
     | .str l => some (.str l)
     | _ => none
   | _ => none
 | none => none
theorem ajt {P : Program} {h0 : H} {s t : TypeId} {x w : V} (h : dConv P s t x = some w) : dN P h0 s t x.c = some w.c ∧ x.plain = true ∧ w.safe = true := by
 unfold dConv at h
 split at h
 · cases h
 · cases h
 · rename_i hs
   split at h
   · rename_i k ht
     split at h
     · simp only [Option.some.injEq] at h; subst h; exact ⟨by simp only [V.c, dN, hs, ht], rfl, rfl⟩
     · cases h
   · rename_i ht
     split at h
     · simp only [Option.some.injEq] at h; subst h; exact ⟨by simp only [V.c, dN, hs, ht], rfl, rfl⟩
     · simp only [Option.some.injEq] at h; subst h; exact ⟨by simp only [V.c, dN, hs, ht], rfl, rfl⟩
     · cases h
   · cases h
 · cases h
def rJ (i : Nat) (x : V) : Option V :=
 match x with
 | .tup l => match l[i]? with
   | some w => bif w.safe then some w else none
   | none => none
 | _ => none
theorem vH {h0 : H} {i : Nat} {x w : V} (h : rJ i x = some w) : dM h0 i (some x.c) = some (.val w.c h0) ∧ x.plain = true ∧ w.safe = true := by
 unfold rJ at h
 split at h
 · split at h
   · rename_i w' hw
     obtain ⟨h1, h2⟩ := aA h
     simp only [Option.some.injEq] at h2; subst h2
     exact ⟨by simp only [V.c, dM, V.cs_get, hw, Option.map_some, mk], rfl, h1⟩
   · cases h
 · cases h
def ax9 (x : Option V) (dflt top : Nat) : Option Nat :=
 match x with
 | none => some dflt
 | some (.int _ i) => bif decide (0 ≤ i) && decide (i ≤ (top : Int)) then some i.toNat else none
 | _ => none
theorem k0 {x : Option V} {dflt top n : Nat} (h : ax9 x dflt top = some n) : bound (x.map V.c) dflt top = some n ∧ ∀ v, x = some v → v.plain = true := by
 unfold ax9 at h
 split at h
 · exact ⟨h, by simp⟩
 · rename_i k i
   cases hc : (decide (0 ≤ i) && decide (i ≤ (top : Int))) with
   | false => rw [hc] at h; cases h
   | true =>
     rw [hc] at h
     simp only [Bool.and_eq_true, decide_eq_true_eq] at hc
     simp only [cond_true] at h
     refine ⟨?_, fun v hv => by cases hv; rfl⟩
     simp only [Option.map_some, V.c, bound]
     rw [if_pos hc]; exact h
 · cases h
def vD (P : Program) (t : TypeId) (x : V) (lo hi : Option V) : Option V :=
 match P.underlying t with
 | some (.array n e) => match ax9 hi n n with
   | some b => match aK P e with
     | some sz => match ax9 lo 0 b with
       | some a => match x with
         | .ptr id off => some (.sl id (bif Nat.beq n a then off else off + a * sz) (b - a) (.exact (n - a)))
         | .lptr cells off => bif Nat.blt a n && Nat.ble (off + a * sz + (b - a) * sz) cells.length then some (.el (eH sz (b - a) ((cells.drop (off + a * sz)).take ((b - a) * sz)))) else none
         | _ => none
       | none => none
     | none => none
   | none => none
 | some (.slice e) => match x with
   | .sl id off len (.exact c) => match ax9 hi len c with
     | some b => match aK P e with
       | some sz => match ax9 lo 0 b with
         | some a => some (.sl id (bif Nat.beq c a then off else off + a * sz) (b - a) (.exact (c - a)))
         | none => none
       | none => none
     | none => none
   | .el els => match ax9 hi els.length els.length with
     | some b => match aK P e with
       | some sz => match ax9 lo 0 b with
         | some a => bif els.all fun c => Nat.beq c.length sz then some (.el ((els.take b).drop a)) else none
         | none => none
       | none => none
     | none => none
   | _ => none
 | _ => none
theorem axa {α : Type} {n a : Nat} {x y : α} : (if n = a then x else y) = bif Nat.beq n a then x else y := by
 by_cases h : n = a
 · subst h; simp [Nat.beq_refl]
 · have hb : Nat.beq n a = false := by
    cases hq : Nat.beq n a
    · rfl
    · exact absurd (Nat.eq_of_beq_eq_true hq) h
   simp [h, hb]
theorem yK {P : Program} {t : TypeId} {x : V} {lo hi : Option V} {w : V} (h : vD P t x lo hi = some w) :
  e7 P t x.c (lo.map V.c) (hi.map V.c) = some w.c ∧ x.plain = true ∧ (∀ v, lo = some v → v.plain = true) ∧ (∀ v, hi = some v → v.plain = true) ∧ w.safe = true := by
 unfold vD at h
 split at h
 · rename_i n e hu
   split at h
   rotate_left
   · cases h
   rename_i b hb
   split at h
   rotate_left
   · cases h
   rename_i sz hs
   split at h
   rotate_left
   · cases h
   rename_i a ha
   obtain ⟨b1, b2⟩ := k0 hb
   obtain ⟨a1, a2⟩ := k0 ha
   split at h
   · simp only [Option.some.injEq] at h; subst h
     refine ⟨?_, rfl, a2, b2, rfl⟩
     simp only [V.c, e7, hu, b1, hs, a1, axa]
   · rename_i cells off
     cases hc : (Nat.blt a n && Nat.ble (off + a * sz + (b - a) * sz) cells.length) with
     | false => rw [hc] at h; cases h
     | true =>
       rw [hc] at h
       simp only [cond_true, Option.some.injEq] at h; subst h
       refine ⟨?_, rfl, a2, b2, rfl⟩
       simp only [V.c, e7, hu, b1, hs, a1, V.cs_length, hc, cond_true]
       simp only [j7, V.cs_map, List.map_take, List.map_drop]
   · cases h
 · rename_i e hu
   split at h
   · rename_i id off len c
     split at h
     rotate_left
     · cases h
     rename_i b hb
     split at h
     rotate_left
     · cases h
     rename_i sz hs
     split at h
     rotate_left
     · cases h
     rename_i a ha
     obtain ⟨b1, b2⟩ := k0 hb
     obtain ⟨a1, a2⟩ := k0 ha
     simp only [Option.some.injEq] at h; subst h
     refine ⟨?_, rfl, a2, b2, rfl⟩
     simp only [V.c, e7, hu, b1, hs, a1, axa]
   · rename_i els
     split at h
     rotate_left
     · cases h
     rename_i b hb
     split at h
     rotate_left
     · cases h
     rename_i sz hs
     split at h
     rotate_left
     · cases h
     rename_i a ha
     obtain ⟨b1, b2⟩ := k0 hb
     obtain ⟨a1, a2⟩ := k0 ha
     cases hc : (els.all fun c => Nat.beq c.length sz) with
     | false => rw [hc] at h; cases h
     | true =>
       rw [hc] at h
       simp only [cond_true, Option.some.injEq] at h; subst h
       refine ⟨?_, rfl, a2, b2, rfl⟩
       have hl : aW sz (V.css els) = true := by
        unfold aW
        rw [V.css_map, List.all_map]
        rw [← hc]
        congr 1
        funext c
        simp only [Function.comp_def, V.cs_length]
        rw [Bool.eq_iff_iff]; simp
       simp only [V.c, e7, hu, kR, V.css_length, b1, hs, a1, hl, if_true]
       simp only [V.css_map, List.map_take, List.map_drop]
   · cases h
 · cases h
def vE (P : Program) (t : TypeId) (x : V) (lo hi : Option V) (kk : V → Option R) : Option R :=
 match P.underlying t with
 | some .string => match x with
   | .str s =>
     let go (b : Nat) : Option R := match lo with
      | none => kk (.str ((s.take b).drop 0))
      | some (.int _ i) => cond (decide (0 ≤ i) && decide (i ≤ (b : Int))) (kk (.str ((s.take b).drop i.toNat))) none
      | some _ => none
     match hi with
     | none => go s.length
     | some (.int _ j) => cond (decide (0 ≤ j) && decide (j ≤ (s.length : Int))) (go j.toNat) none
     | some _ => none
   | _ => none
 | _ => match vD P t x lo hi with
   | some w => kk w
   | none => none
theorem yL {P : Program} {t : TypeId} {x : V} {lo hi : Option V} {kk : V → Option R} (h : vE P t x lo hi kk = some r) :
  ∃ w : V, e7 P t x.c (lo.map V.c) (hi.map V.c) = some w.c ∧ x.plain = true ∧ (∀ v, lo = some v → v.plain = true) ∧ (∀ v, hi = some v → v.plain = true) ∧ w.safe = true ∧ kk w = some r := by
 unfold vE at h
 split at h
 · rename_i hu
   cases x with
   | str s =>
     simp only at h
     have go : ∀ b, (match lo with
       | none => kk (.str ((s.take b).drop 0))
       | some (.int _ i) => cond (decide (0 ≤ i) && decide (i ≤ (b : Int))) (kk (.str ((s.take b).drop i.toNat))) none
       | some _ => none) = some r → ∃ a, bound (lo.map V.c) 0 b = some a ∧ (∀ v, lo = some v → v.plain = true) ∧ kk (.str ((s.take b).drop a)) = some r := by
      intro b hb
      split at hb
      · exact ⟨0, rfl, by simp, hb⟩
      · rename_i k i
        obtain ⟨h1, h2⟩ := aA hb
        simp only [Bool.and_eq_true, decide_eq_true_eq] at h1
        exact ⟨i.toNat, by simp only [Option.map_some, V.c, bound]; rw [if_pos h1], fun v hv => (by cases hv; rfl), h2⟩
      · cases hb
     split at h
     · obtain ⟨a, h1, h2, h3⟩ := go _ h
       exact ⟨.str ((s.take s.length).drop a), by simp only [V.c, e7, hu, Option.map_none]; rw [show bound none s.length s.length = some s.length from rfl]; simp only [h1], rfl, h2, by simp, rfl, h3⟩
     · rename_i k j
       obtain ⟨h0, h⟩ := aA h
       simp only [Bool.and_eq_true, decide_eq_true_eq] at h0
       obtain ⟨a, h1, h2, h3⟩ := go _ h
       refine ⟨.str ((s.take j.toNat).drop a), ?_, rfl, h2, fun v hv => (by cases hv; rfl), rfl, h3⟩
       have hb : bound (some (V.int k j).c) s.length s.length = some j.toNat := by simp only [V.c, bound]; rw [if_pos h0]
       simp only [V.c] at hb
       simp only [V.c, e7, hu, Option.map_some, hb, h1]
     · cases h
   | _ => simp at h
 · split at h
   · rename_i w hw
     obtain ⟨h1, h2, h3, h4, h5⟩ := yK hw
     exact ⟨w, h1, h2, h3, h4, h5, h⟩
   · cases h
def flOf (P : Program) (t : TypeId) (x : V) : Option (Nat × Nat × (Nat → List V)) := match x with
 | .fl w n f => match P.underlying t with
   | some (.slice e) => match aK P e with
     | some sz => bif Nat.beq w sz then some (w, n, f) else none
     | none => none
   | _ => none
 | _ => none
def aju (x : Option V) (dflt top : Nat) (kk : Nat → Option R) : Option R := match x with
 | none => kk dflt
 | some (.int _ i) => cond (decide (0 ≤ i) && decide (i ≤ (top : Int))) (kk i.toNat) none
 | some _ => none
theorem xC {x : Option V} {dflt top : Nat} {kk : Nat → Option R} (hd : dflt ≤ top) (h : aju x dflt top kk = some r) : ∃ b, bound (x.map V.c) dflt top = some b ∧ (∀ v, x = some v → v.plain = true) ∧ b ≤ top ∧ kk b = some r := by
 unfold aju at h
 split at h
 · exact ⟨dflt, rfl, by simp, hd, h⟩
 · rename_i k i
   obtain ⟨h1, h2⟩ := aA h
   simp only [Bool.and_eq_true, decide_eq_true_eq] at h1
   exact ⟨i.toNat, by simp only [Option.map_some, V.c, bound]; rw [if_pos h1], fun v hv => (by cases hv; rfl), by omega, h2⟩
 · cases h
def i9 (P : Program) (t : TypeId) (x : V) (lo hi : Option V) (kk : V → Option R) : Option R :=
 match flOf P t x with
 | some (w, n, f) => aju hi n n fun b => aju lo 0 b fun a => kk (.fl w (b - a) fun i => f (a + i))
 | none => vE P t x lo hi kk
theorem xS {α : Type} (g : Nat → α) {n a b : Nat} (h : b ≤ n) : (((List.range n).map g).take b).drop a = (List.range (b - a)).map fun i => g (a + i) := by
 apply List.ext_getElem
 · simp only [List.length_drop, List.length_take, List.length_map, List.length_range]; omega
 · intro i h1 h2
   simp only [List.getElem_drop, List.getElem_take, List.getElem_map, List.getElem_range]
theorem yJ {P : Program} {t : TypeId} {x : V} {lo hi : Option V} {kk : V → Option R} (h : i9 P t x lo hi kk = some r) :
  ∃ w : V, e7 P t x.c (lo.map V.c) (hi.map V.c) = some w.c ∧ x.plain = true ∧ (∀ v, lo = some v → v.plain = true) ∧ (∀ v, hi = some v → v.plain = true) ∧ w.safe = true ∧ kk w = some r := by
 unfold i9 at h
 split at h
 · rename_i w n f hf
   unfold flOf at hf
   split at hf
   rotate_left
   · cases hf
   rename_i w' n' f'
   split at hf
   rotate_left
   · cases hf
   rename_i e hu
   split at hf
   rotate_left
   · cases hf
   rename_i sz hs
   obtain ⟨hw, hf⟩ := aA hf
   simp only [Option.some.injEq, Prod.mk.injEq] at hf
   obtain ⟨e1, e2, e3⟩ := hf
   subst e1; subst e2; subst e3
   have e4 := Nat.eq_of_beq_eq_true hw
   subst e4
   obtain ⟨b, b1, b2, b3, h⟩ := xC (Nat.le_refl _) h
   obtain ⟨a, a1, a2, a3, h⟩ := xC (Nat.zero_le _) h
   refine ⟨_, ?_, rfl, a2, b2, rfl, h⟩
   have hl : aW w' ((List.range n').map fun i => bif okW w' (f' i) then V.cs (f' i) else List.replicate w' (.bool false)) = true := by
    unfold aW
    rw [List.all_eq_true]
    intro q hq
    simp only [List.mem_map, List.mem_range] at hq
    obtain ⟨i, _, rfl⟩ := hq
    cases hok : okW w' (f' i) with
    | true =>
      unfold okW at hok
      rw [Bool.and_eq_true, Nat.beq_eq] at hok
      simp only [cond_true, V.cs_length, hok.1, beq_self_eq_true]
    | false => simp
   simp only [V.c, e7, hu, kR, List.length_map, List.length_range, b1, hs, a1, hl, if_true]
   rw [xS _ b3]
 · exact yL h
def dLen (P : Program) (d : D) (t : TypeId) (x : V) : Option V :=
 match P.underlying t with
 | some .string => match x with
   | .str l => some (.int .i64 (l.length : Nat))
   | _ => none
 | some (.array n _) => some (.int .i64 (n : Nat))
 | some (.slice _) => match x with
   | .sl _ _ n _ => some (.int .i64 (n : Nat))
   | .nils => some (.int .i64 0)
   | .fl _ n _ => some (.int .i64 (n : Nat))
   | .el els => some (.int .i64 (els.length : Nat))
   | .gl id => match lookA d.tk id with
     | some x => some (.int .i64 (x.1.length : Nat))
     | none => none
   | _ => none
 | _ => none
theorem dLen_ok {P : Program} {d : D} {h0 : H} {t : TypeId} {x w : V} (h : dLen P d t x = some w) : vA P h0 t (x.ct d.tk) = some w.c ∧ w.safe = true := by
 unfold dLen at h
 split at h
 · rename_i hu
   split at h
   · simp only [Option.some.injEq] at h; subst h; exact ⟨by simp only [V.ct, V.c, vA, hu], rfl⟩
   · cases h
 · rename_i n e hu
   simp only [Option.some.injEq] at h; subst h; exact ⟨by simp only [vA, hu, V.c], rfl⟩
 · rename_i e hu
   split at h
   · simp only [Option.some.injEq] at h; subst h; exact ⟨by simp only [V.ct, V.c, vA, hu], rfl⟩
   · simp only [Option.some.injEq] at h; subst h; exact ⟨by simp only [V.ct, V.c, vA, hu], rfl⟩
   · simp only [Option.some.injEq] at h; subst h; exact ⟨by simp only [V.ct, V.c, vA, hu, List.length_map, List.length_range], rfl⟩
   · simp only [Option.some.injEq] at h; subst h; exact ⟨by simp only [V.ct, V.c, vA, hu, V.css_length], rfl⟩
   · split at h
     · rename_i id y hy
       simp only [Option.some.injEq] at h; subst h; exact ⟨by simp only [V.ct, hy, V.c, vA, hu, V.css_length], rfl⟩
     · cases h
   · cases h
 · cases h
def uR (sz : Nat) (els : List (List V)) : Bool := els.all fun c => Nat.beq c.length sz
theorem aqE {sz : Nat} {els : List (List V)} : aW sz (V.css els) = uR sz els := by
 unfold aW uR
 rw [V.css_map, List.all_map]
 congr 1
 funext c
 simp only [Function.comp_def, V.cs_length]
 rw [Bool.eq_iff_iff]; simp
def dSrc (d : D) (sz : Nat) (x : V) (kk : List V → Nat → Option R) : Option R :=
 match x with
 | .nils => kk [] 0
 | .sl id off len _ => match d.row id with
   | some r => match sE r.cells off (len * sz) with
     | some c => kk c len
     | none => none
   | none => none
 | .el els => cond (uR sz els) (kk els.flatten els.length) none
 | _ => none
theorem vJ (els : List (List V)) : V.cs els.flatten = (V.css els).flatten := by
 rw [V.cs_map, V.css_map, List.map_flatten]
 congr 1
 apply List.map_congr_left
 intro a _; rw [V.cs_map]
theorem aqb {d : D} {sz : Nat} {x : V} {kk : List V → Nat → Option R} (h : dSrc d sz x kk = some r) : ∃ c n, aM d.H sz x.c = some (V.cs c, n) ∧ x.plain = true ∧ kk c n = some r := by
 unfold dSrc at h
 split at h
 · exact ⟨_, _, by simp only [V.c, aM, V.cs], rfl, h⟩
 · split at h
   · rename_i id off len cap _ r' hr
     split at h
     · rename_i c hc
       refine ⟨_, _, ?_, rfl, h⟩
       simp only [V.c, aM, D.row_get hr, DRow.o, kH hc]
     · cases h
   · cases h
 · rename_i els
   obtain ⟨h1, h2⟩ := aA h
   refine ⟨_, _, ?_, rfl, h2⟩
   simp only [V.c, aM]
   rw [if_pos (by rw [aqE]; exact h1), V.css_length, vJ]
 · cases h
def z8 (id : Nat) : List (Nat × Option V) → List (Nat × Option V)
 | [] => []
 | (i, v) :: l => match v with
   | some (.gl j) => bif Nat.beq j id then (i, none) :: z8 id l else (i, v) :: z8 id l
   | _ => (i, v) :: z8 id l
def jV (l : List Nat) (pos : Nat) : Nat × Nat := (dB l pos).getD (0, 1)
def D.setIter (d : D) (id : Nat) (s : List Nat) (pos : Nat) : D := { d with hp := (id, some (.iter s pos)) :: d.hp }
def D.newIter (d : D) (s : List Nat) : D := { d with n := d.n + 1, hp := (d.n, some (.iter s 0)) :: d.hp }
theorem D.setIter_H {d : D} {id : Nat} {s : List Nat} {pos : Nat} : (d.setIter id s pos).H = d.H.put id (.iter s pos) := by
 unfold D.H D.setIter; rw [qV]; rfl
theorem D.newIter_H {d : D} {s : List Nat} : (d.newIter s).H = d.H.new (.iter s 0) := by
 unfold D.H D.newIter; rw [nC]; rfl
def aqe (P : Program) (d : D) (ty : TypeId) (x : V) : Option (V × D) :=
 match P.underlying ty with
 | some .string => match x with
   | .str l => some (.ptr d.n 0, d.newIter l)
   | _ => none
 | _ => none
theorem aqd {P : Program} {d d' : D} {ty : TypeId} {x w : V} (h : aqe P d ty x = some (w, d')) : gP P d.H ty (some x.c) = some (.val w.c d'.H) ∧ x.plain = true ∧ w.safe = true ∧ d'.fr = d.fr ∧ d'.tk = d.tk := by
 unfold aqe at h
 split at h
 · rename_i hu
   split at h
   · simp only [Option.some.injEq, Prod.mk.injEq] at h
     obtain ⟨rfl, rfl⟩ := h
     refine ⟨?_, rfl, rfl, rfl, rfl⟩
     simp only [V.c, gP, hu, D.newIter_H]; rfl
   · cases h
 · cases h
def dNext (d : D) (x : V) (kk : V → D → Option R) : Option R :=
 match x with
 | .ptr id 0 => match d.itr id with
   | some y => cond (Nat.blt y.2 y.1.length) (kk (.tup [.bool true, .int .i64 (y.2 : Nat), .int .i32 ((jV y.1 y.2).1 : Nat)]) (d.setIter id y.1 (y.2 + (jV y.1 y.2).2))) (kk (.tup [.bool false]) d)
   | none => none
 | _ => none
theorem o3 {l : List Nat} {pos : Nat} (h : pos < l.length) : dB l pos = some (jV l pos) := by
 unfold jV dB
 rw [List.getElem?_eq_getElem h]
 simp only
 split <;> rfl
theorem ajo {d : D} {x : V} {kk : V → D → Option R} (h : dNext d x kk = some r) :
  ∃ w d', gR d.H (some x.c) = some (.val w.c d'.H) ∧ x.plain = true ∧ w.safe = true ∧ d'.fr = d.fr ∧ d'.tk = d.tk ∧ kk w d' = some r := by
 unfold dNext at h
 split at h
 · split at h
   · rename_i id _ y hy
     have hg := D.obj_get (D.itr_obj hy)
     simp only [DObj.o] at hg
     cases hb : Nat.blt y.2 y.1.length with
     | true =>
       rw [hb] at h
       rw [Nat.blt_eq] at hb
       refine ⟨_, _, ?_, rfl, rfl, ?_, ?_, h⟩
       · simp only [V.c, V.cs, gR, hg, gQ, if_pos hb, o3 hb, D.setIter_H]
       · rfl
       · rfl
     | false =>
       rw [hb] at h
       have hb2 : ¬ y.2 < y.1.length := fun hc => by rw [← Nat.blt_eq, hb] at hc; cases hc
       refine ⟨_, d, ?_, rfl, rfl, rfl, rfl, h⟩
       simp only [V.c, V.cs, gR, hg, gQ, if_neg hb2]
   · cases h
 · cases h
end
end Go.Ev
namespace Go.Ev
open Go.RowKit
theorem lW : ∀ {a b a' b' : List EVal}, bP a = some a' → bP b = some b' → bP (a ++ b) = some (a' ++ b')
 | [], b, a', b', h1, h2 => by simp only [bP, Option.some.injEq] at h1; subst h1; exact h2
 | v :: a, b, a', b', h1, h2 => by
   simp only [bP] at h1
   split at h1
   · rename_i x y hx hy
     simp only [Option.some.injEq] at h1; subst h1
     have := lW hy h2
     simp only [List.cons_append, bP, hx, this]
   · cases h1
theorem cW : ∀ {l : List (List EVal)}, (∀ r ∈ l, bP r = some r) → bP l.flatten = some l.flatten
 | [], _ => rfl
 | a :: l, h => by rw [List.flatten_cons]; exact lW (h a List.mem_cons_self) (cW fun r hr => h r (List.mem_cons_of_mem _ hr))
theorem kept_c {v : V} (h : v.kept = true) : Go.Ev.keep1 v.c = some v.c := by
 unfold V.kept at h
 split at h <;> first | (cases h; done) | (simp only [V.c]; rfl)
theorem keptB_c : ∀ {l : List V}, keptB l = true → bP (V.cs l) = some (V.cs l)
 | [], _ => by rw [V.cs]; rfl
 | v :: l, h => by
   simp only [keptB] at h
   obtain ⟨h1, h2⟩ : v.kept = true ∧ keptB l = true := by cases hv : v.kept <;> rw [hv] at h <;> first | cases h | exact ⟨rfl, h⟩
   simp only [V.cs, bP, kept_c h1, keptB_c h2]
theorem nJ : ∀ w, bP (List.replicate w (.bool false)) = some (List.replicate w (.bool false))
 | 0 => rfl
 | w + 1 => by simp only [List.replicate_succ, bP, nJ w]; rfl
theorem dA {sz : Nat} : ∀ {l : List (List EVal)}, (∀ r ∈ l, r.length = sz) → aV sz l.length l.flatten = l
 | [], _ => rfl
 | a :: l, h => by
   have h1 := h a List.mem_cons_self
   simp only [List.length_cons, List.flatten_cons, aV]
   rw [List.take_append_of_le_length (by omega), List.take_of_length_le (by omega), List.drop_append_of_le_length (by omega), List.drop_of_length_le (by omega), List.nil_append, dA fun r hr => h r (List.mem_cons_of_mem _ hr)]
noncomputable section
def dL (sz : Nat) : V → Option Nat
 | .fl w n _ => bif Nat.beq w sz then some n else none
 | _ => none
theorem hU {sz n : Nat} {x : V} (h : dL sz x = some n) : ∃ rows, x.c = .lsl rows ∧ rows.length = n ∧ (∀ r ∈ rows, r.length = sz ∧ bP r = some r) ∧ x.plain = true ∧ x.inr := by
 unfold dL at h
 split at h
 · rename_i w n f
   obtain ⟨h1, h2⟩ := aA h
   simp only [Option.some.injEq] at h2; subst h2
   obtain rfl := Nat.eq_of_beq_eq_true h1
   refine ⟨_, by rw [V.c], by simp, fun r hr => ?_, rfl, trivial⟩
   simp only [List.mem_map, List.mem_range] at hr
   obtain ⟨i, _, rfl⟩ := hr
   cases hq : okW w (f i) with
   | true =>
     have hq' := hq
     unfold okW at hq'
     rw [Bool.and_eq_true, Nat.beq_eq] at hq'
     exact ⟨by rw [cond_true, V.cs_length]; exact hq'.1, by rw [cond_true]; exact keptB_c hq'.2⟩
   | false => exact ⟨by simp, by rw [cond_false]; exact nJ w⟩
 · cases h
def eP : V → List (List V)
 | .fl w n f => (List.range n).map fun i => bif okW w (f i) then f i else List.replicate w (.bool false)
 | _ => []
theorem aqJ {sz n : Nat} {x : V} (h : dL sz x = some n) : x.c = .lsl (V.css (eP x)) ∧ (eP x).length = n := by
 unfold dL at h
 split at h
 · rename_i w n f
   obtain ⟨h1, h2⟩ := aA h
   simp only [Option.some.injEq] at h2; subst h2
   refine ⟨?_, by simp [eP]⟩
   rw [V.c, eP, V.css_map, List.map_map]
   congr 1
   apply List.map_congr_left
   intro i _
   show _ = V.cs (bif okW w (f i) then f i else List.replicate w (.bool false))
   cases okW w (f i) with
   | true => rfl
   | false => simp only [cond_false, V.cs_map, List.map_replicate, V.c]
 · cases h
theorem q8 {sz : Nat} : ∀ {l : List (List EVal)}, (∀ r ∈ l, r.length = sz) → l.flatten.length = l.length * sz
 | [], _ => by simp
 | a :: l, h => by
   rw [List.flatten_cons, List.length_append, h a List.mem_cons_self, q8 fun r hr => h r (List.mem_cons_of_mem _ hr), List.length_cons, Nat.succ_mul]; omega
end
end Go.Ev
namespace Go.Ev
open Go.RowKit
noncomputable section
variable {R : Type} {r : R}
def D.killRow (d : D) (id : Nat) : D := { d with hp := (id, none) :: d.hp }
theorem D.killRow_H {d : D} {id : Nat} : (d.killRow id).H = d.H.kill id := by
 unfold D.H D.killRow; rw [aj9]; rfl
def D.push (d : D) (id : Nat) (x : List (List V) × TypeId) : D := { d with fr := ⟨z8 id d.fr.l, d.fr.ds, d.fr.rd, d.fr.sh⟩, tk := (id, x) :: d.tk }
theorem D.push_H {d : D} {id : Nat} {x : List (List V) × TypeId} : (d.push id x).H = d.H.tok id x.1.length x.2 := by
 unfold D.H D.push; rw [mkH_tok]; rfl
def aqh (P : Program) (d : D) (e : TypeId) (sz bytes : Nat) (cells : List V) (need : Nat) (kk : V → D → Option R) : Option R :=
 bif bD P e sz bytes need then kk (.sl d.n 0 need (.slack 0)) (d.newRow ⟨cells, e, true⟩) else none
def ajx (P : Program) (d : D) (e : TypeId) (inf : TypeInfo) (s x : V) (kk : V → D → Option R) : Option R :=
 dSrc d inf.size x fun new n =>
   match s with
   | .gl id => match d.tok id with
     | some (els, e') => bif Nat.beq n 0 then kk (.gl id) d else
       match lV new with
       | some new' => bif decide (e' = e) && Nat.beq new'.length (n * inf.size) && Nat.blt 0 inf.size && bD P e inf.size inf.bytes 0 then
         cond (Nat.ble (inf.bytes * (els.length + n)) 1000000) (kk (.gl id) (d.push id (els ++ eH inf.size n new', e))) none
         else none
       | none => none
     | none => none
   | .nils => bif Nat.beq n 0 then kk .nils d else aqh P d e inf.size inf.bytes new n kk
   | .sl id off len (.exact c) => bif Nat.blt c (len + n) then
     match d.row id with
     | some rw => match sE rw.cells off (len * inf.size) with
       | some old => aqh P d e inf.size inf.bytes (old ++ new) (len + n) kk
       | none => none
     | none => none
     else none
   | .sl id 0 len (.slack 0) => match d.row id with
     | some rw => bif rw.sl && decide (rw.e = e) && Nat.blt 0 inf.size && Nat.ble (len * inf.size) rw.cells.length && Nat.blt 0 n && Nat.blt rw.cells.length ((len + n) * inf.size) && ones new then
       aqh P (d.killRow id) e inf.size inf.bytes (rw.cells.take (len * inf.size) ++ new) (len + n) kk
       else none
     | none => none
   | _ => none
def dAppK (P : Program) (d : D) (e : TypeId) (inf : TypeInfo) (id n : Nat) (x : V) (kk : V → D → Option R) : Option R :=
 match d.tok id with
 | some (els, e') => cond (Nat.beq n 0) (kk (.gl id) d) (bif decide (e' = e) && Nat.blt 0 inf.size && bD P e inf.size inf.bytes 0 then
   cond (Nat.ble (inf.bytes * (els.length + n)) 1000000) (kk (.gl id) (d.push id (els ++ eP x, e))) none else none)
 | none => none
def dAppT (P : Program) (d : D) (e : TypeId) (inf : TypeInfo) (id n : Nat) (x : V) (kk : V → D → Option R) : Option R :=
 match d.tok id with
 | some ([], e') => match P.info? e' with
   | some _ => none
   | none => bif Nat.blt 0 inf.size && bD P e inf.size inf.bytes 0 then cond (Nat.ble (inf.bytes * n) 1000000) (kk (.gl id) ((d.push id ([], e)).push id (eP x, e))) none else none
 | _ => none
def isZt : V → Option Nat
 | .raw (.zslt id) => some id
 | _ => none
def isGl : V → Option Nat
 | .gl id => some id
 | _ => none
def dAppS (P : Program) (d : D) (e : TypeId) (inf : TypeInfo) (s x : V) (kk : V → D → Option R) : Option R :=
 match isGl s with
 | some id => match dL inf.size x with
   | some n => dAppK P d e inf id n x kk
   | none => ajx P d e inf s x kk
 | none => match isZt s with
   | some id => match dL inf.size x with
     | some n => dAppT P d e inf id n x kk
     | none => none
   | none => ajx P d e inf s x kk
def oD (P : Program) (d : D) (t : TypeId) (s x : V) (kk : V → D → Option R) : Option R :=
 match P.underlying t with
 | some (.slice e) => match P.info? e with
   | some inf => dAppS P d e inf s x kk
   | none => none
 | _ => none
structure Kept (P : Program) (d d' : D) : Prop where
 fr : ∀ i v, lookA d'.fr.l i = some (some v) → ∃ v', lookA d.fr.l i = some (some v') ∧ v'.ct d.tk = v.ct d'.tk ∧ (v'.inr → v.inr)
 lens : (∀ id els e s, lookA d.tk id = some (els, e) → aK P e = some s → aW s (V.css els) = true) → ∀ id els e s, lookA d'.tk id = some (els, e) → aK P e = some s → aW s (V.css els) = true
 ds : d'.fr.ds = d.fr.ds
 rd : d'.fr.rd = d.fr.rd
 sh : d'.fr.sh = d.fr.sh
theorem Kept.of {P : Program} {d d' : D} (h1 : d'.fr = d.fr) (h2 : d'.tk = d.tk) : Kept P d d' :=
 ⟨fun i v h => ⟨v, by rw [← h1]; exact h, by rw [h2], fun h => h⟩, fun h => by rw [h2]; exact h, by rw [h1], by rw [h1], by rw [h1]⟩
theorem Kept.refl {P : Program} {d : D} : Kept P d d := Kept.of rfl rfl
theorem hO {id : Nat} : ∀ {l : List (Nat × Option V)} {i : Nat} {v : V}, lookA (z8 id l) i = some (some v) → lookA l i = some (some v) ∧ v ≠ .gl id := by
 intro l
 induction l with
 | nil => intro i v h; cases h
 | cons p l ih =>
   obtain ⟨j, u⟩ := p
   intro i v h
   have keep : u ≠ some (.gl id) → lookA ((j, u) :: z8 id l) i = some (some v) → lookA ((j, u) :: l) i = some (some v) ∧ v ≠ .gl id := by
    intro hu h
    simp only [lookA] at h ⊢
    cases hb : Nat.beq j i with
    | true =>
      rw [hb] at h
      simp only [cond_true, Option.some.injEq] at h ⊢
      subst h
      exact ⟨rfl, fun e => hu (by rw [e])⟩
    | false =>
      rw [hb] at h
      simp only [cond_false] at h ⊢
      exact ih h
   unfold z8 at h
   split at h
   · rename_i q
     cases hb : Nat.beq q id with
     | false =>
       rw [hb] at h
       exact keep (fun e => by cases e; rw [Nat.beq_refl] at hb; cases hb) h
     | true =>
       rw [hb] at h
       simp only [cond_true] at h
       have hq : q = id := Nat.eq_of_beq_eq_true hb
       subst hq
       simp only [lookA] at h ⊢
       cases hj : Nat.beq j i with
       | true => rw [hj] at h; cases h
       | false => rw [hj] at h; exact ih h
   · rename_i hn
     exact keep (fun e => absurd e (hn id)) h
end
end Go.Ev
namespace Go.Ev
open Go.RowKit
noncomputable section
variable {R : Type} {r : R}
theorem V.safe_ct {v : V} (h : v.safe = true) (tk) : v.ct tk = v.c := V.ct_plain (V.safe_ok h).1 tk
theorem rH {P : Program} {d : D} {e : TypeId} {sz bytes need : Nat} {cells : List V} {kk : V → D → Option R} (h : aqh P d e sz bytes cells need kk = some r) :
  bD P e sz bytes need = true ∧ (∀ old new : List EVal, old ++ new = V.cs cells → gA P d.H e sz bytes old new need = some ((V.sl d.n 0 need (.slack 0)).c, (d.newRow ⟨cells, e, true⟩).H)) ∧ kk (.sl d.n 0 need (.slack 0)) (d.newRow ⟨cells, e, true⟩) = some r := by
 unfold aqh at h
 obtain ⟨h1, h2⟩ := aA h
 refine ⟨h1, fun old new ho => ?_, h2⟩
 simp only [gA, h1, if_true, V.c, D.newRow_H, DRow.o, ho]; rfl
theorem oE {sz : Nat} : ∀ {n : Nat} {l : List V}, l.length = n * sz → uR sz (eH sz n l) = true
 | 0, l, _ => rfl
 | n + 1, l, h => by
   rw [Nat.succ_mul] at h
   rw [eH, uR, List.all_cons]
   have h1 := oE (sz := sz) (n := n) (l := l.drop sz) (by rw [List.length_drop]; omega)
   unfold uR at h1
   rw [h1, Bool.and_true, Nat.beq_eq, List.length_take]; omega
theorem gJ {P : Program} {e : TypeId} {inf : TypeInfo} (h : P.info? e = some inf) : aK P e = some inf.size := by
 unfold aK; rw [h]; rfl
theorem xD {sh : List (List (Nat × V))} {P : Program} {sz : Nat} {d : D} {f : EFr} {h0 : H} (F : Fits sh P sz d f h0) {t e : TypeId} {inf : TypeInfo} (hu : P.underlying t = some (.slice e)) (hinf : P.info? e = some inf) {s x : V} {kk : V → D → Option R} (h : ajx P d e inf s x kk = some r) :
  ∃ w d', aO P d.H t (s.ct d.tk) x.c = some (w.ct d'.tk, d'.H) ∧ x.plain = true ∧ w.inr ∧ Kept P d d' ∧ kk w d' = some r := by
 unfold ajx at h
 obtain ⟨new, n, hsrc, hxp, h2⟩ := aqb h
 clear h
 have h := h2
 clear h2
 have base : ∀ v : EVal, aO P d.H t v x.c = (match v with
    | .nilslice => if n = 0 then some (.nilslice, d.H) else gA P d.H e inf.size inf.bytes [] (V.cs new) n
    | .zsl => eM P d.H e inf.size inf.bytes (V.cs new) n
    | .zslt id => fQ P d.H e inf.size inf.bytes id (V.cs new) n
    | .slice id off len (.exact c) => d6 P d.H e inf.size inf.bytes id off len c (V.cs new) n
    | .slice id 0 len (.slack 0) => fR P d.H e inf.size inf.bytes id len (V.cs new) n
    | .gsl id els => bV P d.H e inf.size inf.bytes id els (V.cs new) n
    | _ => none) := by
  intro v
  simp only [aO, hu, hinf, hsrc]
  rfl
 split at h
 ·
   rename_i id
   split at h
   rotate_left
   · cases h
   rename_i els e' htk
   have hlk : lookA d.tk id = some (els, e') := by
    unfold D.tok at htk
    cases hb : Nat.blt id 250 with
    | false => rw [hb] at htk; cases htk
    | true => rw [hb] at htk; exact htk
   have hct : (V.gl id).ct d.tk = .gsl id (V.css els) := by simp only [V.ct, hlk]
   cases hn : Nat.beq n 0 with
   | true =>
     rw [hn] at h
     have hn0 : n = 0 := Nat.eq_of_beq_eq_true hn
     refine ⟨.gl id, d, ?_, hxp, trivial, Kept.refl, h⟩
     rw [base, hct]
     simp only [bV, hn0, if_true]
   | false =>
     rw [hn] at h
     have hn0 : n ≠ 0 := fun e0 => by rw [e0] at hn; cases hn
     simp only [cond_false] at h
     split at h
     rotate_left
     · cases h
     rename_i new' hk
     obtain ⟨hc, h⟩ := aA h
     obtain ⟨hd, h⟩ := aA h
     simp only [Bool.and_eq_true, decide_eq_true_eq, Nat.beq_eq, Nat.blt_eq] at hc
     obtain ⟨⟨⟨he, hl⟩, hs0⟩, hg⟩ := hc
     subst he
     rw [Nat.ble_eq] at hd
     have hlen : aW inf.size (V.css els) = true := F.lens _ _ _ _ hlk (gJ hinf)
     have hgr : bD P e' inf.size inf.bytes (els.length + n) = true := by
      unfold bD at hg ⊢
      split at hg
      · rename_i z hz
        simp only [Bool.and_eq_true, Nat.ble_eq] at hg ⊢
        exact ⟨hg.1, hd⟩
      · cases hg
     refine ⟨.gl id, d.push id (els ++ eH inf.size n new', e'), ?_, hxp, trivial, ⟨fun i v hv => ?_, fun hL id2 els2 e2 s2 h2 hs2 => ?_, rfl, rfl, rfl⟩, h⟩
     · rw [base, hct]
       simp only [bV, if_neg hn0, D.tok_get htk, o9, (hX hk).1]
       rw [if_pos ⟨by rw [V.css_length], trivial, by rw [V.cs_length]; exact hl, by omega, hlen, by rw [V.css_length]; exact hgr⟩]
       have hlk2 : lookA (d.push id (els ++ eH inf.size n new', e')).tk id = some (els ++ eH inf.size n new', e') := by
        simp only [D.push, lookA, Nat.beq_refl, cond_true]
       simp only [V.ct, hlk2, D.push_H, V.css_append, j7, List.length_append, j6, V.css_length]
     · obtain ⟨h1, h2⟩ := hO (show lookA (z8 id d.fr.l) i = some (some v) from hv)
       refine ⟨v, h1, ?_, fun h => h⟩
       cases v with
       | gl j =>
         have hj : Nat.beq id j = false := by
          cases hq : Nat.beq id j
          · rfl
          · exact absurd (by rw [Nat.eq_of_beq_eq_true hq]) h2
         simp only [V.ct, D.push, lookA, hj, cond_false]
       | _ => rfl
     · simp only [D.push, lookA] at h2
       cases hq : Nat.beq id id2 with
       | true =>
         rw [hq] at h2
         simp only [cond_true, Option.some.injEq, Prod.mk.injEq] at h2
         obtain ⟨rfl, rfl⟩ := h2
         rw [gJ hinf] at hs2
         simp only [Option.some.injEq] at hs2; subst hs2
         rw [aqE] at hlen ⊢
         unfold uR at hlen ⊢
         rw [List.all_append, hlen, Bool.true_and]
         exact oE hl
       | false =>
         rw [hq] at h2
         exact hL _ _ _ _ h2 hs2
 ·
   have hct : V.nils.ct d.tk = .nilslice := by simp only [V.ct, V.c]
   cases hn : Nat.beq n 0 with
   | true =>
     rw [hn] at h
     have hn0 : n = 0 := Nat.eq_of_beq_eq_true hn
     refine ⟨.nils, d, ?_, hxp, trivial, Kept.refl, h⟩
     rw [base, hct]
     simp only [hn0, if_true]
   | false =>
     rw [hn] at h
     have hn0 : n ≠ 0 := fun e0 => by rw [e0] at hn; cases hn
     simp only [cond_false] at h
     obtain ⟨h1, h2, h3⟩ := rH h
     refine ⟨.sl d.n 0 n (.slack 0), d.newRow ⟨new, e, true⟩, ?_, hxp, trivial, Kept.of rfl rfl, h3⟩
     rw [base, hct]
     simp only [if_neg hn0]
     rw [h2 [] (V.cs new) rfl]; rfl
 ·
   rename_i id off len c
   obtain ⟨hc, h⟩ := aA h
   rw [Nat.blt_eq] at hc
   split at h
   rotate_left
   · cases h
   rename_i rw' hr
   split at h
   rotate_left
   · cases h
   rename_i old hold
   obtain ⟨h1, h2, h3⟩ := rH h
   refine ⟨.sl d.n 0 (len + n) (.slack 0), d.newRow ⟨old ++ new, e, true⟩, ?_, hxp, trivial, Kept.of rfl rfl, h3⟩
   rw [base]
   simp only [V.ct, V.c, d6]
   rw [if_neg (by omega)]
   simp only [aM, D.row_get hr, DRow.o, kH hold]
   rw [h2 (V.cs old) (V.cs new) (by rw [V.cs_append])]; simp only [V.c]
 ·
   rename_i id len
   split at h
   rotate_left
   · cases h
   rename_i rw' hr
   obtain ⟨hc, h⟩ := aA h
   simp only [Bool.and_eq_true, decide_eq_true_eq, Nat.ble_eq, Nat.blt_eq] at hc
   obtain ⟨⟨⟨⟨⟨⟨c1, c2⟩, c3⟩, c4⟩, c5⟩, c6⟩, c7⟩ := hc
   obtain ⟨h1, h2, h3⟩ := rH h
   refine ⟨.sl (d.killRow id).n 0 (len + n) (.slack 0), (d.killRow id).newRow ⟨rw'.cells.take (len * inf.size) ++ new, e, true⟩, ?_, hxp, trivial, ⟨fun i v hv => ⟨v, hv, rfl, fun h => h⟩, fun h => h, rfl, rfl, rfl⟩, h3⟩
   rw [base]
   have hh : (D.killRow d id).H = d.H.kill id := D.killRow_H
   have hnn : (D.killRow d id).n = d.H.n := rfl
   have hk2 := h2 (V.cs (rw'.cells.take (len * inf.size))) (V.cs new) (by rw [V.cs_append])
   simp only [gA, h1, if_true, Option.some.injEq, Prod.mk.injEq] at hk2
   simp only [V.ct, V.c, fR, D.row_get hr, DRow.o, c1]
   simp only [gS, c2, V.cs_length]
   rw [if_neg (by omega), if_pos ⟨trivial, by omega, c4⟩, if_neg (by omega), if_pos ⟨trivial, trivial, h1, z6 c7⟩]
   have ht : (V.cs rw'.cells).take (len * inf.size) = V.cs (rw'.cells.take (len * inf.size)) := by simp only [V.cs_map, List.map_take]
   rw [ht, ← hk2.2, hh]
   rfl
 · cases h
theorem dAppK_ok {sh : List (List (Nat × V))} {P : Program} {sz : Nat} {d : D} {f : EFr} {h0 : H} (F : Fits sh P sz d f h0) {t e : TypeId} {inf : TypeInfo} (hu : P.underlying t = some (.slice e)) (hinf : P.info? e = some inf) {id n : Nat} {x : V} (hx : dL inf.size x = some n) {kk : V → D → Option R} (h : dAppK P d e inf id n x kk = some r) :
  ∃ w d', aO P d.H t ((V.gl id).ct d.tk) x.c = some (w.ct d'.tk, d'.H) ∧ x.plain = true ∧ w.inr ∧ Kept P d d' ∧ kk w d' = some r := by
 obtain ⟨rows, hc, hrl, hrows, hxp, _⟩ := hU hx
 obtain ⟨hc2, hrn⟩ := aqJ hx
 rw [hc] at hc2
 simp only [EVal.lsl.injEq] at hc2
 have hls : aW inf.size rows = true := by
  unfold aW
  rw [List.all_eq_true]
  intro q hq
  rw [(hrows q hq).1]; simp
 have hkl : bP rows.flatten = some rows.flatten := cW fun q hq => (hrows q hq).2
 have hfl : rows.flatten.length = n * inf.size := by rw [q8 fun q hq => (hrows q hq).1, hrl]
 unfold dAppK at h
 split at h
 rotate_left
 · cases h
 rename_i els e' htk
 have hlk : lookA d.tk id = some (els, e') := by
  unfold D.tok at htk
  cases hb : Nat.blt id 250 with
  | false => rw [hb] at htk; cases htk
  | true => rw [hb] at htk; exact htk
 have hct : (V.gl id).ct d.tk = .gsl id (V.css els) := by simp only [V.ct, hlk]
 have base : aO P d.H t ((V.gl id).ct d.tk) x.c = bV P d.H e inf.size inf.bytes id (V.css els) rows.flatten n := by
  rw [hct, hc]
  simp only [aO, hu, hinf, aM, hls, if_true, hrl]
 cases hn : Nat.beq n 0 with
 | true =>
   rw [hn] at h
   have hn0 : n = 0 := Nat.eq_of_beq_eq_true hn
   refine ⟨.gl id, d, ?_, hxp, trivial, Kept.refl, h⟩
   rw [base, hct]
   simp only [bV, hn0, if_true]
 | false =>
   rw [hn] at h
   have hn0 : n ≠ 0 := fun e0 => by rw [e0] at hn; cases hn
   simp only [cond_false] at h
   obtain ⟨hcc, h⟩ := aA h
   obtain ⟨hd, h⟩ := aA h
   simp only [Bool.and_eq_true, decide_eq_true_eq, Nat.blt_eq] at hcc
   obtain ⟨⟨he, hs0⟩, hg⟩ := hcc
   subst he
   rw [Nat.ble_eq] at hd
   have hlen : aW inf.size (V.css els) = true := F.lens _ _ _ _ hlk (gJ hinf)
   have hgr : bD P e' inf.size inf.bytes (els.length + n) = true := by
    unfold bD at hg ⊢
    split at hg
    · rename_i z hz
      simp only [Bool.and_eq_true, Nat.ble_eq] at hg ⊢
      exact ⟨hg.1, hd⟩
    · cases hg
   refine ⟨.gl id, d.push id (els ++ eP x, e'), ?_, hxp, trivial, ⟨fun i v hv => ?_, fun hL id2 els2 e2 s2 h2 hs2 => ?_, rfl, rfl, rfl⟩, h⟩
   · rw [base]
     simp only [bV, if_neg hn0, D.tok_get htk, o9, hkl]
     rw [if_pos ⟨by rw [V.css_length], trivial, hfl, by omega, hlen, by rw [V.css_length]; exact hgr⟩]
     have hlk2 : lookA (d.push id (els ++ eP x, e')).tk id = some (els ++ eP x, e') := by
      simp only [D.push, lookA, Nat.beq_refl, cond_true]
     have hch : aV inf.size n rows.flatten = rows := by rw [← hrl]; exact dA fun q hq => (hrows q hq).1
     simp only [V.ct, hlk2, D.push_H, V.css_append, hch, ← hc2, List.length_append, hrn, V.css_length]
   · obtain ⟨h1, h2⟩ := hO (show lookA (z8 id d.fr.l) i = some (some v) from hv)
     refine ⟨v, h1, ?_, fun h => h⟩
     cases v with
     | gl j =>
       have hj : Nat.beq id j = false := by
        cases hq : Nat.beq id j
        · rfl
        · exact absurd (by rw [Nat.eq_of_beq_eq_true hq]) h2
       simp only [V.ct, D.push, lookA, hj, cond_false]
     | _ => rfl
   · simp only [D.push, lookA] at h2
     cases hq : Nat.beq id id2 with
     | true =>
       rw [hq] at h2
       simp only [cond_true, Option.some.injEq, Prod.mk.injEq] at h2
       obtain ⟨rfl, rfl⟩ := h2
       rw [gJ hinf] at hs2
       simp only [Option.some.injEq] at hs2; subst hs2
       rw [V.css_append, ← hc2]
       unfold aW at hlen hls ⊢
       rw [List.all_append, hlen, hls]; rfl
     | false =>
       rw [hq] at h2
       exact hL _ _ _ _ h2 hs2
theorem dAppT_ok {sh : List (List (Nat × V))} {P : Program} {sz : Nat} {d : D} {f : EFr} {h0 : H} (F : Fits sh P sz d f h0) {t e : TypeId} {inf : TypeInfo} (hu : P.underlying t = some (.slice e)) (hinf : P.info? e = some inf) {id n : Nat} {x : V} (hx : dL inf.size x = some n) {kk : V → D → Option R} (h : dAppT P d e inf id n x kk = some r) :
  ∃ w d', aO P d.H t ((V.raw (.zslt id)).ct d.tk) x.c = some (w.ct d'.tk, d'.H) ∧ x.plain = true ∧ w.inr ∧ Kept P d d' ∧ kk w d' = some r := by
 obtain ⟨rows, hc, hrl, hrows, hxp, _⟩ := hU hx
 obtain ⟨hc2, hrn⟩ := aqJ hx
 rw [hc] at hc2
 simp only [EVal.lsl.injEq] at hc2
 have hls : aW inf.size rows = true := by
  unfold aW
  rw [List.all_eq_true]
  intro q hq
  rw [(hrows q hq).1]; simp
 have hkl : bP rows.flatten = some rows.flatten := cW fun q hq => (hrows q hq).2
 have hfl : rows.flatten.length = n * inf.size := by rw [q8 fun q hq => (hrows q hq).1, hrl]
 unfold dAppT at h
 split at h
 rotate_left
 · cases h
 rename_i e' htk
 split at h
 · cases h
 rename_i h0
 obtain ⟨hcc, h⟩ := aA h
 obtain ⟨hd, h⟩ := aA h
 simp only [Bool.and_eq_true, Nat.blt_eq] at hcc
 obtain ⟨hs0, hg⟩ := hcc
 rw [Nat.ble_eq] at hd
 have hgr : bD P e inf.size inf.bytes n = true := by
  unfold bD at hg ⊢
  split at hg
  · rename_i z hz
    simp only [Bool.and_eq_true, Nat.ble_eq] at hg ⊢
    exact ⟨hg.1, hd⟩
  · cases hg
 have hlk2 : lookA ((d.push id ([], e)).push id (eP x, e)).tk id = some (eP x, e) := by
  simp only [D.push, lookA, Nat.beq_refl, cond_true]
 have hch : aV inf.size n rows.flatten = rows := by rw [← hrl]; exact dA fun q hq => (hrows q hq).1
 refine ⟨.gl id, (d.push id ([], e)).push id (eP x, e), ?_, hxp, trivial, ⟨fun i v hv => ?_, fun hL id2 els2 e2 s2 h2 hs2 => ?_, rfl, rfl, rfl⟩, h⟩
 · have hct : (V.raw (.zslt id)).ct d.tk = .zslt id := by simp only [V.ct, V.c]
   rw [hct, hc]
   simp only [aO, hu, hinf, aM, hls, if_true, hrl, fQ, D.tok_get htk, o9, List.length_nil, h0, hkl]
   rw [if_pos ⟨hfl, by omega, hgr⟩]
   simp only [V.ct, hlk2, D.push_H, hch, ← hc2, hrn, List.length_nil]
 · obtain ⟨h1, h2⟩ := hO (show lookA (z8 id (z8 id d.fr.l)) i = some (some v) from hv)
   obtain ⟨h1, _⟩ := hO h1
   refine ⟨v, h1, ?_, fun h => h⟩
   cases v with
   | gl j =>
     have hj : Nat.beq id j = false := by
      cases hq : Nat.beq id j
      · rfl
      · exact absurd (by rw [Nat.eq_of_beq_eq_true hq]) h2
     simp only [V.ct, D.push, lookA, hj, cond_false]
   | _ => rfl
 · simp only [D.push, lookA] at h2
   cases hq : Nat.beq id id2 with
   | true =>
     rw [hq] at h2
     simp only [cond_true, Option.some.injEq, Prod.mk.injEq] at h2
     obtain ⟨rfl, rfl⟩ := h2
     rw [gJ hinf] at hs2
     simp only [Option.some.injEq] at hs2; subst hs2
     rw [← hc2]; exact hls
   | false =>
     rw [hq] at h2
     exact hL _ _ _ _ h2 hs2
theorem yO {sh : List (List (Nat × V))} {P : Program} {sz : Nat} {d : D} {f : EFr} {h0 : H} (F : Fits sh P sz d f h0) {t : TypeId} {s x : V} {kk : V → D → Option R} (h : oD P d t s x kk = some r) :
  ∃ w d', aO P d.H t (s.ct d.tk) x.c = some (w.ct d'.tk, d'.H) ∧ x.plain = true ∧ w.inr ∧ Kept P d d' ∧ kk w d' = some r := by
 unfold oD at h
 split at h
 rotate_left
 · cases h
 rename_i e hu
 split at h
 rotate_left
 · cases h
 rename_i inf hinf
 unfold dAppS at h
 split at h
 · rename_i id hs
   obtain rfl : s = .gl id := by
    unfold isGl at hs
    split at hs
    · cases hs; rfl
    · cases hs
   split at h
   · rename_i n hx; exact dAppK_ok F hu hinf hx h
   · exact xD F hu hinf h
 · split at h
   · rename_i id hs
     obtain rfl : s = .raw (.zslt id) := by
      unfold isZt at hs
      split at hs
      · cases hs; rfl
      · cases hs
     split at h
     · rename_i n hx; exact dAppT_ok F hu hinf hx h
     · cases h
   · exact xD F hu hinf h
def dCopy (P : Program) (d : D) (t : TypeId) (a s : V) (kk : V → D → Option R) : Option R :=
 match P.underlying t with
 | some (.slice e) => match P.info? e with
   | some inf => match a with
     | .sl id off len _ => match d.row id with
       | some r => dSrc d inf.size s fun c n => bif ones (c.take (Nat.min n len * inf.size)) && Nat.ble (off + (c.take (Nat.min n len * inf.size)).length) r.cells.length then
         kk (.int .i64 (Nat.min n len : Nat)) (d.setRow id { r with cells := setV r.cells off (c.take (Nat.min n len * inf.size)) }) else none
       | none => none
     | _ => none
   | none => none
 | _ => none
theorem ajs {P : Program} {d : D} {t : TypeId} {a s : V} {kk : V → D → Option R} (h : dCopy P d t a s kk = some r) :
  ∃ (w : V) (d' : D), yH P d.H t a.c s.c = some (w.c, d'.H) ∧ a.plain = true ∧ s.plain = true ∧ w.safe = true ∧ d'.fr = d.fr ∧ d'.tk = d.tk ∧ kk w d' = some r := by
 unfold dCopy at h
 split at h
 · rename_i e hu
   split at h
   · rename_i inf hinf
     split at h
     · rename_i id off len cap
       split at h
       · rename_i r' hr
         obtain ⟨c, n, h1, h2, h3⟩ := aqb h
         obtain ⟨h4, h5⟩ := aA h3
         simp only [Bool.and_eq_true, Nat.ble_eq] at h4
         refine ⟨_, d.setRow id { r' with cells := setV r'.cells off (c.take (Nat.min n len * inf.size)) }, ?_, rfl, h2, rfl, rfl, rfl, h5⟩
         simp only [V.c, yH, hu, hinf, h1]
         have e : (V.cs c).take (Nat.min n len * inf.size) = V.cs (c.take (Nat.min n len * inf.size)) := by simp only [V.cs_map, List.map_take]
         rw [e]
         simp only [aP, D.row_get hr, DRow.o]
         rw [if_pos ⟨by rw [V.cs_length, V.cs_length]; exact h4.2, Nat.zero_le _, z6 h4.1⟩, D.setRow_H]
         simp only [DRow.o, zQ]
       · cases h
     · cases h
   · cases h
 · cases h
end
end Go.Ev
namespace Go.Ev
open Go.RowKit
noncomputable section
variable {R : Type} {r : R}
def D.newO (d : D) (o : DObj) : D := { d with n := d.n + 1, hp := (d.n, some o) :: d.hp }
theorem D.newO_H {d : D} {o : DObj} : (d.newO o).H = d.H.new o.o := by
 unfold D.H D.newO; rw [nC]; rfl
def D.setO (d : D) (id : Nat) (o : DObj) : D := { d with hp := (id, some o) :: d.hp }
theorem D.setO_H {d : D} {id : Nat} {o : DObj} : (d.setO id o).H = d.H.put id o.o := by
 unfold D.H D.setO; rw [qV]; rfl
def rF (P : Program) (d : D) (ty : TypeId) : Option (V × D) := match P.underlying ty with
 | some (.map kt e) => match P.underlying kt with
   | some .string => match P.underlying e with
     | some .bool => some (.raw (.map d.n), d.newO (.sset []))
     | _ => some (.raw (.map d.n), d.newO (.mp [] 0))
   | some (.int .i64) => match P.underlying e with
     | some .bool => some (.raw (.map d.n), d.newO (.iset []))
     | _ => some (.raw (.map d.n), d.newO (.mp [] 0))
   | _ => some (.raw (.map d.n), d.newO (.mp [] 0))
 | _ => none
theorem vF {P : Program} {d d' : D} {ty : TypeId} {w : V} (h : rF P d ty = some (w, d')) : w.c = .map d.H.n ∧ d'.H = d.H.new (.map [] 0) ∧ w.safe = true ∧ d'.fr = d.fr ∧ d'.tk = d.tk := by
 unfold rF at h
 have main : ∀ o : DObj, o.o = .map [] 0 → some ((V.raw (.map d.n), d.newO o) : V × D) = some (w, d') → w.c = .map d.H.n ∧ d'.H = d.H.new (.map [] 0) ∧ w.safe = true ∧ d'.fr = d.fr ∧ d'.tk = d.tk := by
  intro o ho h
  simp only [Option.some.injEq, Prod.mk.injEq] at h
  obtain ⟨rfl, rfl⟩ := h
  exact ⟨by rw [V.c]; rfl, by rw [D.newO_H, ho], rfl, rfl, rfl⟩
 split at h
 · split at h
   · split at h
     · exact main _ rfl h
     · exact main _ rfl h
   · split at h
     · exact main _ rfl h
     · exact main _ rfl h
   · exact main _ rfl h
 · cases h
def w8 : V → V → Option Bool
 | .str a, .str b => some (decide (a = b))
 | .int k a, .int k' b => match decide (k = k') with
   | true => some (a == b)
   | false => none
 | .bool a, .bool b => some (a == b)
 | _, _ => none
theorem tG {a b : V} {q : Bool} (h : w8 a b = some q) : oU a.c b.c = some q := by
 unfold w8 at h
 split at h
 · simp only [Option.some.injEq] at h; subst h; rw [V.c, V.c]; rfl
 · split at h
   · rename_i hk
     simp only [decide_eq_true_eq] at hk
     subst hk
     simp only [Option.some.injEq] at h; subst h; rw [V.c, V.c]; simp [oU]
   · cases h
 · simp only [Option.some.injEq] at h; subst h; rw [V.c, V.c]; rfl
 · cases h
def xA (k : V) : List (V × V × Nat) → (Option V → Option R) → Option R
 | [], kk => kk none
 | (a, b, _) :: l, kk => match w8 k a with
   | some q => cond q (kk (some b)) (xA k l kk)
   | none => none
def mpE (es : List (V × V × Nat)) : List (EVal × EVal × Nat) := es.map fun e => (e.1.c, e.2.1.c, e.2.2)
theorem tI {k : V} : ∀ {es : List (V × V × Nat)} {kk : Option V → Option R}, xA k es kk = some r → ∃ o : Option V, fN k.c (mpE es) = some (o.map V.c) ∧ kk o = some r
 | [], kk, h => ⟨none, rfl, h⟩
 | (a, b, t) :: l, kk, h => by
   simp only [xA] at h
   split at h
   · rename_i q hq
     have e := tG hq
     cases q with
     | true => exact ⟨some b, by simp only [mpE, List.map_cons, fN, e, Option.map_some], h⟩
     | false =>
       obtain ⟨o, h1, h2⟩ := tI (es := l) h
       exact ⟨o, by simp only [mpE, List.map_cons, fN, e]; exact h1, h2⟩
   · cases h
def ajm (k v : V) : List (V × V × Nat) → (Option (List (V × V × Nat)) → Option R) → Option R
 | [], kk => kk none
 | (a, b, t) :: l, kk => match w8 k a with
   | some q => cond q (kk (some ((a, v, t) :: l))) (ajm k v l fun o => kk (match o with
     | some m => some ((a, b, t) :: m)
     | none => none))
   | none => none
theorem w0 {k v : V} : ∀ {es : List (V × V × Nat)} {kk : Option (List (V × V × Nat)) → Option R}, ajm k v es kk = some r → ∃ o : Option (List (V × V × Nat)), rX k.c v.c (mpE es) = some (o.map mpE) ∧ kk o = some r
 | [], kk, h => ⟨none, rfl, h⟩
 | (a, b, t) :: l, kk, h => by
   simp only [ajm] at h
   split at h
   · rename_i q hq
     have e := tG hq
     cases q with
     | true => exact ⟨some ((a, v, t) :: l), by simp only [mpE, List.map_cons, rX, e, Option.map_some], h⟩
     | false =>
       obtain ⟨o, h1, h2⟩ := w0 (es := l) h
       refine ⟨_, ?_, h2⟩
       have h1' : rX k.c v.c (List.map (fun e => (e.1.c, e.2.1.c, e.2.2)) l) = some (o.map mpE) := h1
       simp only [mpE, List.map_cons, rX, e, h1']
       cases o <;> rfl
   · cases h
theorem pO {k : List Nat} : ∀ {l : List (List Nat)} {i : Nat}, fN (.str k) (uC i l) = some (if k ∈ l then some (.bool true) else none)
 | [], i => by simp [uC, fN]
 | a :: l, i => by
   simp only [uC, fN, oU]
   by_cases h : k = a
   · simp [h]
   · simp [h, pO (l := l) (i := i + 1)]
theorem pP {k : Int} : ∀ {l : List Int} {i : Nat}, fN (.int .i64 k) (uD i l) = some (if k ∈ l then some (.bool true) else none)
 | [], i => by simp [uD, fN]
 | a :: l, i => by
   simp only [uD, fN, oU, if_true]
   by_cases h : k = a
   · simp [h]
   · have hb : (k == a) = false := by simpa using h
     simp [h, hb, pP (l := l) (i := i + 1)]
theorem sB {k : List Nat} : ∀ {l : List (List Nat)} {i : Nat}, rX (.str k) (.bool true) (uC i l) = some (if k ∈ l then some (uC i l) else none)
 | [], i => by simp [uC, rX]
 | a :: l, i => by
   simp only [uC, rX, oU]
   by_cases h : k = a
   · simp [h]
   · simp only [h, decide_false, sB (l := l) (i := i + 1), List.mem_cons, false_or]
     by_cases h2 : k ∈ l <;> simp [h2]
theorem sC {k : Int} : ∀ {l : List Int} {i : Nat}, rX (.int .i64 k) (.bool true) (uD i l) = some (if k ∈ l then some (uD i l) else none)
 | [], i => by simp [uD, rX]
 | a :: l, i => by
   simp only [uD, rX, oU, if_true]
   by_cases h : k = a
   · simp [h]
   · have hb : (k == a) = false := by simpa using h
     simp only [hb, sC (l := l) (i := i + 1), List.mem_cons, h, false_or]
     by_cases h2 : k ∈ l <;> simp [h2]
theorem m0 {k : List Nat} : ∀ {l : List (List Nat)} {i : Nat}, uC i (l ++ [k]) = uC i l ++ [(.str k, .bool true, i + l.length)]
 | [], i => by simp [uC]
 | a :: l, i => by simp only [List.cons_append, uC, m0 (l := l), List.length_cons]; congr 5; omega
theorem m3 {k : Int} : ∀ {l : List Int} {i : Nat}, uD i (l ++ [k]) = uD i l ++ [(.int .i64 k, .bool true, i + l.length)]
 | [], i => by simp [uD]
 | a :: l, i => by simp only [List.cons_append, uD, m3 (l := l), List.length_cons]; congr 5; omega
def insK {α : Type} [DecidableEq α] (l : List α) (k : α) : List α := bif decide (k ∈ l) then l else l ++ [k]
def yC (P : Program) (kt : TypeId) (k : V) : Bool := match P.underlying kt with
 | some (.int j) => match k with
   | .int j' _ => decide (j' = j)
   | _ => false
 | some .string => match k with
   | .str _ => true
   | _ => false
 | some .bool => match k with
   | .bool _ => true
   | _ => false
 | _ => false
theorem wW {P : Program} {kt : TypeId} {k : V} (h : yC P kt k = true) : cV (P.underlying kt) k.c = true := by
 unfold yC at h
 unfold cV
 split at h
 · rename_i j hu
   rw [hu]
   split at h
   · rw [V.c]; exact h
   · cases h
 · rename_i hu
   rw [hu]
   split at h
   · rw [V.c]
   · cases h
 · rename_i hu
   rw [hu]
   split at h
   · rw [V.c]
   · cases h
 · cases h
def zeroB (P : Program) (e : TypeId) : Option V := match zD P e with
 | some z => ofE z
 | none => none
theorem ajV {P : Program} {e : TypeId} {z : V} (h : zeroB P e = some z) : zD P e = some z.c := by
 unfold zeroB at h
 split at h
 · rename_i z' hz
   rw [hz, (ofE_c h).1]
 · cases h
def okT (ok : Bool) (v : V) (q : Bool) : V := match ok with
 | true => .tup [v, .bool q]
 | false => v
theorem aj0 {ok : Bool} {v : V} {q : Bool} : (okT ok v q).c = if ok then EVal.tup [v.c, .bool q] else v.c := by
 cases ok
 · rfl
 · simp only [okT, V.c, V.cs]; rfl
def vG (P : Program) (d : D) (ty : TypeId) (x k : V) (ok : Bool) (kk : V → Option R) : Option R := match P.underlying ty with
 | some (.map kt e) => bif yC P kt k then match zeroB P e with
   | some z => bif z.safe then match x with
     | .raw .nilmap => kk (okT ok z false)
     | .raw (.map id) => match d.obj id with
       | some (.sset ks) => match k with
         | .str s => match z with
           | .bool false => kk (okT ok (.bool (decide (s ∈ ks))) (decide (s ∈ ks)))
           | _ => none
         | _ => none
       | some (.iset ks) => match k with
         | .int .i64 s => match z with
           | .bool false => kk (okT ok (.bool (decide (s ∈ ks))) (decide (s ∈ ks)))
           | _ => none
         | _ => none
       | some (.mp es _) => xA k es fun o => match o with
         | some v => bif v.safe then kk (okT ok v true) else none
         | none => kk (okT ok z false)
       | _ => none
     | _ => none
     else none
   | none => none
   else none
 | _ => none
theorem mN {ok : Bool} {v : V} {q : Bool} (h : v.safe = true) : (okT ok v q).safe = true := by
 cases ok
 · exact h
 · rfl
theorem yM {P : Program} {d : D} {ty : TypeId} {x k : V} {ok : Bool} {kk : V → Option R} (h : vG P d ty x k ok kk = some r) :
  ∃ w : V, eT P d.H ty x.c k.c ok = some w.c ∧ w.safe = true ∧ x.plain = true ∧ k.plain = true ∧ kk w = some r := by
 unfold vG at h
 split at h
 rotate_left
 · cases h
 rename_i kt e hu
 obtain ⟨hf, h⟩ := aA h
 have hkf := wW hf
 have hkp : k.plain = true := by
  unfold yC at hf
  cases k with
  | gl i => split at hf <;> cases hf
  | _ => rfl
 split at h
 rotate_left
 · cases h
 rename_i z hz
 have hz0 := ajV hz
 obtain ⟨hzs, h⟩ := aA h
 have base : ∀ xv : EVal, eT P d.H ty xv k.c ok = (match xv with
   | .nilmap => bU P ok e (some none)
   | .map id => match d.H.get id with
     | some (.map es _) => bU P ok e (fN k.c es)
     | _ => none
   | _ => none) := by
  intro xv
  unfold eT
  rw [hu]
  simp only [hkf, if_true]
  cases xv <;> rfl
 split at h
 · refine ⟨_, ?_, mN hzs, rfl, hkp, h⟩
   rw [V.c, base, aj0]
   simp only [bU, hz0]
 · rename_i id hold1 hold2
   have setCase : ∀ (q : Bool) (es : List (EVal × EVal × Nat)) (c : Nat), d.H.get id = some (.map es c) → fN k.c es = some (if q then some (.bool true) else none) → z = .bool false → kk (okT ok (.bool q) q) = some r →
     ∃ w : V, eT P d.H ty (V.raw (.map id)).c k.c ok = some w.c ∧ w.safe = true ∧ (V.raw (.map id)).plain = true ∧ k.plain = true ∧ kk w = some r := by
    intro q es c hg hfd hzf hk
    refine ⟨_, ?_, mN (v := .bool q) rfl, rfl, hkp, hk⟩
    rw [V.c, base, aj0]
    simp only [hg, hfd]
    rw [hzf, V.c] at hz0
    cases q with
    | true => simp [bU, V.c]
    | false => simp [bU, hz0, V.c]
   split at h
   · rename_i ks ho
     have hg := D.obj_get ho
     simp only [DObj.o] at hg
     split at h
     · rename_i s
       split at h
       · refine setCase (decide (s ∈ ks)) _ _ hg ?_ rfl h
         rw [V.c, pO]
         by_cases hq : s ∈ ks <;> simp [hq]
       · cases h
     · cases h
   · rename_i ks ho
     have hg := D.obj_get ho
     simp only [DObj.o] at hg
     split at h
     · rename_i s
       split at h
       · refine setCase (decide (s ∈ ks)) _ _ hg ?_ rfl h
         rw [V.c, pP]
         by_cases hq : s ∈ ks <;> simp [hq]
       · cases h
     · cases h
   · rename_i es c ho
     have hg := D.obj_get ho
     simp only [DObj.o] at hg
     obtain ⟨o, h1, h2⟩ := tI h
     cases o with
     | some v =>
       obtain ⟨h3, h4⟩ := aA h2
       refine ⟨_, ?_, mN h3, rfl, hkp, h4⟩
       rw [V.c, base, aj0]
       simp only [hg, show fN k.c (List.map (fun e => (e.1.c, e.2.1.c, e.2.2)) es) = some (some v.c) from h1, bU]
     | none =>
       refine ⟨_, ?_, mN hzs, rfl, hkp, h2⟩
       rw [V.c, base, aj0]
       simp only [hg, show fN k.c (List.map (fun e => (e.1.c, e.2.1.c, e.2.2)) es) = some none from h1, bU, hz0]
   · cases h
 · cases h
def rE (P : Program) (d : D) (ty : TypeId) (x k v : V) (kk : D → Option R) : Option R := match P.underlying ty with
 | some (.map kt _) => bif yC P kt k then match x with
   | .raw (.map id) => match d.obj id with
     | some (.sset ks) => match k with
       | .str s => match v with
         | .bool true => kk (d.setO id (.sset (insK ks s)))
         | _ => none
       | _ => none
     | some (.iset ks) => match k with
       | .int .i64 s => match v with
         | .bool true => kk (d.setO id (.iset (insK ks s)))
         | _ => none
       | _ => none
     | some (.mp es c) => bif v.plain then ajm k v es fun o => match o with
       | some m => kk (d.setO id (.mp m c))
       | none => kk (d.setO id (.mp (es ++ [(k, v, c)]) (c + 1)))
       else none
     | _ => none
   | _ => none
   else none
 | _ => none
theorem pX {P : Program} {d : D} {ty : TypeId} {x k v : V} {kk : D → Option R} (h : rE P d ty x k v kk = some r) :
  ∃ d', i4 P d.H ty x.c k.c v.c = some d'.H ∧ x.plain = true ∧ k.plain = true ∧ v.plain = true ∧ d'.fr = d.fr ∧ d'.tk = d.tk ∧ kk d' = some r := by
 unfold rE at h
 split at h
 rotate_left
 · cases h
 rename_i kt e hu
 obtain ⟨hf, h⟩ := aA h
 have hkf := wW hf
 have hkp : k.plain = true := by
  unfold yC at hf
  cases k with
  | gl i => split at hf <;> cases hf
  | _ => rfl
 split at h
 rotate_left
 · cases h
 rename_i id hold
 have base : i4 P d.H ty (V.raw (.map id)).c k.c v.c = (match d.H.get id with
    | some (.map es c) => cE d.H id es c k.c v.c (rX k.c v.c es)
    | _ => none) := by
  rw [V.c]
  unfold i4
  rw [hu]
  simp only [hkf, if_true]
  rfl
 split at h
 · rename_i ks ho
   have hg := D.obj_get ho
   simp only [DObj.o] at hg
   split at h
   · rename_i s
     split at h
     · refine ⟨d.setO id (.sset (insK ks s)), ?_, rfl, rfl, rfl, rfl, rfl, h⟩
       rw [base]
       simp only [hg]
       rw [V.c, V.c, sB, D.setO_H]
       unfold insK
       by_cases hq : s ∈ ks
       · simp [hq, cE, DObj.o]
       · simp [hq, cE, DObj.o, m0]
     · cases h
   · cases h
 · rename_i ks ho
   have hg := D.obj_get ho
   simp only [DObj.o] at hg
   split at h
   · rename_i s
     split at h
     · refine ⟨d.setO id (.iset (insK ks s)), ?_, rfl, rfl, rfl, rfl, rfl, h⟩
       rw [base]
       simp only [hg]
       rw [V.c, V.c, sC, D.setO_H]
       unfold insK
       by_cases hq : s ∈ ks
       · simp [hq, cE, DObj.o]
       · simp [hq, cE, DObj.o, m3]
     · cases h
   · cases h
 · rename_i es c ho
   have hg := D.obj_get ho
   simp only [DObj.o] at hg
   obtain ⟨hv, h⟩ := aA h
   obtain ⟨o, h1, h2⟩ := w0 h
   have h1' : rX k.c v.c (List.map (fun e => (e.1.c, e.2.1.c, e.2.2)) es) = some (o.map mpE) := h1
   cases o with
   | some m =>
     refine ⟨d.setO id (.mp m c), ?_, rfl, hkp, hv, rfl, rfl, h2⟩
     rw [base]
     simp only [hg, h1', Option.map_some, cE, D.setO_H, DObj.o, mpE]
   | none =>
     refine ⟨d.setO id (.mp (es ++ [(k, v, c)]) (c + 1)), ?_, rfl, hkp, hv, rfl, rfl, h2⟩
     rw [base]
     simp only [hg, h1', Option.map_none, cE, D.setO_H, DObj.o, List.map_append, List.map_cons, List.map_nil]
 · cases h
end
end Go.Ev
