import Derived.Test.YtdbjdkkgpnkiaaaGreatDoorEvWp
set_option linter.unusedSimpArgs false
set_option linter.unusedVariables false
namespace Go.Ev
open Go.RowKit

/-! steps, as equations -/
section
variable {P : Program} {g : G} {K : Known}
theorem wp_region {i : Nat} {ops : Array Oper} {f : EFr} {h : H} {Q : Post} : wp P g K (.region i ops false) f h Q = wpOps P g K ops (Q .normal) ops.toList f h := (rfl)
theorem wp_draw {i : Nat} {ops : Array Oper} {f : EFr} {h : H} {Q : Post} : wp P g K (.region i ops true) f h Q = Top P g K (.region i ops true) f h Q := (rfl)
theorem wp_seq {a b : Code} {f : EFr} {h : H} {Q : Post} : wp P g K (.seq a b) f h Q = wp P g K a f h (seqQ (wp P g K b) Q) := (rfl)
theorem wp_block {id : Nat} {a : Code} {f : EFr} {h : H} {Q : Post} : wp P g K (.block id a) f h Q = wp P g K a f h (blockQ id Q) := (rfl)
theorem wp_scope {a : Code} {f : EFr} {h : H} {Q : Post} : wp P g K (.scope a) f h Q = wp P g K a f h Q := (rfl)
theorem wp_exit {id : Nat} {f : EFr} {h : H} {Q : Post} : wp P g K (.exit id) f h Q = Q (.exit id) f h := (rfl)
theorem wp_skip {f : EFr} {h : H} {Q : Post} : wp P g K .skip f h Q = Q .normal f h := (rfl)
theorem wp_label {l : Nat} {f : EFr} {h : H} {Q : Post} : wp P g K (.label l) f h Q = Q .normal f h := (rfl)
theorem wp_ret {f : EFr} {h : H} {Q : Post} : wp P g K .ret f h Q = Q .ret f h := (rfl)
theorem wp_of_top {c : Code} {f : EFr} {h : H} {Q : Post} (H : Top P g K (.loop c) f h Q) : wp P g K (.loop c) f h Q := H
theorem wp_of_draw {i : Nat} {ops : Array Oper} {f : EFr} {h : H} {Q : Post} (H : Top P g K (.region i ops true) f h Q) : wp P g K (.region i ops true) f h Q := H
theorem wp_loop {c : Code} {f : EFr} {h : H} {Q : Post} : wp P g K (.loop c) f h Q = Top P g K (.loop c) f h Q := (rfl)
theorem wpStep_true {all : Array Oper} {Q : EFr → H → Prop} {o : Oper} {rest : List Oper} {f : EFr} {h : H} : wpStep P g K all Q o rest f h (some true) = wpOp P g K o f h (wpNext P g K all Q o.dst rest f) := (rfl)
theorem wpStep_false {all : Array Oper} {Q : EFr → H → Prop} {o : Oper} {rest : List Oper} {f : EFr} {h : H} : wpStep P g K all Q o rest f h (some false) = wpOps P g K all Q rest (f.putd o.dst undefE) h := (rfl)
def wpKc (k : EVal → H → Prop) (h : H) : Option EVal → Prop
  | some v => k v h
  | none => False
theorem wpKc_some {k : EVal → H → Prop} {h : H} {v : EVal} : wpKc k h (some v) = k v h := (rfl)
theorem wpOut_val {k : EVal → H → Prop} {h : H} {v : EVal} : wpOut P K k (some (.val v h)) = k v h := (rfl)
theorem wpOut_enter {k : EVal → H → Prop} {h : H} {fn : FuncId} {args : List EVal} : wpOut P K k (some (.enter fn args h)) = wpKc k h (kcall P K h fn args) := by
  show (match kcall P K h fn args with | some v => k v h | none => False) = _
  cases kcall P K h fn args <;> rfl
def isNextM : Op → Bool
  | .next _ false => true
  | _ => false
def wpOpB (P : Program) (g : G) (K : Known) (o : Oper) (f : EFr) (h : H) (k : EVal → H → Prop) : Bool → Prop
  | true => wpOp P g K o f h k
  | false => wpOut P K k (eOp P g h f.tmps o)
theorem wpOp_eq {o : Oper} {f : EFr} {h : H} {k : EVal → H → Prop} : wpOp P g K o f h k = wpOpB P g K o f h k (isNextM o.op) := by
  unfold wpOpB
  split
  · rfl
  · rename_i hn
    unfold wpOp
    split
    · rename_i heq; rw [heq] at hn; cases hn
    · rfl
theorem wpOpB_false {o : Oper} {f : EFr} {h : H} {k : EVal → H → Prop} : wpOpB P g K o f h k false = wpOut P K k (eOp P g h f.tmps o) := (rfl)
theorem wpCond_true {a b : Code} {f : EFr} {h : H} {Q : Post} : wpCond P g K a b f h Q (some (.bool true)) = wp P g K a f h Q := (rfl)
theorem wpCond_false {a b : Code} {f : EFr} {h : H} {Q : Post} : wpCond P g K a b f h Q (some (.bool false)) = wp P g K b f h Q := (rfl)
end

/-! views -/
section
variable {P : Program} {f : EFr} {h : H}

theorem look_mem : ∀ {l : List (Nat × EVal)} {i : Nat} {v : EVal}, look l i = some v → (i, v) ∈ l
  | (j, u) :: l, i, v, h => by
    unfold look at h
    split at h
    · rename_i e; subst e; cases h; exact List.mem_cons_self
    · exact List.mem_cons_of_mem _ (look_mem h)

theorem ofL_look {l : List (Nat × EVal)} {i : Nat} {v : EVal} (h : (T.ofL l).get i = some v) : (i, v) ∈ l := by
  induction l with
  | nil => cases T.get_full _ _ _ h
  | cons p l ih =>
    obtain ⟨j, u⟩ := p
    rcases T.get_set _ _ _ _ h with ⟨rfl, e⟩ | ⟨_, e⟩
    · cases e; exact List.mem_cons_self
    · exact List.mem_cons_of_mem _ (ih e)

/-- other words for the slots that are still wanted -/
theorem View.slots {n : Nat} {l : List (Nat × EVal)} (hn : f.sz = n) (hd : f.defers = []) (hr : f.round = none)
    (hv : ∀ p ∈ l, f.tmps.get p.1 = some p.2) : View P f h (mkF n l) h := fun B0 W0 b t d ρ w F R => by
  refine ⟨ρ, ⟨by rw [F.size, hn]; rfl, fun i e he => F.tmps i e (hv _ (ofL_look he)), ?_, ?_⟩, R⟩
  · have := F.defers; rw [hd] at this; exact this
  · have := F.round; rw [hr] at this; exact this

theorem View.sub {n : Nat} {l l2 : List (Nat × EVal)} (hv : ∀ p ∈ l2, p.1 < 1000 ∧ look l p.1 = some p.2) : View P (mkF n l) h (mkF n l2) h :=
  View.slots rfl rfl rfl fun p hp => by
    obtain ⟨h1, h2⟩ := hv p hp
    show (T.ofL l).get p.1 = _
    rw [T.get_ofL _ _ h1]; exact h2

def argsL : Nat → List EVal → List (Nat × EVal)
  | _, [] => []
  | i, v :: l => (i, v) :: argsL (i + 1) l

theorem initA_get : ∀ (l : List EVal) (i : Nat) (t : T EVal), (∀ j, j < 1000 → t.has j) → i + l.length < 1000 → (∀ p ∈ argsL i l, (initA l i t).get p.1 = some p.2) ∧ (∀ j, j < i → (initA l i t).get j = t.get j)
  | [], _, _, _, _ => ⟨fun p hp => (by cases hp), fun _ _ => rfl⟩
  | v :: l, i, t, ht, hl => by
    have ht' : ∀ j, j < 1000 → (t.set i (some v)).has j := fun j hj => (T.has_set _ _ _ _).2 (ht j hj)
    simp only [List.length_cons] at hl
    obtain ⟨h1, h2⟩ := initA_get l (i + 1) (t.set i (some v)) ht' (by omega)
    refine ⟨fun p hp => ?_, fun j hj => ?_⟩
    · rcases List.mem_cons.1 hp with rfl | hp
      · show (initA l (i + 1) (t.set i (some v))).get i = some v
        rw [h2 i (by omega)]; exact T.get_set_same _ _ _ (ht i (by omega))
      · exact h1 p hp
    · show (initA l (i + 1) (t.set i (some v))).get j = _
      rw [h2 j (by omega), T.get_set_ne _ _ _ _ (by omega)]

theorem View.start {fn : Func} {args : List EVal} {n : Nat} (hn : Nat.max fn.ntmps args.length = n) (hl : args.length < 1000) : View P (startFr fn args) h (mkF n (argsL 0 args)) h :=
  View.slots hn rfl rfl fun p hp => (initA_get args 0 _ (fun j hj => T.has_full _ _ _ (by omega)) (by omega)).1 p hp
end

/-- the end of a function, of a frame that is written out -/
theorem ends_mk {P : Program} {g : G} {fn : Func} {v : EVal} {n : Nat} {l : List (Nat × EVal)} {h : H} {e : EExit} (he : e = .ret ∨ e = .normal) (hr : ∃ es, resultsE P g h (T.ofL l) fn.results.toList = some es ∧ keepV (one es) = some v) : Ends P g fn v e (mkF n l) h := by
  obtain ⟨es, h1, h2⟩ := hr
  refine ⟨by rcases he with rfl | rfl <;> trivial, h, es, rfl, h1, h2⟩

theorem ends_of {P : Program} {g : G} {fn : Func} {v : EVal} {n : Nat} {l : List (Nat × EVal)} {h : H} {e : EExit} (he : e = .ret ∨ e = .normal) (hr : (resultsE P g h (T.ofL l) fn.results.toList).bind (fun es => keepV (one es)) = some v) : Ends P g fn v e (mkF n l) h := by
  cases hq : resultsE P g h (T.ofL l) fn.results.toList with
  | none => rw [hq] at hr; cases hr
  | some es => exact ends_mk he ⟨es, hq, by rw [hq] at hr; exact hr⟩

theorem wpStep_not {P : Program} {g : G} {K : Known} {all : Array Oper} {Q : EFr → H → Prop} {o : Oper} {rest : List Oper} {f : EFr} {h : H} {q : Bool} (h1 : q = false → wpStep P g K all Q o rest f h (some true)) (h2 : q = true → wpStep P g K all Q o rest f h (some false)) :
    wpStep P g K all Q o rest f h (some !q) := by
  cases q with
  | true => exact h2 rfl
  | false => exact h1 rfl
theorem wpCond_not {P : Program} {g : G} {K : Known} {a b : Code} {f : EFr} {h : H} {Q : Post} {q : Bool} (h1 : q = false → wp P g K a f h Q) (h2 : q = true → wp P g K b f h Q) : wpCond P g K a b f h Q (some (.bool !q)) := by
  cases q with
  | true => exact h2 rfl
  | false => exact h1 rfl
theorem callF_of {P : Program} {f : FuncId} {fn : Func} {h : H} {args : List EVal} (hf : P.funcs[f]? = some fn) (hb : fn.body.isNone = false) : eCallF P h f args = some (.enter f args h) := by
  unfold eCallF
  rw [hf]
  simp [hb]
theorem grow_of {P : Program} {e : TypeId} {sz bytes need : Nat} {z : List EVal} (hz : zeroE P e = some z) (h1 : z.length = sz) (h2 : 1 ≤ bytes) : growOK P e sz bytes need = decide (bytes * need ≤ 1000000) := by
  unfold growOK
  rw [hz]
  simp only
  rw [Bool.eq_iff_iff]
  simp [h1, h2]
theorem ev_tmp {t : T EVal} {i : Nat} : ev t (.tmp i) = t.get i := (rfl)
theorem ev_int {t : T EVal} {k : IntKind} {n : Int} : ev t (.const (.int k n)) = some (.int k n) := (rfl)
theorem ev_bool {t : T EVal} {b : Bool} : ev t (.const (.bool b)) = some (.bool b) := (rfl)
theorem ev_str {t : T EVal} {s : ByteArray} : ev t (.const (.string s)) = some (.str (s.data.toList.map UInt8.toNat)) := (rfl)
theorem ev_nils {t : T EVal} : ev t (.const (.slice none 0 0)) = some .nilslice := (rfl)
theorem ev_nilp {t : T EVal} : ev t (.const (.pointer none)) = some .nilp := (rfl)
theorem ev_nilm {t : T EVal} : ev t (.const (.map none)) = some .nilmap := (rfl)
theorem ev_nilf {t : T EVal} : ev t (.const .nilFunc) = some .nilfunc := (rfl)
theorem ev_func {t : T EVal} {f : FuncId} : ev t (.func f) = some (.func f []) := (rfl)
theorem ev_glob {t : T EVal} {i : Nat} : ev t (.global i) = some (.gptr i 0) := (rfl)
theorem ev_agg {t : T EVal} {cs : Array Value} : ev t (.const (.agg cs)) = (absCells absCell cs.toList).map .agg := by
  show (match absCells absCell cs.toList with | some l => some (EVal.agg l) | none => none) = _
  cases absCells absCell cs.toList <;> rfl
theorem some_beq (a b : Bool) : (some a == some b) = (a == b) := by cases a <;> cases b <;> rfl
theorem bne_not {α : Type} [BEq α] (a b : α) : (a != b) = !(a == b) := rfl
theorem none_beq (b : Bool) : ((none : Option Bool) == some b) = false := by cases b <;> rfl
theorem beq_t (a : Bool) : (a == true) = a := by cases a <;> rfl
theorem beq_f (a : Bool) : (a == false) = !a := by cases a <;> rfl
theorem wp_gen {P : Program} {g : G} {K : Known} {c : Code} {f : EFr} {h : H} {Q : Post} (H1 : ∀ R : Post, Q = R → wp P g K c f h R) : wp P g K c f h Q := H1 Q rfl
theorem wp_cut {P : Program} {g : G} {K : Known} {a b : Code} {f : EFr} {h : H} {Q : Post} {f2 : EFr} {h2 : H} (H1 : ∀ R : Post, R .normal f2 h2 → wp P g K a f h R) (H2 : wp P g K b f2 h2 Q) : wp P g K (.seq a b) f h Q := by
  rw [wp_seq]; refine H1 _ ?_; rw [seqQ_normal]; exact H2
theorem wp_cut_ret {P : Program} {g : G} {K : Known} {a b : Code} {f : EFr} {h : H} {Q : Post} {f2 : EFr} {h2 : H} (H1 : ∀ R : Post, R .ret f2 h2 → wp P g K a f h R) (H2 : Q .ret f2 h2) : wp P g K (.seq a b) f h Q := by
  rw [wp_seq]; refine H1 _ ?_; rw [seqQ_ret]; exact H2
theorem wpNext_q {P : Program} {g : G} {K : Known} {all : Array Oper} {Q : EFr → H → Prop} {dst : Option Tmp} {rest : List Oper} {f : EFr} {v : EVal} {h : H} : wpNext P g K all Q dst rest f v h = wpOps P g K all Q rest (f.putd dst v) h := (rfl)
end Go.Ev
