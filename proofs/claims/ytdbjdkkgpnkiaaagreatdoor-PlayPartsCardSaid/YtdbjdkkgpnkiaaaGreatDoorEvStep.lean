import Derived.Test.YtdbjdkkgpnkiaaaGreatDoorEvOps8
import Derived.Calls
set_option linter.unusedSimpArgs false
set_option linter.unusedVariables false
namespace Go.Ev
open Go.RowKit

def fr (b : Frame) (t : Array Value) (d : List Deferred) (todo : List Item) : Frame := { b with tmps := t, defers := d, todo := todo, mode := .run }

section
variable {P : Program} {b : Frame} {t : Array Value} {d : List Deferred} {k : List Item} {cs : List Frame} {w : World}

theorem st_skip : step P (lone (fr b t d (.code .skip :: k)) cs w) = .next (lone (fr b t d k) cs w) := step_lone_go (by simp [stepG, stepG.exec, fr])
theorem st_label {l : Nat} : step P (lone (fr b t d (.code (.label l) :: k)) cs w) = .next (lone (fr b t d k) cs w) := step_lone_go (by simp [stepG, stepG.exec, fr])
theorem st_inBlock {id : Nat} : step P (lone (fr b t d (.inBlock id :: k)) cs w) = .next (lone (fr b t d k) cs w) := step_lone_go (by simp [stepG, stepG.exec, fr])
theorem st_inScope {c : Code} : step P (lone (fr b t d (.inScope c :: k)) cs w) = .next (lone (fr b t d k) cs w) := step_lone_go (by simp [stepG, stepG.exec, fr])
theorem st_seq {x y : Code} : step P (lone (fr b t d (.code (.seq x y) :: k)) cs w) = .next (lone (fr b t d (.code x :: .code y :: k)) cs w) := step_lone_go (by simp [stepG, stepG.exec, fr])
theorem st_block {id : Nat} {c : Code} : step P (lone (fr b t d (.code (.block id c) :: k)) cs w) = .next (lone (fr b t d (.code c :: .inBlock id :: k)) cs w) := step_lone_go (by simp [stepG, stepG.exec, fr])
theorem st_loop {c : Code} : step P (lone (fr b t d (.code (.loop c) :: k)) cs w) = .next (lone (fr b t d (.code c :: .inLoop c :: k)) cs w) := step_lone_go (by simp [stepG, stepG.exec, fr])
theorem st_inLoop {c : Code} : step P (lone (fr b t d (.inLoop c :: k)) cs w) = .next (lone (fr b t d (.code c :: .inLoop c :: k)) cs w) := step_lone_go (by simp [stepG, stepG.exec, fr])
theorem st_scope {c : Code} : step P (lone (fr b t d (.code (.scope c) :: k)) cs w) = .next (lone (fr b t d (.code c :: .inScope c :: k)) cs w) := step_lone_go (by simp [stepG, stepG.exec, fr])
theorem st_exit {id : Nat} {k' : List Item} (h : exitTo id k = some k') : step P (lone (fr b t d (.code (.exit id) :: k)) cs w) = .next (lone (fr b t d k') cs w) := step_lone_go (by simp [stepG, stepG.exec, fr, h])
theorem st_region {id : Nat} {ops : Array Oper} : step P (lone (fr b t d (.code (.region id ops false) :: k)) cs w) = .next (lone (fr b t d (.inRegion ops (List.range ops.size) :: k)) cs w) :=
  step_lone_go (by simp [stepG, stepG.exec, fr])
theorem st_region_end {ops : Array Oper} : step P (lone (fr b t d (.inRegion ops [] :: k)) cs w) = .next (lone (fr b t d k) cs w) := step_lone_go (by simp [stepG, stepG.exec, fr])
theorem st_region_draw {id : Nat} {ops : Array Oper} : step P (lone (fr b t d (.code (.region id ops true) :: k)) cs w) =
    .next (lone (fr b t d (.inRegion ops (Region.schedule (P.follows .mixedOrders) ops (w.tape w.drawn (.order b.fn id))) :: k)) cs { w with drawn := w.drawn + 1 }) :=
  step_lone_go (by simp [stepG, stepG.exec, fr, choose, Sem.run, Question.forced, Question.cut])
theorem eval_fr (todo : List Item) : (fr b t d todo).eval = ({ tmps := t, defers := d } : Act).eval := by funext x; cases x <;> rfl
theorem st_cond {c : Operand} {x y : Code} {q : Bool} (h : ({ tmps := t, defers := d } : Act).eval c = .bool q) :
    step P (lone (fr b t d (.code (.cond c x y) :: k)) cs w) = .next (lone (fr b t d (.code (if q then x else y) :: k)) cs w) :=
  step_lone_go (by
    have h' : (fr b t d (.code (.cond c x y) :: k)).eval c = .bool q := by rw [eval_fr]; exact h
    simp only [fr] at h'
    simp [stepG, stepG.exec, fr, h'])
theorem st_ret (hr : b.roundOf = none) : step P (lone (fr b t d (.code .ret :: k)) cs w) = .next (lone { fr b t d (.code .ret :: k) with mode := .returning } cs w) :=
  step_lone_go (by simp [stepG, stepG.exec, fr, hr])
theorem st_end (hr : b.roundOf = none) : step P (lone (fr b t d []) cs w) = .next (lone { fr b t d [] with mode := .returning } cs w) :=
  step_lone_go (by simp [stepG, stepG.exec, fr, hr])

def putT (t : Array Value) (dst : Option Tmp) (v : Value) : Array Value := match dst with | some i => t.setIfInBounds i v | none => t

theorem finish_fr {ops : Array Oper} {i : Nat} {rest : List Nat} {o : Oper} (ho : ops[i]? = some o) (v : Value) :
    (fr b t d (.inRegion ops (i :: rest) :: k)).finish v = fr b (putT t o.dst v) d (.inRegion ops rest :: k) := by
  cases h : o.dst <;> simp [Frame.finish, fr, ho, h, putT]

theorem st_op_skip {ops : Array Oper} {i : Nat} {rest : List Nat} {o : Oper} (ho : ops[i]? = some o) (hw : Region.wanted o (yielded ops t) = false) :
    step P (lone (fr b t d (.inRegion ops (i :: rest) :: k)) cs w) = .next (lone (fr b (putT t o.dst undef) d (.inRegion ops rest :: k)) cs w) := by
  rw [← finish_fr ho]
  exact step_lone_go (by simp [stepG, stepG.exec, fr, ho, hw])

theorem stepG_op' {ops : Array Oper} {i : Nat} {rest : List Nat} {o : Oper} (ho : ops[i]? = some o) (hw : Region.wanted o (yielded ops t) = true) (hd : ∀ c, o.op ≠ .defer c) :
    stepG P true { frame := fr b t d (.inRegion ops (i :: rest) :: k), callers := cs, status := .running, dying := none } w =
      stepG.apply P true (fr b t d (.inRegion ops (i :: rest) :: k)) cs none (execOp ({ tmps := t, defers := d } : Act).eval o) w := by
  have he : ∀ todo, (fr b t d todo).eval = ({ tmps := t, defers := d } : Act).eval := eval_fr
  have h1 := he (.inRegion ops (i :: rest) :: k)
  simp only [fr] at h1
  have : stepG P true { frame := fr b t d (.inRegion ops (i :: rest) :: k), callers := cs, status := .running, dying := none } w =
      stepG.oper P true (fr b t d (.inRegion ops (i :: rest) :: k)) cs none w := by
    simp [stepG, stepG.exec, fr, ho, hw]
  rw [this]
  unfold stepG.oper
  have ho' : (fr b t d (.inRegion ops (i :: rest) :: k)).oper? = some o := by simp [Frame.oper?, fr, ho]
  rw [ho']
  simp only
  split
  · rename_i c hop
    exact absurd hop (hd _)
  · rw [he]

theorem st_value {ops : Array Oper} {i : Nat} {rest : List Nat} {o : Oper} (ho : ops[i]? = some o) (hw : Region.wanted o (yielded ops t) = true) (hd : ∀ c, o.op ≠ .defer c) {v : Value} {w' : World}
    (hr : (execOp ({ tmps := t, defers := d } : Act).eval o).run P w = .ok (.value v) w') :
    step P (lone (fr b t d (.inRegion ops (i :: rest) :: k)) cs w) = .next (lone (fr b (putT t o.dst v) d (.inRegion ops rest :: k)) cs w') := by
  rw [← finish_fr ho]
  exact step_lone_go (by rw [stepG_op' ho hw hd]; simp [stepG.apply, hr])

theorem st_skipv {ops : Array Oper} {i : Nat} {rest : List Nat} {o : Oper} (ho : ops[i]? = some o) (hw : Region.wanted o (yielded ops t) = true) (hd : ∀ c, o.op ≠ .defer c) {w' : World}
    (hr : (execOp ({ tmps := t, defers := d } : Act).eval o).run P w = .ok .skip w') :
    step P (lone (fr b t d (.inRegion ops (i :: rest) :: k)) cs w) = .next (lone (fr b (putT t o.dst undef) d (.inRegion ops rest :: k)) cs w') := by
  rw [← finish_fr ho]
  exact step_lone_go (by rw [stepG_op' ho hw hd]; simp [stepG.apply, hr])

theorem st_enter {ops : Array Oper} {i : Nat} {rest : List Nat} {o : Oper} (ho : ops[i]? = some o) (hw : Region.wanted o (yielded ops t) = true) (hd : ∀ c, o.op ≠ .defer c) {f : FuncId} {args : Array Value} {w' : World}
    (hr : (execOp ({ tmps := t, defers := d } : Act).eval o).run P w = .ok (.enter f args) w') :
    step P (lone (fr b t d (.inRegion ops (i :: rest) :: k)) cs w) = .next (lone (Frame.enter P f args .normal) (fr b t d (.inRegion ops (i :: rest) :: k) :: cs) w') :=
  step_lone_go (by rw [stepG_op' ho hw hd]; simp [stepG.apply, hr, fr])

theorem st_round {ops : Array Oper} {i : Nat} {rest : List Nat} {o : Oper} (ho : ops[i]? = some o) (hw : Region.wanted o (yielded ops t) = true) (hd : ∀ c, o.op ≠ .defer c) {l : Nat} {f : FuncId} {tm : Array Value} {x y : Code} {w' : World}
    (hr : (execOp ({ tmps := t, defers := d } : Act).eval o).run P w = .ok (.round l f tm x y) w') :
    step P (lone (fr b t d (.inRegion ops (i :: rest) :: k)) cs w) = .next (lone (Frame.round l f tm x y .normal) (fr b t d (.inRegion ops (i :: rest) :: k) :: cs) w') :=
  step_lone_go (by rw [stepG_op' ho hw hd]; simp [stepG.apply, hr])

theorem st_leave_end {l : Nat} {c : Frame} {v : Value} {w' : World} (hr : b.roundOf = some l) (hk : b.kind = .normal) (he : (Instr.endRound l none).run P w = .ok v w') :
    step P (lone (fr b t d []) (c :: cs) w) = .next (lone (c.finish v) cs w') :=
  step_lone_go (by simp [stepG, stepG.exec, fr, hr, he, doReturn, hk])

theorem st_leave_ret {l : Nat} {c : Frame} {v : Value} {w' : World} (hr : b.roundOf = some l) (hk : b.kind = .normal) (he : (Instr.endRound l (some .ret)).run P w = .ok v w') :
    step P (lone (fr b t d (.code .ret :: k)) (c :: cs) w) = .next (lone (c.finish v) cs w') :=
  step_lone_go (by simp [stepG, stepG.exec, fr, hr, he, doReturn, hk])

theorem st_leave_exit {l id : Nat} {c : Frame} {v : Value} {w' : World} (hr : b.roundOf = some l) (hk : b.kind = .normal) (hx : exitTo id k = none) (he : (Instr.endRound l (some (.exit id))).run P w = .ok v w') :
    step P (lone (fr b t d (.code (.exit id) :: k)) (c :: cs) w) = .next (lone (c.finish v) cs w') :=
  step_lone_go (by simp [stepG, stepG.exec, fr, hr, hx, he, doReturn, hk])

theorem st_beginRound {l : Nat} {w' : World} (hr : b.roundOf = some l) (he : (Instr.beginRound l).run P w = .ok () w') :
    step P (lone (fr b t d (.beginRound :: k)) cs w) = .next (lone (fr b t d k) cs w') :=
  step_lone_go (by simp [stepG, stepG.exec, stepG.apply, fr, hr, he, Frame.finish])

theorem st_endRangeFunc {l : Nat} {jump : Option Code} {w' : World} (he : (Instr.endLoop l).run P w = .ok jump w') :
    step P (lone (fr b t d (.endRangeFunc l :: k)) cs w) = .next (lone (fr b t d ((jump.map Item.code).toList ++ k)) cs w') :=
  step_lone_go (by simp [stepG, stepG.exec, fr, he])

theorem st_rangeFunc (hng : NoNG P) {f : Operand} {ps : Array Tmp} {x y : Code} {l : Nat} {mark : List Deferred} {w1 : World} {kf : FuncId} {caps : Array Value} (he : (Instr.enterLoop b.fn t ps x y b.roundOf).run P w = .ok (l, mark) w1)
    (hf : ({ tmps := t, defers := d } : Act).eval f = .func (.func kf) #[] caps) {fn : Func} (hfn : P.funcs[kf]? = some fn) (hb : fn.body.isSome = true) :
    step P (lone (fr b t d (.code (.rangeFunc f ps x y) :: k)) cs w) =
      .next (lone (Frame.enter P kf (#[.func (.yield l) #[] #[]] ++ caps) .normal) (fr b t (mark ++ d) (.inRangeFunc l :: k) :: cs) w1) := by
  have he' : ({ fn := b.fn, tmps := t, todo := .inRangeFunc l :: k, defers := mark ++ d, mode := .run, kind := b.kind, roundOf := b.roundOf } : Frame).eval f = .func (.func kf) #[] caps := by
    have := eval_fr (b := b) (t := t) (d := mark ++ d) (.inRangeFunc l :: k)
    have h2 : (fr b t (mark ++ d) (.inRangeFunc l :: k)).eval f = ({ tmps := t, defers := d } : Act).eval f := by rw [this]; cases f <;> rfl
    rw [hf] at h2
    exact h2
  have hb' : fn.body.isNone = false := by cases hq : fn.body <;> simp_all
  have hcall : ∀ args, (callFunc kf args).run P w1 = .ok (.enter kf args) w1 := fun args => by
    simp only [callFunc, Sem.run_bind, run_program, Result.andThen_ok, hfn, hng _ _ hfn, Bool.false_eq_true, if_false, hb', Sem.run_pure]
  have hc : ∀ (q : Frame) (v : Value), q.eval (.const v) = v := fun _ _ => rfl
  exact step_lone_go (by
    simp [stepG, stepG.exec, stepG.apply, fr, he, resolve, he', Deferred.ofValue, invoke, hcall, hc])
end
end Go.Ev
