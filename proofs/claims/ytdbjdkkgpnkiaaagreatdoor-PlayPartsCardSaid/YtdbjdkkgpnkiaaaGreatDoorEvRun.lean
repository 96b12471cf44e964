import Derived.Test.YtdbjdkkgpnkiaaaGreatDoorEvNext
set_option linter.unusedSimpArgs false
set_option linter.unusedVariables false
namespace Go.Ev
open Go.RowKit

inductive DRel (ρ : Loc) : List Nat → List Deferred → Prop
  | nil : DRel ρ [] []
  | cons (id b C : Nat) (l : List Nat) (ds : List Deferred) (h : ρ id = some (b, C)) (hs : DRel ρ l ds) : DRel ρ (id :: l) ({ target := .collected b, args := #[] } :: ds)

theorem DRel.mono {ρ ρ' : Loc} (hl : ρ.le ρ') {l : List Nat} {ds : List Deferred} (h : DRel ρ l ds) : DRel ρ' l ds := by
  induction h with
  | nil => exact .nil
  | cons id b C l ds h _ ih => exact .cons id b C l ds (hl.own _ _ h) ih

def RoundRel (ρ : Loc) (r : Option Nat) (l : Option Nat) : Prop := match r, l with
  | none, none => True
  | some id, some l => ∃ C, ρ id = some (l, C)
  | _, _ => False

structure FRel (ρ : Loc) (f : EFr) (b : Frame) (t : Array Value) (d : List Deferred) : Prop where
  size : t.size = f.sz
  tmps : TRel ρ f.tmps t
  defers : DRel ρ f.defers d
  round : RoundRel ρ f.round b.roundOf

theorem FRel.mono {ρ ρ' : Loc} (hl : ρ.le ρ') {f : EFr} {b : Frame} {t : Array Value} {d : List Deferred} (h : FRel ρ f b t d) : FRel ρ' f b t d := by
  refine ⟨h.size, h.tmps.mono hl, h.defers.mono hl, ?_⟩
  have := h.round
  unfold RoundRel at this ⊢
  split <;> simp_all
  obtain ⟨C, hC⟩ := this
  exact ⟨C, hl.own _ _ hC⟩

theorem FRel.put {ρ : Loc} {f : EFr} {b : Frame} {t : Array Value} {d : List Deferred} (h : FRel ρ f b t d) {dst : Option Tmp} {e : EVal} {v : Value} (hv : VRel ρ e v) : FRel ρ (f.putd dst e) b (putT t dst v) d := by
  cases dst with
  | none => exact h
  | some i =>
    unfold EFr.putd putT
    simp only [Bool.cond_eq_ite, Nat.blt_eq]
    split
    · rename_i hi
      refine ⟨by simpa using h.size, fun j e' hj => ?_, h.defers, h.round⟩
      rcases T.get_set _ _ _ _ hj with ⟨rfl, he⟩ | ⟨hne, hg⟩
      · cases he
        have : j < t.size := by rw [h.size]; exact hi
        simp [this, hv]
      · have := h.tmps j e' hg
        simp only [Array.getD_eq_getD_getElem?] at this ⊢
        rw [Array.getElem?_setIfInBounds_ne (Ne.symm hne)]
        exact this
    · rename_i hi
      have : ¬ i < t.size := by rw [h.size]; exact hi
      rw [Array.setIfInBounds_eq_of_size_le (Nat.le_of_not_lt this)]
      exact h

theorem yielded_sound {ρ : Loc} {ops : Array Oper} {t : T EVal} {tm : Array Value} (ht : TRel ρ t tm) {j : Nat} {y : Option Bool} (he : yieldedE ops t j = some y) : yielded ops tm j = y := by
  unfold yieldedE at he
  unfold yielded
  split at he
  · rename_i o ho
    rw [ho]
    split at he
    · rename_i d hd
      simp only [Option.bind_some, hd]
      split at he
      · rename_i b hb
        simp only [Option.some.injEq] at he; subst he
        have := ht d _ hb
        cases hq : tm[d]? with
        | none => rw [Array.getD_eq_getD_getElem?, hq] at this; cases this
        | some v =>
          rw [Array.getD_eq_getD_getElem?, hq] at this
          simp only [Option.getD_some] at this
          cases this
          rfl
      · cases he
      · rename_i e hne1 hne2 hb
        simp only [Option.some.injEq] at he; subst he
        have := ht d _ hb
        cases hq : tm[d]? with
        | none => rfl
        | some v =>
          rw [Array.getD_eq_getD_getElem?, hq] at this
          simp only [Option.getD_some] at this
          cases v <;> first | rfl | (cases this; exact absurd rfl (hne1 _))
      · cases he
    · rename_i hd
      simp only [Option.some.injEq] at he; subst he
      simp [hd]
  · rename_i ho
    simp only [Option.some.injEq] at he; subst he
    simp [ho]

theorem wanted_sound {ρ : Loc} {ops : Array Oper} {t : T EVal} {tm : Array Value} (ht : TRel ρ t tm) {o : Oper} {r : Bool} (he : wantedE ops t o = some r) : Region.wanted o (yielded ops tm) = r := by
  unfold wantedE at he
  unfold Region.wanted
  split at he
  · rename_i hg
    simp only [Option.some.injEq] at he; subst he
    rw [hg]
  · rename_i j want hg
    rw [hg]
    split at he
    · rename_i y hy
      simp only [Option.some.injEq] at he; subst he
      simp only [yielded_sound ht hy]
    · cases he

def ArrE (P : Program) (m : Machine) (b : Frame) (k : List Item) (cs : List Frame) (e : EExit) (t : Array Value) (d : List Deferred) (w : World) : Prop :=
  match e with
  | .normal => Steps P m (lone (fr b t d k) cs w)
  | .exit id => ∃ k', exitTo id k' = exitTo id k ∧ Steps P m (lone (fr b t d (.code (.exit id) :: k')) cs w)
  | .ret => ∃ k', Steps P m (lone (fr b t d (.code .ret :: k')) cs w)

theorem ArrE.of_steps {P : Program} {m m' : Machine} {b : Frame} {k : List Item} {cs : List Frame} {e : EExit} {t : Array Value} {d : List Deferred} {w : World} (hs : Steps P m m') (h : ArrE P m' b k cs e t d w) : ArrE P m b k cs e t d w := by
  cases e with
  | normal => exact hs.trans h
  | exit id => obtain ⟨k', h1, h2⟩ := h; exact ⟨k', h1, hs.trans h2⟩
  | ret => obtain ⟨k', h2⟩ := h; exact ⟨k', hs.trans h2⟩

section
variable (P : Program) (B0 : Nat) (W0 : Base) (g : G)

structure RecSound (r : Rec) : Prop where
  code : ∀ (c : Code) (f : EFr) (h : H) (outs : List Out), r (.code c f h) = some outs → ∀ (b : Frame) (t : Array Value) (d : List Deferred) (k : List Item) (cs : List Frame) (ρ : Loc) (w : World),
    FRel ρ f b t d → HRel P B0 W0 ρ h w → ∃ e f' h', Out.code e f' h' ∈ outs ∧ ∃ t' d' w' ρ', ρ.le ρ' ∧ FRel ρ' f' b t' d' ∧ HRel P B0 W0 ρ' h' w' ∧ ArrE P (lone (fr b t d (.code c :: k)) cs w) b k cs e t' d' w'
  ops : ∀ (all : Array Oper) (l : List Oper) (f : EFr) (h : H) (outs : List Out), r (.ops all l f h) = some outs → ∀ (js : List Nat), js.map (all[·]?) = l.map some → ∀ (b : Frame) (t : Array Value) (d : List Deferred) (k : List Item) (cs : List Frame) (ρ : Loc) (w : World),
    FRel ρ f b t d → HRel P B0 W0 ρ h w → ∃ f' h', Out.code .normal f' h' ∈ outs ∧ ∃ t' w' ρ', ρ.le ρ' ∧ FRel ρ' f' b t' d ∧ HRel P B0 W0 ρ' h' w' ∧ Steps P (lone (fr b t d (.inRegion all js :: k)) cs w) (lone (fr b t' d k) cs w')
  call : ∀ (fn : FuncId) (args : List EVal) (h : H) (outs : List Out), r (.call fn args h) = some outs → ∀ (vs : Array Value) (ρ : Loc) (w : World), VsRel ρ args vs.toList → HRel P B0 W0 ρ h w →
    Calls P fn vs w fun e w' => ∃ v h' u ρ', Out.val v h' ∈ outs ∧ e = .returned u ∧ ρ.le ρ' ∧ VRel ρ' v u ∧ HRel P B0 W0 ρ' h' w'
  round : ∀ (id : Nat) (args : List EVal) (h : H) (outs : List Out), r (.round id args h) = some outs → ∀ (l C : Nat) (vs : Array Value) (ρ : Loc) (w : World) (c : Frame) (cs : List Frame), ρ id = some (l, C) → VsRel ρ args vs.toList → HRel P B0 W0 ρ h w →
    ∃ v h' u ρ' w' f0 tm x y, Out.val v h' ∈ outs ∧ (Instr.yield l vs).run P w = .ok (.round l f0 tm x y) w ∧ ρ.le ρ' ∧ VRel ρ' v u ∧ HRel P B0 W0 ρ' h' w' ∧
      Steps P (lone (Frame.round l f0 tm x y .normal) (c :: cs) w) (lone (c.finish u) cs w')
  again : ∀ (c : Code) (f : EFr) (h : H) (outs : List Out), r (.again c f h) = some outs → ∀ (b : Frame) (t : Array Value) (d : List Deferred) (k : List Item) (cs : List Frame) (ρ : Loc) (w : World),
    FRel ρ f b t d → HRel P B0 W0 ρ h w → ∃ e f' h', Out.code e f' h' ∈ outs ∧ ∃ t' d' w' ρ', ρ.le ρ' ∧ FRel ρ' f' b t' d' ∧ HRel P B0 W0 ρ' h' w' ∧ ArrE P (lone (fr b t d (.code c :: .inLoop c :: k)) cs w) b k cs e t' d' w'
end

theorem bindO_mem : ∀ {l : List Out} {f : Out → Option (List Out)} {outs : List Out} {x : Out}, bindO l f = some outs → x ∈ l → ∃ o, f x = some o ∧ ∀ y ∈ o, y ∈ outs
  | [], _, _, _, _, hx => by cases hx
  | [a], f, outs, x, hb, hx => by
    simp only [List.mem_singleton] at hx; subst hx
    exact ⟨outs, hb, fun _ h => h⟩
  | a :: a2 :: l, f, outs, x, hb, hx => by
    simp only [bindO] at hb
    split at hb
    · rename_i o1 h1
      split at hb
      · rename_i o2 h2
        simp only [Option.some.injEq] at hb; subst hb
        rcases List.mem_cons.1 hx with rfl | hx
        · exact ⟨o1, h1, fun y hy => List.mem_append_left _ hy⟩
        · obtain ⟨o, h3, h4⟩ := bindO_mem h2 hx
          exact ⟨o, h3, fun y hy => List.mem_append_right _ (h4 y hy)⟩
      · cases hb
    · cases hb

theorem thenO_spec {r : Option (List Out)} {f : Out → Option (List Out)} {outs : List Out} (ht : thenO r f = some outs) : ∃ l, r = some l ∧ ∀ x ∈ l, ∃ o, f x = some o ∧ ∀ y ∈ o, y ∈ outs := by
  unfold thenO at ht
  split at ht
  · rename_i l
    exact ⟨l, rfl, fun x hx => bindO_mem ht hx⟩
  · cases ht

theorem thenEach_mem : ∀ {l : List (EVal × H)} {f : EVal → H → Option (List Out)} {outs : List Out} {x : EVal × H}, thenEach l f = some outs → x ∈ l → ∃ o, f x.1 x.2 = some o ∧ ∀ y ∈ o, y ∈ outs
  | [], _, _, _, _, hx => by cases hx
  | (v, h) :: l, f, outs, x, hb, hx => by
    simp only [thenEach] at hb
    split at hb
    · rename_i o1 h1
      split at hb
      · rename_i o2 h2
        simp only [Option.some.injEq] at hb; subst hb
        rcases List.mem_cons.1 hx with rfl | hx
        · exact ⟨o1, h1, fun y hy => List.mem_append_left _ hy⟩
        · obtain ⟨o, h3, h4⟩ := thenEach_mem h2 hx
          exact ⟨o, h3, fun y hy => List.mem_append_right _ (h4 y hy)⟩
      · cases hb
    · cases hb

theorem op_not_defer {P : Program} {g : G} {h : H} {t : T EVal} {o : Oper} {out : EOut} (he : eOp P g h t o = some out) : ∀ c, o.op ≠ .defer c := by
  intro c hc
  unfold eOp at he
  rw [hc] at he
  cases he

section
variable {P : Program} {B0 : Nat} {W0 : Base} {g : G} {r : Rec}

theorem FRel.erel {ρ : Loc} {f : EFr} {b : Frame} {t : Array Value} {d : List Deferred} (h : FRel ρ f b t d) : ERel ρ f.tmps ({ tmps := t, defers := d } : Act).eval := TRel.eval (a := { tmps := t, defers := d }) h.tmps

theorem undef_rel (ρ : Loc) : VRel ρ undefE undef := .tup _ _ .nil

/-- What stands behind one operation: the rest, with its value in its place. -/
theorem rest_sound (S : RecSound P B0 W0 r) {all : Array Oper} {o : Oper} {rest : List Oper} {f : EFr} {h' : H} {e : EVal} {outs : List Out} (hr : r (.ops all rest (f.putd o.dst e) h') = some outs)
    {i : Nat} {js : List Nat} (hjs : js.map (all[·]?) = rest.map some) {b : Frame} {t : Array Value} {d : List Deferred} {k : List Item} {cs : List Frame} {ρ ρ' : Loc} {w w' : World} (F : FRel ρ f b t d) (hle : ρ.le ρ') {v : Value} (hv : VRel ρ' e v) (R : HRel P B0 W0 ρ' h' w')
    (hst : Steps P (lone (fr b t d (.inRegion all (i :: js) :: k)) cs w) (lone (fr b (putT t o.dst v) d (.inRegion all js :: k)) cs w')) :
    ∃ f' h', Out.code .normal f' h' ∈ outs ∧ ∃ t' w' ρ', ρ.le ρ' ∧ FRel ρ' f' b t' d ∧ HRel P B0 W0 ρ' h' w' ∧ Steps P (lone (fr b t d (.inRegion all (i :: js) :: k)) cs w) (lone (fr b t' d k) cs w') := by
  obtain ⟨f2, h2, hm, t2, w2, ρ2, l2, F2, R2, S2⟩ := S.ops _ _ _ _ _ hr js hjs b _ d k cs ρ' w' ((F.mono hle).put hv) R
  exact ⟨f2, h2, hm, t2, w2, ρ2, Loc.le_trans hle l2, F2, R2, hst.trans S2⟩

theorem ops_sound (hng : NoNG P) (G : GRel B0 W0.w g) (S : RecSound P B0 W0 r) (all : Array Oper) (l : List Oper) (f : EFr) (h : H) (outs : List Out) (he : runOps P g r all l f h = some outs) (js : List Nat) (hjs : js.map (all[·]?) = l.map some)
    (b : Frame) (t : Array Value) (d : List Deferred) (k : List Item) (cs : List Frame) (ρ : Loc) (w : World) (F : FRel ρ f b t d) (R : HRel P B0 W0 ρ h w) :
    ∃ f' h', Out.code .normal f' h' ∈ outs ∧ ∃ t' w' ρ', ρ.le ρ' ∧ FRel ρ' f' b t' d ∧ HRel P B0 W0 ρ' h' w' ∧ Steps P (lone (fr b t d (.inRegion all js :: k)) cs w) (lone (fr b t' d k) cs w') := by
  unfold runOps at he
  split at he
  · simp only [Option.some.injEq] at he; subst he
    obtain rfl : js = [] := by simpa using hjs
    exact ⟨f, h, by simp, t, w, ρ, Loc.le_refl _, F, R, .one st_region_end⟩
  · rename_i o rest
    cases js with
    | nil => simp at hjs
    | cons i js =>
      simp only [List.map_cons, List.cons.injEq] at hjs
      obtain ⟨ho, hjs⟩ := hjs
      unfold runWant at he
      split at he
      · rename_i hw
        have hwant := wanted_sound F.tmps hw
        unfold runOp at he
        split at he
        · -- a step of a range over a map
          rename_i it hop
          unfold mapK at he
          split at he
          · rename_i l hl
            cases hx : ev f.tmps it with
            | none => rw [hx] at hl; cases hl
            | some x =>
              rw [hx] at hl
              obtain ⟨e, h', u, w', hm, hrun, hv, R'⟩ := nextMap_sound R o.type (F.erel _ _ hx) hl
              obtain ⟨o1, h3, h4⟩ := thenEach_mem he hm
              have hst : Steps P (lone (fr b t d (.inRegion all (i :: js) :: k)) cs w) (lone (fr b (putT t o.dst u) d (.inRegion all js :: k)) cs w') := by
                refine .one (st_value ho hwant (fun c hc => by rw [hop] at hc; cases hc) ?_)
                unfold execOp
                rw [hop]
                simp only [Sem.run_bind]
                rw [hrun]
                rfl
              obtain ⟨f2, h5, hm2, rest2⟩ := rest_sound S h3 hjs F (Loc.le_refl _) hv R' hst
              exact ⟨f2, h5, h4 _ hm2, rest2⟩
          · cases he
        · rename_i hnot
          unfold outK at he
          split at he
          · rename_i v h' hop
            obtain ⟨w', ρ', hle, R', hres⟩ := op_sound hng G R F.erel hop
            rcases hres with ⟨u, hrun, hv⟩ | ⟨hrun, rfl⟩
            · exact rest_sound S he hjs F hle hv R' (.one (st_value ho hwant (op_not_defer hop) hrun))
            · exact rest_sound S he hjs F hle (undef_rel _) R' (.one (st_skipv ho hwant (op_not_defer hop) hrun))
          · rename_i fn args h' hop
            obtain ⟨rfl, vs, hrun, hvs⟩ := op_sound hng G R F.erel hop
            obtain ⟨l1, h1, h2⟩ := thenO_spec he
            have hc := S.call _ _ _ _ h1 vs ρ w hvs R
            obtain ⟨e1, w1, fr1, ⟨v, h', u, ρ', hm, rfl, hle, hv, R'⟩, hcomes, hfn, hleave⟩ := hc (fr b t d (.inRegion all (i :: js) :: k) :: cs)
            obtain ⟨o1, h3, h4⟩ := h2 _ hm
            have hst : Steps P (lone (fr b t d (.inRegion all (i :: js) :: k)) cs w) (lone (fr b (putT t o.dst u) d (.inRegion all js :: k)) cs w1) := by
              refine .head (st_enter ho hwant (op_not_defer hop) hrun) (Steps.trans hcomes (.one ?_))
              rw [← finish_fr ho]
              exact step_leave_returned hleave
            obtain ⟨f2, h5, hm2, rest2⟩ := rest_sound S h3 hjs F hle hv R' hst
            exact ⟨f2, h5, h4 _ hm2, rest2⟩
          · rename_i id args h' hop
            obtain ⟨rfl, bl, C, vs, hb, hrun, hvs⟩ := op_sound hng G R F.erel hop
            obtain ⟨l1, h1, h2⟩ := thenO_spec he
            obtain ⟨v, h', u, ρ', w', f0, tm, x, y, hm, hy, hle, hv, R', hst⟩ := S.round _ _ _ _ h1 bl C vs ρ w (fr b t d (.inRegion all (i :: js) :: k)) cs hb hvs R
            obtain ⟨o1, h3, h4⟩ := h2 _ hm
            have hst' : Steps P (lone (fr b t d (.inRegion all (i :: js) :: k)) cs w) (lone (fr b (putT t o.dst u) d (.inRegion all js :: k)) cs w') := by
              refine .head (st_round ho hwant (op_not_defer hop) (by rw [hrun]; exact hy)) ?_
              rw [← finish_fr ho]
              exact hst
            obtain ⟨f2, h5, hm2, rest2⟩ := rest_sound S h3 hjs F hle hv R' hst'
            exact ⟨f2, h5, h4 _ hm2, rest2⟩
          · cases he
      · rename_i hw
        have hwant := wanted_sound F.tmps hw
        exact rest_sound S he hjs F (Loc.le_refl _) (undef_rel _) R (.one (st_op_skip ho hwant))
      · cases he
end
end Go.Ev
