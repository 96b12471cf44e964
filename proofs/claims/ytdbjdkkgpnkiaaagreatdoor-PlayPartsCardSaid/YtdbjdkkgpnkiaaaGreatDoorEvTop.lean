import Derived.Test.YtdbjdkkgpnkiaaaGreatDoorEvFin
set_option linter.unusedSimpArgs false
set_option linter.unusedVariables false
namespace Go.Ev
open Go.RowKit

/-! what a piece of code comes to, whatever stands around it -/

/-- the same state of the machine, told otherwise -/
def View (P : Program) (f : EFr) (h : H) (f2 : EFr) (h2 : H) : Prop :=
  ∀ (B0 : Nat) (W0 : Base) (b : Frame) (t : Array Value) (d : List Deferred) (ρ : Loc) (w : World), FRel ρ f b t d → HRel P B0 W0 ρ h w → ∃ ρ2, FRel ρ2 f2 b t d ∧ HRel P B0 W0 ρ2 h2 w

abbrev Post := EExit → EFr → H → Prop

def Top (P : Program) (g : G) (K : Known) (c : Code) (f : EFr) (h : H) (Q : Post) : Prop :=
  ∀ (B0 : Nat) (W0 : Base), GRel B0 W0.w g → KOK P B0 W0 K → ∀ (b : Frame) (t : Array Value) (d : List Deferred) (k : List Item) (cs : List Frame) (ρ : Loc) (w : World), FRel ρ f b t d → HRel P B0 W0 ρ h w →
    ∃ e f' h', Q e f' h' ∧ ∃ t' d' w' ρ', FRel ρ' f' b t' d' ∧ HRel P B0 W0 ρ' h' w' ∧ ArrE P (lone (fr b t d (.code c :: k)) cs w) b k cs e t' d' w'

section
variable {P : Program} {g : G} {K : Known} {c : Code} {f f2 : EFr} {h h2 : H} {Q Q' : Post}

theorem View.refl : View P f h f h := fun _ _ _ _ _ ρ _ F R => ⟨ρ, F, R⟩
theorem View.trans {f3 : EFr} {h3 : H} (v1 : View P f h f2 h2) (v2 : View P f2 h2 f3 h3) : View P f h f3 h3 := fun B0 W0 b t d ρ w F R => by
  obtain ⟨ρ2, F2, R2⟩ := v1 B0 W0 b t d ρ w F R
  exact v2 B0 W0 b t d ρ2 w F2 R2

theorem Top.mono (H1 : Top P g K c f h Q) (hq : ∀ e f' h', Q e f' h' → Q' e f' h') : Top P g K c f h Q' := fun B0 W0 G hK b t d k cs ρ w F R => by
  obtain ⟨e, f', h', hQ, rest⟩ := H1 B0 W0 G hK b t d k cs ρ w F R
  exact ⟨e, f', h', hq _ _ _ hQ, rest⟩

theorem Top.view (v : View P f h f2 h2) (H1 : Top P g K c f2 h2 Q) : Top P g K c f h Q := fun B0 W0 G hK b t d k cs ρ w F R => by
  obtain ⟨ρ2, F2, R2⟩ := v B0 W0 b t d ρ w F R
  exact H1 B0 W0 G hK b t d k cs ρ2 w F2 R2

/-- behind a piece the state may be told otherwise -/
def Viewed (P : Program) (Q : Post) : Post := fun e f h => ∃ f2 h2, View P f h f2 h2 ∧ Q e f2 h2

theorem Top.unview (H1 : Top P g K c f h (Viewed P Q)) : Top P g K c f h Q := fun B0 W0 G hK b t d k cs ρ w F R => by
  obtain ⟨e, f', h', ⟨f2, h2, v, hQ⟩, t', d', w', ρ', F1, R1, A1⟩ := H1 B0 W0 G hK b t d k cs ρ w F R
  obtain ⟨ρ2, F2, R2⟩ := v B0 W0 b t' d' ρ' w' F1 R1
  exact ⟨e, f2, h2, hQ, t', d', w', ρ2, F2, R2, A1⟩

theorem Top.run (hm : P.follows .mixedOrders = true) (hng : NoNG P) {n : Nat} {outs : List Out} (he : run P g K n (.code c f h) = some outs) (hQ : ∀ e f' h', Out.code e f' h' ∈ outs → Q e f' h') : Top P g K c f h Q := fun B0 W0 G hK b t d k cs ρ w F R => by
  obtain ⟨e, f', h', hmem, t', d', w', ρ', _, F1, R1, A1⟩ := (rec_sound hm hng G hK n).code c f h outs he b t d k cs ρ w F R
  exact ⟨e, f', h', hQ _ _ _ hmem, t', d', w', ρ', F1, R1, A1⟩

theorem Top.seq {x y : Code} (H1 : Top P g K x f h fun e f' h' => match e with | .normal => Top P g K y f' h' Q | e => Q e f' h') : Top P g K (.seq x y) f h Q := fun B0 W0 G hK b t d k cs ρ w F R => by
  obtain ⟨e, f1, h1, hQ, t1, d1, w1, ρ1, F1, R1, A1⟩ := H1 B0 W0 G hK b t d (.code y :: k) cs ρ w F R
  cases e with
  | normal =>
    obtain ⟨e, f', h', hQ, t', d', w', ρ', F', R', A'⟩ := hQ B0 W0 G hK b t1 d1 k cs ρ1 w1 F1 R1
    exact ⟨e, f', h', hQ, t', d', w', ρ', F', R', (ArrE.of_steps (Steps.trans (.one st_seq) A1) A')⟩
  | exit id =>
    obtain ⟨k', e1, e2⟩ := A1
    exact ⟨.exit id, f1, h1, hQ, t1, d1, w1, ρ1, F1, R1, k', by rw [e1]; rfl, .head st_seq e2⟩
  | ret =>
    obtain ⟨k', e2⟩ := A1
    exact ⟨.ret, f1, h1, hQ, t1, d1, w1, ρ1, F1, R1, k', .head st_seq e2⟩

theorem Top.block {id : Nat} {x : Code} (H1 : Top P g K x f h fun e f' h' => match e with | .exit i => if i = id then Q .normal f' h' else Q (.exit i) f' h' | e => Q e f' h') : Top P g K (.block id x) f h Q := fun B0 W0 G hK b t d k cs ρ w F R => by
  obtain ⟨e, f1, h1, hQ, t1, d1, w1, ρ1, F1, R1, A1⟩ := H1 B0 W0 G hK b t d (.inBlock id :: k) cs ρ w F R
  cases e with
  | normal => exact ⟨.normal, f1, h1, hQ, t1, d1, w1, ρ1, F1, R1, .head st_block (Steps.trans A1 (.one st_inBlock))⟩
  | exit i =>
    obtain ⟨k', e1, e2⟩ := A1
    simp only at hQ
    split at hQ
    · rename_i hi
      subst hi
      exact ⟨.normal, f1, h1, hQ, t1, d1, w1, ρ1, F1, R1, .head st_block (Steps.trans e2 (.one (st_exit (by rw [e1]; simp [exitTo]))))⟩
    · rename_i hi
      refine ⟨.exit i, f1, h1, hQ, t1, d1, w1, ρ1, F1, R1, k', ?_, .head st_block e2⟩
      rw [e1]
      have : (id == i) = false := by simpa using Ne.symm hi
      simp [exitTo, this]
  | ret =>
    obtain ⟨k', e2⟩ := A1
    exact ⟨.ret, f1, h1, hQ, t1, d1, w1, ρ1, F1, R1, k', .head st_block e2⟩

theorem Top.scope {x : Code} (H1 : Top P g K x f h Q) : Top P g K (.scope x) f h Q := fun B0 W0 G hK b t d k cs ρ w F R => by
  obtain ⟨e, f1, h1, hQ, t1, d1, w1, ρ1, F1, R1, A1⟩ := H1 B0 W0 G hK b t d (.inScope x :: k) cs ρ w F R
  refine ⟨e, f1, h1, hQ, t1, d1, w1, ρ1, F1, R1, ?_⟩
  cases e with
  | normal => exact .head st_scope (Steps.trans A1 (.one st_inScope))
  | exit id => obtain ⟨k', e1, e2⟩ := A1; exact ⟨k', by rw [e1]; rfl, .head st_scope e2⟩
  | ret => obtain ⟨k', e2⟩ := A1; exact ⟨k', .head st_scope e2⟩

theorem Top.cond {o : Operand} {x y : Code} {q : Bool} (hc : ev f.tmps o = some (.bool q)) (H1 : q = true → Top P g K x f h Q) (H2 : q = false → Top P g K y f h Q) : Top P g K (.cond o x y) f h Q := fun B0 W0 G hK b t d k cs ρ w F R => by
  have hv := F.erel _ _ hc
  generalize hce : ({ tmps := t, defers := d } : Act).eval o = cv at hv
  cases hv
  cases q with
  | true =>
    obtain ⟨e, f', h', hQ, t', d', w', ρ', F', R', A'⟩ := H1 rfl B0 W0 G hK b t d k cs ρ w F R
    exact ⟨e, f', h', hQ, t', d', w', ρ', F', R', ArrE.of_steps (.one (st_cond hce)) A'⟩
  | false =>
    obtain ⟨e, f', h', hQ, t', d', w', ρ', F', R', A'⟩ := H2 rfl B0 W0 G hK b t d k cs ρ w F R
    exact ⟨e, f', h', hQ, t', d', w', ρ', F', R', ArrE.of_steps (.one (st_cond hce)) A'⟩

theorem Top.exit {id : Nat} (hQ : Q (.exit id) f h) : Top P g K (.exit id) f h Q := fun _ _ _ _ _ t d k _ ρ w F R => ⟨_, f, h, hQ, t, d, w, ρ, F, R, k, rfl, .refl _ _⟩
theorem Top.ret (hQ : Q .ret f h) : Top P g K .ret f h Q := fun _ _ _ _ _ t d k _ ρ w F R => ⟨_, f, h, hQ, t, d, w, ρ, F, R, k, .refl _ _⟩
theorem Top.skip (hQ : Q .normal f h) : Top P g K .skip f h Q := fun _ _ _ _ _ t d _ _ ρ w F R => ⟨_, f, h, hQ, t, d, w, ρ, F, R, .one st_skip⟩
theorem Top.label {l : Nat} (hQ : Q .normal f h) : Top P g K (.label l) f h Q := fun _ _ _ _ _ t d _ _ ρ w F R => ⟨_, f, h, hQ, t, d, w, ρ, F, R, .one st_label⟩

/-- behind a round of a loop -/
def loopQ {σ : Type} (P : Program) (I : σ → EFr × H) (μ : σ → Nat) (s : σ) (Q : Post) : Post := fun e f' h' => match e with
  | .normal => ∃ s', μ s' < μ s ∧ View P f' h' (I s').1 (I s').2
  | e => Q e f' h'
theorem loopQ_normal {σ : Type} {I : σ → EFr × H} {μ : σ → Nat} {s : σ} : loopQ P I μ s Q .normal f h = ∃ s', μ s' < μ s ∧ View P f h (I s').1 (I s').2 := (rfl)
theorem loopQ_exit {σ : Type} {I : σ → EFr × H} {μ : σ → Nat} {s : σ} {i : Nat} : loopQ P I μ s Q (.exit i) f h = Q (.exit i) f h := (rfl)
theorem loopQ_ret {σ : Type} {I : σ → EFr × H} {μ : σ → Nat} {s : σ} : loopQ P I μ s Q .ret f h = Q .ret f h := (rfl)

/-- A loop: what holds at its head holds there again, with less to go. -/
theorem Top.loop {σ : Type} {x : Code} (I : σ → EFr × H) (μ : σ → Nat) (s0 : σ) (v0 : View P f h (I s0).1 (I s0).2)
    (H1 : ∀ s, Top P g K x (I s).1 (I s).2 (loopQ P I μ s Q)) : Top P g K (.loop x) f h Q := fun B0 W0 G hK b t d k cs ρ w F R => by
  obtain ⟨ρ0, F0, R0⟩ := v0 B0 W0 b t d ρ w F R
  have main : ∀ (m : Nat) (s : σ), μ s ≤ m → ∀ (t : Array Value) (d : List Deferred) (ρ : Loc) (w : World), FRel ρ (I s).1 b t d → HRel P B0 W0 ρ (I s).2 w →
      ∃ e f' h', Q e f' h' ∧ ∃ t' d' w' ρ', FRel ρ' f' b t' d' ∧ HRel P B0 W0 ρ' h' w' ∧ ArrE P (lone (fr b t d (.code x :: .inLoop x :: k)) cs w) b k cs e t' d' w' := by
    intro m
    induction m with
    | zero =>
      intro s hs t d ρ w F R
      obtain ⟨e, f1, h1, hQ, t1, d1, w1, ρ1, F1, R1, A1⟩ := H1 s B0 W0 G hK b t d (.inLoop x :: k) cs ρ w F R
      cases e with
      | normal => obtain ⟨s', hlt, _⟩ := hQ; omega
      | exit id =>
        obtain ⟨k', e1, e2⟩ := A1
        exact ⟨.exit id, f1, h1, hQ, t1, d1, w1, ρ1, F1, R1, k', by rw [e1]; rfl, e2⟩
      | ret =>
        obtain ⟨k', e2⟩ := A1
        exact ⟨.ret, f1, h1, hQ, t1, d1, w1, ρ1, F1, R1, k', e2⟩
    | succ m ih =>
      intro s hs t d ρ w F R
      obtain ⟨e, f1, h1, hQ, t1, d1, w1, ρ1, F1, R1, A1⟩ := H1 s B0 W0 G hK b t d (.inLoop x :: k) cs ρ w F R
      cases e with
      | normal =>
        obtain ⟨s', hlt, v⟩ := hQ
        obtain ⟨ρ2, F2, R2⟩ := v B0 W0 b t1 d1 ρ1 w1 F1 R1
        obtain ⟨e, f', h', hQ, t', d', w', ρ', F', R', A'⟩ := ih s' (by omega) t1 d1 ρ2 w1 F2 R2
        exact ⟨e, f', h', hQ, t', d', w', ρ', F', R', ArrE.of_steps (Steps.trans A1 (.one st_inLoop)) A'⟩
      | exit id =>
        obtain ⟨k', e1, e2⟩ := A1
        exact ⟨.exit id, f1, h1, hQ, t1, d1, w1, ρ1, F1, R1, k', by rw [e1]; rfl, e2⟩
      | ret =>
        obtain ⟨k', e2⟩ := A1
        exact ⟨.ret, f1, h1, hQ, t1, d1, w1, ρ1, F1, R1, k', e2⟩
  obtain ⟨e, f', h', hQ, t', d', w', ρ', F', R', A'⟩ := main (μ s0) s0 (Nat.le_refl _) t d ρ0 w F0 R0
  exact ⟨e, f', h', hQ, t', d', w', ρ', F', R', ArrE.of_steps (.one st_loop) A'⟩
end

/-! functions -/

/-- what a function answers -/
def EntryOK (P : Program) (B0 : Nat) (W0 : Base) (f : FuncId) (F : List EVal → Option EVal) : Prop :=
  ∀ args v, F args = some v → ∀ (vs : Array Value) (fro : Nat → Option (List Value)) (w : World), VsRel (Loc.start fro) args vs.toList → FzOK fro w → Below B0 W0.w w → B0 ≤ w.heap.size →
    Calls P f vs w fun e w' => ∃ u φ, e = .returned u ∧ VRel (Loc.more (Loc.start fro) w.heap.size φ) v u ∧ Below w.heap.size w w' ∧ FzOK (fun b => if b < w.heap.size then fro b else φ b) w'

def Fn (P : Program) (g : G) (f : FuncId) (F : List EVal → Option EVal) : Prop := ∀ (B0 : Nat) (W0 : Base), GRel B0 W0.w g → EntryOK P B0 W0 f F

abbrev Table := List (FuncId × (List EVal → Option EVal))
def known : Table → Known
  | [], _, _ => none
  | (f, F) :: l, k, args => bif Nat.beq f k then F args else known l k args

theorem known_nil {k : FuncId} {args : List EVal} : known [] k args = none := rfl
theorem known_cons {f k : FuncId} {F : List EVal → Option EVal} {l : Table} {args : List EVal} : known ((f, F) :: l) k args = if f = k then F args else known l k args := by
  have : known ((f, F) :: l) k args = bif Nat.beq f k then F args else known l k args := rfl
  rw [this]
  simp only [Nat.beq_eq, Bool.cond_eq_ite]
theorem known_hit {f : FuncId} {F : List EVal → Option EVal} {l : Table} {args : List EVal} : known ((f, F) :: l) f args = F args := by rw [known_cons, if_pos rfl]

theorem Viewed.of {P : Program} {Q Q' : Post} (hV : ∀ e f h, Viewed P Q e f h → Q' e f h) : ∀ e f h, Q e f h → Q' e f h := fun e f h hq => hV e f h ⟨f, h, View.refl, hq⟩

section
variable {P : Program} {g : G}

theorem known_ok {B0 : Nat} {W0 : Base} (G : GRel B0 W0.w g) : ∀ (l : Table), (∀ p ∈ l, Fn P g p.1 p.2) → KOK P B0 W0 (known l)
  | [], _ => fun _ _ _ h => by cases h
  | (f, F) :: l, hl => by
    intro k args v hk
    simp only [known, Bool.cond_eq_ite] at hk
    split at hk
    · rename_i hb
      obtain rfl : f = k := Nat.eq_of_beq_eq_true hb
      exact hl (f, F) (by simp) B0 W0 G args v hk
    · exact known_ok G l (fun p hp => hl p (by simp [hp])) k args v hk

/-- where a call begins -/
noncomputable def startFr (fn : Func) (args : List EVal) : EFr := ⟨Nat.max fn.ntmps args.length, initA args 0 (T.full (some undefE) 10), [], none⟩

/-- where a call ends with the value v -/
def Ends (P : Program) (g : G) (fn : Func) (v : EVal) : Post := fun e f h =>
  (match e with | .normal => True | .ret => True | .exit _ => False) ∧ ∃ h2 es, takeAll h f.defers = some h2 ∧ resultsE P g h2 f.tmps fn.results.toList = some es ∧ keepV (one es) = some v

theorem Fn.intro (hm : P.follows .mixedOrders = true) (hng : NoNG P) {f : FuncId} {F : List EVal → Option EVal} {fn : Func} (hfn : P.funcs[f]? = some fn) {c : Code} (hc : fn.body = some c) (l : Table) (hl : ∀ p ∈ l, Fn P g p.1 p.2)
    (H1 : ∀ args v, F args = some v → ∀ Q : Post, (∀ e f' h', Viewed P (Ends P g fn v) e f' h' → Q e f' h') → Top P g (known l) c (startFr fn args) H.start Q) : Fn P g f F := by
  intro B0 W0 G args v hF vs fro w hvs hfz hb hs cs
  have G1 : GRel w.heap.size w g := G.grow hb hs
  have hK : KOK P w.heap.size ⟨w, fro⟩ (known l) := known_ok (W0 := ⟨w, fro⟩) G1 l hl
  let b : Frame := { (default : Frame) with fn := f, kind := .normal, roundOf := none }
  have henter : Frame.enter P f vs .normal = fr b (vs ++ Array.replicate (fn.ntmps - vs.size) undef) [] [.code c] := by
    simp [Frame.enter, fr, hfn, hc, b]
  have F0 : FRel (Loc.start fro) (startFr fn args) b (vs ++ Array.replicate (fn.ntmps - vs.size) undef) [] := by
    have hl : args.length = vs.size := by rw [hvs.length]; simp
    refine ⟨?_, ?_, .nil, trivial⟩
    · simp only [Array.size_append, Array.size_replicate]
      show _ = Nat.max fn.ntmps args.length
      rw [hl]
      simp only [Nat.max_def]; split <;> omega
    · refine initA_sound args 0 _ _ (fun j e hj => ?_) (fun i e hi hor => ?_)
      · obtain ⟨u, hu, hr⟩ := hvs.get hj
        have hlt : j < vs.size := by have := (List.getElem?_eq_some_iff.1 hu).1; simpa using this
        have : (vs ++ Array.replicate (fn.ntmps - vs.size) undef).getD (0 + j) undef = u := by
          rw [Array.getD_eq_getD_getElem?, Nat.zero_add, Array.getElem?_append_left hlt]
          have : vs[j]? = some u := by simpa using hu
          rw [this]; rfl
        rw [this]; exact hr
      · have := T.get_full _ _ _ hi
        cases this
        have : (vs ++ Array.replicate (fn.ntmps - vs.size) undef).getD i undef = undef := by
          rw [Array.getD_eq_getD_getElem?, Array.getElem?_append_right (by omega), Array.getElem?_replicate]
          split <;> rfl
        rw [this]; exact undef_rel _
  obtain ⟨e, f1, h1, ⟨hend, h2, es, hta, hes, hkv⟩, t1, d1, w1, ρ1, F1, R1, A1⟩ := Top.unview (H1 args v hF _ (fun _ _ _ h => h)) w.heap.size ⟨w, fro⟩ G1 hK b _ [] [] cs (Loc.start fro) w F0 (HRel.start w hfz)
  rw [← henter] at A1
  have fin : ∀ (todo : List Item), Steps P (lone (Frame.enter P f vs .normal) cs w) (lone { fr b t1 d1 todo with mode := .returning } cs w1) →
      ∃ (e : Ending) (w' : World) (fr' : Frame), (∃ u φ, e = .returned u ∧ VRel (Loc.more (Loc.start fro) w.heap.size φ) v u ∧ Below w.heap.size w w' ∧ FzOK (fun b => if b < w.heap.size then fro b else φ b) w') ∧ Comes P (lone (Frame.enter P f vs .normal) cs w) (lone fr' cs w') e ∧ fr'.fn = f ∧ fr'.leaving P w' e := by
    intro todo hs
    obtain ⟨w2, R2, s2⟩ := takeAll_sound (b := b) (todo := todo) (t := t1) (cs := cs) F1.defers R1 hta
    obtain ⟨us, hu1, hu2⟩ := results_sound G1 R2 F1.tmps _ _ hes
    obtain ⟨φ, hv, hF⟩ := (one_rel hu2).leave R2 hkv
    refine ⟨.returned (if h : us.toArray.size = 1 then us.toArray[0] else .tuple us.toArray), w2, _, ⟨_, φ, rfl, hv, R2.below, hF⟩, Steps.trans hs s2, rfl, rfl, rfl, rfl, fn, hfn, ?_⟩
    show (results fn t1).run P w2 = _
    unfold results
    rw [Array.mapM_eq_mapM_toList]
    simp only [Sem.run_bind, Sem.run_map, Sem.run_pure]
    have := congrArg (fun q => (q.andThen fun a w' => (Result.ok (a.toArray : Array Value) w' : Result (Array Value))).andThen fun vs w' => (Result.ok (if h : vs.size = 1 then vs[0] else Value.tuple vs) w' : Result Value)) hu1
    exact this
  cases e with
  | ret =>
    obtain ⟨k', s1⟩ := A1
    exact fin _ (Steps.trans s1 (.one (st_ret rfl)))
  | normal => exact fin _ (Steps.trans A1 (.one (st_end rfl)))
  | exit id => exact hend.elim
end
end Go.Ev
