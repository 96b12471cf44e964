import Derived.Test.YtdbjdkkgpnkiaaaGreatDoorEvRel
set_option linter.unusedSimpArgs false
set_option linter.unusedVariables false
namespace Go.Ev
open Go.RowKit

def TRel (ρ : Loc) (t : T EVal) (tmps : Array Value) : Prop := ∀ i e, t.get i = some e → VRel ρ e (tmps.getD i undef)

inductive MRel (ρ : Loc) : List (EVal × EVal × Nat) → List MapEntry → Prop
  | nil : MRel ρ [] []
  | cons (k v : EVal) (t : Nat) (es : List (EVal × EVal × Nat)) (m : MapEntry) (ms : List MapEntry) (hk : VRel ρ k m.key) (hv : VRel ρ v m.val) (hb : m.born = t)
      (h : MRel ρ es ms) : MRel ρ ((k, v, t) :: es) (m :: ms)

def ORel (P : Program) (ρ : Loc) : EObj → Nat → Option Obj → Prop
  | .row cells e lo hi sl, C, x => ∃ cs : Array Value, x = some (.cells cs e (lo, hi)) ∧ VsRel ρ cells (cs.toList.take cells.length) ∧
      (sl = false → cs.size = cells.length) ∧ (sl = true → ∃ i, P.info? e = some i ∧ cs.size = C * i.size)
  | .map es clock, _, x => ∃ m : Array MapEntry, x = some (.map m clock) ∧ MRel ρ es m.toList
  | .miter m since seen stepped, _, x => ∃ b C, ρ m = some (b, C) ∧ x = some (.mapIter (some b) since seen.toArray stepped)
  | .iter l pos, _, x => ∃ s : ByteArray, s.data.toList.map UInt8.toNat = l ∧ x = some (.stringIter s pos)
  | .loop st pend sz t ps a b _, _, x => ∃ L : Loop, x = some (.loop L) ∧ L.state = st ∧ L.pending = pend ∧ L.tmps.size = sz ∧ TRel ρ t L.tmps ∧
      L.params.toList = ps ∧ L.assign = a ∧ L.body = b
  | .deferred tk, _, x => x = some (.deferred (if tk then none else some []))

theorem TRel.mono {ρ ρ' : Loc} (hl : ρ.le ρ') {t : T EVal} {tmps : Array Value} (h : TRel ρ t tmps) : TRel ρ' t tmps := fun i e he => (h i e he).mono hl

theorem MRel.mono {ρ ρ' : Loc} (hl : ρ.le ρ') {es : List (EVal × EVal × Nat)} {ms : List MapEntry} (h : MRel ρ es ms) : MRel ρ' es ms := by
  induction h with
  | nil => exact .nil
  | cons k v t es m ms hk hv hb h ih => exact .cons k v t es m ms (hk.mono hl) (hv.mono hl) hb ih

theorem ORel.mono {P : Program} {ρ ρ' : Loc} (hl : ρ.le ρ') {o : EObj} {C : Nat} {x : Option Obj} (h : ORel P ρ o C x) : ORel P ρ' o C x := by
  cases o with
  | row cells e lo hi sl => obtain ⟨cs, h1, h2, h3, h4⟩ := h; exact ⟨cs, h1, h2.mono hl, h3, h4⟩
  | map es clock => obtain ⟨m, h1, h2⟩ := h; exact ⟨m, h1, h2.mono hl⟩
  | miter m since seen stepped => obtain ⟨b, C, h1, h2⟩ := h; exact ⟨b, C, hl.own _ _ h1, h2⟩
  | iter l pos => exact h
  | loop st pend sz t ps a b d => obtain ⟨L, h1, h2, h3, h4, h5, h6⟩ := h; exact ⟨L, h1, h2, h3, h4, h5.mono hl, h6⟩
  | deferred tk => exact h

/-- where a call begins: its world, and what stands for good in it -/
structure Base where
  w : World
  fro : Nat → Option (List Value)

/-- what stands for good stands in the world -/
def FzOK (fro : Nat → Option (List Value)) (w : World) : Prop := ∀ b pre, fro b = some pre → ∃ cs e m, w.heap[b]? = some (.cells cs e m) ∧ ∃ more, cs.toList = pre ++ more

/-- the block behind which a slice grows -/
structure TokB (P : Program) (B0 : Nat) (ρ : Loc) (w : World) (n : Nat) (e : TypeId) (b C : Nat) : Prop where
  low : B0 ≤ b
  row : ∃ cs i pre, w.heap[b]? = some (.cells cs e (0, 0)) ∧ P.info? e = some i ∧ cs.size = C * i.size ∧ ρ.fro b = some pre ∧ pre.length = n * i.size

theorem TokB.keep {P : Program} {B0 : Nat} {ρ ρ' : Loc} {w w' : World} {n b C : Nat} {e : TypeId} (h : TokB P B0 ρ w n e b C) (hf : ρ'.fro b = ρ.fro b) (hw : w'.heap[b]? = w.heap[b]?) : TokB P B0 ρ' w' n e b C := by
  obtain ⟨hl, cs, i, pre, h1, h2, h3, h4, h5⟩ := h
  exact ⟨hl, cs, i, pre, by rw [hw]; exact h1, h2, h3, by rw [hf]; exact h4, h5⟩

theorem FzOK.lt {fro : Nat → Option (List Value)} {w : World} (h : FzOK fro w) {b : Nat} {pre : List Value} (hb : fro b = some pre) : b < w.heap.size := by
  obtain ⟨cs, e, m, h1, _⟩ := h b pre hb
  exact (Array.getElem?_eq_some_iff.1 h1).1

theorem FzOK.keep {fro : Nat → Option (List Value)} {w w' : World} (h : FzOK fro w) (hk : ∀ b pre, fro b = some pre → w'.heap[b]? = w.heap[b]?) : FzOK fro w' := fun b pre hb => by
  obtain ⟨cs, e, m, h1, h2⟩ := h b pre hb
  exact ⟨cs, e, m, by rw [hk b pre hb]; exact h1, h2⟩

theorem TokB.fro {P : Program} {B0 : Nat} {ρ : Loc} {w : World} {n b C : Nat} {e : TypeId} (h : TokB P B0 ρ w n e b C) : ∃ pre, ρ.fro b = some pre := by
  obtain ⟨_, _, _, pre, _, _, _, h4, _⟩ := h
  exact ⟨pre, h4⟩

structure HRel (P : Program) (B0 : Nat) (W0 : Base) (ρ : Loc) (h : H) (w : World) : Prop where
  below : Below B0 W0.w w
  base : B0 ≤ w.heap.size
  dom : ∀ id, h.n ≤ id → ρ id = none
  lo : ∀ id b C, ρ id = some (b, C) → B0 ≤ b ∧ b < w.heap.size
  inj : ∀ id id' o o' b C C', h.get id = some o → h.get id' = some o' → ρ id = some (b, C) → ρ id' = some (b, C') → id = id'
  objs : ∀ id o, h.get id = some o → ∃ b C, ρ id = some (b, C) ∧ ORel P ρ o C w.heap[b]?
  fz : FzOK ρ.fro w
  free : ∀ b pre, ρ.fro b = some pre → ∀ id C o, h.get id = some o → ρ id ≠ some (b, C)
  fz0 : ∀ b, b < B0 → ρ.fro b = W0.fro b
  mdom : ∀ id n, h.m ≤ id → ρ.tau id n = none
  toks : ∀ id n e, h.k.get id = some (n, e) → ∃ x, ρ.tau id n = some x ∧ ∀ b C, x = some (b, C) → TokB P B0 ρ w n e b C
  tnew : ∀ id n e, h.k.get id = some (n, e) → ∀ n', n < n' → ρ.tau id n' = none
  tinj : ∀ id n e id' n' e' b C C', h.k.get id = some (n, e) → h.k.get id' = some (n', e') → ρ.tau id n = some (some (b, C)) → ρ.tau id' n' = some (some (b, C')) → id = id'

def Loc.add (ρ : Loc) (n : Nat) (x : Nat × Nat) : Loc := { ρ with own := fun id => if id = n then some x else ρ id }

theorem Loc.add_own {ρ : Loc} {n : Nat} {x : Nat × Nat} {id : Nat} : ρ.add n x id = if id = n then some x else ρ id := rfl

theorem Loc.le_add {ρ : Loc} {n : Nat} {x : Nat × Nat} (h : ρ n = none) : ρ.le (ρ.add n x) := by
  refine ⟨fun id y hy => ?_, fun b pre h => ⟨[], by simpa [Loc.add] using h⟩, fun _ _ _ h => h⟩
  rw [Loc.add_own]
  split
  · rename_i e; subst e; rw [h] at hy; cases hy
  · exact hy

theorem Loc.add_self (ρ : Loc) (n : Nat) (x : Nat × Nat) : ρ.add n x n = some x := by simp [Loc.add]

theorem H.get_new {h : H} {o : EObj} {j : Nat} {e : EObj} (hg : (h.new o).get j = some e) : (j = h.n ∧ e = o) ∨ (j ≠ h.n ∧ h.get j = some e) := by
  rcases T.get_set _ _ _ _ hg with ⟨a, b⟩ | ⟨a, b⟩
  · cases b; exact .inl ⟨a, rfl⟩
  · exact .inr ⟨a, b⟩

theorem H.get_put {h : H} {id : Nat} {o : EObj} {j : Nat} {e : EObj} (hg : (h.put id o).get j = some e) : (j = id ∧ e = o) ∨ (j ≠ id ∧ h.get j = some e) := by
  rcases T.get_set _ _ _ _ hg with ⟨a, b⟩ | ⟨a, b⟩
  · cases b; exact .inl ⟨a, rfl⟩
  · exact .inr ⟨a, b⟩

theorem H.get_kill {h : H} {id : Nat} {j : Nat} {e : EObj} (hg : (h.kill id).get j = some e) : j ≠ id ∧ h.get j = some e := by
  rcases T.get_set _ _ _ _ hg with ⟨a, b⟩ | ⟨a, b⟩
  · cases b
  · exact ⟨a, b⟩

section
variable {P : Program} {B0 : Nat} {W0 : Base} {ρ : Loc} {h : H} {w : World}

theorem HRel.fresh (R : HRel P B0 W0 ρ h w) : ρ h.n = none := R.dom _ (Nat.le_refl _)

theorem HRel.new (R : HRel P B0 W0 ρ h w) (o : EObj) (obj : Obj) (C : Nat) (ho : ORel P (ρ.add h.n (w.heap.size, C)) o C (some obj)) :
    HRel P B0 W0 (ρ.add h.n (w.heap.size, C)) (h.new o) (w.alloc obj) := by
  have hle := Loc.le_add (x := (w.heap.size, C)) R.fresh
  have hsz : (w.alloc obj).heap.size = w.heap.size + 1 := by show (w.heap.push obj).size = _; simp
  have hold : ∀ b pre, ρ.fro b = some pre → (w.alloc obj).heap[b]? = w.heap[b]? := fun b pre hb => Below.heap_alloc _ _ _ (FzOK.lt R.fz hb)
  refine ⟨R.below.alloc R.base obj, by rw [hsz]; have := R.base; omega, ?_, ?_, ?_, ?_, FzOK.keep R.fz hold, ?_, R.fz0, R.mdom, ?_, R.tnew, R.tinj⟩
  · intro id hid
    have : h.n + 1 ≤ id := hid
    rw [Loc.add_own]
    rw [if_neg (by omega)]
    exact R.dom _ (by omega)
  · intro id b C' hb
    rw [Loc.add_own] at hb
    rw [hsz]
    split at hb
    · cases hb; exact ⟨R.base, by omega⟩
    · have := R.lo _ _ _ hb; exact ⟨this.1, by omega⟩
  · intro id id' o1 o2 b C1 C2 h1 h2 r1 r2
    rw [Loc.add_own] at r1 r2
    rcases H.get_new h1 with ⟨a, _⟩ | ⟨a, g1⟩ <;> rcases H.get_new h2 with ⟨c, _⟩ | ⟨c, g2⟩
    · omega
    · simp only [a, if_true] at r1; simp only [c, if_false] at r2
      cases r1; have := R.lo _ _ _ r2; omega
    · simp only [a, if_false] at r1; simp only [c, if_true] at r2
      cases r2; have := R.lo _ _ _ r1; omega
    · simp only [a, if_false] at r1; simp only [c, if_false] at r2
      exact R.inj _ _ _ _ _ _ _ g1 g2 r1 r2
  · intro id o' hg
    rcases H.get_new hg with ⟨a, rfl⟩ | ⟨a, g⟩
    · subst a
      refine ⟨_, _, Loc.add_self _ _ _, ?_⟩
      have : (w.alloc obj).heap[w.heap.size]? = some obj := by show (w.heap.push obj)[w.heap.size]? = _; simp
      rw [this]; exact ho
    · obtain ⟨b, C', hb, r⟩ := R.objs _ _ g
      refine ⟨b, C', hle.own _ _ hb, ?_⟩
      rw [Below.heap_alloc _ _ _ (R.lo _ _ _ hb).2]
      exact r.mono hle
  · intro b pre hb id C' o' hg hr
    rw [Loc.add_own] at hr
    rcases H.get_new hg with ⟨a, rfl⟩ | ⟨a, g⟩
    · simp only [a, if_true] at hr
      cases hr
      exact absurd (FzOK.lt R.fz hb) (Nat.lt_irrefl _)
    · simp only [a, if_false] at hr
      exact R.free b pre hb _ _ _ g hr
  · intro id n e hk
    obtain ⟨x, h1, h2⟩ := R.toks id n e hk
    refine ⟨x, h1, fun b C' hx => ?_⟩
    have hb := h2 b C' hx
    obtain ⟨pre, hp⟩ := hb.fro
    exact hb.keep rfl (hold b pre hp)

/-- An object is turned in place. -/
theorem HRel.put (R : HRel P B0 W0 ρ h w) {id b C : Nat} {o o' : EObj} {w' : World} (hg : h.get id = some o) (hb : ρ id = some (b, C))
    (hw : Below B0 w w') (hs : w'.heap.size = w.heap.size) (hk : ∀ k, k ≠ b → w'.heap[k]? = w.heap[k]?) (ho : ORel P ρ o' C w'.heap[b]?) :
    HRel P B0 W0 ρ (h.put id o') w' := by
  have hold : ∀ b' pre, ρ.fro b' = some pre → w'.heap[b']? = w.heap[b']? := fun b' pre hb' => hk _ fun e => R.free b' pre hb' _ _ _ hg (e ▸ hb)
  refine ⟨R.below.trans hw, by rw [hs]; exact R.base, fun id hid => R.dom id hid, fun id b C hb => by rw [hs]; exact R.lo id b C hb, ?_, ?_, FzOK.keep R.fz hold, ?_, R.fz0, R.mdom, ?_, R.tnew, R.tinj⟩
  · intro i j o1 o2 b1 C1 C2 h1 h2 r1 r2
    have e1 : ∃ o, h.get i = some o := by rcases H.get_put h1 with ⟨rfl, _⟩ | ⟨_, g⟩ <;> exact ⟨_, by assumption⟩
    have e2 : ∃ o, h.get j = some o := by rcases H.get_put h2 with ⟨rfl, _⟩ | ⟨_, g⟩ <;> exact ⟨_, by assumption⟩
    obtain ⟨_, e1⟩ := e1; obtain ⟨_, e2⟩ := e2
    exact R.inj _ _ _ _ _ _ _ e1 e2 r1 r2
  · intro j o1 h1
    rcases H.get_put h1 with ⟨rfl, rfl⟩ | ⟨hne, g⟩
    · exact ⟨b, C, hb, ho⟩
    · obtain ⟨b1, C1, hb1, r⟩ := R.objs _ _ g
      refine ⟨b1, C1, hb1, ?_⟩
      have hbb : b1 ≠ b := fun e => hne (R.inj _ _ _ _ _ _ _ g hg hb1 (e ▸ hb))
      rw [hk _ hbb]; exact r
  · intro b' pre hb' j C' o1 h1 hr
    rcases H.get_put h1 with ⟨rfl, rfl⟩ | ⟨hne, g⟩
    · exact R.free b' pre hb' _ _ _ hg hr
    · exact R.free b' pre hb' _ _ _ g hr
  · intro id n e hk'
    obtain ⟨x, h1, h2⟩ := R.toks id n e hk'
    refine ⟨x, h1, fun b' C' hx => ?_⟩
    have hb' := h2 b' C' hx
    obtain ⟨pre, hp⟩ := hb'.fro
    exact hb'.keep rfl (hold b' pre hp)

/-- Objects may be turned where nothing is known of them: a dead block's place is taken up under a new number. -/
theorem HRel.renew (R : HRel P B0 W0 ρ h w) {id b C : Nat} {o o' : EObj} {w' : World} (hg : h.get id = some o) (hb : ρ id = some (b, C))
    (hw : Below B0 w w') (hs : w'.heap.size = w.heap.size) (hk : ∀ k, k ≠ b → w'.heap[k]? = w.heap[k]?) (ho : ORel P (ρ.add h.n (b, C)) o' C w'.heap[b]?) :
    HRel P B0 W0 (ρ.add h.n (b, C)) ((h.kill id).new o') w' := by
  have hle := Loc.le_add (x := (b, C)) R.fresh
  have hn : (h.kill id).n = h.n := rfl
  have hold : ∀ b' pre, ρ.fro b' = some pre → w'.heap[b']? = w.heap[b']? := fun b' pre hb' => hk _ fun e => R.free b' pre hb' _ _ _ hg (e ▸ hb)
  refine ⟨R.below.trans hw, by rw [hs]; exact R.base, ?_, ?_, ?_, ?_, FzOK.keep R.fz hold, ?_, R.fz0, R.mdom, ?_, R.tnew, R.tinj⟩
  · intro j hj
    have : h.n + 1 ≤ j := hj
    rw [Loc.add_own]
    rw [if_neg (by omega)]
    exact R.dom _ (by omega)
  · intro j b' C' hb'
    rw [hs]
    rw [Loc.add_own] at hb'
    split at hb'
    · cases hb'; exact R.lo _ _ _ hb
    · exact R.lo _ _ _ hb'
  · intro i j o1 o2 b1 C1 C2 h1 h2 r1 r2
    rw [Loc.add_own] at r1 r2
    rcases H.get_new h1 with ⟨a, _⟩ | ⟨a, g1⟩ <;> rcases H.get_new h2 with ⟨c, _⟩ | ⟨c, g2⟩
    · omega
    · rw [hn] at a c
      simp only [a, if_true] at r1; simp only [c, if_false] at r2
      cases r1
      obtain ⟨g3, g4⟩ := H.get_kill g2
      exact (g3 (R.inj _ _ _ _ _ _ _ g4 hg r2 hb)).elim
    · rw [hn] at a c
      simp only [a, if_false] at r1; simp only [c, if_true] at r2
      cases r2
      obtain ⟨g3, g4⟩ := H.get_kill g1
      exact (g3 (R.inj _ _ _ _ _ _ _ g4 hg r1 hb)).elim
    · rw [hn] at a c
      simp only [a, if_false] at r1; simp only [c, if_false] at r2
      exact R.inj _ _ _ _ _ _ _ (H.get_kill g1).2 (H.get_kill g2).2 r1 r2
  · intro j o1 h1
    rcases H.get_new h1 with ⟨a, rfl⟩ | ⟨a, g⟩
    · rw [hn] at a; subst a
      exact ⟨b, C, Loc.add_self _ _ _, ho⟩
    · obtain ⟨g3, g4⟩ := H.get_kill g
      obtain ⟨b1, C1, hb1, r⟩ := R.objs _ _ g4
      refine ⟨b1, C1, hle.own _ _ hb1, ?_⟩
      have hbb : b1 ≠ b := fun e => g3 (R.inj _ _ _ _ _ _ _ g4 hg hb1 (e ▸ hb))
      rw [hk _ hbb]; exact r.mono hle
  · intro b' pre hb' j C' o1 h1 hr
    rw [Loc.add_own] at hr
    rcases H.get_new h1 with ⟨a, rfl⟩ | ⟨a, g⟩
    · rw [hn] at a
      simp only [a, if_true] at hr
      cases hr
      exact R.free _ pre hb' _ _ _ hg hb
    · rw [hn] at a
      simp only [a, if_false] at hr
      exact R.free b' pre hb' _ _ _ (H.get_kill g).2 hr
  · intro id n e hk'
    obtain ⟨x, h1, h2⟩ := R.toks id n e hk'
    refine ⟨x, h1, fun b' C' hx => ?_⟩
    have hb' := h2 b' C' hx
    obtain ⟨pre, hp⟩ := hb'.fro
    exact hb'.keep rfl (hold b' pre hp)

theorem HRel.grow (R : HRel P B0 W0 ρ h w) {w' : World} (hw : Below w.heap.size w w') : HRel P B0 W0 ρ h w' := by
  have hold : ∀ b' pre, ρ.fro b' = some pre → w'.heap[b']? = w.heap[b']? := fun b' pre hb' => hw.block _ (FzOK.lt R.fz hb')
  refine ⟨R.below.trans (hw.mono R.base), Nat.le_trans R.base hw.size, R.dom, fun id b C hb => ?_, R.inj, fun id o hg => ?_, FzOK.keep R.fz hold, R.free, R.fz0, R.mdom, fun id n e hk => ?_, R.tnew, R.tinj⟩
  · have := R.lo id b C hb; exact ⟨this.1, Nat.lt_of_lt_of_le this.2 hw.size⟩
  · obtain ⟨b, C, hb, r⟩ := R.objs _ _ hg
    refine ⟨b, C, hb, ?_⟩
    rw [hw.block _ (R.lo _ _ _ hb).2]; exact r
  · obtain ⟨x, h1, h2⟩ := R.toks id n e hk
    refine ⟨x, h1, fun b' C' hx => ?_⟩
    have hb' := h2 b' C' hx
    obtain ⟨pre, hp⟩ := hb'.fro
    exact hb'.keep rfl (hold b' pre hp)

/-- what grows: a new block, or more cells of the old one -/
def Loc.ext (ρ : Loc) (b : Nat) (pre : List Value) (id n : Nat) (C : Nat) : Loc :=
  { ρ with fro := fun k => if k = b then some pre else ρ.fro k, tau := fun i m => if i = id ∧ m = n then some (some (b, C)) else ρ.tau i m }

theorem HRel.tokLt (R : HRel P B0 W0 ρ h w) {id n : Nat} {e : TypeId} (hk : h.k.get id = some (n, e)) : id < h.m := by
  obtain ⟨x, h1, _⟩ := R.toks id n e hk
  rcases Nat.lt_or_ge id h.m with hl | hl
  · exact hl
  · rw [R.mdom id n hl] at h1; cases h1

theorem Loc.le_ext {b : Nat} {pre : List Value} {id n C : Nat} (hf : ρ.fro b = none ∨ ∃ p more, ρ.fro b = some p ∧ pre = p ++ more) (ht : ρ.tau id n = none) : ρ.le (ρ.ext b pre id n C) := by
  refine ⟨fun _ _ h => h, fun k p hp => ?_, fun i m x hx => ?_⟩
  · show ∃ more, (if k = b then some pre else ρ.fro k) = some (p ++ more)
    by_cases e : k = b
    · subst e
      rcases hf with hf | ⟨p', more, h1, h2⟩
      · rw [hf] at hp; cases hp
      · rw [hp] at h1; cases h1
        exact ⟨more, by simp [h2]⟩
    · exact ⟨[], by simp [e, hp]⟩
  · show (if i = id ∧ m = n then some (some (b, C)) else ρ.tau i m) = some x
    rw [if_neg]
    · exact hx
    · rintro ⟨rfl, rfl⟩; rw [ht] at hx; cases hx

/-- The cells of block b from some place on, which nobody knows, are turned; more of them stand for good. -/
theorem HRel.tokGrow (R : HRel P B0 W0 ρ h w) {id n n' b C : Nat} {e : TypeId} {w' : World} {pre : List Value} (hk : h.k.get id = some (n, e)) (hlt : n < n')
    (hb : ρ.fro b = none ∧ (∀ id' C' o, h.get id' = some o → ρ id' ≠ some (b, C')) ∧ (∀ i m e' C', h.k.get i = some (m, e') → ρ.tau i m ≠ some (some (b, C'))) ∨ (∃ p more, ρ.fro b = some p ∧ pre = p ++ more) ∧ ρ.tau id n = some (some (b, C)))
    (hB : B0 ≤ b) (hw : Below B0 w w') (hs : w.heap.size ≤ w'.heap.size) (hkeep : ∀ k, k ≠ b → k < w.heap.size → w'.heap[k]? = w.heap[k]?)
    {cs : Array Value} {i : TypeInfo} (hcs : w'.heap[b]? = some (.cells cs e (0, 0))) (hi : P.info? e = some i) (hsz : cs.size = C * i.size) (hpre : ∃ more, cs.toList = pre ++ more) (hpl : pre.length = n' * i.size) :
    ρ.le (ρ.ext b pre id n' C) ∧ HRel P B0 W0 (ρ.ext b pre id n' C) (h.tok id n' e) w' := by
  have hnone : ρ.tau id n' = none := R.tnew id n e hk n' hlt
  have hle : ρ.le (ρ.ext b pre id n' C) := Loc.le_ext (by rcases hb with ⟨h1, _⟩ | ⟨h1, _⟩; exact .inl h1; exact .inr h1) hnone
  have hnot : ∀ id' C' o, h.get id' = some o → ρ id' ≠ some (b, C') := by
    rcases hb with ⟨_, h1, _⟩ | ⟨⟨p, more, h1, _⟩, _⟩
    · exact h1
    · exact R.free b p h1
  have hfro : ∀ k, (ρ.ext b pre id n' C).fro k = if k = b then some pre else ρ.fro k := fun _ => rfl
  have htau : ∀ i m, (ρ.ext b pre id n' C).tau i m = if i = id ∧ m = n' then some (some (b, C)) else ρ.tau i m := fun _ _ => rfl
  have hget : ∀ j m e', (h.tok id n' e).k.get j = some (m, e') → (j = id ∧ m = n' ∧ e' = e) ∨ (j ≠ id ∧ h.k.get j = some (m, e')) := by
    intro j m e' hj
    rcases T.get_set _ _ _ _ hj with ⟨a, b⟩ | ⟨a, b⟩
    · cases b; exact .inl ⟨a, rfl, rfl⟩
    · exact .inr ⟨a, b⟩
  have htb : TokB P B0 (ρ.ext b pre id n' C) w' n' e b C := ⟨hB, cs, i, pre, hcs, hi, hsz, by simp [hfro], hpl⟩
  refine ⟨hle, R.below.trans hw, Nat.le_trans R.base hs, R.dom, fun j b' C' hb' => ?_, R.inj, fun j o hg => ?_, fun k p hp => ?_, fun k p hp j C' o hg => ?_, fun k hk' => ?_, fun j m hm => ?_, fun j m e' hj => ?_, fun j m e' hj m' hm' => ?_, ?_⟩
  · have := R.lo j b' C' hb'; exact ⟨this.1, Nat.lt_of_lt_of_le this.2 hs⟩
  · obtain ⟨b', C', hb', r⟩ := R.objs _ _ hg
    refine ⟨b', C', hb', ?_⟩
    rw [hkeep b' (fun e => hnot j C' o hg (e ▸ hb')) (R.lo _ _ _ hb').2]
    exact r.mono hle
  · rw [hfro] at hp
    split at hp
    · rename_i e'; subst e'; cases hp; exact ⟨cs, e, _, hcs, hpre⟩
    · rename_i hne
      obtain ⟨cs', e', m', h1, h2⟩ := R.fz k p hp
      exact ⟨cs', e', m', by rw [hkeep k hne (FzOK.lt R.fz hp)]; exact h1, h2⟩
  · rw [hfro] at hp
    split at hp
    · rename_i e'; subst e'; exact hnot j C' o hg
    · exact R.free k p hp j C' o hg
  · rw [hfro, if_neg (by omega)]; exact R.fz0 k hk'
  · have hlt := R.tokLt hk
    have hm' : h.m ≤ j := hm
    rw [htau, if_neg (by omega)]; exact R.mdom j m hm
  · rcases hget j m e' hj with ⟨rfl, rfl, rfl⟩ | ⟨hne, hj⟩
    · exact ⟨some (b, C), by simp [htau], fun b' C' hx => by cases hx; exact htb⟩
    · obtain ⟨x, h1, h2⟩ := R.toks j m e' hj
      refine ⟨x, by rw [htau, if_neg (by omega)]; exact h1, fun b' C' hx => ?_⟩
      have hb' := h2 b' C' hx
      obtain ⟨p, hp⟩ := hb'.fro
      have hbb : b' ≠ b := by
        rintro rfl
        subst hx
        rcases hb with ⟨_, _, h3⟩ | ⟨_, h3⟩
        · exact h3 _ _ _ _ hj h1
        · exact hne (R.tinj _ _ _ _ _ _ _ _ _ hj hk h1 h3)
      exact hb'.keep (by simp [hfro, hbb]) (hkeep _ hbb (FzOK.lt R.fz hp))
  · rcases hget j m e' hj with ⟨rfl, rfl, rfl⟩ | ⟨hne, hj⟩
    · rw [htau, if_neg (by omega)]; exact R.tnew _ _ _ hk _ (by omega)
    · rw [htau, if_neg (by omega)]; exact R.tnew _ _ _ hj _ hm'
  · intro i1 m1 e1 i2 m2 e2 b' C1 C2 h1 h2 t1 t2
    rcases hget _ _ _ h1 with ⟨rfl, rfl, rfl⟩ | ⟨hne1, g1⟩ <;> rcases hget _ _ _ h2 with ⟨rfl, rfl, rfl⟩ | ⟨hne2, g2⟩
    · rfl
    · rw [htau, if_pos ⟨rfl, rfl⟩] at t1; cases t1
      rw [htau, if_neg (by omega)] at t2
      rcases hb with ⟨_, _, h3⟩ | ⟨_, h3⟩
      · exact absurd t2 (h3 _ _ _ _ g2)
      · exact R.tinj _ _ _ _ _ _ _ _ _ hk g2 h3 t2
    · rw [htau, if_pos ⟨rfl, rfl⟩] at t2; cases t2
      rw [htau, if_neg (by omega)] at t1
      rcases hb with ⟨_, _, h3⟩ | ⟨_, h3⟩
      · exact absurd t1 (h3 _ _ _ _ g1)
      · exact R.tinj _ _ _ _ _ _ _ _ _ g1 hk t1 h3
    · rw [htau, if_neg (by omega)] at t1 t2
      exact R.tinj _ _ _ _ _ _ _ _ _ g1 g2 t1 t2

theorem HRel.drew (R : HRel P B0 W0 ρ h w) : HRel P B0 W0 ρ h { w with drawn := w.drawn + 1 } := R.grow ((Below.refl _ _).drew)
end
end Go.Ev
