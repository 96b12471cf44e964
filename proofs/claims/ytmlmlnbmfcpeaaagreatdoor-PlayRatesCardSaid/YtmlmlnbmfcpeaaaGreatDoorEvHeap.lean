import Derived.Test.YtmlmlnbmfcpeaaaGreatDoorEvRel
namespace Go.Ev
open Go.RowKit

def TRel (ρ : Loc) (t : T EVal) (tmps : Array Value) : Prop := ∀ i e, t.get i = some e → VRel ρ e (tmps.getD i undef)

inductive MRel (ρ : Loc) : List (EVal × EVal × Nat) → List MapEntry → Prop
  | nil : MRel ρ [] []
  | cons (k v : EVal) (t : Nat) (es : List (EVal × EVal × Nat)) (m : MapEntry) (ms : List MapEntry) (hk : VRel ρ k m.key) (hv : VRel ρ v m.val) (hb : m.born = t)
      (h : MRel ρ es ms) : MRel ρ ((k, v, t) :: es) (m :: ms)

def ORel (P : Program) (ρ : Loc) : EObj → Nat → Option Obj → Prop
  | .row cells e lo hi sl, C, x => ∃ cs : Array Value, x = some (.cells cs e (lo, hi)) ∧ VsRel ρ cells (cs.toList.take cells.length) ∧
      (sl = false → cs.size = cells.length) ∧ (sl = true → ∃ i, P.info? e = some i ∧ cs.size = C * i.size)
  | .map es clock, _, x => ∃ m : Array MapEntry, x = some (.map m clock) ∧ MRel ρ es m.toList
  | .miter m since seen stepped, _, x => ∃ b C, ρ m = some (b, C) ∧ x = some (.mapIter (some b) since seen.toArray stepped)
  | .iter l pos, _, x => ∃ s : ByteArray, s.data.toList.map UInt8.toNat = l ∧ x = some (.stringIter s pos)
  | .loop st pend sz t ps a b _, _, x => ∃ L : Loop, x = some (.loop L) ∧ L.state = st ∧ L.pending = pend ∧ L.tmps.size = sz ∧ TRel ρ t L.tmps ∧
      L.params.toList = ps ∧ L.assign = a ∧ L.body = b
  | .deferred tk, _, x => x = some (.deferred (if tk then none else some []))

theorem TRel.mono {ρ ρ' : Loc} (hl : ρ.le ρ') {t : T EVal} {tmps : Array Value} (h : TRel ρ t tmps) : TRel ρ' t tmps := fun i e he => (h i e he).mono hl

theorem MRel.mono {ρ ρ' : Loc} (hl : ρ.le ρ') {es : List (EVal × EVal × Nat)} {ms : List MapEntry} (h : MRel ρ es ms) : MRel ρ' es ms := by
  induction h with
  | nil => exact .nil
  | cons k v t es m ms hk hv hb h ih => exact .cons k v t es m ms (hk.mono hl) (hv.mono hl) hb ih

theorem ORel.mono {P : Program} {ρ ρ' : Loc} (hl : ρ.le ρ') {o : EObj} {C : Nat} {x : Option Obj} (h : ORel P ρ o C x) : ORel P ρ' o C x := by
  cases o with
  | row cells e lo hi sl => obtain ⟨cs, h1, h2, h3, h4⟩ := h; exact ⟨cs, h1, h2.mono hl, h3, h4⟩
  | map es clock => obtain ⟨m, h1, h2⟩ := h; exact ⟨m, h1, h2.mono hl⟩
  | miter m since seen stepped => obtain ⟨b, C, h1, h2⟩ := h; exact ⟨b, C, hl _ _ h1, h2⟩
  | iter l pos => exact h
  | loop st pend sz t ps a b d => obtain ⟨L, h1, h2, h3, h4, h5, h6⟩ := h; exact ⟨L, h1, h2, h3, h4, h5.mono hl, h6⟩
  | deferred tk => exact h

structure HRel (P : Program) (B0 : Nat) (W0 : World) (ρ : Loc) (h : H) (w : World) : Prop where
  below : Below B0 W0 w
  base : B0 ≤ w.heap.size
  dom : ∀ id, h.n ≤ id → ρ id = none
  lo : ∀ id b C, ρ id = some (b, C) → B0 ≤ b ∧ b < w.heap.size
  inj : ∀ id id' o o' b C C', h.get id = some o → h.get id' = some o' → ρ id = some (b, C) → ρ id' = some (b, C') → id = id'
  objs : ∀ id o, h.get id = some o → ∃ b C, ρ id = some (b, C) ∧ ORel P ρ o C w.heap[b]?

def Loc.add (ρ : Loc) (n : Nat) (x : Nat × Nat) : Loc := fun id => if id = n then some x else ρ id

theorem Loc.le_add {ρ : Loc} {n : Nat} {x : Nat × Nat} (h : ρ n = none) : ρ.le (ρ.add n x) := by
  intro id y hy
  unfold Loc.add
  split
  · rename_i e; subst e; rw [h] at hy; cases hy
  · exact hy

theorem Loc.add_self (ρ : Loc) (n : Nat) (x : Nat × Nat) : ρ.add n x n = some x := by simp [Loc.add]

theorem H.get_new {h : H} {o : EObj} {j : Nat} {e : EObj} (hg : (h.new o).get j = some e) : (j = h.n ∧ e = o) ∨ (j ≠ h.n ∧ h.get j = some e) := by
  rcases T.get_set _ _ _ _ hg with ⟨a, b⟩ | ⟨a, b⟩
  · cases b; exact .inl ⟨a, rfl⟩
  · exact .inr ⟨a, b⟩

theorem H.get_put {h : H} {id : Nat} {o : EObj} {j : Nat} {e : EObj} (hg : (h.put id o).get j = some e) : (j = id ∧ e = o) ∨ (j ≠ id ∧ h.get j = some e) := by
  rcases T.get_set _ _ _ _ hg with ⟨a, b⟩ | ⟨a, b⟩
  · cases b; exact .inl ⟨a, rfl⟩
  · exact .inr ⟨a, b⟩

theorem H.get_kill {h : H} {id : Nat} {j : Nat} {e : EObj} (hg : (h.kill id).get j = some e) : j ≠ id ∧ h.get j = some e := by
  rcases T.get_set _ _ _ _ hg with ⟨a, b⟩ | ⟨a, b⟩
  · cases b
  · exact ⟨a, b⟩

section
variable {P : Program} {B0 : Nat} {W0 : World} {ρ : Loc} {h : H} {w : World}

theorem HRel.fresh (R : HRel P B0 W0 ρ h w) : ρ h.n = none := R.dom _ (Nat.le_refl _)

theorem HRel.new (R : HRel P B0 W0 ρ h w) (o : EObj) (obj : Obj) (C : Nat) (ho : ORel P (ρ.add h.n (w.heap.size, C)) o C (some obj)) :
    HRel P B0 W0 (ρ.add h.n (w.heap.size, C)) (h.new o) (w.alloc obj) := by
  have hle := Loc.le_add (x := (w.heap.size, C)) R.fresh
  have hsz : (w.alloc obj).heap.size = w.heap.size + 1 := by show (w.heap.push obj).size = _; simp
  refine ⟨R.below.alloc R.base obj, by rw [hsz]; have := R.base; omega, ?_, ?_, ?_, ?_⟩
  · intro id hid
    have : h.n + 1 ≤ id := hid
    unfold Loc.add
    rw [if_neg (by omega)]
    exact R.dom _ (by omega)
  · intro id b C' hb
    unfold Loc.add at hb
    rw [hsz]
    split at hb
    · cases hb; exact ⟨R.base, by omega⟩
    · have := R.lo _ _ _ hb; exact ⟨this.1, by omega⟩
  · intro id id' o1 o2 b C1 C2 h1 h2 r1 r2
    unfold Loc.add at r1 r2
    rcases H.get_new h1 with ⟨a, _⟩ | ⟨a, g1⟩ <;> rcases H.get_new h2 with ⟨c, _⟩ | ⟨c, g2⟩
    · omega
    · simp only [a, if_true] at r1; simp only [c, if_false] at r2
      cases r1; have := R.lo _ _ _ r2; omega
    · simp only [a, if_false] at r1; simp only [c, if_true] at r2
      cases r2; have := R.lo _ _ _ r1; omega
    · simp only [a, if_false] at r1; simp only [c, if_false] at r2
      exact R.inj _ _ _ _ _ _ _ g1 g2 r1 r2
  · intro id o' hg
    rcases H.get_new hg with ⟨a, rfl⟩ | ⟨a, g⟩
    · subst a
      refine ⟨_, _, Loc.add_self _ _ _, ?_⟩
      have : (w.alloc obj).heap[w.heap.size]? = some obj := by show (w.heap.push obj)[w.heap.size]? = _; simp
      rw [this]; exact ho
    · obtain ⟨b, C', hb, r⟩ := R.objs _ _ g
      refine ⟨b, C', hle _ _ hb, ?_⟩
      rw [Below.heap_alloc _ _ _ (R.lo _ _ _ hb).2]
      exact r.mono hle

/-- An object is turned in place. -/
theorem HRel.put (R : HRel P B0 W0 ρ h w) {id b C : Nat} {o o' : EObj} {w' : World} (hg : h.get id = some o) (hb : ρ id = some (b, C))
    (hw : Below B0 w w') (hs : w'.heap.size = w.heap.size) (hk : ∀ k, k ≠ b → w'.heap[k]? = w.heap[k]?) (ho : ORel P ρ o' C w'.heap[b]?) :
    HRel P B0 W0 ρ (h.put id o') w' := by
  refine ⟨R.below.trans hw, by rw [hs]; exact R.base, fun id hid => R.dom id hid, fun id b C hb => by rw [hs]; exact R.lo id b C hb, ?_, ?_⟩
  · intro i j o1 o2 b1 C1 C2 h1 h2 r1 r2
    have e1 : ∃ o, h.get i = some o := by rcases H.get_put h1 with ⟨rfl, _⟩ | ⟨_, g⟩ <;> exact ⟨_, by assumption⟩
    have e2 : ∃ o, h.get j = some o := by rcases H.get_put h2 with ⟨rfl, _⟩ | ⟨_, g⟩ <;> exact ⟨_, by assumption⟩
    obtain ⟨_, e1⟩ := e1; obtain ⟨_, e2⟩ := e2
    exact R.inj _ _ _ _ _ _ _ e1 e2 r1 r2
  · intro j o1 h1
    rcases H.get_put h1 with ⟨rfl, rfl⟩ | ⟨hne, g⟩
    · exact ⟨b, C, hb, ho⟩
    · obtain ⟨b1, C1, hb1, r⟩ := R.objs _ _ g
      refine ⟨b1, C1, hb1, ?_⟩
      have hbb : b1 ≠ b := fun e => hne (R.inj _ _ _ _ _ _ _ g hg hb1 (e ▸ hb))
      rw [hk _ hbb]; exact r

/-- Objects may be turned where nothing is known of them: a dead block's place is taken up under a new number. -/
theorem HRel.renew (R : HRel P B0 W0 ρ h w) {id b C : Nat} {o o' : EObj} {w' : World} (hg : h.get id = some o) (hb : ρ id = some (b, C))
    (hw : Below B0 w w') (hs : w'.heap.size = w.heap.size) (hk : ∀ k, k ≠ b → w'.heap[k]? = w.heap[k]?) (ho : ORel P (ρ.add h.n (b, C)) o' C w'.heap[b]?) :
    HRel P B0 W0 (ρ.add h.n (b, C)) ((h.kill id).new o') w' := by
  have hle := Loc.le_add (x := (b, C)) R.fresh
  have hn : (h.kill id).n = h.n := rfl
  refine ⟨R.below.trans hw, by rw [hs]; exact R.base, ?_, ?_, ?_, ?_⟩
  · intro j hj
    have : h.n + 1 ≤ j := hj
    unfold Loc.add
    rw [if_neg (by omega)]
    exact R.dom _ (by omega)
  · intro j b' C' hb'
    rw [hs]
    unfold Loc.add at hb'
    split at hb'
    · cases hb'; exact R.lo _ _ _ hb
    · exact R.lo _ _ _ hb'
  · intro i j o1 o2 b1 C1 C2 h1 h2 r1 r2
    unfold Loc.add at r1 r2
    rcases H.get_new h1 with ⟨a, _⟩ | ⟨a, g1⟩ <;> rcases H.get_new h2 with ⟨c, _⟩ | ⟨c, g2⟩
    · omega
    · rw [hn] at a c
      simp only [a, if_true] at r1; simp only [c, if_false] at r2
      cases r1
      obtain ⟨g3, g4⟩ := H.get_kill g2
      exact (g3 (R.inj _ _ _ _ _ _ _ g4 hg r2 hb)).elim
    · rw [hn] at a c
      simp only [a, if_false] at r1; simp only [c, if_true] at r2
      cases r2
      obtain ⟨g3, g4⟩ := H.get_kill g1
      exact (g3 (R.inj _ _ _ _ _ _ _ g4 hg r1 hb)).elim
    · rw [hn] at a c
      simp only [a, if_false] at r1; simp only [c, if_false] at r2
      exact R.inj _ _ _ _ _ _ _ (H.get_kill g1).2 (H.get_kill g2).2 r1 r2
  · intro j o1 h1
    rcases H.get_new h1 with ⟨a, rfl⟩ | ⟨a, g⟩
    · rw [hn] at a; subst a
      exact ⟨b, C, Loc.add_self _ _ _, ho⟩
    · obtain ⟨g3, g4⟩ := H.get_kill g
      obtain ⟨b1, C1, hb1, r⟩ := R.objs _ _ g4
      refine ⟨b1, C1, hle _ _ hb1, ?_⟩
      have hbb : b1 ≠ b := fun e => g3 (R.inj _ _ _ _ _ _ _ g4 hg hb1 (e ▸ hb))
      rw [hk _ hbb]; exact r.mono hle

theorem HRel.grow (R : HRel P B0 W0 ρ h w) {w' : World} (hw : Below w.heap.size w w') : HRel P B0 W0 ρ h w' := by
  refine ⟨R.below.trans (hw.mono R.base), Nat.le_trans R.base hw.size, R.dom, fun id b C hb => ?_, R.inj, fun id o hg => ?_⟩
  · have := R.lo id b C hb; exact ⟨this.1, Nat.lt_of_lt_of_le this.2 hw.size⟩
  · obtain ⟨b, C, hb, r⟩ := R.objs _ _ hg
    refine ⟨b, C, hb, ?_⟩
    rw [hw.block _ (R.lo _ _ _ hb).2]; exact r

theorem HRel.drew (R : HRel P B0 W0 ρ h w) : HRel P B0 W0 ρ h { w with drawn := w.drawn + 1 } := R.grow ((Below.refl _ _).drew)
end
end Go.Ev
