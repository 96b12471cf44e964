import Derived.Test.YtdbjdkkgpnkiaaaGreatDoorEv
import Derived.Below
import Derived.Laws.Entries
import Derived.Laws.Cells
import Derived.Laws.NewFold
set_option linter.unusedSimpArgs false
set_option linter.unusedVariables false
namespace Go.Ev
open Go.RowKit

/-- own: the blocks of the objects; fro: what stands for good at the head of a block; tau: the block of a slice that grows, for each length -/
structure Loc where
  own : Nat → Option (Nat × Nat)
  fro : Nat → Option (List Value)
  tau : Nat → Nat → Option (Option (Nat × Nat))
instance : CoeFun Loc fun _ => Nat → Option (Nat × Nat) := ⟨Loc.own⟩
def Loc.nil : Loc := ⟨fun _ => none, fun _ => none, fun _ _ => none⟩
def Loc.fz (ρ : Loc) : Loc := ⟨fun _ => none, ρ.fro, fun _ _ => none⟩
structure Loc.le (ρ ρ' : Loc) : Prop where
  own : ∀ id x, ρ id = some x → ρ' id = some x
  fro : ∀ b pre, ρ.fro b = some pre → ∃ more, ρ'.fro b = some (pre ++ more)
  tau : ∀ id n x, ρ.tau id n = some x → ρ'.tau id n = some x
theorem Loc.le_refl (ρ : Loc) : ρ.le ρ := ⟨fun _ _ h => h, fun _ pre h => ⟨[], by simpa using h⟩, fun _ _ _ h => h⟩
theorem Loc.le_trans {a b c : Loc} (h : a.le b) (k : b.le c) : a.le c :=
  ⟨fun i x e => k.own i x (h.own i x e), fun i pre e => by
    obtain ⟨m1, e1⟩ := h.fro i pre e
    obtain ⟨m2, e2⟩ := k.fro i _ e1
    exact ⟨m1 ++ m2, by rw [e2, List.append_assoc]⟩, fun i n x e => k.tau i n x (h.tau i n x e)⟩
theorem Loc.le.fz {a b : Loc} (h : a.le b) : a.fz.le b.fz := ⟨fun _ _ e => (by cases e), h.fro, fun _ _ _ e => (by cases e)⟩
theorem Loc.fz_le (a : Loc) : a.fz.le a := ⟨fun _ _ e => (by cases e), fun _ pre e => ⟨[], (by rw [List.append_nil]; exact e)⟩, fun _ _ _ e => (by cases e)⟩
@[simp] theorem Loc.fz_fz (a : Loc) : a.fz.fz = a.fz := rfl

mutual
inductive VRel : Loc → EVal → Value → Prop
  | unk {ρ : Loc} (k : IntKind) (n : Int) : VRel ρ .unk (.int k n)
  | bool {ρ : Loc} (b : Bool) : VRel ρ (.bool b) (.bool b)
  | int {ρ : Loc} (k : IntKind) (n : Int) : VRel ρ (.int k n) (.int k n)
  | str {ρ : Loc} (l : List Nat) (s : ByteArray) (h : s.data.toList.map UInt8.toNat = l) : VRel ρ (.str l) (.string s)
  | nilp {ρ : Loc} : VRel ρ .nilp (.pointer none)
  | gptr {ρ : Loc} (g o : Nat) : VRel ρ (.gptr g o) (.pointer (some ⟨g, o, none⟩))
  | ptr {ρ : Loc} (id o b C : Nat) (h : ρ id = some (b, C)) : VRel ρ (.ptr id o) (.pointer (some ⟨b, o, none⟩))
  | nilslice {ρ : Loc} : VRel ρ .nilslice (.slice none 0 0)
  | slice {ρ : Loc} (id o n c b C : Nat) (h : ρ id = some (b, C)) : VRel ρ (.slice id o n (.exact c)) (.slice (some ⟨b, o, none⟩) n c)
  | slack {ρ : Loc} (id o n s c b C : Nat) (h : ρ id = some (b, C)) (hc : c + s = C) (hn : n ≤ c) : VRel ρ (.slice id o n (.slack s)) (.slice (some ⟨b, o, none⟩) n c)
  | nilmap {ρ : Loc} : VRel ρ .nilmap (.map none)
  | map {ρ : Loc} (id b C : Nat) (h : ρ id = some (b, C)) : VRel ρ (.map id) (.map (some b))
  | func {ρ : Loc} (f : FuncId) (cs : List EVal) (vs : Array Value) (h : VsRel ρ cs vs.toList) : VRel ρ (.func f cs) (.func (.func f) #[] vs)
  | yieldf {ρ : Loc} (id b C : Nat) (h : ρ id = some (b, C)) : VRel ρ (.yieldf id) (.func (.yield b) #[] #[])
  | nilfunc {ρ : Loc} : VRel ρ .nilfunc .nilFunc
  | iface {ρ : Loc} (t : TypeId) (e : EVal) (v : Value) (h : VRel ρ e v) : VRel ρ (.iface t e) (.iface t v)
  | nilif {ρ : Loc} : VRel ρ .nilif .nilIface
  | agg {ρ : Loc} (l : List EVal) (cs : Array Value) (h : VsRel ρ l cs.toList) : VRel ρ (.agg l) (.agg cs)
  | tup {ρ : Loc} (l : List EVal) (cs : Array Value) (h : VsRel ρ l cs.toList) : VRel ρ (.tup l) (.tuple cs)
  | lsl {ρ : Loc} (els : List (List EVal)) (us : List (List Value)) (b o c sz : Nat) (pre rest : List Value) (hf : ρ.fro b = some pre) (hs : VssRel ρ.fz els us)
      (hw : pre.drop o = us.flatten ++ rest) (ho : o ≤ pre.length) (hz : ∀ u ∈ us, u.length = sz) (hc : els.length ≤ c) : VRel ρ (.lsl els) (.slice (some ⟨b, o, none⟩) els.length c)
  | lsl0 {ρ : Loc} (p : Addr) (c : Nat) : VRel ρ (.lsl []) (.slice (some p) 0 c)
  | lsln {ρ : Loc} : VRel ρ (.lsl []) (.slice none 0 0)
  | lptr {ρ : Loc} (cells : List EVal) (off : Nat) (us : List Value) (b base : Nat) (pre rest : List Value) (hf : ρ.fro b = some pre) (hs : VsRel ρ.fz cells us)
      (hw : pre.drop base = us ++ rest) (ho : base ≤ pre.length) : VRel ρ (.lptr cells off) (.pointer (some ⟨b, base + off, none⟩))
  | gnil {ρ : Loc} (id : Nat) (ht : ρ.tau id 0 = some none) : VRel ρ (.gsl id []) (.slice none 0 0)
  | gsl {ρ : Loc} (id : Nat) (els : List (List EVal)) (us : List (List Value)) (b C sz : Nat) (pre rest : List Value) (ht : ρ.tau id els.length = some (some (b, C)))
      (hf : ρ.fro b = some pre) (hs : VssRel ρ.fz els us) (hw : pre = us.flatten ++ rest) (hz : ∀ u ∈ us, u.length = sz) (hc : els.length ≤ C) :
      VRel ρ (.gsl id els) (.slice (some ⟨b, 0, none⟩) els.length C)
inductive VsRel : Loc → List EVal → List Value → Prop
  | nil {ρ : Loc} : VsRel ρ [] []
  | cons {ρ : Loc} (e : EVal) (v : Value) (es : List EVal) (vs : List Value) (h : VRel ρ e v) (hs : VsRel ρ es vs) : VsRel ρ (e :: es) (v :: vs)
inductive VssRel : Loc → List (List EVal) → List (List Value) → Prop
  | nil {ρ : Loc} : VssRel ρ [] []
  | cons {ρ : Loc} (e : List EVal) (v : List Value) (es : List (List EVal)) (vs : List (List Value)) (h : VsRel ρ e v) (hs : VssRel ρ es vs) : VssRel ρ (e :: es) (v :: vs)
end

theorem drop_more {α : Type} {pre more a rest : List α} {o : Nat} (h : pre.drop o = a ++ rest) (ho : o ≤ pre.length) : (pre ++ more).drop o = a ++ (rest ++ more) := by
  rw [List.drop_append_of_le_length ho, h, List.append_assoc]

mutual
theorem VRel.mono {ρ ρ' : Loc} (hl : ρ.le ρ') : ∀ {e : EVal} {v : Value}, VRel ρ e v → VRel ρ' e v
  | _, _, .unk k n => .unk k n
  | _, _, .bool b => .bool b
  | _, _, .int k n => .int k n
  | _, _, .str l s h => .str l s h
  | _, _, .nilp => .nilp
  | _, _, .gptr g o => .gptr g o
  | _, _, .ptr id o b C h => .ptr id o b C (hl.own _ _ h)
  | _, _, .nilslice => .nilslice
  | _, _, .slice id o n c b C h => .slice id o n c b C (hl.own _ _ h)
  | _, _, .slack id o n s c b C h hc hn => .slack id o n s c b C (hl.own _ _ h) hc hn
  | _, _, .nilmap => .nilmap
  | _, _, .map id b C h => .map id b C (hl.own _ _ h)
  | _, _, .func f cs vs h => .func f cs vs (VsRel.mono hl h)
  | _, _, .yieldf id b C h => .yieldf id b C (hl.own _ _ h)
  | _, _, .nilfunc => .nilfunc
  | _, _, .iface t e v h => .iface t e v (VRel.mono hl h)
  | _, _, .nilif => .nilif
  | _, _, .agg l cs h => .agg l cs (VsRel.mono hl h)
  | _, _, .tup l cs h => .tup l cs (VsRel.mono hl h)
  | _, _, .lsl els us b o c sz pre rest hf hs hw ho hz hc => by
    obtain ⟨more, hf'⟩ := hl.fro _ _ hf
    exact .lsl els us b o c sz _ _ hf' (VssRel.mono hl.fz hs) (drop_more hw ho) (by simp; omega) hz hc
  | _, _, .lsl0 p c => .lsl0 p c
  | _, _, .lsln => .lsln
  | _, _, .lptr cells off us b base pre rest hf hs hw ho => by
    obtain ⟨more, hf'⟩ := hl.fro _ _ hf
    exact .lptr cells off us b base _ _ hf' (VsRel.mono hl.fz hs) (drop_more hw ho) (by simp; omega)
  | _, _, .gnil id ht => .gnil id (hl.tau _ _ _ ht)
  | _, _, .gsl id els us b C sz pre rest ht hf hs hw hz hc => by
    obtain ⟨more, hf'⟩ := hl.fro _ _ hf
    exact .gsl id els us b C sz _ (rest ++ more) (hl.tau _ _ _ ht) hf' (VssRel.mono hl.fz hs) (by rw [hw, List.append_assoc]) hz hc
theorem VsRel.mono {ρ ρ' : Loc} (hl : ρ.le ρ') : ∀ {es : List EVal} {vs : List Value}, VsRel ρ es vs → VsRel ρ' es vs
  | _, _, .nil => .nil
  | _, _, .cons e v es vs h hs => .cons e v es vs (VRel.mono hl h) (VsRel.mono hl hs)
theorem VssRel.mono {ρ ρ' : Loc} (hl : ρ.le ρ') : ∀ {es : List (List EVal)} {vs : List (List Value)}, VssRel ρ es vs → VssRel ρ' es vs
  | _, _, .nil => .nil
  | _, _, .cons e v es vs h hs => .cons e v es vs (VsRel.mono hl h) (VssRel.mono hl hs)
end

theorem VssRel.length {ρ : Loc} {es : List (List EVal)} {vs : List (List Value)} (h : VssRel ρ es vs) : es.length = vs.length := by
  induction es generalizing vs with
  | nil => cases h; rfl
  | cons e es ih => cases h with | cons _ v _ vs h hs => simp [ih hs]

theorem VsRel.length {ρ : Loc} {es : List EVal} {vs : List Value} (h : VsRel ρ es vs) : es.length = vs.length := by
  induction es generalizing vs with
  | nil => cases h; rfl
  | cons e es ih => cases h with | cons _ v _ vs h hs => simp [ih hs]

theorem VRel.unG {ρ : Loc} {id : Nat} {els : List (List EVal)} {v : Value} (h : VRel ρ (.gsl id els) v) : VRel ρ (.lsl els) v := by
  cases h with
  | gnil _ ht => exact .lsln
  | gsl _ _ us b C sz pre rest ht hf hs hw hz hc => exact .lsl els us b 0 C sz pre rest hf hs (by simpa using hw) (Nat.zero_le _) hz hc

theorem VssRel.take {ρ : Loc} {a : List (List EVal)} {u : List (List Value)} (h : VssRel ρ a u) (n : Nat) : VssRel ρ (a.take n) (u.take n) := by
  induction a generalizing u n with
  | nil => cases h; simp; exact .nil
  | cons e es ih =>
    cases h with
    | cons _ v _ vs h hs =>
      cases n with
      | zero => simp; exact .nil
      | succ n => simp only [List.take_succ_cons]; exact .cons _ _ _ _ h (ih hs n)

theorem VssRel.drop {ρ : Loc} {a : List (List EVal)} {u : List (List Value)} (h : VssRel ρ a u) (n : Nat) : VssRel ρ (a.drop n) (u.drop n) := by
  induction a generalizing u n with
  | nil => cases h; simp; exact .nil
  | cons e es ih =>
    cases h with
    | cons _ v _ vs h hs =>
      cases n with
      | zero => exact .cons _ _ _ _ h hs
      | succ n => simp only [List.drop_succ_cons]; exact ih hs n

theorem VssRel.get {ρ : Loc} {a : List (List EVal)} {u : List (List Value)} (h : VssRel ρ a u) {i : Nat} {e : List EVal} (he : a[i]? = some e) : ∃ v, u[i]? = some v ∧ VsRel ρ e v := by
  induction a generalizing u i with
  | nil => simp at he
  | cons e' es ih =>
    cases h with
    | cons _ v _ vs h hs =>
      cases i with
      | zero => simp at he; subst he; exact ⟨v, by simp, h⟩
      | succ i => simp at he ⊢; exact ih hs he

theorem drop_flatten {α : Type} {sz : Nat} : ∀ (us : List (List α)) (n : Nat), (∀ u ∈ us, u.length = sz) → us.flatten.drop (n * sz) = (us.drop n).flatten
  | [], n, _ => by simp
  | u :: us, 0, _ => by simp
  | u :: us, n + 1, h => by
    have h1 := h u (by simp)
    rw [List.flatten_cons, List.drop_succ_cons, ← drop_flatten us n (fun x hx => h x (by simp [hx])), List.drop_append, h1]
    have : (n + 1) * sz - sz = n * sz := by rw [Nat.succ_mul]; omega
    rw [this, List.drop_eq_nil_of_le (by rw [h1, Nat.succ_mul]; omega), List.nil_append]

theorem flatten_len {α : Type} {sz : Nat} : ∀ us : List (List α), (∀ u ∈ us, u.length = sz) → us.flatten.length = us.length * sz := by
  intro us
  induction us with
  | nil => simp
  | cons u us ih => intro h; rw [List.flatten_cons, List.length_append, ih (fun x hx => h x (by simp [hx])), h u (by simp), List.length_cons, Nat.succ_mul]; omega

theorem VRel.sub {ρ : Loc} {els : List (List EVal)} {us : List (List Value)} {b o sz : Nat} {pre rest : List Value} (hf : ρ.fro b = some pre) (hs : VssRel ρ.fz els us)
    (hw : pre.drop o = us.flatten ++ rest) (ho : o ≤ pre.length) (hz : ∀ u ∈ us, u.length = sz) {lo hi c : Nat} (h1 : lo ≤ hi) (h2 : hi ≤ els.length) (hc : hi - lo ≤ c) :
    VRel ρ (.lsl ((els.take hi).drop lo)) (.slice (some ⟨b, o + lo * sz, none⟩) (hi - lo) c) := by
  have hl := VssRel.length hs
  have hlen : ((els.take hi).drop lo).length = hi - lo := by simp; omega
  have hfl : us.flatten.length = us.length * sz := by
    have : ∀ us : List (List Value), (∀ u ∈ us, u.length = sz) → us.flatten.length = us.length * sz := by
      intro us
      induction us with
      | nil => simp
      | cons u us ih => intro h; rw [List.flatten_cons, List.length_append, ih (fun x hx => h x (by simp [hx])), h u (by simp), List.length_cons, Nat.succ_mul]; omega
    exact this us hz
  have hpl : (pre.drop o).length = us.length * sz + rest.length := by rw [hw, List.length_append, hfl]
  have hlo : lo * sz ≤ us.length * sz := Nat.mul_le_mul_right _ (by omega)
  have := VRel.lsl (ρ := ρ) ((els.take hi).drop lo) ((us.take hi).drop lo) b (o + lo * sz) c sz pre (((us.drop hi).flatten) ++ rest) hf ((hs.take hi).drop lo)
    (by
      rw [← List.drop_drop, hw, List.drop_append_of_le_length (by rw [hfl]; exact hlo), drop_flatten us lo hz, ← List.append_assoc, ← List.flatten_append]
      congr 2
      have e : us.drop lo = (us.drop lo).take (hi - lo) ++ us.drop hi := by
        conv => lhs; rw [← List.take_append_drop (hi - lo) (us.drop lo)]
        rw [List.drop_drop, show lo + (hi - lo) = hi by omega]
      rw [List.drop_take]; exact e)
    (by rw [List.length_drop] at hpl; omega)
    (fun u hu => hz u (List.mem_of_mem_take (List.mem_of_mem_drop hu))) (by rw [hlen]; exact hc)
  rw [hlen] at this
  exact this

theorem VssRel.lens {ρ : Loc} {els : List (List EVal)} {us : List (List Value)} (hs : VssRel ρ els us) {sz sz' : Nat} (hz : ∀ u ∈ us, u.length = sz) (hl : lensOK sz' els = true) : els = [] ∨ sz' = sz := by
  cases hs with
  | nil => exact .inl rfl
  | cons e v es vs h _ =>
    right
    have h1 := hz v (by simp)
    have h2 : e.length = sz' := by simp [lensOK] at hl; exact hl.1
    have h3 : e.length = v.length := by
      clear h1 h2 hl hz
      induction e generalizing v with
      | nil => cases h; rfl
      | cons a as ih => cases h with | cons _ x _ xs _ hs => simp [ih xs hs]
    omega

theorem VsRel.get {ρ : Loc} {es : List EVal} {vs : List Value} (h : VsRel ρ es vs) {i : Nat} {e : EVal} (he : es[i]? = some e) :
    ∃ v, vs[i]? = some v ∧ VRel ρ e v := by
  induction es generalizing vs i with
  | nil => simp at he
  | cons e' es ih =>
    cases h with
    | cons _ v _ vs h hs =>
      cases i with
      | zero => simp at he; subst he; exact ⟨v, by simp, h⟩
      | succ i => simp at he ⊢; exact ih hs he

theorem VsRel.of_get {ρ : Loc} {es : List EVal} {vs : List Value} (hl : es.length = vs.length)
    (h : ∀ (i : Nat) (e : EVal) (v : Value), es[i]? = some e → vs[i]? = some v → VRel ρ e v) : VsRel ρ es vs := by
  induction es generalizing vs with
  | nil => cases vs with
    | nil => exact .nil
    | cons => simp at hl
  | cons e es ih =>
    cases vs with
    | nil => simp at hl
    | cons v vs =>
      refine .cons _ _ _ _ (h 0 e v (by simp) (by simp)) (ih (by simpa using hl) fun i e v he hv => h (i + 1) e v (by simpa using he) (by simpa using hv))

theorem VsRel.get2 {ρ : Loc} {es : List EVal} {vs : List Value} (h : VsRel ρ es vs) {i : Nat} {e : EVal} {v : Value} (he : es[i]? = some e) (hv : vs[i]? = some v) : VRel ρ e v := by
  obtain ⟨u, hu, r⟩ := h.get he
  rw [hu] at hv; cases hv; exact r

theorem VsRel.append {ρ : Loc} {a b : List EVal} {u v : List Value} (h : VsRel ρ a u) (k : VsRel ρ b v) : VsRel ρ (a ++ b) (u ++ v) := by
  induction a generalizing u with
  | nil => cases h; exact k
  | cons e es ih => cases h with | cons _ x _ vs h hs => exact .cons _ _ _ _ h (ih hs)

theorem VsRel.take {ρ : Loc} {a : List EVal} {u : List Value} (h : VsRel ρ a u) (n : Nat) : VsRel ρ (a.take n) (u.take n) := by
  refine .of_get (by simp [h.length]) fun i e v he hv => ?_
  rw [List.getElem?_take] at he hv
  by_cases hi : i < n
  · simp only [hi, if_true] at he hv; exact h.get2 he hv
  · simp [hi] at he

theorem VsRel.drop {ρ : Loc} {a : List EVal} {u : List Value} (h : VsRel ρ a u) (n : Nat) : VsRel ρ (a.drop n) (u.drop n) := by
  refine .of_get (by simp [h.length]) fun i e v he hv => ?_
  rw [List.getElem?_drop] at he hv
  exact h.get2 he hv

theorem VsRel.set {ρ : Loc} {a : List EVal} {u : List Value} (h : VsRel ρ a u) (n : Nat) {e : EVal} {v : Value} (r : VRel ρ e v) : VsRel ρ (a.set n e) (u.set n v) := by
  refine .of_get (by simp [h.length]) fun i e' v' he hv => ?_
  rw [List.getElem?_set] at he hv
  split at he
  · rename_i hi
    simp only [hi, if_true] at hv
    split at he
    · cases he
      split at hv
      · cases hv; exact r
      · simp at hv
    · simp at he
  · rename_i hi
    simp only [hi, if_false] at hv
    exact h.get2 he hv

theorem VRel.cells {ρ : Loc} {e : EVal} {v : Value} (h : VRel ρ e v) : VsRel ρ e.cells v.cells.toList := by
  cases h with
  | agg l cs h => exact h
  | _ => exact .cons _ _ _ _ (by constructor <;> assumption) .nil

/-! tries -/
theorem T.get_set {α : Type} (t : T α) (i : Nat) (x : Option α) (j : Nat) {e : α} (h : (t.set i x).get j = some e) :
    (j = i ∧ x = some e) ∨ (j ≠ i ∧ t.get j = some e) := by
  induction t generalizing i j with
  | nil => simp [T.set, T.get] at h
  | node v l r hl hr =>
    have hg : ∀ (v : Option α) (l r : T α), T.get (.node v l r) j = bif Nat.beq j 0 then v else bif Nat.beq (Nat.mod j 2) 1 then T.get l (Nat.div j 2) else T.get r (Nat.pred (Nat.div j 2)) := fun _ _ _ => rfl
    have hs : T.set (.node v l r) i x = bif Nat.beq i 0 then .node x l r else bif Nat.beq (Nat.mod i 2) 1 then .node v (T.set l (Nat.div i 2) x) r else .node v l (T.set r (Nat.pred (Nat.div i 2)) x) := rfl
    have hd : ∀ a, Nat.div a 2 = a / 2 := fun _ => rfl
    have hm : ∀ a, Nat.mod a 2 = a % 2 := fun _ => rfl
    rw [hs] at h
    rw [hg]
    simp only [Nat.beq_eq, Bool.cond_eq_ite, hd, hm] at h ⊢
    by_cases hi : i = 0
    · subst hi
      simp only [if_true] at h
      rw [hg] at h
      simp only [Nat.beq_eq, Bool.cond_eq_ite, hd, hm] at h
      by_cases hj : j = 0
      · simp only [hj, if_true] at h; exact .inl ⟨hj, h⟩
      · simp only [hj, if_false] at h ⊢; exact .inr ⟨hj, h⟩
    · simp only [hi, if_false] at h
      by_cases hi2 : i % 2 = 1
      · simp only [hi2, if_true] at h
        rw [hg] at h
        simp only [Nat.beq_eq, Bool.cond_eq_ite, hd, hm] at h
        by_cases hj : j = 0
        · simp only [hj, if_true] at h ⊢; exact .inr ⟨by omega, h⟩
        · simp only [hj, if_false] at h ⊢
          by_cases hj2 : j % 2 = 1
          · simp only [hj2, if_true] at h ⊢
            rcases hl _ _ h with ⟨a, b⟩ | ⟨a, b⟩
            · exact .inl ⟨by omega, b⟩
            · exact .inr ⟨by omega, b⟩
          · simp only [hj2, if_false] at h ⊢
            exact .inr ⟨by omega, h⟩
      · simp only [hi2, if_false] at h
        rw [hg] at h
        simp only [Nat.beq_eq, Bool.cond_eq_ite, hd, hm] at h
        by_cases hj : j = 0
        · simp only [hj, if_true] at h ⊢; exact .inr ⟨by omega, h⟩
        · simp only [hj, if_false] at h ⊢
          by_cases hj2 : j % 2 = 1
          · simp only [hj2, if_true] at h ⊢
            exact .inr ⟨by omega, h⟩
          · simp only [hj2, if_false] at h ⊢
            rcases hr _ _ h with ⟨a, b⟩ | ⟨a, b⟩
            · exact .inl ⟨by simp only [Nat.pred_eq_sub_one] at a; omega, b⟩
            · exact .inr ⟨by simp only [Nat.pred_eq_sub_one] at a; intro e; subst e; exact a rfl, b⟩

theorem T.get_full {α : Type} (x : Option α) (n i : Nat) {e : α} (h : (T.full x n).get i = some e) : x = some e := by
  induction n generalizing i with
  | zero => simp [T.full, T.get] at h
  | succ n ih =>
    have hg : T.get (.node x (T.full x n) (T.full x n)) i = bif Nat.beq i 0 then x else bif Nat.beq (Nat.mod i 2) 1 then T.get (T.full x n) (Nat.div i 2) else T.get (T.full x n) (Nat.pred (Nat.div i 2)) := rfl
    simp only [T.full] at h
    rw [hg] at h
    simp only [Bool.cond_eq_ite] at h
    split at h
    · exact h
    · split at h <;> exact ih _ h
end Go.Ev
