import Derived.Test.YtmlmlnbmfcpeaaaGreatDoorEv
import Derived.Below
import Derived.Laws.Entries
import Derived.Laws.Cells
import Derived.Laws.NewFold
namespace Go.Ev
open Go.RowKit

abbrev Loc := Nat → Option (Nat × Nat)
def Loc.le (ρ ρ' : Loc) : Prop := ∀ id x, ρ id = some x → ρ' id = some x
theorem Loc.le_refl (ρ : Loc) : ρ.le ρ := fun _ _ h => h
theorem Loc.le_trans {a b c : Loc} (h : a.le b) (k : b.le c) : a.le c := fun i x e => k i x (h i x e)

mutual
inductive VRel (ρ : Loc) : EVal → Value → Prop
  | unk (k : IntKind) (n : Int) : VRel ρ .unk (.int k n)
  | bool (b : Bool) : VRel ρ (.bool b) (.bool b)
  | int (k : IntKind) (n : Int) : VRel ρ (.int k n) (.int k n)
  | str (l : List Nat) (s : ByteArray) (h : s.data.toList.map UInt8.toNat = l) : VRel ρ (.str l) (.string s)
  | nilp : VRel ρ .nilp (.pointer none)
  | gptr (g o : Nat) : VRel ρ (.gptr g o) (.pointer (some ⟨g, o, none⟩))
  | ptr (id o b C : Nat) (h : ρ id = some (b, C)) : VRel ρ (.ptr id o) (.pointer (some ⟨b, o, none⟩))
  | nilslice : VRel ρ .nilslice (.slice none 0 0)
  | slice (id o n c b C : Nat) (h : ρ id = some (b, C)) : VRel ρ (.slice id o n (.exact c)) (.slice (some ⟨b, o, none⟩) n c)
  | slack (id o n s c b C : Nat) (h : ρ id = some (b, C)) (hc : c + s = C) (hn : n ≤ c) : VRel ρ (.slice id o n (.slack s)) (.slice (some ⟨b, o, none⟩) n c)
  | nilmap : VRel ρ .nilmap (.map none)
  | map (id b C : Nat) (h : ρ id = some (b, C)) : VRel ρ (.map id) (.map (some b))
  | func (f : FuncId) (cs : List EVal) (vs : Array Value) (h : VsRel ρ cs vs.toList) : VRel ρ (.func f cs) (.func (.func f) #[] vs)
  | yieldf (id b C : Nat) (h : ρ id = some (b, C)) : VRel ρ (.yieldf id) (.func (.yield b) #[] #[])
  | nilfunc : VRel ρ .nilfunc .nilFunc
  | iface (t : TypeId) (e : EVal) (v : Value) (h : VRel ρ e v) : VRel ρ (.iface t e) (.iface t v)
  | nilif : VRel ρ .nilif .nilIface
  | agg (l : List EVal) (cs : Array Value) (h : VsRel ρ l cs.toList) : VRel ρ (.agg l) (.agg cs)
  | tup (l : List EVal) (cs : Array Value) (h : VsRel ρ l cs.toList) : VRel ρ (.tup l) (.tuple cs)
inductive VsRel (ρ : Loc) : List EVal → List Value → Prop
  | nil : VsRel ρ [] []
  | cons (e : EVal) (v : Value) (es : List EVal) (vs : List Value) (h : VRel ρ e v) (hs : VsRel ρ es vs) : VsRel ρ (e :: es) (v :: vs)
end

mutual
theorem VRel.mono {ρ ρ' : Loc} (hl : ρ.le ρ') : ∀ {e : EVal} {v : Value}, VRel ρ e v → VRel ρ' e v
  | _, _, .unk k n => .unk k n
  | _, _, .bool b => .bool b
  | _, _, .int k n => .int k n
  | _, _, .str l s h => .str l s h
  | _, _, .nilp => .nilp
  | _, _, .gptr g o => .gptr g o
  | _, _, .ptr id o b C h => .ptr id o b C (hl _ _ h)
  | _, _, .nilslice => .nilslice
  | _, _, .slice id o n c b C h => .slice id o n c b C (hl _ _ h)
  | _, _, .slack id o n s c b C h hc hn => .slack id o n s c b C (hl _ _ h) hc hn
  | _, _, .nilmap => .nilmap
  | _, _, .map id b C h => .map id b C (hl _ _ h)
  | _, _, .func f cs vs h => .func f cs vs (VsRel.mono hl h)
  | _, _, .yieldf id b C h => .yieldf id b C (hl _ _ h)
  | _, _, .nilfunc => .nilfunc
  | _, _, .iface t e v h => .iface t e v (VRel.mono hl h)
  | _, _, .nilif => .nilif
  | _, _, .agg l cs h => .agg l cs (VsRel.mono hl h)
  | _, _, .tup l cs h => .tup l cs (VsRel.mono hl h)
theorem VsRel.mono {ρ ρ' : Loc} (hl : ρ.le ρ') : ∀ {es : List EVal} {vs : List Value}, VsRel ρ es vs → VsRel ρ' es vs
  | _, _, .nil => .nil
  | _, _, .cons e v es vs h hs => .cons e v es vs (VRel.mono hl h) (VsRel.mono hl hs)
end

theorem VsRel.length {ρ : Loc} {es : List EVal} {vs : List Value} (h : VsRel ρ es vs) : es.length = vs.length := by
  induction es generalizing vs with
  | nil => cases h; rfl
  | cons e es ih => cases h with | cons _ v _ vs h hs => simp [ih hs]

theorem VsRel.get {ρ : Loc} {es : List EVal} {vs : List Value} (h : VsRel ρ es vs) {i : Nat} {e : EVal} (he : es[i]? = some e) :
    ∃ v, vs[i]? = some v ∧ VRel ρ e v := by
  induction es generalizing vs i with
  | nil => simp at he
  | cons e' es ih =>
    cases h with
    | cons _ v _ vs h hs =>
      cases i with
      | zero => simp at he; subst he; exact ⟨v, by simp, h⟩
      | succ i => simp at he ⊢; exact ih hs he

theorem VsRel.of_get {ρ : Loc} {es : List EVal} {vs : List Value} (hl : es.length = vs.length)
    (h : ∀ (i : Nat) (e : EVal) (v : Value), es[i]? = some e → vs[i]? = some v → VRel ρ e v) : VsRel ρ es vs := by
  induction es generalizing vs with
  | nil => cases vs with
    | nil => exact .nil
    | cons => simp at hl
  | cons e es ih =>
    cases vs with
    | nil => simp at hl
    | cons v vs =>
      refine .cons _ _ _ _ (h 0 e v (by simp) (by simp)) (ih (by simpa using hl) fun i e v he hv => h (i + 1) e v (by simpa using he) (by simpa using hv))

theorem VsRel.get2 {ρ : Loc} {es : List EVal} {vs : List Value} (h : VsRel ρ es vs) {i : Nat} {e : EVal} {v : Value} (he : es[i]? = some e) (hv : vs[i]? = some v) : VRel ρ e v := by
  obtain ⟨u, hu, r⟩ := h.get he
  rw [hu] at hv; cases hv; exact r

theorem VsRel.append {ρ : Loc} {a b : List EVal} {u v : List Value} (h : VsRel ρ a u) (k : VsRel ρ b v) : VsRel ρ (a ++ b) (u ++ v) := by
  induction a generalizing u with
  | nil => cases h; exact k
  | cons e es ih => cases h with | cons _ x _ vs h hs => exact .cons _ _ _ _ h (ih hs)

theorem VsRel.take {ρ : Loc} {a : List EVal} {u : List Value} (h : VsRel ρ a u) (n : Nat) : VsRel ρ (a.take n) (u.take n) := by
  refine .of_get (by simp [h.length]) fun i e v he hv => ?_
  rw [List.getElem?_take] at he hv
  by_cases hi : i < n
  · simp only [hi, if_true] at he hv; exact h.get2 he hv
  · simp [hi] at he

theorem VsRel.drop {ρ : Loc} {a : List EVal} {u : List Value} (h : VsRel ρ a u) (n : Nat) : VsRel ρ (a.drop n) (u.drop n) := by
  refine .of_get (by simp [h.length]) fun i e v he hv => ?_
  rw [List.getElem?_drop] at he hv
  exact h.get2 he hv

theorem VsRel.set {ρ : Loc} {a : List EVal} {u : List Value} (h : VsRel ρ a u) (n : Nat) {e : EVal} {v : Value} (r : VRel ρ e v) : VsRel ρ (a.set n e) (u.set n v) := by
  refine .of_get (by simp [h.length]) fun i e' v' he hv => ?_
  rw [List.getElem?_set] at he hv
  split at he
  · rename_i hi
    simp only [hi, if_true] at hv
    split at he
    · cases he
      split at hv
      · cases hv; exact r
      · simp at hv
    · simp at he
  · rename_i hi
    simp only [hi, if_false] at hv
    exact h.get2 he hv

theorem VRel.cells {ρ : Loc} {e : EVal} {v : Value} (h : VRel ρ e v) : VsRel ρ e.cells v.cells.toList := by
  cases h with
  | agg l cs h => exact h
  | _ => exact .cons _ _ _ _ (by constructor <;> assumption) .nil

/-! tries -/
theorem T.get_set {α : Type} (t : T α) (i : Nat) (x : Option α) (j : Nat) {e : α} (h : (t.set i x).get j = some e) :
    (j = i ∧ x = some e) ∨ (j ≠ i ∧ t.get j = some e) := by
  induction t generalizing i j with
  | nil => simp [T.set, T.get] at h
  | node v l r hl hr =>
    have hg : ∀ (v : Option α) (l r : T α), T.get (.node v l r) j = bif Nat.beq j 0 then v else bif Nat.beq (Nat.mod j 2) 1 then T.get l (Nat.div j 2) else T.get r (Nat.pred (Nat.div j 2)) := fun _ _ _ => rfl
    have hs : T.set (.node v l r) i x = bif Nat.beq i 0 then .node x l r else bif Nat.beq (Nat.mod i 2) 1 then .node v (T.set l (Nat.div i 2) x) r else .node v l (T.set r (Nat.pred (Nat.div i 2)) x) := rfl
    have hd : ∀ a, Nat.div a 2 = a / 2 := fun _ => rfl
    have hm : ∀ a, Nat.mod a 2 = a % 2 := fun _ => rfl
    rw [hs] at h
    rw [hg]
    simp only [Nat.beq_eq, Bool.cond_eq_ite, hd, hm] at h ⊢
    by_cases hi : i = 0
    · subst hi
      simp only [if_true] at h
      rw [hg] at h
      simp only [Nat.beq_eq, Bool.cond_eq_ite, hd, hm] at h
      by_cases hj : j = 0
      · simp only [hj, if_true] at h; exact .inl ⟨hj, h⟩
      · simp only [hj, if_false] at h ⊢; exact .inr ⟨hj, h⟩
    · simp only [hi, if_false] at h
      by_cases hi2 : i % 2 = 1
      · simp only [hi2, if_true] at h
        rw [hg] at h
        simp only [Nat.beq_eq, Bool.cond_eq_ite, hd, hm] at h
        by_cases hj : j = 0
        · simp only [hj, if_true] at h ⊢; exact .inr ⟨by omega, h⟩
        · simp only [hj, if_false] at h ⊢
          by_cases hj2 : j % 2 = 1
          · simp only [hj2, if_true] at h ⊢
            rcases hl _ _ h with ⟨a, b⟩ | ⟨a, b⟩
            · exact .inl ⟨by omega, b⟩
            · exact .inr ⟨by omega, b⟩
          · simp only [hj2, if_false] at h ⊢
            exact .inr ⟨by omega, h⟩
      · simp only [hi2, if_false] at h
        rw [hg] at h
        simp only [Nat.beq_eq, Bool.cond_eq_ite, hd, hm] at h
        by_cases hj : j = 0
        · simp only [hj, if_true] at h ⊢; exact .inr ⟨by omega, h⟩
        · simp only [hj, if_false] at h ⊢
          by_cases hj2 : j % 2 = 1
          · simp only [hj2, if_true] at h ⊢
            exact .inr ⟨by omega, h⟩
          · simp only [hj2, if_false] at h ⊢
            rcases hr _ _ h with ⟨a, b⟩ | ⟨a, b⟩
            · exact .inl ⟨by simp only [Nat.pred_eq_sub_one] at a; omega, b⟩
            · exact .inr ⟨by simp only [Nat.pred_eq_sub_one] at a; intro e; subst e; exact a rfl, b⟩

theorem T.get_full {α : Type} (x : Option α) (n i : Nat) {e : α} (h : (T.full x n).get i = some e) : x = some e := by
  induction n generalizing i with
  | zero => simp [T.full, T.get] at h
  | succ n ih =>
    have hg : T.get (.node x (T.full x n) (T.full x n)) i = bif Nat.beq i 0 then x else bif Nat.beq (Nat.mod i 2) 1 then T.get (T.full x n) (Nat.div i 2) else T.get (T.full x n) (Nat.pred (Nat.div i 2)) := rfl
    simp only [T.full] at h
    rw [hg] at h
    simp only [Bool.cond_eq_ite] at h
    split at h
    · exact h
    · split at h <;> exact ih _ h
end Go.Ev
