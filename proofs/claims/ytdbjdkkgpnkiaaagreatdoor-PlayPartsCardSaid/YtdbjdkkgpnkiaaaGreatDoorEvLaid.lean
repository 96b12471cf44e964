import Derived.Test.YtdbjdkkgpnkiaaaGreatDoorEvFin
import Derived.OpenShut
import Derived.ChangeArms
import Derived.LaidLaws
set_option linter.unusedSimpArgs false
set_option linter.unusedVariables false
namespace Go.Ev
open Go.RowKit

def layStruct (P : Program) (f : TypeId → DataW Unit → Option (List EVal)) : List Field → List (DataW Unit) → Nat → Option (List EVal)
  | [], [], _ => some []
  | x :: fs, d :: ds, o => match f x.type d, layStruct P f fs ds (o + P.cellsOf x.type) with
    | some a, some b => if x.offset = o ∧ a.length = P.cellsOf x.type then some (a ++ b) else none
    | _, _ => none
  | _, _, _ => none

def layArr (f : DataW Unit → Option (List EVal)) (c : Nat) : List (DataW Unit) → Option (List EVal)
  | [] => some []
  | d :: ds => match f d, layArr f c ds with
    | some a, some b => if a.length = c then some (a ++ b) else none
    | _, _ => none

/-- the cells of plain data of a type -/
def layE (P : Program) : Nat → TypeId → DataW Unit → Option (List EVal)
  | 0, _, _ => none
  | n + 1, t, d => match P.underlying t, d with
    | some .bool, .lit (.bool b) => some [.bool b]
    | some (.int _), .lit (.int k' m) => some [.int k' m]
    | some .string, .lit (.string l) => some [.str (l.map UInt8.toNat)]
    | some (.struct fs), .agg ds => match layStruct P (layE P n) fs.toList ds 0 with
      | some es => if es.length = P.cellsOf t then some es else none
      | none => none
    | some (.array m e), .agg ds => match layArr (layE P n e) (P.cellsOf e) ds with
      | some es => if es.length = P.cellsOf t ∧ ds.length = m then some es else none
      | none => none
    | _, _ => none

section
variable {P : Program} {w : World} {enc : TypeId × Value → Unit} {base : Nat} {sp : Nat → Bool} {held : Bool}

theorem layStruct_sound {f : TypeId → DataW Unit → Option (List EVal)} {tr : TypeId → List Value → Option (DataW Unit × List MemPlace)} {cs : List Value}
    (hf : ∀ t d es c p, f t d = some es → tr t c = some (d, p) → VsRel Loc.nil es c) : ∀ {fs : List Field} {xs : List (DataW Unit × List MemPlace)} {o : Nat} {es : List EVal},
    layStruct P f fs (xs.map (·.1)) o = some es → (∀ (i : Nat) (x : Field), fs[i]? = some x → tr x.type ((cs.drop x.offset).take (P.cellsOf x.type)) = xs[i]?) → VsRel Loc.nil es ((cs.drop o).take es.length)
  | [], [], o, es, h, _ => by
    simp only [List.map_nil, layStruct, Option.some.injEq] at h; subst h
    simpa using VsRel.nil
  | [], y :: ys, o, es, h, _ => by simp [layStruct] at h
  | x :: fs, [], o, es, h, _ => by simp [layStruct] at h
  | x :: fs, y :: ys, o, es, h, ht => by
    simp only [List.map_cons, layStruct] at h
    split at h
    · rename_i a b ha hb
      split at h
      · rename_i hx
        simp only [Option.some.injEq] at h; subst h
        obtain ⟨hxo, hal⟩ := hx
        have h0 := ht 0 x rfl
        rw [hxo] at h0
        have h1 := hf _ _ _ _ y.2 ha (by rw [h0]; rfl)
        have h2 := layStruct_sound hf hb (fun i z hz => ht (i + 1) z (by simpa using hz))
        rw [List.length_append, List.take_add, List.drop_drop, hal]
        exact h1.append h2
      · cases h
    · cases h

theorem layArr_sound {f : DataW Unit → Option (List EVal)} {tr : List Value → Option (DataW Unit × List MemPlace)} {c : Nat} {cs : List Value}
    (hf : ∀ d es u p, f d = some es → tr u = some (d, p) → VsRel Loc.nil es u) : ∀ {xs : List (DataW Unit × List MemPlace)} {k : Nat} {es : List EVal},
    layArr f c (xs.map (·.1)) = some es → (∀ (i : Nat), i < xs.length → tr ((cs.drop ((k + i) * c)).take c) = xs[i]?) → VsRel Loc.nil es ((cs.drop (k * c)).take es.length)
  | [], k, es, h, _ => by
    simp only [List.map_nil, layArr, Option.some.injEq] at h; subst h
    simpa using VsRel.nil
  | y :: ys, k, es, h, ht => by
    simp only [List.map_cons, layArr] at h
    split at h
    · rename_i a b ha hb
      split at h
      · rename_i hal
        simp only [Option.some.injEq] at h; subst h
        have h0 := ht 0 (by simp)
        rw [Nat.add_zero] at h0
        have h1 := hf _ _ _ y.2 ha (by rw [h0]; rfl)
        have h2 := layArr_sound hf (k := k + 1) hb (fun i hi => by
          have := ht (i + 1) (by simpa using hi)
          rw [show k + (i + 1) = k + 1 + i from by omega] at this
          simpa using this)
        rw [List.length_append, List.take_add, List.drop_drop, hal]
        have e : k * c + c = (k + 1) * c := by rw [Nat.succ_mul]
        rw [e]
        exact h1.append h2
      · cases h
    · cases h

theorem layE_sound : ∀ (n : Nat) {m : Nat} {t : TypeId} {d : DataW Unit} {es : List EVal} {cs : List Value} {p : List MemPlace}, layE P n t d = some es → DataW.trod enc P w base sp held m t cs = some (d, p) → VsRel Loc.nil es cs
  | 0, _, _, _, _, _, _, h, _ => by cases h
  | n + 1, m, t, d, es, cs, p, h, ht => by
    simp only [layE] at h
    split at h
    · rename_i b hu
      simp only [Option.some.injEq] at h; subst h
      obtain ⟨b', rfl, hx⟩ := DataW.trod_bool hu ht
      cases hx
      exact .cons _ _ _ _ (.bool _) .nil
    · rename_i k k' z hu
      simp only [Option.some.injEq] at h; subst h
      obtain ⟨z', rfl, hx, _⟩ := DataW.trod_int hu ht
      cases hx
      exact .cons _ _ _ _ (.int _ _) .nil
    · rename_i l hu
      simp only [Option.some.injEq] at h; subst h
      obtain ⟨s, rfl, hx, _⟩ := DataW.trod_string hu ht
      cases hx
      exact .cons _ _ _ _ (.str _ _ rfl) .nil
    · rename_i fs ds hu
      obtain ⟨xs, m', rfl, hx, hl, hxl, hxs⟩ := DataW.trod_struct hu ht
      simp only [Prod.mk.injEq, DataW.agg.injEq] at hx
      obtain ⟨rfl, _⟩ := hx
      split at h
      · rename_i es' hes
        split at h
        · rename_i hlen
          simp only [Option.some.injEq] at h; subst h
          have := layStruct_sound (tr := fun t c => DataW.trod enc P w base sp held m' t c) (cs := cs) (fun t d es c p h1 h2 => layE_sound n h1 h2) hes (fun i x hx => hxs i x (by rw [← Array.getElem?_toList]; exact hx))
          rwa [List.drop_zero, hlen, ← hl, List.take_length] at this
        · cases h
      · cases h
    · rename_i k e ds hu
      obtain ⟨xs, m', rfl, hx, hl, hxl, hxs⟩ := DataW.trod_array hu ht
      simp only [Prod.mk.injEq, DataW.agg.injEq] at hx
      obtain ⟨rfl, _⟩ := hx
      split at h
      · rename_i es' hes
        split at h
        · rename_i hlen
          simp only [Option.some.injEq] at h; subst h
          have := layArr_sound (tr := fun c => DataW.trod enc P w base sp held m' e c) (cs := cs) (k := 0) (fun d es c p h1 h2 => layE_sound n h1 h2) hes (fun i hi => by rw [Nat.zero_add]; exact hxs i (by omega))
          rwa [Nat.zero_mul, List.drop_zero, hlen.1, ← hl, List.take_length] at this
        · cases h
      · cases h
    · cases h
end

/-- One laid variable, as the evaluator knows it. -/
def oneG (i : Nat) (cells : List EVal) : G := fun j => if j = i then some cells else none

theorem GRel.of_laid {P : Program} {W : World} {name : String} {d : DataW Unit} {rest : List (String × DataW Unit)} {i t n : Nat} {cells : List EVal} (hg : P.globalNamed name = some i) (ht : (P.globals[i]?).map (·.type) = some t)
    (hlay : layE P n t d = some cells) (h : laidMet P ((name, d) :: rest) W) : GRel W.heap.size W (oneG i cells) := by
  obtain ⟨ps, ⟨g, t', cs, fuel, p, q, hg', ht', hv, htr, _, hps⟩, _, hb⟩ := h
  rw [hg] at hg'; cases hg'
  rw [ht] at ht'; cases ht'
  intro j cells' hj
  unfold oneG at hj
  split at hj
  · rename_i hji
    subst hji
    cases hj
    unfold World.var? at hv
    rw [hg] at hv
    simp only [Option.bind_some] at hv
    split at hv
    · rename_i cs' e fr hheap
      simp only [Option.some.injEq] at hv; subst hv
      refine ⟨?_, cs', e, fr, hheap, layE_sound n hlay htr⟩
      exact (Array.getElem?_eq_some_iff.1 hheap).1
    · cases hv
  · cases hj
end Go.Ev
