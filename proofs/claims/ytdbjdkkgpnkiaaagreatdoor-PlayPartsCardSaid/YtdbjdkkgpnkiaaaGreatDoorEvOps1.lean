import Derived.Test.YtdbjdkkgpnkiaaaGreatDoorEvHeap
import Derived.ChangeKeysEq
import Derived.Lib.FrozenHead
import Derived.Laws.CopyOwn
set_option linter.unusedSimpArgs false
set_option linter.unusedVariables false
namespace Go.Ev
open Go.RowKit

/-! constants and operands -/
theorem absCells_rel {ρ : Loc} {f : Value → Option EVal} (hf : ∀ v e, f v = some e → VRel ρ e v) : ∀ (l : List Value) (es : List EVal), absCells f l = some es → VsRel ρ es l
  | [], es, h => by simp only [absCells, Option.some.injEq] at h; subst h; exact .nil
  | v :: l, es, h => by
    simp only [absCells] at h
    split at h
    · rename_i e es' h1 h2
      simp only [Option.some.injEq] at h
      subst h
      exact .cons _ _ _ _ (hf _ _ h1) (absCells_rel hf l _ h2)
    · cases h

theorem absCell_rel {ρ : Loc} {v : Value} {e : EVal} (h : absCell v = some e) : VRel ρ e v := by
  unfold absCell at h
  split at h <;> first | cases h | (simp only [Option.some.injEq] at h; subst h) | skip
  · exact .bool _
  · exact .int _ _
  · exact .str _ _ rfl
  · exact .nilp
  · exact .gptr _ _
  · exact .nilslice
  · exact .nilmap
  · exact .nilfunc
  · exact .nilif
  · rename_i f first captured
    split at h
    · rename_i hs
      simp only [Option.some.injEq] at h; subst h
      obtain rfl : first = #[] := Array.eq_empty_of_size_eq_zero hs.1
      obtain rfl : captured = #[] := Array.eq_empty_of_size_eq_zero hs.2
      exact .func _ _ _ .nil
    · cases h

theorem absV_rel {ρ : Loc} {v : Value} {e : EVal} (h : absV v = some e) : VRel ρ e v := by
  unfold absV at h
  split at h
  · split at h
    · rename_i l hl
      simp only [Option.some.injEq] at h; subst h
      exact .agg _ _ (absCells_rel (fun _ _ => absCell_rel) _ _ hl)
    · cases h
  · split at h
    · rename_i l hl
      simp only [Option.some.injEq] at h; subst h
      exact .tup _ _ (absCells_rel (fun _ _ => absCell_rel) _ _ hl)
    · cases h
  · exact absCell_rel h

/-- The operands' meaning: 'E'. -/
def ERel (ρ : Loc) (t : T EVal) (E : Operand → Value) : Prop := ∀ x e, ev t x = some e → VRel ρ e (E x)

theorem TRel.eval {ρ : Loc} {t : T EVal} {a : Act} (h : TRel ρ t a.tmps) : ERel ρ t a.eval := by
  intro x e hx
  cases x with
  | tmp i => exact h i e hx
  | const v => exact absV_rel hx
  | global g => simp only [ev, Option.some.injEq] at hx; subst hx; exact .gptr _ _
  | func f => simp only [ev, Option.some.injEq] at hx; subst hx; exact .func _ _ _ .nil

theorem evs_rel {ρ : Loc} {t : T EVal} {E : Operand → Value} (hE : ERel ρ t E) : ∀ (l : List Operand) (es : List EVal), evs t l = some es → VsRel ρ es (l.map E)
  | [], es, h => by simp only [evs, Option.some.injEq] at h; subst h; exact .nil
  | x :: l, es, h => by
    simp only [evs] at h
    split at h
    · rename_i e es' h1 h2
      simp only [Option.some.injEq] at h; subst h
      exact .cons _ _ _ _ (hE _ _ h1) (evs_rel hE l _ h2)
    · cases h

inductive PRel (ρ : Loc) : List (Nat × EVal) → List (Nat × Value) → Prop
  | nil : PRel ρ [] []
  | cons (i : Nat) (e : EVal) (v : Value) (es : List (Nat × EVal)) (vs : List (Nat × Value)) (h : VRel ρ e v) (hs : PRel ρ es vs) : PRel ρ ((i, e) :: es) ((i, v) :: vs)

theorem evParts_rel {ρ : Loc} {t : T EVal} {E : Operand → Value} (hE : ERel ρ t E) : ∀ (l : List (Nat × Operand)) (es : List (Nat × EVal)), evParts t l = some es →
    PRel ρ es (l.map fun (i, x) => (i, E x))
  | [], es, h => by simp only [evParts, Option.some.injEq] at h; subst h; exact .nil
  | (i, x) :: l, es, h => by
    simp only [evParts] at h
    split at h
    · rename_i e es' h1 h2
      simp only [Option.some.injEq] at h; subst h
      exact .cons _ _ _ _ _ (hE _ _ h1) (evParts_rel hE l _ h2)
    · cases h

theorem VRel.oneCell {ρ : Loc} {e : EVal} {v : Value} (h : VRel ρ e v) (h1 : e.one = true) : v.oneCell' = true := by
  cases h <;> first | rfl | (simp [EVal.one] at h1)

theorem VsRel.oneCells {ρ : Loc} {es : List EVal} {vs : List Value} (h : VsRel ρ es vs) (h1 : allOne es = true) : ∀ v ∈ vs, v.oneCell' = true := by
  induction es generalizing vs with
  | nil => cases h; simp
  | cons e es ih =>
    cases h with
    | cons _ v _ vs h hs =>
      simp only [allOne, Bool.and_eq_true] at h1
      intro u hu
      rcases List.mem_cons.1 hu with rfl | hu
      · exact h.oneCell h1.1
      · exact ih hs h1.2 u hu

theorem VsRel.setRange {ρ : Loc} {cs vs : List EVal} {us ws : List Value} (h : VsRel ρ cs us) (k : VsRel ρ vs ws) (o : Nat) : VsRel ρ (setRange cs o vs) (us.take o ++ ws ++ us.drop (o + ws.length)) := by
  unfold Ev.setRange
  rw [k.length]
  exact ((h.take o).append k).append (h.drop _)

section
variable {P : Program} {B0 : Nat} {W0 : Base} {ρ : Loc} {h : H} {w : World} {g : G}

/-- The package-level variables that are known. -/
def GRel (B0 : Nat) (W0 : World) (g : G) : Prop := ∀ i cells, g i = some cells → i < B0 ∧ ∃ (cs : Array Value) (e : TypeId) (fr : Nat × Nat), W0.heap[i]? = some (.cells cs e fr) ∧ VsRel Loc.nil cells cs.toList

theorem none_le (ρ : Loc) : Loc.le Loc.nil ρ := ⟨fun _ _ h => (by cases h), fun _ _ h => (by cases h), fun _ _ _ h => (by cases h)⟩

theorem row_cell (R : HRel P B0 W0 ρ h w) (G : GRel B0 W0.w g) {a : EVal} {v : Value} (hv : VRel ρ a v) {cs : List EVal} {o : Nat} (hr : row? g h a = some (cs, o)) :
    ∃ b base, v = .pointer (some ⟨b, base + o, none⟩) ∧ ∀ i e, cs[i]? = some e → ∃ u, w.cell? ⟨b, base + i, none⟩ = some u ∧ VRel ρ e u := by
  unfold row? at hr
  split at hr
  · cases hv
    rename_i gi oi
    split at hr
    · rename_i cs' hg
      simp only [Option.some.injEq, Prod.mk.injEq] at hr
      obtain ⟨rfl, rfl⟩ := hr
      obtain ⟨hlt, cv, e, fr, hw, hr⟩ := G _ _ hg
      refine ⟨gi, 0, by simp, fun i e' he => ?_⟩
      rw [Nat.zero_add]
      obtain ⟨u, hu, r⟩ := hr.get he
      refine ⟨u, ?_, r.mono (none_le ρ)⟩
      have : w.heap[gi]? = some (.cells cv e fr) := by rw [R.below.block _ hlt, hw]
      simp only [World.cell?, this]
      simpa using hu
    · cases hr
  · cases hv
    rename_i id oi b C hid
    split at hr
    · rename_i cs' e lo hi sl hg
      simp only [Option.some.injEq, Prod.mk.injEq] at hr
      obtain ⟨rfl, rfl⟩ := hr
      obtain ⟨b', C', hb', cv, hw, hr, _⟩ := R.objs _ _ hg
      rw [hid] at hb'; cases hb'
      refine ⟨b, 0, by simp, fun i e' he => ?_⟩
      rw [Nat.zero_add]
      obtain ⟨u, hu, r⟩ := hr.get he
      refine ⟨u, ?_, r⟩
      simp only [World.cell?, hw]
      rw [List.getElem?_take] at hu
      split at hu
      · simpa using hu
      · cases hu
    · cases hr
  · simp only [Option.some.injEq, Prod.mk.injEq] at hr
    obtain ⟨rfl, rfl⟩ := hr
    cases hv with
    | lptr _ _ us b base pre rest hf hs hw ho =>
      refine ⟨b, base, rfl, fun i e' he => ?_⟩
      obtain ⟨u, hu, r⟩ := hs.get he
      refine ⟨u, ?_, r.mono (Loc.fz_le ρ)⟩
      obtain ⟨arr, e, m, h1, more, h2⟩ := R.fz _ _ hf
      simp only [World.cell?, h1]
      have h3 : arr.toList[base + i]? = some u := by
        rw [h2, ← List.getElem?_drop, List.drop_append_of_le_length ho, hw, List.append_assoc, List.getElem?_append_left (List.getElem?_eq_some_iff.1 hu).1]
        exact hu
      simpa using h3
  · cases hr

theorem takeN_spec {cs r : List EVal} {o n : Nat} (h : takeN cs o n = some r) : r.length = n ∧ ∀ i, i < n → r[i]? = cs[o + i]? := by
  unfold takeN at h
  simp only at h
  split at h
  · rename_i hl
    simp only [Option.some.injEq] at h
    subst h
    refine ⟨hl, fun i hi => ?_⟩
    rw [List.getElem?_take, if_pos hi, List.getElem?_drop]
  · cases h

theorem run_isAgg {t : TypeId} {b : Bool} (h : aggT P t = some b) (w : World) : (isAgg t).run P w = .ok b w := by
  unfold aggT at h
  unfold isAgg
  split at h <;> first | (rename_i hu; simp only [Option.some.injEq] at h; subst h; simp [run_underlying hu]) | cases h

theorem run_loadVar {t : TypeId} {cs : List EVal} {o b base : Nat} {e : EVal} (hc : ∀ i e, cs[i]? = some e → ∃ u, w.cell? ⟨b, base + i, none⟩ = some u ∧ VRel ρ e u)
    (he : eLoad' P t cs o (aggT P t) = some e) : ∃ u, (loadVar t ⟨b, base + o, none⟩).run P w = .ok u w ∧ VRel ρ e u := by
  cases ha : aggT P t with
  | none => rw [ha] at he; cases he
  | some x =>
    rw [ha] at he
    cases x with
    | false =>
      simp only [eLoad'] at he
      obtain ⟨u, hu, r⟩ := hc _ _ he
      refine ⟨u, ?_, r⟩
      simp [loadVar, run_isAgg ha, hu]
    | true =>
      simp only [eLoad'] at he
      split at he
      · rename_i i hi
        split at he
        · rename_i r hr
          simp only [Option.some.injEq] at he
          subst he
          obtain ⟨hl, hget⟩ := takeN_spec hr
          have : ∃ vs : List Value, VsRel ρ r vs ∧ ∀ j v, vs[j]? = some v → w.cell? ⟨b, base + (o + j), none⟩ = some v := by
            refine ⟨(List.range r.length).map fun j => (w.cell? ⟨b, base + (o + j), none⟩).getD undef, .of_get (by simp) fun j e' v' he hv => ?_, fun j v hv => ?_⟩
            · have hj : j < r.length := (List.getElem?_eq_some_iff.1 he).1
              rw [List.getElem?_map, List.getElem?_range hj] at hv
              rw [hget j (by omega)] at he
              obtain ⟨u, hu, rr⟩ := hc _ _ he
              simp only [Option.map_some, hu, Option.getD_some, Option.some.injEq] at hv
              subst hv; exact rr
            · have hj : j < r.length := by
                have := (List.getElem?_eq_some_iff.1 hv).1; simpa using this
              rw [List.getElem?_map, List.getElem?_range hj] at hv
              have he : r[j]? = some r[j] := List.getElem?_eq_getElem hj
              rw [hget j (by omega)] at he
              obtain ⟨u, hu, rr⟩ := hc _ _ he
              simp only [Option.map_some, hu, Option.getD_some, Option.some.injEq] at hv
              subst hv; exact hu
          obtain ⟨vs, hvs, hcell⟩ := this
          refine ⟨.agg vs.toArray, ?_, .agg _ _ (by simpa using hvs)⟩
          have hlen : vs.length = i.size := by rw [← hvs.length, hl]
          have hrun := run_loadCells_list (P := P) w ⟨b, base + o, none⟩ vs (fun j v hv => by rw [Addr.add_lit, Nat.add_assoc]; exact hcell j v hv)
          simp [loadVar, run_isAgg ha, sizeOf, typeInfo, hi, ← hlen, hrun]
        · cases he
      · cases he

theorem load_sound (R : HRel P B0 W0 ρ h w) (G : GRel B0 W0.w g) {t : TypeId} {a e : EVal} {v : Value} (hv : VRel ρ a v) (he : eLoad P g h t a = some e) :
    ∃ u, (Instr.loadAt t v).run P w = .ok u w ∧ VRel ρ e u := by
  unfold eLoad at he
  split at he
  · rename_i cs o hr
    obtain ⟨b, base, rfl, hc⟩ := row_cell R G hv hr
    obtain ⟨u, hu, r⟩ := run_loadVar hc he
    exact ⟨u, by simp [Instr.loadAt, Instr.sureAddr, hu], r⟩
  · cases he

theorem storeCells_sound (R : HRel P B0 W0 ρ h w) {id o b C : Nat} {es : List EVal} {vs : List Value} (hb : ρ id = some (b, C)) (hvs : VsRel ρ es vs) {h' : H}
    (he : eStoreCells h id o es = some h') : ∃ w', (storeCells ⟨b, o, none⟩ vs).run P w = .ok () w' ∧ HRel P B0 W0 ρ h' w' := by
  unfold eStoreCells at he
  split at he
  · rename_i cs e lo hi sl hg
    split at he
    · rename_i hc
      obtain ⟨h1, h2, h3⟩ := hc
      simp only [Option.some.injEq] at he
      subst he
      obtain ⟨b', C', hb', cv, hw, hr, hx, hs⟩ := R.objs _ _ hg
      rw [hb] at hb'; cases hb'
      have hlen := hr.length
      have hle : cs.length ≤ cv.size := by
        rw [List.length_take] at hlen; simp at hlen; omega
      have hl := hvs.length
      have hrun := run_storeCells_atF P b o e (lo, hi) vs 0 cv w hw (by simpa using h2) (by omega) (hvs.oneCells h3)
      simp only [Nat.add_zero] at hrun
      refine ⟨_, hrun, ?_⟩
      refine R.put hg hb (below_setRow (Below.refl _ _) (R.lo _ _ _ hb).1 _) (setRow_size _ _ _) (fun k hk => setRow_other _ _ _ _ hk) ?_
      refine ⟨_, setRow_heap w b _ _ e _ hw, ?_, ?_, ?_⟩
      · have := hr.setRange hvs o
        have hsl : (setRange cs o es).length = cs.length := by unfold Ev.setRange; simp; omega
        rw [hsl]
        refine .of_get (by simp; omega) fun i e' v' he' hv' => ?_
        have hi : i < cs.length := by
          have := (List.getElem?_eq_some_iff.1 he').1; omega
        rw [List.getElem?_take, if_pos hi] at hv'
        refine this.get2 he' ?_
        rw [← hv']
        simp only [List.getElem?_append, List.length_take, List.length_append, Array.length_toList, List.getElem?_take, List.getElem?_drop]
        grind
      · intro hf
        have := hx hf
        unfold Ev.setRange
        simp; omega
      · intro ht
        obtain ⟨i, hi, hsz⟩ := hs ht
        exact ⟨i, hi, by rw [← hsz]; simp; omega⟩
    · cases he
  · cases he

theorem store_sound (R : HRel P B0 W0 ρ h w) {t : TypeId} {a e : EVal} {u v : Value} (hu : VRel ρ a u) (hv : VRel ρ e v) {h' : H} (he : eStore P h t a e = some h') :
    ∃ w', (Instr.storeAt t u v).run P w = .ok () w' ∧ HRel P B0 W0 ρ h' w' := by
  unfold eStore at he
  split at he
  · rename_i i hi
    split at he
    · split at he
      · rename_i hlen
        cases hu
        rename_i b C hb
        obtain ⟨w', hrun, R'⟩ := storeCells_sound R hb hv.cells he
        refine ⟨w', ?_, R'⟩
        have hsz : v.cells.size = i.size := by rw [← hlen, hv.cells.length]; simp
        simp [Instr.storeAt, Instr.sureAddr, storeVar, sizeOf, typeInfo, hi, hsz, hrun]
      · cases he
    · cases he
  · cases he
end
end Go.Ev
