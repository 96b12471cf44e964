import Derived.Test.YtdbjdkkgpnkiaaaGreatDoorEvOps1
set_option linter.unusedSimpArgs false
set_option linter.unusedVariables false
namespace Go.Ev
open Go.RowKit

section
variable {P : Program} {B0 : Nat} {W0 : Base} {ρ : Loc} {h : H} {w : World} {g : G}

def GoodV (P : Program) (B0 : Nat) (W0 : Base) (ρ : Loc) (w : World) (s : Sem Value) (e : EVal) (h' : H) : Prop :=
  ∃ v w' ρ', ρ.le ρ' ∧ HRel P B0 W0 ρ' h' w' ∧ s.run P w = .ok v w' ∧ VRel ρ' e v

theorem GoodV.same (R : HRel P B0 W0 ρ h w) {s : Sem Value} {e : EVal} {v : Value} (hs : s.run P w = .ok v w) (hv : VRel ρ e v) : GoodV P B0 W0 ρ w s e h :=
  ⟨v, w, ρ, Loc.le_refl _, R, hs, hv⟩

theorem GoodV.newRow (R : HRel P B0 W0 ρ h w) {s : Sem Value} {cells : List EVal} {us : Array Value} {t : TypeId} {e : EVal} {v : Value} (hc : VsRel ρ cells us.toList)
    (hs : s.run P w = .ok v (w.alloc (.cells us t))) (hv : VRel (ρ.add h.n (w.heap.size, 0)) e v) : GoodV P B0 W0 ρ w s e (h.new (.row cells t 0 0 false)) := by
  refine ⟨v, _, _, Loc.le_add R.fresh, R.new _ _ 0 ⟨us, rfl, ?_, fun _ => ?_, fun h => by cases h⟩, hs, hv⟩
  · rw [hc.length, List.take_length]; exact hc.mono (Loc.le_add R.fresh)
  · rw [hc.length]; simp

theorem zero_sound {t : TypeId} {z : List EVal} (hz : zeroE P t = some z) (w : World) : ∃ u, (zeroValue t).run P w = .ok u w ∧ VsRel ρ z u.cells.toList ∧ (P.info? t).bind (·.zero) = some u := by
  unfold zeroE at hz
  split at hz
  · rename_i i hi
    split at hz
    · rename_i u hu
      split at hz
      · rename_i e he
        simp only [Option.some.injEq] at hz
        subst hz
        exact ⟨u, by simp [zeroValue, typeInfo, hi, hu], (absV_rel he).cells, by simp [hi, hu]⟩
      · cases hz
    · cases hz
  · cases hz

theorem alloc_sound (R : HRel P B0 W0 ρ h w) {t : TypeId} {e : EVal} {h' : H} (he : eAlloc P h t = some (.val e h')) : GoodV P B0 W0 ρ w (Instr.alloc t true (.tuple #[])) e h' := by
  unfold eAlloc at he
  split at he
  · rename_i z hz
    simp only [Option.some.injEq, EOut.val.injEq] at he
    obtain ⟨rfl, rfl⟩ := he
    obtain ⟨u, hu, hr, _⟩ := zero_sound (ρ := ρ) hz w
    refine GoodV.newRow R (t := t) (v := .pointer (some ⟨w.heap.size, 0, none⟩)) hr ?_ (.ptr _ _ _ _ (Loc.add_self _ _ _))
    simp [Instr.alloc, hu, newVar, newRow]
  · cases he

theorem box_sound (R : HRel P B0 W0 ρ h w) {t : TypeId} {x : EVal} {v : Value} (hx : VRel ρ x v) {e : EVal} {h' : H} (he : eBox h t (some x) = some (.val e h')) : GoodV P B0 W0 ρ w (Instr.box t v) e h' := by
  simp only [eBox, Option.some.injEq, EOut.val.injEq] at he
  obtain ⟨rfl, rfl⟩ := he
  refine GoodV.newRow R (t := t) (v := .pointer (some ⟨w.heap.size, 0, none⟩)) hx.cells ?_ (.ptr _ _ _ _ (Loc.add_self _ _ _))
  simp [Instr.box, newVar, newRow]

/-! build -/
theorem foldl_set (off : Nat) : ∀ (vs : List Value) (k : Nat) (cs : List Value), off + k + vs.length ≤ cs.length →
    (vs.zipIdx k).foldl (fun (a : Array Value) (x : Value × Nat) => a.setIfInBounds (off + x.2) x.1) cs.toArray = (cs.take (off + k) ++ vs ++ cs.drop (off + k + vs.length)).toArray
  | [], k, cs, _ => by simp
  | v :: vs, k, cs, hl => by
    have hl' : off + k + (vs.length + 1) ≤ cs.length := by simpa using hl
    simp only [List.zipIdx_cons, List.foldl_cons]
    have e : cs.toArray.setIfInBounds (off + k) v = (cs.set (off + k) v).toArray := by simp
    rw [e, foldl_set off vs (k + 1) (cs.set (off + k) v) (by simp; omega)]
    congr 1
    apply List.ext_getElem?
    intro i
    simp only [List.getElem?_append, List.length_take, List.length_append, List.length_set, List.getElem?_take, List.getElem?_drop, List.getElem?_set, List.length_cons, List.getElem?_cons]
    grind

theorem fill_sound {place : Nat → Option (Nat × Nat)} : ∀ (ps : List (Nat × EVal)) (qs : List (Nat × Value)) (cells cs : List EVal) (us : List Value), PRel ρ ps qs → VsRel ρ cells us →
    fillE place cells ps = some cs → ∃ ws : List Value, Instr.fill place us.toArray qs = some ws.toArray ∧ VsRel ρ cs ws
  | [], _, cells, cs, us, hp, hc, he => by
    cases hp
    simp only [fillE, Option.some.injEq] at he
    subst he
    exact ⟨us, rfl, hc⟩
  | (i, x) :: ps, _, cells, cs, us, hp, hc, he => by
    cases hp with
    | cons _ _ v _ qs hx hs =>
    simp only [fillE] at he
    split at he
    · cases he
    · rename_i off size hpl
      split at he
      · cases he
      · rename_i hn
        simp only [not_or, Nat.not_lt, gt_iff_lt] at hn
        obtain ⟨h1, h2⟩ := hn
        have h1' : x.cells.length = size := by simpa using h1
        have hl := hx.cells.length
        have hcl := hc.length
        obtain ⟨ws, hw, hr⟩ := fill_sound ps qs (setRange cells off x.cells) cs _ hs (hc.setRange hx.cells off) he
        refine ⟨ws, ?_, hr⟩
        have hsz : v.cells.size = size := by rw [← h1', hl]; simp
        have hfold : v.cells.zipIdx.foldl (fun (cs : Array Value) (x : Value × Nat) => cs.setIfInBounds (off + x.2) x.1) us.toArray = (us.take off ++ v.cells.toList ++ us.drop (off + v.cells.toList.length)).toArray := by
          have := foldl_set off v.cells.toList 0 us (by simp at hl ⊢; omega)
          simp only [Nat.add_zero] at this
          rw [← this, ← Array.foldl_toList, Array.toList_zipIdx]
        have hcond : ¬ (v.cells.size ≠ size ∨ off + v.cells.size > us.toArray.size) := by
          simp at hl ⊢; omega
        simp only [Instr.fill, hpl]
        rw [if_neg (by simpa using hcond)]
        rw [hfold]
        exact hw

theorem run_mapM_list {α β : Type} (f : α → Sem β) (k : α → β) (w : World) : ∀ (l : List α), (∀ x ∈ l, (f x).run P w = .ok (k x) w) → (l.mapM f).run P w = .ok (l.map k) w
  | [], _ => by simp
  | x :: l, hx => by
    have ih := run_mapM_list f k w l fun y hy => hx y (List.mem_cons_of_mem _ hy)
    simp [List.mapM_cons, hx x (by simp), ih]

theorem sizeOf_sound {t : TypeId} {s : Nat} (hs : sizeT P t = some s) (w : World) : (sizeOf t).run P w = .ok s w := by
  unfold sizeT at hs
  cases hi : P.info? t with
  | none => rw [hi] at hs; cases hs
  | some i => rw [hi] at hs; simp only [Option.map_some, Option.some.injEq] at hs; subst hs; simp [sizeOf, typeInfo, hi]

theorem build_sound (R : HRel P B0 W0 ρ h w) {t : TypeId} {ps : List (Nat × EVal)} {qs : Array (Nat × Value)} (hp : PRel ρ ps qs.toList) {e : EVal} {h' : H}
    (he : eBuild P h t (some ps) = some (.val e h')) : GoodV P B0 W0 ρ w (Instr.build t qs) e h' := by
  unfold eBuild at he
  split at he
  · rename_i z ps' fs hz h1 hu
    simp only [Option.some.injEq] at h1; subst h1
    unfold eBuildS at he
    split at he
    · rename_i cs hf
      split at he
      · rename_i hok
        simp only [Option.some.injEq, EOut.val.injEq] at he
        obtain ⟨rfl, rfl⟩ := he
        obtain ⟨u, hur, hr, _⟩ := zero_sound (ρ := ρ) hz w
        obtain ⟨ws, hw, hr'⟩ := fill_sound _ _ _ _ _ hp hr hf
        refine GoodV.same R (v := .agg ws.toArray) ?_ (.agg _ _ (by simpa using hr'))
        have hm : (fs.mapM fun f => do pure (f.offset, ← sizeOf f.type) : Sem (Array (Nat × Nat))).run P w = .ok (fs.map fun f => (f.offset, P.cellsOf f.type)) w := by
          rw [Array.mapM_eq_mapM_toList]
          have := run_mapM_list (P := P) (fun f : Field => (do pure (f.offset, ← sizeOf f.type) : Sem (Nat × Nat))) (fun f => (f.offset, P.cellsOf f.type)) w fs.toList (by
            intro f hfm
            simp only [fieldsOK, List.all_eq_true] at hok
            obtain ⟨i, hi⟩ := Option.isSome_iff_exists.1 (hok f hfm)
            simp [sizeOf, typeInfo, hi, Program.cellsOf])
          rw [Sem.run_map, this]
          simp only [Result.andThen_ok, List.map_toArray]
          congr 1
          apply Array.ext' ; simp
        have hplace : (fun i => (fs.map fun f => (f.offset, P.cellsOf f.type))[i]?) = placeS P fs := by
          funext i
          unfold placeS
          simp only [Array.getElem?_map]
          cases hfi : fs[i]? with
          | none => rfl
          | some f =>
            have : f ∈ fs.toList := by
              have := Array.mem_of_getElem? hfi
              simpa using this
            simp only [fieldsOK, List.all_eq_true] at hok
            obtain ⟨i, hi⟩ := Option.isSome_iff_exists.1 (hok f this)
            simp [sizeT, Program.cellsOf, hi]
        simp only [Instr.build, Sem.run_bind, hur, Result.andThen_ok, run_underlying hu, hm]
        rw [hplace]
        simp only [Array.toArray_toList] at hw
        simp [hw]
      · cases he
    · cases he
  · rename_i z ps' n el hz h1 hu
    simp only [Option.some.injEq] at h1; subst h1
    unfold eBuildA at he
    split at he
    · rename_i sz hsz
      split at he
      · rename_i cs hf
        simp only [Option.some.injEq, EOut.val.injEq] at he
        obtain ⟨rfl, rfl⟩ := he
        obtain ⟨u, hur, hr, _⟩ := zero_sound (ρ := ρ) hz w
        obtain ⟨ws, hw, hr'⟩ := fill_sound _ _ _ _ _ hp hr hf
        refine GoodV.same R (v := .agg ws.toArray) ?_ (.agg _ _ (by simpa using hr'))
        simp only [Array.toArray_toList] at hw
        simp [Instr.build, hur, run_underlying hu, sizeOf_sound hsz, hw]
      · cases he
    · cases he
  · cases he
end
end Go.Ev
