import Derived.Test.YtdbjdkkgpnkiaaaGreatDoorEvDraw3
import Derived.Test.YtdbjdkkgpnkiaaaGreatDoorEvRun2
set_option linter.unusedSimpArgs false
set_option linter.unusedVariables false
namespace Go.Ev
open Go.RowKit

def cntF : List Bool → Nat
  | [] => 0
  | b :: l => (if b = false then 1 else 0) + cntF l

theorem cntF_set : ∀ {l : List Bool} {i : Nat}, l[i]? = some false → cntF (l.set i true) + 1 = cntF l
  | [], i, h => by simp at h
  | b :: l, 0, h => by simp at h; subst h; simp [cntF]; omega
  | b :: l, i + 1, h => by
    simp only [List.set_cons_succ, cntF]
    have := cntF_set (l := l) (i := i) (by simpa using h)
    omega

theorem cntF_zero : ∀ {l : List Bool}, cntF l = 0 → ∀ (i : Nat) (b : Bool), l[i]? = some b → b = true
  | [], _, i, b, h => by simp at h
  | x :: l, hz, i, b, h => by
    simp only [cntF] at hz
    cases i with
    | zero =>
      simp at h; subst h
      cases x with
      | true => rfl
      | false => simp at hz
    | succ i => exact cntF_zero (l := l) (by omega) i b (by simpa using h)

theorem cntF_rep (n : Nat) : cntF (List.replicate n false) = n := by
  induction n with
  | zero => rfl
  | succ n ih => simp [List.replicate_succ, cntF, ih]; omega

section
variable {P : Program} {B0 : Nat} {W0 : Base} {g : G} {K : Known} {r : Rec}

theorem mem_directs {o : Oper} {j : Nat} : j ∈ directs o ↔ ∃ e ∈ o.after.toList, Region.binds .any e = true ∧ e.on = j := by
  unfold directs
  simp only [List.mem_filterMap]
  constructor
  · rintro ⟨e, he, h⟩
    split at h
    · rename_i hb; simp only [Option.some.injEq] at h; exact ⟨e, he, hb, h⟩
    · cases h
  · rintro ⟨e, he, hb, h⟩
    exact ⟨e, he, by rw [if_pos hb, h]⟩

theorem ready_spec {ops : Array Oper} {listed : Array Bool} (hl : listed.size = ops.size) {i : Nat} :
    i ∈ (Region.ready .any ops listed) ↔ ∃ o, ops[i]? = some o ∧ listed.getD i false = false ∧ ∀ j ∈ directs o, listed.getD j false = true := by
  unfold Region.ready
  simp only [List.mem_filter, List.mem_range, Bool.and_eq_true, Bool.not_eq_true']
  constructor
  · rintro ⟨hi, h1, h2⟩
    have ho : ops[i]? = some ops[i] := Array.getElem?_eq_getElem hi
    refine ⟨ops[i], ho, ?_, fun j hj => ?_⟩
    · rw [Array.getD_eq_getD_getElem?, Array.getElem?_eq_getElem (by omega)] at h1 ⊢
      exact h1
    · rw [ho] at h2
      simp only [Option.map_some, Option.getD_some, Array.all_eq_true_iff_forall_mem, Bool.or_eq_true, Bool.not_eq_true'] at h2
      obtain ⟨e, he, hb, rfl⟩ := mem_directs.1 hj
      rcases h2 e (Array.mem_def.2 he) with h | h
      · rw [hb] at h; cases h
      · exact h
  · rintro ⟨o, ho, h1, h2⟩
    have hi : i < ops.size := (Array.getElem?_eq_some_iff.1 ho).1
    refine ⟨hi, ?_, ?_⟩
    · rw [Array.getD_eq_getD_getElem?, Array.getElem?_eq_getElem (by omega)] at h1 ⊢
      exact h1
    · rw [ho]
      simp only [Option.map_some, Option.getD_some, Array.all_eq_true_iff_forall_mem, Bool.or_eq_true, Bool.not_eq_true']
      intro e he
      cases hb : Region.binds .any e with
      | false => exact .inl rfl
      | true => exact .inr (h2 _ (mem_directs.2 ⟨e, Array.mem_def.1 he, hb, rfl⟩))

theorem draw_go (hng : NoNG P) (G : GRel B0 W0.w g) (S0 : RecSound P B0 W0 r) (hK : KOK P B0 W0 K) {ops : Array Oper} {A : List Nat} {st : List DStep} {f f' : EFr} {h h' : H}
    (T : Trace P g K r ops st f h f' h') (hst : st.map (·.o) = ops.toList) (hs : staticOK ops A = true) (hc : actsOK P g K ops A st h (actsOf st 0) = true)
    {b : Frame} {d : List Deferred} {k : List Item} {cs : List Frame} : ∀ (fuel t : Nat) (listed : Array Bool) (tm : Array Value) (ρ : Loc) (w : World), listed.size = ops.size → cntF listed.toList = fuel → Inv P B0 W0 A st f h (fun i => listed.getD i false) tm ρ w →
    ∃ S tm' w' ρ', ρ.le ρ' ∧ (∀ i, i < ops.size → S i = true) ∧ Inv P B0 W0 A st f h S tm' ρ' w' ∧ Steps P (lone (fr b tm d (.inRegion ops (Region.linearise.go .any ops fuel t listed []) :: k)) cs w) (lone (fr b tm' d (.inRegion ops [] :: k)) cs w') := by
  intro fuel
  induction fuel with
  | zero =>
    intro t listed tm ρ w hl hcnt I
    refine ⟨_, tm, w, ρ, Loc.le_refl _, fun i hi => ?_, I, ?_⟩
    · have : listed[i]? = some listed[i] := Array.getElem?_eq_getElem (by omega)
      have h2 := cntF_zero hcnt i listed[i] (by rw [Array.getElem?_toList]; exact this)
      simp only [Array.getD_eq_getD_getElem?, this, h2, Option.getD_some]
    · simp only [Region.linearise.go, List.reverse_nil]; exact .refl _ _
  | succ fuel ih =>
    intro t listed tm ρ w hl hcnt I
    simp only [Region.linearise.go]
    change ∃ S tm' w' ρ', ρ.le ρ' ∧ (∀ i, i < ops.size → S i = true) ∧ Inv P B0 W0 A st f h S tm' ρ' w' ∧ Steps P (lone (fr b tm d (.inRegion ops (match (Region.ready .any ops listed)[t % (Region.ready .any ops listed).length]? with
      | some i => Region.linearise.go .any ops fuel (t / (Region.ready .any ops listed).length) (listed.setIfInBounds i true) [i]
      | none => [].reverse) :: k)) cs w) (lone (fr b tm' d (.inRegion ops [] :: k)) cs w')
    cases hi : (Region.ready .any ops listed)[t % (Region.ready .any ops listed).length]? with
    | none =>
      have hnil : Region.ready .any ops listed = [] := by
        cases hr : Region.ready .any ops listed with
        | nil => rfl
        | cons x xs =>
          rw [hr] at hi
          have hlt : t % (x :: xs).length < (x :: xs).length := Nat.mod_lt _ (by simp)
          simp at hi
          simp at hlt
          omega
      have hall : ∀ i, i < ops.size → listed.getD i false = true := by
        intro i
        induction i using Nat.strongRecOn with
        | ind i ihi =>
          intro hlt
          cases hq2 : listed.getD i false with
          | true => rfl
          | false =>
            exfalso
            have ho : ops[i]? = some ops[i] := Array.getElem?_eq_getElem hlt
            have hmem : i ∈ Region.ready .any ops listed := (ready_spec hl).2 ⟨_, ho, hq2, fun j hj => by
              have := (ancOK_spec (staticOK_spec hs).1 i _ (by rw [Array.getElem?_toList]; exact ho)).2 j hj
              exact ihi j (by omega) (by omega)⟩
            rw [hnil] at hmem; cases hmem
      exact ⟨_, tm, w, ρ, Loc.le_refl _, hall, I, by simp only [List.reverse_nil]; exact .refl _ _⟩
    | some i =>
      simp only []
      rw [linearise_go_acc, List.reverse_singleton, List.singleton_append]
      obtain ⟨o, ho, h1, h2⟩ := (ready_spec hl).1 (List.mem_of_getElem? hi)
      have hlt : i < ops.size := (Array.getElem?_eq_some_iff.1 ho).1
      have hxo : (st.map (·.o))[i]? = some o := by rw [hst, Array.getElem?_toList]; exact ho
      rw [List.getElem?_map] at hxo
      cases hx : st[i]? with
      | none => rw [hx] at hxo; cases hxo
      | some x =>
        rw [hx] at hxo
        simp only [Option.map_some, Option.some.injEq] at hxo
        subst hxo
        obtain ⟨tm1, w1, ρ1, hle, I1, s1⟩ := draw_step hng G S0 hK T hst hs hc hx h1 h2 I (b := b) (d := d) (k := k) (cs := cs) (Region.linearise.go .any ops fuel (t / (Region.ready .any ops listed).length) (listed.setIfInBounds i true) [])
        have hS : addS (fun i => listed.getD i false) i = fun j => (listed.setIfInBounds i true).getD j false := by
          funext j
          unfold addS
          simp only [Array.getD_eq_getD_getElem?]
          by_cases hj : j = i
          · subst hj; rw [if_pos rfl, Array.getElem?_setIfInBounds_self_of_lt (by omega)]; rfl
          · rw [if_neg hj, Array.getElem?_setIfInBounds_ne (Ne.symm hj)]
        rw [hS] at I1
        obtain ⟨S, tm2, w2, ρ2, hle2, hall, I2, s2⟩ := ih (t / (Region.ready .any ops listed).length) (listed.setIfInBounds i true) tm1 ρ1 w1 (by simpa using hl) (by
          rw [Array.toList_setIfInBounds]
          have : listed[i]? = some false := by
            rw [Array.getD_eq_getD_getElem?, Array.getElem?_eq_getElem (by omega)] at h1
            rw [Array.getElem?_eq_getElem (by omega)]
            simpa using h1
          have := cntF_set (l := listed.toList) (i := i) (by rw [Array.getElem?_toList]; exact this)
          omega) I1
        exact ⟨S, tm2, w2, ρ2, Loc.le_trans hle hle2, hall, I2, Steps.trans s1 s2⟩

theorem draw_sound (hm : P.follows .mixedOrders = true) (hng : NoNG P) (G : GRel B0 W0.w g) (S0 : RecSound P B0 W0 r) (hK : KOK P B0 W0 K) (id : Nat) (ops : Array Oper) (f : EFr) (h : H) (outs : List Out) (he : runDraw P g K r ops f h = some outs)
    (b : Frame) (t : Array Value) (d : List Deferred) (k : List Item) (cs : List Frame) (ρ : Loc) (w : World) (F : FRel ρ f b t d) (R : HRel P B0 W0 ρ h w) : CodeRes P B0 W0 outs (lone (fr b t d (.code (.region id ops true) :: k)) cs w) b k cs ρ := by
  unfold runDraw at he
  cases hd : drawGo P g K r ops ops.toList f h with
  | none => rw [hd] at he; cases he
  | some q =>
    obtain ⟨st, f', h'⟩ := q
    rw [hd] at he
    simp only [drawFin, Bool.cond_eq_ite] at he
    split at he
    rotate_left
    · cases he
    rename_i hs
    split at he
    rotate_left
    · cases he
    rename_i hc
    simp only [Option.some.injEq] at he
    subst he
    obtain ⟨T, hst⟩ := drawGo_trace hd
    have hlen : st.length = ops.size := by have := congrArg List.length hst; simpa using this
    have hfalse : ∀ i, (Array.replicate ops.size false).getD i false = false := fun i => by
      rw [Array.getD_eq_getD_getElem?, Array.getElem?_replicate]; split <;> rfl
    have I : Inv P B0 W0 (ancGo ops.toList []) st f h (fun i => (Array.replicate ops.size false).getD i false) t ρ { w with drawn := w.drawn + 1 } := by
      refine ⟨F.size, fun s e hs => ?_, ?_, fun i hi => by rw [hfalse] at hi; cases hi⟩
      · rw [fold_none (fun j y _ _ => hfalse _)] at hs
        exact F.tmps s e hs
      · rw [fold_none (fun j y _ _ => hfalse _)]
        exact R.drew
    obtain ⟨S, tm, w', ρ', hle, hall, I', s⟩ := draw_go hng G S0 hK T hst hs hc (b := b) (d := d) (k := k) (cs := cs) ops.size (w.tape w.drawn (.order b.fn id)) (Array.replicate ops.size false) t ρ { w with drawn := w.drawn + 1 } (by simp) (by rw [Array.toList_replicate, cntF_rep]) I
    have hfold : ∀ {α : Type} (q : DStep → Option α) (a : α), fold S q 0 st a = allF q st a := fun q a => by
      have := fold_pref (S := S) (f := q) (l := st) (k := 0) (i := st.length) (b := a) (fun j y hy _ => by
        have : j < st.length := (List.getElem?_eq_some_iff.1 hy).1
        rw [Nat.zero_add]
        simp [hall j (by omega), this])
      rwa [List.take_length] at this
    obtain ⟨hf1, hf2⟩ := T.fin
    obtain ⟨hz, hdf, hrd⟩ := T.rest
    refine CodeRes.sub hle (fun y hy => hy) (CodeRes.here (t := tm) (d := d) (w := w') (ρ := ρ') ⟨by rw [I'.size, hz], fun s e hg => ?_, by rw [hdf]; exact F.defers.mono hle, by rw [hrd]; exact (F.mono hle).round⟩ ?_ ?_)
    · refine I'.slots s e ?_
      rw [hfold]
      exact hf2 s _ (fun e h => h) e hg
    · have := I'.heap
      rw [hfold, ← hf1] at this
      exact this
    · refine .head st_region_draw ?_
      rw [Region.schedule, hm]
      simp only [Bool.true_or, if_true]
      exact Steps.trans s (.one st_region_end)
end
end Go.Ev
