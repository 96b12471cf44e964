import Derived.Test.YtdbjdkkgpnkiaaaGreatDoorEvRun
import Derived.Defers
set_option linter.unusedSimpArgs false
set_option linter.unusedVariables false
namespace Go.Ev
open Go.RowKit

section
variable {P : Program} {B0 : Nat} {W0 : Base} {g : G} {K : Known} {r : Rec}

def CodeRes (P : Program) (B0 : Nat) (W0 : Base) (outs : List Out) (m : Machine) (b : Frame) (k : List Item) (cs : List Frame) (ρ : Loc) : Prop :=
  ∃ e f' h', Out.code e f' h' ∈ outs ∧ ∃ t' d' w' ρ', ρ.le ρ' ∧ FRel ρ' f' b t' d' ∧ HRel P B0 W0 ρ' h' w' ∧ ArrE P m b k cs e t' d' w'

theorem CodeRes.here {f : EFr} {h : H} {e : EExit} {b : Frame} {t : Array Value} {d : List Deferred} {k : List Item} {cs : List Frame} {ρ : Loc} {w : World} {m : Machine} (F : FRel ρ f b t d) (R : HRel P B0 W0 ρ h w) (ha : ArrE P m b k cs e t d w) :
    CodeRes P B0 W0 [.code e f h] m b k cs ρ := ⟨e, f, h, by simp, t, d, w, ρ, Loc.le_refl _, F, R, ha⟩

theorem CodeRes.of_steps {outs : List Out} {m m' : Machine} {b : Frame} {k : List Item} {cs : List Frame} {ρ : Loc} (hs : Steps P m m') (h : CodeRes P B0 W0 outs m' b k cs ρ) : CodeRes P B0 W0 outs m b k cs ρ := by
  obtain ⟨e, f', h', hm, t', d', w', ρ', h1, h2, h3, h4⟩ := h
  exact ⟨e, f', h', hm, t', d', w', ρ', h1, h2, h3, h4.of_steps hs⟩

theorem CodeRes.sub {outs outs' : List Out} {m : Machine} {b : Frame} {k : List Item} {cs : List Frame} {ρ ρ0 : Loc} (hl : ρ0.le ρ) (hs : ∀ y ∈ outs, y ∈ outs') (h : CodeRes P B0 W0 outs m b k cs ρ) : CodeRes P B0 W0 outs' m b k cs ρ0 := by
  obtain ⟨e, f', h', hm, t', d', w', ρ', h1, h2⟩ := h
  exact ⟨e, f', h', hs _ hm, t', d', w', ρ', Loc.le_trans hl h1, h2⟩

theorem seq_sound (S : RecSound P B0 W0 r) {x y : Code} {f : EFr} {h : H} {outs : List Out}
    (he : thenO (r (.code x f h)) (seqK r y) = some outs) (b : Frame) (t : Array Value) (d : List Deferred) (k : List Item) (cs : List Frame) (ρ : Loc) (w : World) (F : FRel ρ f b t d) (R : HRel P B0 W0 ρ h w) :
    CodeRes P B0 W0 outs (lone (fr b t d (.code x :: .code y :: k)) cs w) b k cs ρ := by
  obtain ⟨l1, h1, h2⟩ := thenO_spec he
  obtain ⟨e, f1, hh1, hm, t1, d1, w1, ρ1, hle, F1, R1, A1⟩ := S.code _ _ _ _ h1 b t d (.code y :: k) cs ρ w F R
  obtain ⟨o, h3, h4⟩ := h2 _ hm
  cases e with
  | normal =>
    simp only [seqK] at h3
    have := S.code _ _ _ _ h3 b t1 d1 k cs ρ1 w1 F1 R1
    exact CodeRes.sub hle h4 (CodeRes.of_steps A1 this)
  | exit id =>
    simp only [seqK, Option.some.injEq] at h3; subst h3
    obtain ⟨k', e1, e2⟩ := A1
    exact CodeRes.sub hle h4 (CodeRes.here F1 R1 ⟨k', by rw [e1]; rfl, e2⟩)
  | ret =>
    simp only [seqK, Option.some.injEq] at h3; subst h3
    obtain ⟨k', e2⟩ := A1
    exact CodeRes.sub hle h4 (CodeRes.here F1 R1 ⟨k', e2⟩)

theorem again_sound (S : RecSound P B0 W0 r) {x : Code} {f : EFr} {h : H} {outs : List Out}
    (he : thenO (r (.code x f h)) (loopK r x) = some outs) (b : Frame) (t : Array Value) (d : List Deferred) (k : List Item) (cs : List Frame) (ρ : Loc) (w : World) (F : FRel ρ f b t d) (R : HRel P B0 W0 ρ h w) :
    CodeRes P B0 W0 outs (lone (fr b t d (.code x :: .inLoop x :: k)) cs w) b k cs ρ := by
  obtain ⟨l1, h1, h2⟩ := thenO_spec he
  obtain ⟨e, f1, hh1, hm, t1, d1, w1, ρ1, hle, F1, R1, A1⟩ := S.code _ _ _ _ h1 b t d (.inLoop x :: k) cs ρ w F R
  obtain ⟨o, h3, h4⟩ := h2 _ hm
  cases e with
  | normal =>
    simp only [loopK] at h3
    have := S.again _ _ _ _ h3 b t1 d1 k cs ρ1 w1 F1 R1
    exact CodeRes.sub hle h4 (CodeRes.of_steps (Steps.trans A1 (.one st_inLoop)) this)
  | exit id =>
    simp only [loopK, Option.some.injEq] at h3; subst h3
    obtain ⟨k', e1, e2⟩ := A1
    exact CodeRes.sub hle h4 (CodeRes.here F1 R1 ⟨k', by rw [e1]; rfl, e2⟩)
  | ret =>
    simp only [loopK, Option.some.injEq] at h3; subst h3
    obtain ⟨k', e2⟩ := A1
    exact CodeRes.sub hle h4 (CodeRes.here F1 R1 ⟨k', e2⟩)

theorem loopObj {ρ : Loc} {h : H} {w : World} (R : HRel P B0 W0 ρ h w) {id l C : Nat} (hid : ρ id = some (l, C)) {st : LoopState} {pend : Option Code} {n : Nat} {t : T EVal} {ps : List Tmp} {a b : Code} {dd : Nat} (hg : h.get id = some (.loop st pend n t ps a b dd)) :
    ∃ L : Loop, w.heap[l]? = some (.loop L) ∧ L.state = st ∧ L.pending = pend ∧ L.tmps.size = n ∧ TRel ρ t L.tmps ∧ L.params.toList = ps ∧ L.assign = a ∧ L.body = b ∧ (getObj l).run P w = .ok (.loop L) w ∧
      ∀ (st' : LoopState) (pend' : Option Code) (L' : Loop), L' = { L with state := st', pending := pend' } → (setObj l (.loop L')).run P w = .ok () { w with heap := w.heap.setIfInBounds l (.loop L') } ∧
        HRel P B0 W0 ρ (h.put id (.loop st' pend' n t ps a b dd)) { w with heap := w.heap.setIfInBounds l (.loop L') } := by
  obtain ⟨b', C', hb', L, hw, h1, h2, h3, h4, h5, h6, h7⟩ := R.objs _ _ hg
  rw [hid] at hb'; cases hb'
  refine ⟨L, hw, h1, h2, h3, h4, h5, h6, h7, getObj_run hw (by intro c e f hh; cases hh), fun st' pend' L' hL => ⟨setObj_run hw (by intro c e f hh; cases hh), ?_⟩⟩
  subst hL
  exact R.setObj hg hid hw ⟨_, rfl, rfl, rfl, h3, h4, h5, h6, h7⟩

theorem range_code_sound (hng : NoNG P) (S : RecSound P B0 W0 r) {f : Operand} {ps : Array Tmp} {x y : Code} {fr0 : EFr} {h : H} {outs : List Out} (he : runRange P r ps x y fr0 h (ev fr0.tmps f) = some outs)
    (b : Frame) (t : Array Value) (d : List Deferred) (k : List Item) (cs : List Frame) (ρ : Loc) (w : World) (F : FRel ρ fr0 b t d) (R : HRel P B0 W0 ρ h w) :
    CodeRes P B0 W0 outs (lone (fr b t d (.code (.rangeFunc f ps x y) :: k)) cs w) b k cs ρ := by
  unfold runRange at he
  split at he
  · rename_i kf caps hf
    split at he
    · rename_i hbody
      unfold hasBody at hbody
      split at hbody
      · rename_i fn hfn
        have hv := F.erel _ _ hf
        generalize hfe : ({ tmps := t, defers := d } : Act).eval f = fv at hv
        cases hv with
        | func _ _ vs hcs =>
        cases hel : enterLoopE fr0 h with
        | none => rw [hel] at he; cases he
        | some p =>
          obtain ⟨h1, f1⟩ := p
          rw [hel] at he
          simp only [runRange'] at he
          obtain ⟨l1, hr1, hr2⟩ := thenO_spec he
          -- the loop's record, and the block for what its rounds defer
          have enter : ∃ (l : Nat) (mark : List Deferred) (w2 : World) (ρ2 : Loc), (Instr.enterLoop b.fn t ps x y b.roundOf).run P w = .ok (l, mark) w2 ∧ ρ.le ρ2 ∧ ρ2 h1.n = some (l, 0) ∧ FRel ρ2 f1 b t (mark ++ d) ∧
              HRel P B0 W0 ρ2 (h1.new (.loop .ready none fr0.sz fr0.tmps ps.toList x y 0)) w2 := by
            have hround := F.round
            unfold enterLoopE at hel
            split at hel
            · rename_i hro
              simp only [Option.some.injEq, Prod.mk.injEq] at hel
              obtain ⟨rfl, rfl⟩ := hel
              have hb0 : b.roundOf = none := by
                rw [hro] at hround
                cases hq : b.roundOf with
                | none => rfl
                | some l => rw [hq] at hround; exact hround.elim
              have Rd := R.new (.deferred false) (.deferred (some [])) 0 rfl
              have hn1 : (h.new (.deferred false)).n = h.n + 1 := rfl
              let L : Loop := { state := .ready, pending := none, fn := b.fn, tmps := t, params := ps, assign := x, body := y, defers := w.heap.size }
              have hle1 := Loc.le_add (x := (w.heap.size, 0)) R.fresh
              have hle2 := Loc.le_add (x := ((w.alloc (.deferred (some []))).heap.size, 0)) Rd.fresh
              have Rl := Rd.new (.loop .ready none fr0.sz fr0.tmps ps.toList x y 0) (.loop L) 0 ⟨L, rfl, rfl, rfl, F.size, (F.tmps.mono hle1).mono hle2, rfl, rfl, rfl⟩
              refine ⟨_, [{ target := .collected w.heap.size, args := #[] }], _, _, ?_, Loc.le_trans hle1 hle2, Loc.add_self _ _ _, ⟨F.size, (F.tmps.mono hle1).mono hle2, ?_, ?_⟩, Rl⟩
              · rw [hb0]; simp [Instr.enterLoop, L]
              · exact .cons _ _ 0 _ _ (hle2.own _ _ (Loc.add_self _ _ _)) ((F.defers.mono hle1).mono hle2)
              · rw [hb0]; trivial
            · rename_i id hro
              split at hel
              · rename_i st pend n tt pp aa bb dd hg
                simp only [Option.some.injEq, Prod.mk.injEq] at hel
                obtain ⟨rfl, rfl⟩ := hel
                cases hq : b.roundOf with
                | none => rw [hro, hq] at hround; exact hround.elim
                | some l =>
                  have hround' := hround
                  rw [hro, hq] at hround'
                  obtain ⟨C, hC⟩ := hround'
                  obtain ⟨L0, hw0, _, _, _, _, _, _, _, hgo, _⟩ := loopObj R hC hg
                  let L : Loop := { state := .ready, pending := none, fn := b.fn, tmps := t, params := ps, assign := x, body := y, defers := L0.defers }
                  have hle := Loc.le_add (x := (w.heap.size, 0)) R.fresh
                  have Rl := R.new (.loop .ready none fr0.sz fr0.tmps ps.toList x y 0) (.loop L) 0 ⟨L, rfl, rfl, rfl, F.size, F.tmps.mono hle, rfl, rfl, rfl⟩
                  refine ⟨_, [], _, _, ?_, hle, Loc.add_self _ _ _, ?_, Rl⟩
                  · simp [Instr.enterLoop, Instr.getLoop, hgo, L]
                  · exact F.mono hle
              · cases hel
          obtain ⟨l, mark, w2, ρ2, hrun, hle, hl, F2, R2⟩ := enter
          have hargs : VsRel ρ2 (.yieldf h1.n :: caps) (#[Value.func (.yield l) #[] #[]] ++ vs).toList := by
            rw [Array.toList_append]
            exact .cons _ _ _ _ (.yieldf _ _ _ hl) (hcs.mono hle)
          have hc := S.call _ _ _ _ hr1 _ ρ2 w2 hargs R2
          obtain ⟨e1, w3, fr1, ⟨v, h3, u, ρ3, hm, rfl, hle3, hv3, R3⟩, hcomes, hfn1, hleave⟩ := hc (fr b t (mark ++ d) (.inRangeFunc l :: k) :: cs)
          obtain ⟨o, ho1, ho2⟩ := hr2 _ hm
          have s1 : Steps P (lone (fr b t d (.code (.rangeFunc f ps x y) :: k)) cs w) (lone (fr b t (mark ++ d) (.endRangeFunc l :: k)) cs w3) := by
            refine .head (st_rangeFunc hng hrun hfe hfn hbody) (Steps.trans hcomes (.one ?_))
            exact step_leave_returned hleave
          simp only [rangeK] at ho1
          split at ho1
          · rename_i st pend n tt pp aa bb dd hg
            split at ho1
            · cases ho1
            · rename_i hst
              have hl3 := hle3.own _ _ hl
              obtain ⟨L, hw3, hL1, hL2, hL3, hL4, hL5, hL6, hL7, hgo, hput⟩ := loopObj R3 hl3 hg
              obtain ⟨hso, R4⟩ := hput .exhausted pend { L with state := .exhausted } (by cases hL2; rfl)
              have hend : (Instr.endLoop l).run P w3 = .ok pend { w3 with heap := w3.heap.setIfInBounds l (.loop { L with state := .exhausted }) } := by
                have hst' : L.state ≠ LoopState.busy := by rw [hL1]; exact hst
                rw [← hL2]
                simp [Instr.endLoop, Instr.getLoop, hgo, hst', hso]
              have s2 := Steps.trans s1 (.one (st_endRangeFunc (P := P) (b := b) (t := t) (d := mark ++ d) (k := k) (cs := cs) hend))
              have F4 := F2.mono hle3
              refine CodeRes.sub (Loc.le_trans hle hle3) ho2 ?_
              cases pend with
              | none =>
                simp only [jumpK, Option.some.injEq] at ho1; subst ho1
                exact CodeRes.here F4 R4 s2
              | some c =>
                cases c <;> simp only [jumpK, Option.some.injEq] at ho1 <;> first | cases ho1 | skip
                all_goals first
                  | exact CodeRes.here F4 R4 ⟨k, s2⟩
                  | exact CodeRes.here F4 R4 ⟨k, rfl, s2⟩
          · cases ho1
      · cases hbody
    · cases he
  · cases he

theorem code_sound (hng : NoNG P) (S : RecSound P B0 W0 r) (hdraw : ∀ (id : Nat) (ops : Array Oper) (f : EFr) (h : H) (outs : List Out), runDraw P g K r ops f h = some outs → ∀ b t d k cs ρ w, FRel ρ f b t d → HRel P B0 W0 ρ h w → CodeRes P B0 W0 outs (lone (fr b t d (.code (.region id ops true) :: k)) cs w) b k cs ρ)
    (c : Code) (f : EFr) (h : H) (outs : List Out) (he : runCode P g K r c f h = some outs) (b : Frame) (t : Array Value) (d : List Deferred) (k : List Item) (cs : List Frame) (ρ : Loc) (w : World) (F : FRel ρ f b t d) (R : HRel P B0 W0 ρ h w) :
    CodeRes P B0 W0 outs (lone (fr b t d (.code c :: k)) cs w) b k cs ρ := by
  unfold runCode at he
  split at he
  · simp only [Option.some.injEq] at he; subst he
    exact CodeRes.here F R (.one st_skip)
  · simp only [Option.some.injEq] at he; subst he
    exact CodeRes.here F R (.one st_label)
  · rename_i id ops dr
    split at he
    · obtain ⟨f', h', hm, t', w', ρ', h1, h2, h3, h4⟩ := S.ops _ _ _ _ _ he (List.range ops.size) (by
        apply List.ext_getElem?
        intro i
        simp only [List.getElem?_map]
        by_cases hi : i < ops.size
        · rw [List.getElem?_range hi]; simp [hi]
        · rw [List.getElem?_eq_none (by simpa using Nat.le_of_not_lt hi), List.getElem?_eq_none (by simpa using Nat.le_of_not_lt hi)]; rfl) b t d k cs ρ w F R
      exact ⟨.normal, f', h', hm, t', d, w', ρ', h1, h2, h3, .head st_region h4⟩
    · exact hdraw id ops f h outs he b t d k cs ρ w F R
  · rename_i x y
    exact CodeRes.of_steps (.one st_seq) (seq_sound S he b t d k cs ρ w F R)
  · rename_i c x y
    unfold condK at he
    split at he
    · rename_i hc
      have hv := F.erel _ _ hc
      generalize hce : ({ tmps := t, defers := d } : Act).eval c = cv at hv
      cases hv
      exact CodeRes.of_steps (.one (st_cond hce)) (S.code _ _ _ _ he b t d k cs ρ w F R)
    · rename_i hc
      have hv := F.erel _ _ hc
      generalize hce : ({ tmps := t, defers := d } : Act).eval c = cv at hv
      cases hv
      exact CodeRes.of_steps (.one (st_cond hce)) (S.code _ _ _ _ he b t d k cs ρ w F R)
    · cases he
  · rename_i id x
    obtain ⟨l1, h1, h2⟩ := thenO_spec he
    obtain ⟨e, f1, hh1, hm, t1, d1, w1, ρ1, hle, F1, R1, A1⟩ := S.code _ _ _ _ h1 b t d (.inBlock id :: k) cs ρ w F R
    obtain ⟨o, h3, h4⟩ := h2 _ hm
    refine CodeRes.of_steps (.one st_block) (CodeRes.sub hle h4 ?_)
    cases e with
    | normal =>
      simp only [blockK, Option.some.injEq] at h3; subst h3
      exact CodeRes.here F1 R1 (Steps.trans A1 (.one st_inBlock))
    | exit i =>
      obtain ⟨k', e1, e2⟩ := A1
      simp only [blockK] at h3
      split at h3
      · rename_i hi
        subst hi
        simp only [Option.some.injEq] at h3; subst h3
        refine CodeRes.here F1 R1 (Steps.trans e2 (.one (st_exit ?_)))
        rw [e1]; simp [exitTo]
      · rename_i hi
        simp only [Option.some.injEq] at h3; subst h3
        refine CodeRes.here F1 R1 ⟨k', ?_, e2⟩
        rw [e1]
        have : (id == i) = false := by simpa using Ne.symm hi
        simp [exitTo, this]
    | ret =>
      simp only [blockK, Option.some.injEq] at h3; subst h3
      obtain ⟨k', e2⟩ := A1
      exact CodeRes.here F1 R1 ⟨k', e2⟩
  · rename_i x
    exact CodeRes.of_steps (.one st_loop) (S.again _ _ _ _ he b t d k cs ρ w F R)
  · rename_i x
    obtain ⟨e, f1, hh1, hm, t1, d1, w1, ρ1, hle, F1, R1, A1⟩ := S.code _ _ _ _ he b t d (.inScope x :: k) cs ρ w F R
    refine CodeRes.of_steps (.one st_scope) ⟨e, f1, hh1, hm, t1, d1, w1, ρ1, hle, F1, R1, ?_⟩
    cases e with
    | normal => exact Steps.trans A1 (.one st_inScope)
    | exit id => obtain ⟨k', e1, e2⟩ := A1; exact ⟨k', by rw [e1]; rfl, e2⟩
    | ret => exact A1
  · rename_i id
    simp only [Option.some.injEq] at he; subst he
    exact CodeRes.here F R ⟨k, rfl, .refl _ _⟩
  · simp only [Option.some.injEq] at he; subst he
    exact CodeRes.here F R ⟨k, .refl _ _⟩
  · exact range_code_sound hng S he b t d k cs ρ w F R
  · cases he

/-! calls -/
theorem st_collect {b : Frame} {todo : List Item} {t : Array Value} {bl : Nat} {ds : List Deferred} {cs : List Frame} {w w' : World} (he : (Instr.takeDeferred bl).run P w = .ok [] w') :
    step P (lone { fr b t ({ target := .collected bl, args := #[] } :: ds) todo with mode := .returning } cs w) = .next (lone { fr b t ds todo with mode := .returning } cs w') :=
  step_lone_go (by simp [stepG, unwind, fr, he])

theorem takeAll_sound {ρ : Loc} {b : Frame} {todo : List Item} {t : Array Value} {cs : List Frame} : ∀ {l : List Nat} {ds : List Deferred} {h h' : H} {w : World}, DRel ρ l ds → HRel P B0 W0 ρ h w → takeAll h l = some h' →
    ∃ w', HRel P B0 W0 ρ h' w' ∧ Steps P (lone { fr b t ds todo with mode := .returning } cs w) (lone { fr b t [] todo with mode := .returning } cs w')
  | [], _, h, h', w, hd, R, he => by
    cases hd
    simp only [takeAll, Option.some.injEq] at he; subst he
    exact ⟨w, R, .refl _ _⟩
  | id :: l, _, h, h', w, hd, R, he => by
    cases hd with
    | cons _ bl C _ ds hb hs =>
    simp only [takeAll] at he
    split at he
    · rename_i hg
      obtain ⟨b', C', hb', hw⟩ := R.objs _ _ hg
      rw [hb] at hb'; cases hb'
      have hw' : w.heap[bl]? = some (.deferred (some [])) := hw
      have hgo := getObj_run (P := P) hw' (by intro c e f hh; cases hh)
      have hso := setObj_run (P := P) (o' := .deferred none) hw' (by intro c e f hh; cases hh)
      have R' := R.setObj (o' := .deferred true) (obj' := .deferred none) hg hb hw' rfl
      obtain ⟨w2, R2, s2⟩ := takeAll_sound (b := b) (todo := todo) (t := t) (cs := cs) hs R' he
      exact ⟨w2, R2, .head (st_collect (by simp [Instr.takeDeferred, hgo, hso])) s2⟩
    · cases he

theorem results_sound (G : GRel B0 W0.w g) {ρ : Loc} {h : H} {w : World} (R : HRel P B0 W0 ρ h w) {t : T EVal} {tm : Array Value} (ht : TRel ρ t tm) : ∀ (l : List ResultVar) (es : List EVal), resultsE P g h t l = some es →
    ∃ vs : List Value, (l.mapM (fun | .tmp t => pure (tm.getD t undef) | .cell a t => do loadVar t (← asAddr (tm.getD a undef)) : ResultVar → Sem Value)).run P w = .ok vs w ∧ VsRel ρ es vs
  | [], es, he => by
    simp only [resultsE, Option.some.injEq] at he; subst he
    exact ⟨[], by simp, .nil⟩
  | .tmp i :: l, es, he => by
    simp only [resultsE] at he
    split at he
    · rename_i v vs hv hvs
      simp only [Option.some.injEq] at he; subst he
      obtain ⟨us, h1, h2⟩ := results_sound G R ht l _ hvs
      exact ⟨tm.getD i undef :: us, by simp only [List.mapM_cons, Sem.run_bind, Sem.run_pure, Result.andThen_ok, h1], .cons _ _ _ _ (ht _ _ hv) h2⟩
    · cases he
  | .cell i ty :: l, es, he => by
    simp only [resultsE] at he
    split at he
    · rename_i a vs ha hvs
      split at he
      · rename_i v hv
        simp only [Option.some.injEq] at he; subst he
        obtain ⟨us, h1, h2⟩ := results_sound G R ht l _ hvs
        have hra := ht _ _ ha
        generalize hq : tm.getD i undef = av at hra
        obtain ⟨u, hu1, hu2⟩ := load_sound R G hra hv
        unfold eLoad at hv
        split at hv
        · rename_i cs o hrow
          obtain ⟨bb, base, rfl, _⟩ := row_cell R G hra hrow
          have hu1' : (loadVar ty ⟨bb, base + o, none⟩).run P w = .ok u w := by simpa [Instr.loadAt, Instr.sureAddr] using hu1
          have ha : (asAddr (tm.getD i undef)).run P w = .ok ⟨bb, base + o, none⟩ w := by rw [hq]; rfl
          exact ⟨u :: us, by simp only [List.mapM_cons, Sem.run_bind, ha, Sem.run_pure, Result.andThen_ok, hu1', h1], .cons _ _ _ _ hu2 h2⟩
        · cases hv
      · cases he
    · cases he

theorem one_rel {ρ : Loc} {es : List EVal} {vs : List Value} (h : VsRel ρ es vs) : VRel ρ (one es) (if h : vs.toArray.size = 1 then vs.toArray[0] else .tuple vs.toArray) := by
  unfold one
  split
  · rename_i v
    cases h with | cons _ u _ _ hv hs => cases hs; simpa using hv
  · rename_i hne
    have hl := h.length
    have : vs.toArray.size ≠ 1 := by
      intro h1
      have : es.length = 1 := by simpa [hl] using h1
      match es, this with
      | [x], _ => exact hne x rfl
    rw [dif_neg this]
    exact .tup _ _ (by simpa using h)

theorem initA_sound {ρ : Loc} : ∀ (es : List EVal) (k : Nat) (t : T EVal) (tm : Array Value), (∀ j e, es[j]? = some e → VRel ρ e (tm.getD (k + j) undef)) →
    (∀ i e, t.get i = some e → i < k ∨ k + es.length ≤ i → VRel ρ e (tm.getD i undef)) → TRel ρ (initA es k t) tm
  | [], k, t, tm, _, h2 => fun i e hi => h2 i e hi (by simp; omega)
  | e0 :: es, k, t, tm, h1, h2 => by
    refine initA_sound es (k + 1) (t.set k (some e0)) tm (fun j e hj => ?_) (fun i e hi hor => ?_)
    · have := h1 (j + 1) e (by simpa using hj)
      rwa [show k + (j + 1) = k + 1 + j from by omega] at this
    · rcases T.get_set _ _ _ _ hi with ⟨rfl, he⟩ | ⟨hne, hg⟩
      · cases he
        exact h1 0 e0 (by simp)
      · exact h2 i e hg (by simp at hor ⊢; omega)

theorem call_sound' (G : GRel B0 W0.w g) (S : RecSound P B0 W0 r) (f : FuncId) (args : List EVal) (h : H) (outs : List Out) (he : runCall' P g r f args h = some outs) (vs : Array Value) (ρ : Loc) (w : World) (hvs : VsRel ρ args vs.toList) (R : HRel P B0 W0 ρ h w) :
    Calls P f vs w fun e w' => ∃ v h' u ρ', Out.val v h' ∈ outs ∧ e = .returned u ∧ ρ.le ρ' ∧ VRel ρ' v u ∧ HRel P B0 W0 ρ' h' w' := by
  unfold runCall' at he
  split at he
  · rename_i fn hfn
    split at he
    · rename_i c hc
      intro cs
      obtain ⟨l1, h1, h2⟩ := thenO_spec he
      let b : Frame := { (default : Frame) with fn := f, kind := .normal, roundOf := none }
      have henter : Frame.enter P f vs .normal = fr b (vs ++ Array.replicate (fn.ntmps - vs.size) undef) [] [.code c] := by
        simp [Frame.enter, fr, hfn, hc, b]
      have F : FRel ρ ⟨Nat.max fn.ntmps args.length, initA args 0 (T.full (some undefE) 10), [], none⟩ b (vs ++ Array.replicate (fn.ntmps - vs.size) undef) [] := by
        have hl : args.length = vs.size := by rw [hvs.length]; simp
        refine ⟨?_, ?_, .nil, trivial⟩
        · simp only [Array.size_append, Array.size_replicate, hl]
          show _ = Nat.max fn.ntmps vs.size
          simp only [Nat.max_def]; split <;> omega
        · refine initA_sound args 0 _ _ (fun j e hj => ?_) (fun i e hi hor => ?_)
          · obtain ⟨u, hu, hr⟩ := hvs.get hj
            have hlt : j < vs.size := by have := (List.getElem?_eq_some_iff.1 hu).1; simpa using this
            have : (vs ++ Array.replicate (fn.ntmps - vs.size) undef).getD (0 + j) undef = u := by
              rw [Array.getD_eq_getD_getElem?, Nat.zero_add, Array.getElem?_append_left hlt]
              have : vs[j]? = some u := by simpa using hu
              rw [this]; rfl
            rw [this]; exact hr
          · have := T.get_full _ _ _ hi
            cases this
            have : (vs ++ Array.replicate (fn.ntmps - vs.size) undef).getD i undef = undef := by
              rw [Array.getD_eq_getD_getElem?, Array.getElem?_append_right (by omega), Array.getElem?_replicate]
              split <;> rfl
            rw [this]; exact undef_rel _
      obtain ⟨e, f1, hh1, hm, t1, d1, w1, ρ1, hle, F1, R1, A1⟩ := S.code _ _ _ _ h1 b _ [] [] cs ρ w F R
      rw [← henter] at A1
      obtain ⟨o, h3, h4⟩ := h2 _ hm
      have fin : ∀ (todo : List Item), Steps P (lone (Frame.enter P f vs .normal) cs w) (lone { fr b t1 d1 todo with mode := .returning } cs w1) → finishCall P g fn f1 hh1 = some o →
          ∃ (e : Ending) (w' : World) (fr' : Frame), (∃ v h' u ρ', Out.val v h' ∈ outs ∧ e = .returned u ∧ ρ.le ρ' ∧ VRel ρ' v u ∧ HRel P B0 W0 ρ' h' w') ∧ Comes P (lone (Frame.enter P f vs .normal) cs w) (lone fr' cs w') e ∧ fr'.fn = f ∧ fr'.leaving P w' e := by
        intro todo hs hf
        unfold finishCall at hf
        split at hf
        · rename_i h' hta
          split at hf
          · rename_i es hes
            simp only [Option.some.injEq] at hf; subst hf
            obtain ⟨w2, R2, s2⟩ := takeAll_sound (b := b) (todo := todo) (t := t1) (cs := cs) F1.defers R1 hta
            obtain ⟨us, hu1, hu2⟩ := results_sound G R2 F1.tmps _ _ hes
            refine ⟨.returned (if h : us.toArray.size = 1 then us.toArray[0] else .tuple us.toArray), w2, _, ⟨_, _, _, ρ1, h4 _ (by simp), rfl, hle, one_rel hu2, R2⟩, Steps.trans hs s2, rfl, rfl, rfl, rfl, fn, hfn, ?_⟩
            show (results fn t1).run P w2 = _
            unfold results
            rw [Array.mapM_eq_mapM_toList]
            simp only [Sem.run_bind, Sem.run_map, Sem.run_pure]
            have := congrArg (fun q => (q.andThen fun a w' => (Result.ok (a.toArray : Array Value) w' : Result (Array Value))).andThen fun vs w' => (Result.ok (if h : vs.size = 1 then vs[0] else Value.tuple vs) w' : Result Value)) hu1
            exact this
          · cases hf
        · cases hf
      unfold callK at h3
      split at h3
      · rename_i heq
        cases heq
        obtain ⟨k', s1⟩ := A1
        exact fin _ (Steps.trans s1 (.one (st_ret rfl))) h3
      · rename_i heq
        cases heq
        exact fin _ (Steps.trans A1 (.one (st_end rfl))) h3
      · cases h3
    · cases he
  · cases he
end
end Go.Ev
