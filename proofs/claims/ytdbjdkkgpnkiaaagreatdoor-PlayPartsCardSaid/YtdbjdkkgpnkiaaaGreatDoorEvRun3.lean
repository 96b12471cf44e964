import Derived.Test.YtdbjdkkgpnkiaaaGreatDoorEvRun2
set_option linter.unusedSimpArgs false
set_option linter.unusedVariables false
namespace Go.Ev
open Go.RowKit

section
variable {P : Program} {B0 : Nat} {W0 : Base} {g : G} {r : Rec}

theorem setParams_sound {ρ : Loc} {n : Nat} : ∀ (ps : List Tmp) (es : List EVal) (vs : List Value) (t t' : T EVal) (tm : Array Value), setParams n t ps es = some t' → TRel ρ t tm → tm.size = n → VsRel ρ es vs →
    ps.length = vs.length ∧ TRel ρ t' ((ps.zip vs).foldl (fun (a : Array Value) (x : Tmp × Value) => a.setIfInBounds x.1 x.2) tm) ∧ ((ps.zip vs).foldl (fun (a : Array Value) (x : Tmp × Value) => a.setIfInBounds x.1 x.2) tm).size = n
  | [], [], _, t, t', tm, he, ht, hn, hr => by
    cases hr
    simp only [setParams, Option.some.injEq] at he; subst he
    exact ⟨rfl, ht, hn⟩
  | [], _ :: _, _, t, t', tm, he, _, _, _ => by simp [setParams] at he
  | _ :: _, [], _, t, t', tm, he, _, _, _ => by simp [setParams] at he
  | p :: ps, e :: es, _, t, t', tm, he, ht, hn, hr => by
    cases hr with
    | cons _ v _ vs hv hs =>
    simp only [setParams, Bool.cond_eq_ite, Nat.blt_eq] at he
    split at he
    · rename_i hp
      obtain ⟨h1, h2, h3⟩ := setParams_sound ps es vs _ _ (tm.setIfInBounds p v) he (fun j e' hj => by
        rcases T.get_set _ _ _ _ hj with ⟨rfl, hh⟩ | ⟨hne, hg⟩
        · cases hh
          have : j < tm.size := by omega
          simp [this, hv]
        · have := ht j e' hg
          simp only [Array.getD_eq_getD_getElem?] at this ⊢
          rw [Array.getElem?_setIfInBounds_ne (Ne.symm hne)]
          exact this) (by simpa using hn) hs
      exact ⟨by simp [h1], h2, h3⟩
    · cases he

theorem round_sound (S : RecSound P B0 W0 r) (id : Nat) (args : List EVal) (h : H) (outs : List Out) (he : runRound r id args h = some outs) (l C : Nat) (vs : Array Value) (ρ : Loc) (w : World) (c : Frame) (cs : List Frame)
    (hid : ρ id = some (l, C)) (hvs : VsRel ρ args vs.toList) (R : HRel P B0 W0 ρ h w) :
    ∃ v h' u ρ' w' f0 tm x y, Out.val v h' ∈ outs ∧ (Instr.yield l vs).run P w = .ok (.round l f0 tm x y) w ∧ ρ.le ρ' ∧ VRel ρ' v u ∧ HRel P B0 W0 ρ' h' w' ∧
      Steps P (lone (Frame.round l f0 tm x y .normal) (c :: cs) w) (lone (c.finish u) cs w') := by
  unfold runRound at he
  split at he
  · rename_i st pend n t ps x y dd hg
    split at he
    · rename_i t' hsp
      obtain ⟨L, hw, hL1, hL2, hL3, hL4, hL5, hL6, hL7, hgo, _⟩ := loopObj R hid hg
      obtain ⟨p1, p2, p3⟩ := setParams_sound ps args vs.toList t t' L.tmps hsp hL4 hL3 hvs
      let tm := (ps.zip vs.toList).foldl (fun (a : Array Value) (x : Tmp × Value) => a.setIfInBounds x.1 x.2) L.tmps
      have hyield : (Instr.yield l vs).run P w = .ok (.round l L.fn tm x y) w := by
        have hsz : ¬ (vs.size ≠ L.params.size) := by
          rw [← hL5] at p1; simp at p1; omega
        have hfold : (L.params.zip vs).foldl (fun (tmps : Array Value) (x : Tmp × Value) => tmps.setIfInBounds x.1 x.2) L.tmps = tm := by
          rw [← Array.foldl_toList, Array.toList_zip, hL5]
        simp only [Instr.yield, Instr.getLoop, Sem.run_bind, hgo, Result.andThen_ok, Sem.run_pure, if_neg hsz]
        rw [hL6, hL7]
        exact congrArg (fun q => Result.ok (Next.round l L.fn q x y) w) hfold
      let b : Frame := { (default : Frame) with fn := L.fn, kind := .normal, roundOf := some l }
      have hround : Frame.round l L.fn tm x y .normal = fr b tm [] [.code x, .beginRound, .code y] := rfl
      have F : FRel ρ ⟨n, t', [], some id⟩ b tm [] := ⟨p3, p2, .nil, ⟨C, hid⟩⟩
      obtain ⟨l1, h1, h2⟩ := thenO_spec he
      obtain ⟨e1, f1, hh1, hm1, t1, d1, w1, ρ1, hle1, F1, R1, A1⟩ := S.code _ _ _ _ h1 b tm [] [.beginRound, .code y] (c :: cs) ρ w F R
      obtain ⟨o1, g1, g2⟩ := h2 _ hm1
      cases e1 with
      | exit i => simp [roundK1] at g1
      | ret => simp [roundK1] at g1
      | normal =>
        simp only [roundK1] at g1
        split at g1
        · rename_i pend' n' tt pp aa bb dd' hg1
          have hid1 := hle1.own _ _ hid
          obtain ⟨L1, hw1, hM1, hM2, hM3, hM4, hM5, hM6, hM7, hgo1, hput1⟩ := loopObj R1 hid1 hg1
          obtain ⟨hso1, R2⟩ := hput1 .busy pend' { L1 with state := .busy } (by cases hM2; rfl)
          have hbegin : (Instr.beginRound l).run P w1 = .ok () { w1 with heap := w1.heap.setIfInBounds l (.loop { L1 with state := .busy }) } := by
            simp [Instr.beginRound, Instr.getLoop, hgo1, hso1, hM1]
          obtain ⟨l2, h3, h4⟩ := thenO_spec g1
          obtain ⟨e2, f2, hh2, hm2, t2, d2, w2, ρ2, hle2, F2, R3, A2⟩ := S.code _ _ _ _ h3 b t1 d1 [] (c :: cs) ρ1 _ F1 R2
          obtain ⟨o2, g3, g4⟩ := h4 _ hm2
          have s1 : Steps P (lone (Frame.round l L.fn tm x y .normal) (c :: cs) w) (lone (fr b t1 d1 [.code y]) (c :: cs) { w1 with heap := w1.heap.setIfInBounds l (.loop { L1 with state := .busy }) }) := by
            rw [hround]
            exact Steps.trans A1 (.one (st_beginRound rfl hbegin))
          simp only [roundK2] at g3
          split at g3
          · rename_i st3 pend3 n3 t3 p3 a3 b3 d3 hg3
            have hid2 := hle2.own _ _ hid1
            obtain ⟨L2, hw2, hN1, hN2, hN3, hN4, hN5, hN6, hN7, hgo2, hput2⟩ := loopObj R3 hid2 hg3
            have hend : ∀ jump : Option Code, (Instr.endRound l jump).run P w2 = .ok (.bool jump.isNone) { w2 with heap := w2.heap.setIfInBounds l (.loop { L2 with state := if jump.isNone then .ready else .done, pending := jump }) } := by
              intro jump
              obtain ⟨hso, _⟩ := hput2 (if jump.isNone then .ready else .done) jump { L2 with state := if jump.isNone then .ready else .done, pending := jump } rfl
              simp only [Instr.endRound, Instr.getLoop, Sem.run_bind, hgo2, Result.andThen_ok, Sem.run_pure, hso]
            cases e2 with
            | normal =>
              simp only [Option.some.injEq] at g3; subst g3
              obtain ⟨_, R4⟩ := hput2 .ready none { L2 with state := .ready, pending := none } rfl
              refine ⟨_, _, .bool true, ρ2, _, L.fn, tm, x, y, g2 _ (g4 _ (by simp)), hyield, Loc.le_trans hle1 hle2, .bool _, R4, Steps.trans s1 (Steps.trans A2 (.one ?_))⟩
              exact st_leave_end rfl rfl (hend none)
            | ret =>
              simp only [Option.some.injEq] at g3; subst g3
              obtain ⟨_, R4⟩ := hput2 .done (some .ret) { L2 with state := .done, pending := some .ret } rfl
              obtain ⟨k', A2⟩ := A2
              refine ⟨_, _, .bool false, ρ2, _, L.fn, tm, x, y, g2 _ (g4 _ (by simp)), hyield, Loc.le_trans hle1 hle2, .bool _, R4, Steps.trans s1 (Steps.trans A2 (.one ?_))⟩
              exact st_leave_ret rfl rfl (hend (some .ret))
            | exit i =>
              simp only [Option.some.injEq] at g3; subst g3
              obtain ⟨_, R4⟩ := hput2 .done (some (.exit i)) { L2 with state := .done, pending := some (.exit i) } rfl
              obtain ⟨k', hk', A2⟩ := A2
              refine ⟨_, _, .bool false, ρ2, _, L.fn, tm, x, y, g2 _ (g4 _ (by simp)), hyield, Loc.le_trans hle1 hle2, .bool _, R4, Steps.trans s1 (Steps.trans A2 (.one ?_))⟩
              exact st_leave_exit rfl rfl (by rw [hk']; rfl) (hend (some (.exit i)))
          · cases g3
        · cases g1
    · cases he
  · cases he

end
end Go.Ev
