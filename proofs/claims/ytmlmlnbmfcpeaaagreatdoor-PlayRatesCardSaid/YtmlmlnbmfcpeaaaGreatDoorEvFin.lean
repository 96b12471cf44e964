import Derived.Test.YtmlmlnbmfcpeaaaGreatDoorEvDraw4
import Derived.Test.YtmlmlnbmfcpeaaaGreatDoorEvRun3
namespace Go.Ev
open Go.RowKit

mutual
theorem VRel.flat {ρ : Loc} : ∀ {e : EVal} {v : Value}, flat e = true → VRel ρ e v → VRel (fun _ => none) e v
  | .unk, _, _, h => by cases h; exact .unk _ _
  | .bool _, _, _, h => by cases h; exact .bool _
  | .int _ _, _, _, h => by cases h; exact .int _ _
  | .str _, _, _, h => by cases h with | str _ s h => exact .str _ s h
  | .nilp, _, _, h => by cases h; exact .nilp
  | .nilslice, _, _, h => by cases h; exact .nilslice
  | .nilmap, _, _, h => by cases h; exact .nilmap
  | .nilfunc, _, _, h => by cases h; exact .nilfunc
  | .nilif, _, _, h => by cases h; exact .nilif
  | .agg l, _, hf, h => by cases h with | agg _ cs h => exact .agg _ _ (VsRel.flat (by simpa [Go.Ev.flat] using hf) h)
  | .tup l, _, hf, h => by cases h with | tup _ cs h => exact .tup _ _ (VsRel.flat (by simpa [Go.Ev.flat] using hf) h)
theorem VsRel.flat {ρ : Loc} : ∀ {es : List EVal} {vs : List Value}, flatL es = true → VsRel ρ es vs → VsRel (fun _ => none) es vs
  | [], _, _, h => by cases h; exact .nil
  | e :: es, _, hf, h => by
    simp only [flatL, Bool.and_eq_true] at hf
    cases h with | cons _ v _ vs h hs => exact .cons _ _ _ _ (VRel.flat hf.1 h) (VsRel.flat hf.2 hs)
end

section
variable {P : Program} {B0 : Nat} {W0 : World} {g : G} {K : Known}

theorem rec_sound (hm : P.follows .mixedOrders = true) (hng : NoNG P) (G : GRel B0 W0 g) (hK : KOK P B0 W0 K) : ∀ n, RecSound P B0 W0 (run P g K n)
  | 0 => ⟨fun _ _ _ _ h => (by cases h), fun _ _ _ _ _ h => (by cases h), fun _ _ _ _ h => (by cases h), fun _ _ _ _ h => (by cases h), fun _ _ _ _ h => (by cases h)⟩
  | n + 1 => by
    have S := rec_sound hm hng G hK n
    refine ⟨fun c f h outs he => ?_, fun all l f h outs he js hjs => ?_, fun fn args h outs he vs ρ w hvs R => ?_, fun id args h outs he => ?_, fun c f h outs he => ?_⟩
    · have he : runCode P g K (run P g K n) c f h = some outs := he
      exact fun b t d k cs ρ w F R => code_sound hng S (fun id ops f h outs he b t d k cs ρ w F R => draw_sound hm hng G S hK id ops f h outs he b t d k cs ρ w F R) c f h outs he b t d k cs ρ w F R
    · have he : runOps P g (run P g K n) all l f h = some outs := he
      exact fun b t d k cs ρ w F R => ops_sound hng G S all l f h outs he js hjs b t d k cs ρ w F R
    · have he : runCall P g K (run P g K n) fn args h = some outs := he
      unfold runCall at he
      split at he
      · rename_i v hk
        simp only [Option.some.injEq] at he; subst he
        refine (hK fn args v hk vs ρ w hvs R.below R.base).mono ?_
        rintro e w' ⟨u, rfl, hu, hb⟩
        exact ⟨v, h, u, ρ, by simp, rfl, Loc.le_refl _, hu, R.grow hb⟩
      · exact call_sound' G S fn args h outs he vs ρ w hvs R
    · have he : runRound (run P g K n) id args h = some outs := he
      exact round_sound S id args h outs he
    · have he : thenO ((run P g K n) (.code c f h)) (loopK (run P g K n) c) = some outs := he
      exact fun b t d k cs ρ w F R => again_sound S he b t d k cs ρ w F R

theorem HRel.start (w : World) : HRel P w.heap.size w (fun _ => none) ⟨0, T.full none 14⟩ w :=
  ⟨Below.refl _ _, Nat.le_refl _, fun _ _ => rfl, fun _ _ _ h => (by cases h), fun _ _ _ _ _ _ _ h => (by have := T.get_full _ _ _ h; cases this), fun _ _ h => (by have := T.get_full _ _ _ h; cases this)⟩

/-- A call of closed arguments, run as one computation. -/
theorem run_calls (hm : P.follows .mixedOrders = true) (hng : NoNG P) {w : World} (G : GRel w.heap.size w g) (hK : KOK P w.heap.size w K) {n : Nat} {f : FuncId} {args : List EVal} {outs : List Out}
    (he : run P g K n (.call f args ⟨0, T.full none 14⟩) = some outs) {vs : Array Value} (hvs : VsRel (fun _ => none) args vs.toList) :
    Calls P f vs w fun e w' => ∃ v h' u ρ, Out.val v h' ∈ outs ∧ e = .returned u ∧ VRel ρ v u ∧ Below w.heap.size w w' :=
  ((rec_sound hm hng G hK n).call f args _ outs he vs _ w hvs (HRel.start w)).mono fun e w' ⟨v, h', u, ρ', hmem, he, _, hv, R⟩ => ⟨v, h', u, ρ', hmem, he, hv, R.below⟩

theorem KOK.none : KOK P B0 W0 (fun _ _ => Option.none) := fun _ _ _ h => by cases h

theorem GRel.grow (G : GRel B0 W0 g) {w : World} (hb : Below B0 W0 w) (hs : B0 ≤ w.heap.size) : GRel w.heap.size w g := fun i cells hi => by
  obtain ⟨h1, cs, e, fr, h2, h3⟩ := G i cells hi
  exact ⟨by omega, cs, e, fr, by rw [hb.block _ h1]; exact h2, h3⟩

/-- Calls that are run on their own keep the table's word. -/
theorem quietK_ok (hm : P.follows .mixedOrders = true) (hng : NoNG P) (G : GRel B0 W0 g) (n : Nat) (F : FuncId → Bool) : KOK P B0 W0 (quietK P g n F) := by
  intro f args v hk vs ρ w hvs hb hs
  unfold quietK at hk
  simp only [Bool.cond_eq_ite] at hk
  split at hk
  · rename_i hF
    simp only [Bool.and_eq_true] at hF
    unfold quietR at hk
    split at hk
    · rename_i u h2 hr
      simp only [Bool.cond_eq_ite] at hk
      split at hk
      · rename_i hfl
        simp only [Option.some.injEq] at hk; subst hk
        refine (run_calls hm hng (G.grow hb hs) KOK.none hr (hvs.flat hF.2)).mono ?_
        rintro e w' ⟨v1, h', u1, ρ', hmem, rfl, hv, hbe⟩
        simp only [List.mem_singleton, Out.val.injEq] at hmem
        obtain ⟨rfl, rfl⟩ := hmem
        exact ⟨u1, rfl, (hv.flat hfl).mono (none_le ρ), hbe⟩
      · cases hk
    · cases hk
  · cases hk
end
end Go.Ev
