import Derived.Test.YtdbjdkkgpnkiaaaGreatDoorEvDraw4
import Derived.Test.YtdbjdkkgpnkiaaaGreatDoorEvRun3
set_option linter.unusedSimpArgs false
set_option linter.unusedVariables false
namespace Go.Ev
open Go.RowKit

section
variable {P : Program} {B0 : Nat} {W0 : Base} {g : G} {K : Known}

theorem rec_sound (hm : P.follows .mixedOrders = true) (hng : NoNG P) (G : GRel B0 W0.w g) (hK : KOK P B0 W0 K) : ∀ n, RecSound P B0 W0 (run P g K n)
  | 0 => ⟨fun _ _ _ _ h => (by cases h), fun _ _ _ _ _ h => (by cases h), fun _ _ _ _ h => (by cases h), fun _ _ _ _ h => (by cases h), fun _ _ _ _ h => (by cases h)⟩
  | n + 1 => by
    have S := rec_sound hm hng G hK n
    refine ⟨fun c f h outs he => ?_, fun all l f h outs he js hjs => ?_, fun fn args h outs he vs ρ w hvs R => ?_, fun id args h outs he => ?_, fun c f h outs he => ?_⟩
    · have he : runCode P g K (run P g K n) c f h = some outs := he
      exact fun b t d k cs ρ w F R => code_sound hng S (fun id ops f h outs he b t d k cs ρ w F R => draw_sound hm hng G S hK id ops f h outs he b t d k cs ρ w F R) c f h outs he b t d k cs ρ w F R
    · have he : runOps P g (run P g K n) all l f h = some outs := he
      exact fun b t d k cs ρ w F R => ops_sound hng G S all l f h outs he js hjs b t d k cs ρ w F R
    · have he : runCall P g K (run P g K n) fn args h = some outs := he
      unfold runCall at he
      split at he
      · rename_i v hk
        simp only [Option.some.injEq] at he; subst he
        refine (kcall_sound hK R hk hvs).mono ?_
        rintro e w' ⟨u, ρ', rfl, hle, hu, R'⟩
        exact ⟨v, h, u, ρ', by simp, rfl, hle, hu, R'⟩
      · exact call_sound' G S fn args h outs he vs ρ w hvs R
    · have he : runRound (run P g K n) id args h = some outs := he
      exact round_sound S id args h outs he
    · have he : thenO ((run P g K n) (.code c f h)) (loopK (run P g K n) c) = some outs := he
      exact fun b t d k cs ρ w F R => again_sound S he b t d k cs ρ w F R

/-- what stands for good as a call begins -/
def Loc.start (fro : Nat → Option (List Value)) : Loc := ⟨fun _ => none, fro, fun _ _ => none⟩

theorem HRel.start (w : World) {fro : Nat → Option (List Value)} (hF : FzOK fro w) : HRel P w.heap.size ⟨w, fro⟩ (Loc.start fro) H.start w :=
  ⟨Below.refl _ _, Nat.le_refl _, fun _ _ => rfl, fun _ _ _ h => (by cases h), fun _ _ _ _ _ _ _ h => (by have := T.get_full _ _ _ h; cases this), fun _ _ h => (by have := T.get_full _ _ _ h; cases this),
   hF, fun _ _ _ _ _ _ h => (by have := T.get_full _ _ _ h; cases this), fun _ _ => rfl, fun _ _ _ => rfl, fun _ _ _ h => (by have := T.get_full _ _ _ h; cases this),
   fun _ _ _ h => (by have := T.get_full _ _ _ h; cases this), fun _ _ _ _ _ _ _ _ _ h => (by have := T.get_full _ _ _ h; cases this)⟩

/-- A call of closed arguments, run as one computation. -/
theorem run_calls (hm : P.follows .mixedOrders = true) (hng : NoNG P) {w : World} {fro : Nat → Option (List Value)} (hF : FzOK fro w) (G : GRel w.heap.size w g) (hK : KOK P w.heap.size ⟨w, fro⟩ K) {n : Nat} {f : FuncId} {args : List EVal} {outs : List Out}
    (he : run P g K n (.call f args H.start) = some outs) {vs : Array Value} (hvs : VsRel (Loc.start fro) args vs.toList) :
    Calls P f vs w fun e w' => ∃ v h' u ρ, Out.val v h' ∈ outs ∧ e = .returned u ∧ VRel ρ v u ∧ HRel P w.heap.size ⟨w, fro⟩ ρ h' w' :=
  ((rec_sound hm hng G hK n).call f args _ outs he vs _ w hvs (HRel.start w hF)).mono fun e w' ⟨v, h', u, ρ', hmem, he, _, hv, R⟩ => ⟨v, h', u, ρ', hmem, he, hv, R⟩

theorem KOK.none : KOK P B0 W0 (fun _ _ => Option.none) := fun _ _ _ h => by cases h

theorem GRel.grow (G : GRel B0 W0.w g) {w : World} (hb : Below B0 W0.w w) (hs : B0 ≤ w.heap.size) : GRel w.heap.size w g := fun i cells hi => by
  obtain ⟨h1, cs, e, fr, h2, h3⟩ := G i cells hi
  exact ⟨by omega, cs, e, fr, by rw [hb.block _ h1]; exact h2, h3⟩

/-- A value that stands for good, as the call leaves it. -/
theorem VRel.leave {fro : Nat → Option (List Value)} {w w' : World} {ρ : Loc} {h : H} (R : HRel P w.heap.size ⟨w, fro⟩ ρ h w') {v v' : EVal} {u : Value} (hv : VRel ρ v u) (hk : keepV v = some v') :
    ∃ φ, VRel (Loc.more (Loc.start fro) w.heap.size φ) v' u ∧ FzOK (fun b => if b < w.heap.size then fro b else φ b) w' := by
  have hfro : (fun b => if b < w.heap.size then fro b else ρ.fro b) = ρ.fro := by
    funext b
    split
    · rename_i hb; exact (R.fz0 b hb).symm
    · rfl
  refine ⟨ρ.fro, ?_, by rw [hfro]; exact R.fz⟩
  have : Loc.more (Loc.start fro) w.heap.size ρ.fro = ρ.fz := by
    unfold Loc.more Loc.start Loc.fz
    simp only [hfro]
  rw [this]
  exact keepV_sound hv hk

/-- Calls that are run on their own keep the table's word. -/
theorem quietK_ok (hm : P.follows .mixedOrders = true) (hng : NoNG P) (G : GRel B0 W0.w g) (n : Nat) (F : FuncId → Bool) : KOK P B0 W0 (quietK P g n F) := by
  intro f args v hk vs fro w hvs hF hb hs
  unfold quietK at hk
  simp only [Bool.cond_eq_ite] at hk
  split at hk
  · rename_i hq
    unfold quietR at hk
    split at hk
    · rename_i u h2 hr
      simp only [Bool.cond_eq_ite] at hk
      split at hk
      · rename_i hfl
        simp only [Option.some.injEq] at hk; subst hk
        refine (run_calls hm hng hF (G.grow hb hs) KOK.none hr hvs).mono ?_
        rintro e w' ⟨v1, h', u1, ρ', hmem, rfl, hv, hR⟩
        simp only [List.mem_singleton, Out.val.injEq] at hmem
        obtain ⟨rfl, rfl⟩ := hmem
        have hz : FzOK (fun b => if b < w.heap.size then fro b else ρ'.fro b) w' := by
          have hfro : (fun b => if b < w.heap.size then fro b else ρ'.fro b) = ρ'.fro := by
            funext b
            split
            · rename_i hb; exact (hR.fz0 b hb).symm
            · rfl
          rw [hfro]; exact hR.fz
        exact ⟨u1, ρ'.fro, rfl, (hv.flat hfl).mono (none_le _), hR.below, hz⟩
      · cases hk
    · cases hk
  · cases hk
end
end Go.Ev
