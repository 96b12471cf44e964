/- For every play PlaySums returns true, and its argument reads afterwards as before: the whole card, tied to the table of the ways of the program. No condition. -/
import Derived.Test.YtcmlciebgapmjaaGreatDoorCardBase
import Derived.Test.YtcmlciebgapmjaaGreatDoorLawSums
import Derived.Test.YtcmlciebgapmjaaGreatDoorPlayOpen
set_option linter.unusedSimpArgs false
set_option linter.unusedVariables false
namespace Go.Proofs.YtcmlciebgapmjaaGreatDoor.playSumsC
open Go.ChangeShapes Go.WideShapes Go.ChangeAt Go.RowKit Go.Lib Go.Ev Go.Joins Go.Deep Go.Proofs.YtcmlciebgapmjaaGreatDoor.base

theorem c75 : Tryz.prog.cellsOf 75 = 2 := by kernel_rfl

set_option maxRecDepth 100000 in
theorem contract (H : Type) (enc : TypeId × Value → H) (W : World) (base : Nat) (args : Array Value) (ds gs : List (DataW H)) (cE : List MemPlace)
    (hval : ∀ (j : Nat) t v, Tryz.f14.params[j]? = some t → args[j]? = some v → Value.okWide Tryz.prog W .any base t v)
    (hW : DataW.Whole enc Tryz.prog Tryz.f14.params.toList Rows.playSumsSpec.vars false W args.toList ds gs cE) (hL : laidMetH Tryz.prog Rows.playSumsRow.laid W) :
    Calls Tryz.prog 14 args W fun e W' => ∃ v, e = .returned v ∧ Rows.playSumsSpec.post enc Tryz.prog Tryz.f14 false true false false W args v W' := by
  have hW' := hW
  obtain ⟨p, q, hA0, hV, rfl, hfz, hnd⟩ := hW
  have hA : DataW.TrodAll enc Tryz.prog W 0 (fun _ => true) true Tryz.f14.params.toList args.toList ds p := hA0
  rw [Tryz.params14] at hA hval
  obtain ⟨v0, vs0, d0, ds0, p0, q0, hargs, rfl, rfl, h0, r0⟩ := trodAll_cons hA
  obtain ⟨rfl, rfl, rfl⟩ := trodAll_nil r0
  obtain rfl : args = #[v0] := by cases args; simp_all
  obtain ⟨rfl, rfl⟩ := trodVars_none hV
  obtain ⟨s0, e0, late0, l0, hr0, hl0, hok0⟩ := open_play (hval 0 24 v0 rfl rfl) h0
  clear hA0
  simp only [List.append_nil, List.nil_append] at hW'
  have hlt0 : ∀ x ∈ p0, x.block < W.heap.size := fun x hx => hW'.lt x (by simp [hx])
  have G : dU W.heap.size W gT := dU.of_laid gWays gWaysType ways_lay hL
  have e4 : F14 [.agg [.str (s0.data.toList.map UInt8.toNat), .str (e0.data.toList.map UInt8.toNat), .bool late0, .lsl (bF l0)]] = some (.bool true) := by
    simp only [F14, bC]
    rw [if_pos ⟨bytes_ok s0, bytes_ok e0⟩, dMoves_e hl0 hok0]; rfl
  refine (fn14 W.heap.size ⟨W, froAll W⟩ G _ _ e4 _ (froAll W) W (.cons _ _ _ _ (hr0) .nil) (froAll_ok W) (Below.refl _ _) (Nat.le_refl _)).mono ?_
  rintro e W' ⟨u, φ, rfl, hu, hg, -⟩
  cases hu
  have hfn : Rows.playSumsSpec.fn H ([d0] ++ []) = { results := [.lit (.bool true)], args := [d0] } := rfl
  have hrt : Tryz.f14.resultTypes = #[4] := rfl
  have k1 : ∀ (b : Nat) (sp : Nat → Bool) (hd : Bool), DataW.TrodAll enc Tryz.prog W' b sp hd Tryz.f14.resultTypes.toList ((Value.bool true).resultList Tryz.f14.resultTypes.size) (Rows.playSumsSpec.fn H ([d0] ++ [])).results [] := by
    intro b sp hd
    rw [hfn, hrt]
    exact trodAll_cons_mk (shut_bool Tryz.underlying4 _) trodAll_mk0
  have k2 : ∀ sp : Nat → Bool, (∀ x ∈ p0, sp x.block = true) → DataW.TrodAll enc Tryz.prog W' 0 sp true Tryz.f14.params.toList [v0] (Rows.playSumsSpec.fn H ([d0] ++ [])).args (p0) := by
    intro sp hsp
    have hsp0 : ∀ x ∈ p0, sp x.block = true := fun x hx => hsp x (by simp [hx])
    rw [hfn, Tryz.params14]
    have q := trodAll_cons_mk (stay_play h0 hg hlt0 hsp0) trodAll_mk0
    simpa only [List.append_nil, List.nil_append] using q
  have k4 : ∀ (j : Nat) (t : TypeId) (r : Value), Tryz.f14.resultTypes[j]? = some t → ((Value.bool true).resultList Tryz.f14.resultTypes.size)[j]? = some r → Value.okWide Tryz.prog W' .any 0 t r := ok_one (f := Tryz.f14) hrt rfl (okWide_bool_mk Tryz.underlying4 _)
  exact ⟨_, rfl, post_of_below (pa := p0) (pv := []) hW' k1 k2 (fun _ _ => rfl) (List.append_nil _).symm hg k4⟩

def argsW : Array Value := #[.agg #[.string ⟨#[]⟩, .string ⟨#[]⟩, .bool false, .slice none 0 0]]
theorem laid_met (os : Os) : laidMet Tryz.prog Rows.playSumsRow.laid ((laidWorld os).forCall (fun _ _ => 0) ⟨#[], argsW, []⟩).memory :=
  laidMet_of_run' 8 (by kernel_rfl) (by kernel_rfl)
theorem reads (os : Os) {H : Type} (enc : TypeId × Value → H) : ∃ places, DataW.whole enc Tryz.prog ((laidWorld os).forCall (fun _ _ => 0) ⟨#[], argsW, []⟩).memory Tryz.f14.params.toList Rows.playSumsSpec.vars false argsW.toList 8 = some ([.agg [.lit (.string []), .lit (.string []), .lit (.bool false), .nil]], [], places) :=
  ⟨[], by kernel_rfl⟩

set_option maxRecDepth 100000 in
theorem lifted (os : Os) (started : os.Started) (H : Type) (enc : TypeId × Value → H) (F : Stop.Interp) :
    ReturnsInHanded {} Tryz.checked os 14 .any ((OpenSpec.ofChange Rows.playSumsSpec).preRow enc Tryz.prog Tryz.f14 Rows.playSumsRow.domain false Rows.playSumsRow.laid) (((OpenSpec.ofChange Rows.playSumsSpec).at F).post enc Tryz.prog Tryz.f14 false true false false) := by
  obtain ⟨places, hx⟩ := reads os enc
  refine returnsInHanded_of_row (C := Tryz.checked) (s := OpenSpec.ofChange Rows.playSumsSpec) own started (by kernel_rfl) Tryz.func14
    (witness_row_at (enc := enc) (C := Tryz.checked) false (laidWorld os) argsW rfl (by kernel_rfl) (by kernel_rfl) (by kernel_rfl)
      (OpenSpec.preRow_of_cond 8 hx (by kernel_rfl) (fun k hk => by cases hk) (by kernel_rfl) (laid_met os))) ?_
  intro W base args ds gs cE hval hW _ _ _ hL _ _
  exact contract H enc W base args ds gs cE hval hW hL

theorem said : Rows.PlaySumsSaid :=
  OpenClaim.holds_of_cond 14 Tryz.f14 rfl rfl rfl rfl rfl rfl rfl ⟨rfl, rfl, rfl, rfl, rfl⟩ rfl rfl rfl rfl rfl (by kernel_rfl) Tryz.func14 (by kernel_rfl)
    (of_decide_eq_true (by kernel_rfl)) (by unfold Func.isWrapper; first | (rw [if_pos (by decide +kernel)]; kernel_rfl) | (rw [if_neg (by decide +kernel)]; exact ⟨rfl, rfl⟩))
    (fun os started H enc _ F => by rw [OpenClaim.pre_eq_preRow]; exact lifted os started H enc F)

theorem plain (f : FuncId) (fn : Func) (hf : Tryz.pinned.checked.prog.funcNamed Rows.playSumsRow.func = some f) (hfn : Tryz.pinned.checked.prog.funcs[f]? = some fn) :
    false = Tryz.pinned.checked.prog.looks [] ∧ ∀ (j : Nat) t, fn.params[j]? = some t → Tryz.pinned.checked.prog.wantsStandIn t = false := by
  obtain rfl : f = 14 := Option.some.inj ((show Tryz.prog.funcNamed Rows.playSumsRow.func = some 14 by kernel_rfl).symm.trans hf) |>.symm
  obtain rfl : fn = Tryz.f14 := (Option.some.inj (Tryz.func14.symm.trans hfn)).symm
  refine ⟨by kernel_rfl, fun j t ht => ?_⟩
  rw [Tryz.params14] at ht
  obtain rfl : t = 24 := by simpa using Array.mem_of_getElem? ht
  exact (show Tryz.prog.wantsStandIn 24 = false by kernel_rfl)

theorem card : Rows.PlaySumsCardSaid :=
  Claim7.holds_tied_plain_at .later [] _ _ _ _ said (fun _ h => by cases h) (by kernel_rfl) (fun _ h => by cases h) playSums_row_tie rfl ⟨rfl, rfl⟩ (by kernel_rfl) rfl plain (by kernel_rfl)
end Go.Proofs.YtcmlciebgapmjaaGreatDoor.playSumsC
namespace Go.Proofs.YtcmlciebgapmjaaGreatDoor
theorem playSums_holds : Rows.PlaySumsCardSaid := playSumsC.card
end Go.Proofs.YtcmlciebgapmjaaGreatDoor
