/- For every state and every play RulePlays returns true, and its arguments read afterwards as before: the whole card, tied to the tables of the program. No condition. -/
import Derived.Test.YtekkbbmncnkpdaaGreatDoorCardBase
import Derived.Test.YtekkbbmncnkpdaaGreatDoorLawRPlays
import Derived.Test.YtekkbbmncnkpdaaGreatDoorStOpen
import Derived.Test.YtekkbbmncnkpdaaGreatDoorStrOpen
import Derived.Test.YtekkbbmncnkpdaaGreatDoorPlayOpen
set_option linter.unusedSimpArgs false
set_option linter.unusedVariables false
namespace Go.Proofs.YtekkbbmncnkpdaaGreatDoor.rulePlaysC
open Go.ChangeShapes Go.WideShapes Go.ChangeAt Go.RowKit Go.Lib Go.Ev Go.Joins Go.Deep Go.Proofs.YtekkbbmncnkpdaaGreatDoor.base
set_option maxRecDepth 100000 in
theorem ayV (H : Type) (enc : TypeId × Value → H) (W : World) (base : Nat) (args : Array Value) (ds gs : List (DataW H)) (before : List MemPlace)
  (hval : ∀ (j : Nat) t v, Tryz.f5.params[j]? = some t → args[j]? = some v → Value.okWide Tryz.prog W .any base t v)
  (hW : DataW.Whole enc Tryz.prog Tryz.f5.params.toList Rows.rulePlaysSpec.vars false W args.toList ds gs before) (hL : laidMetH Tryz.prog Rows.rulePlaysRow.laid W) :
  Calls Tryz.prog 5 args W fun e W' => ∃ v, e = .returned v ∧ Rows.rulePlaysSpec.post enc Tryz.prog Tryz.f5 false true false false W args v W' := by
 have hW' := hW
 obtain ⟨p, q, hA0, hV, rfl, hfz, hnd⟩ := hW
 have hA : DataW.TrodAll enc Tryz.prog W 0 (fun _ => true) true Tryz.f5.params.toList args.toList ds p := hA0
 rw [Tryz.params5] at hA hval
 obtain ⟨v0, vs0, d0, ds0, p0, q0, hargs, rfl, rfl, h0, r0⟩ := trodAll_cons hA
 obtain ⟨v1, vs1, d1, ds1, p1, q1, rfl, rfl, rfl, h1, r1⟩ := trodAll_cons r0
 obtain ⟨rfl, rfl, rfl⟩ := trodAll_nil r1
 obtain rfl : args = #[v0, v1] := by cases args; simp_all
 obtain ⟨rfl, rfl⟩ := trodVars_none hV
 obtain ⟨s0, hr0⟩ := axc (hval 0 25 v0 rfl rfl) h0
 obtain ⟨s1, e1, late1, l1, hr1, hl1, hok1⟩ := av8 (hval 1 56 v1 rfl rfl) h1
 clear hA0
 simp only [List.append_nil, List.nil_append] at hW'
 have hlt0 : ∀ x ∈ p0, x.block < W.heap.size := fun x hx => hW'.lt x (by simp [hx])
 have hlt1 : ∀ x ∈ p1, x.block < W.heap.size := fun x hx => hW'.lt x (by simp [hx])
 have G : GRel W.heap.size W gT := GRel.of_laid gWays avu awZ (iR (iR (iR hL)))
 have e4 : F5 [.agg (eSt s0), .agg [.str (s1.data.toList.map UInt8.toNat), .str (e1.data.toList.map UInt8.toNat), .bool late1, .lsl (j9 l1)]] = some (.bool true) := by
  exact F5_e (t := ⟨_, _, late1, l1⟩) (axI s1) (axI e1)
 refine (fn5 W.heap.size ⟨W, dF W⟩ G _ _ e4 _ (dF W) W (.cons _ _ _ _ (hr0) (.cons _ _ _ _ (hr1) .nil)) (qP W) (Below.refl _ _) (Nat.le_refl _)).mono ?_
 rintro e W' ⟨u, φ, rfl, hu, hg, -⟩
 cases hu
 have hfn : Rows.rulePlaysSpec.fn H ([d0, d1] ++ []) = { results := [.lit (.bool true)], args := [d0, d1] } := rfl
 have hrt : Tryz.f5.resultTypes = #[4] := rfl
 have k1 : ∀ (b : Nat) (sp : Nat → Bool) (hd : Bool), DataW.TrodAll enc Tryz.prog W' b sp hd Tryz.f5.resultTypes.toList ((Value.bool true).resultList Tryz.f5.resultTypes.size) (Rows.rulePlaysSpec.fn H ([d0, d1] ++ [])).results [] := by
  intro b sp hd
  rw [hfn, hrt]
  exact trodAll_cons_mk (shut_bool Tryz.underlying4 _) trodAll_mk0
 have k2 : ∀ sp : Nat → Bool, (∀ x ∈ p0 ++ p1, sp x.block = true) → DataW.TrodAll enc Tryz.prog W' 0 sp true Tryz.f5.params.toList [v0, v1] (Rows.rulePlaysSpec.fn H ([d0, d1] ++ [])).args (p0 ++ p1) := by
  intro sp hsp
  have hsp0 : ∀ x ∈ p0, sp x.block = true := fun x hx => hsp x (by simp [hx])
  have hsp1 : ∀ x ∈ p1, sp x.block = true := fun x hx => hsp x (by simp [hx])
  rw [hfn, Tryz.params5]
  have q := trodAll_cons_mk (ax7 h0 hg hlt0 hsp0) (trodAll_cons_mk (azh h1 hg hlt1 hsp1) trodAll_mk0)
  simpa only [List.append_nil, List.nil_append] using q
 have k4 : ∀ (j : Nat) (t : TypeId) (r : Value), Tryz.f5.resultTypes[j]? = some t → ((Value.bool true).resultList Tryz.f5.resultTypes.size)[j]? = some r → Value.okWide Tryz.prog W' .any 0 t r := ok_one (f := Tryz.f5) hrt rfl (okWide_bool_mk Tryz.underlying4 _)
 exact ⟨_, rfl, uV (pa := p0 ++ p1) (pv := []) hW' k1 k2 (fun _ _ => rfl) (List.append_nil _).symm hg k4⟩
def ay5 : Array Value := #[.agg #[.int .i64 0, .int .i64 0, .int .i64 0, .int .i64 0, .int .i64 0, .int .i64 0, .int .i64 0, .int .i64 0, .int .i64 0, .int .i64 0, .int .i64 0, .int .i64 0, .bool false], .agg #[.string ⟨#[]⟩, .string ⟨#[]⟩, .bool false, .slice none 0 0]]
theorem laid_met (os : Os) : laidMet Tryz.prog Rows.rulePlaysRow.laid ((qH os).forCall (fun _ _ => 0) ⟨#[], ay5, []⟩).memory :=
 laidMet_of_run' 8 (by kernel_rfl) (by kernel_rfl)
theorem reads (os : Os) {H : Type} (enc : TypeId × Value → H) : ∃ places, DataW.whole enc Tryz.prog ((qH os).forCall (fun _ _ => 0) ⟨#[], ay5, []⟩).memory Tryz.f5.params.toList Rows.rulePlaysSpec.vars false ay5.toList 8 = some ([.agg [.lit (.int .i64 0), .lit (.int .i64 0), .lit (.int .i64 0), .lit (.int .i64 0), .lit (.int .i64 0), .agg [.lit (.int .i64 0), .lit (.int .i64 0), .lit (.int .i64 0)], .agg [.lit (.int .i64 0), .lit (.int .i64 0)], .agg [.lit (.int .i64 0), .lit (.int .i64 0)], .lit (.bool false)], .agg [.lit (.string []), .lit (.string []), .lit (.bool false), .nil]], [], places) :=
 ⟨[], by kernel_rfl⟩
set_option maxRecDepth 100000 in
theorem lifted (os : Os) (started : os.Started) (H : Type) (enc : TypeId × Value → H) (F : Stop.Interp) :
  ReturnsInHanded {} Tryz.checked os 5 .any ((OpenSpec.ofChange Rows.rulePlaysSpec).preRow enc Tryz.prog Tryz.f5 Rows.rulePlaysRow.domain false Rows.rulePlaysRow.laid) (((OpenSpec.ofChange Rows.rulePlaysSpec).at F).post enc Tryz.prog Tryz.f5 false true false false) := by
 obtain ⟨places, hx⟩ := reads os enc
 refine returnsInHanded_of_row (C := Tryz.checked) (s := OpenSpec.ofChange Rows.rulePlaysSpec) own started (by kernel_rfl) Tryz.func5
  (witness_row_at (enc := enc) (C := Tryz.checked) false (qH os) ay5 rfl (by kernel_rfl) (by kernel_rfl) (by kernel_rfl)
   (OpenSpec.preRow_of_cond 8 hx (by kernel_rfl) (fun k hk => by cases hk) (by kernel_rfl) (laid_met os))) ?_
 intro W base args ds gs before hval hW _ _ _ hL _ _
 exact ayV H enc W base args ds gs before hval hW hL
theorem said : Rows.RulePlaysSaid :=
 OpenClaim.holds_of_cond 5 Tryz.f5 rfl rfl rfl rfl rfl rfl rfl ⟨rfl, rfl, rfl, rfl, rfl⟩ rfl rfl rfl rfl rfl (by kernel_rfl) Tryz.func5 (by kernel_rfl)
  (of_decide_eq_true (by kernel_rfl)) (by unfold Func.isWrapper; first | (rw [if_pos (by decide +kernel)]; kernel_rfl) | (rw [if_neg (by decide +kernel)]; exact ⟨rfl, rfl⟩))
  (fun os started H enc _ F => by rw [OpenClaim.pre_eq_preRow]; exact lifted os started H enc F)
theorem plain (f : FuncId) (fn : Func) (hf : Tryz.pinned.checked.prog.funcNamed Rows.rulePlaysRow.func = some f) (hfn : Tryz.pinned.checked.prog.funcs[f]? = some fn) :
  false = Tryz.pinned.checked.prog.looks [] ∧ ∀ (j : Nat) t, fn.params[j]? = some t → Tryz.pinned.checked.prog.wantsStandIn t = false := by
 obtain rfl : f = 5 := Option.some.inj ((show Tryz.prog.funcNamed Rows.rulePlaysRow.func = some 5 by kernel_rfl).symm.trans hf) |>.symm
 obtain rfl : fn = Tryz.f5 := (Option.some.inj (Tryz.func5.symm.trans hfn)).symm
 refine ⟨by kernel_rfl, fun j t ht => ?_⟩
 rw [Tryz.params5] at ht
 have hm : t = 25 ∨ t = 56 := by simpa using Array.mem_of_getElem? ht
 rcases hm with rfl | rfl
 · exact (show Tryz.prog.wantsStandIn 25 = false by kernel_rfl)
 · exact (show Tryz.prog.wantsStandIn 56 = false by kernel_rfl)
theorem card : Rows.RulePlaysCardSaid :=
 Claim7.holds_tied_plain_at .later [] _ _ _ _ said (fun _ h => by cases h) (by kernel_rfl) (fun _ h => by cases h) rulePlays_row_tie rfl ⟨rfl, rfl⟩ (by kernel_rfl) rfl plain (by kernel_rfl)
end Go.Proofs.YtekkbbmncnkpdaaGreatDoor.rulePlaysC
namespace Go.Proofs.YtekkbbmncnkpdaaGreatDoor
theorem rulePlays_holds : Rows.RulePlaysCardSaid := rulePlaysC.card
end Go.Proofs.YtekkbbmncnkpdaaGreatDoor
