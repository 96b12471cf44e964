/- For every string, every byte and every two integers PlayParts returns true, and its arguments read afterwards as before: the whole card, tied to the table of the ways of the program. No condition. -/
import Derived.Test.YtdbjdkkgpnkiaaaGreatDoorCardBase
import Derived.Test.YtdbjdkkgpnkiaaaGreatDoorLawParts
import Derived.Test.YtdbjdkkgpnkiaaaGreatDoorCardStr
import Derived.Test.YtdbjdkkgpnkiaaaGreatDoorEvTwo
set_option linter.unusedSimpArgs false
set_option linter.unusedVariables false
namespace Go.Proofs.YtdbjdkkgpnkiaaaGreatDoor.playPartsC
open Go.ChangeShapes Go.WideShapes Go.ChangeAt Go.RowKit Go.Lib Go.Ev Go.Joins Go.Deep Go.Proofs.YtdbjdkkgpnkiaaaGreatDoor.base

theorem c75 : Tryz.prog.cellsOf 75 = 2 := by kernel_rfl
theorem c3 : Tryz.prog.cellsOf 3 = 1 := by kernel_rfl
theorem cut_ok {n : Int} (h : (Lit.int .u8 n).wf = true) : 0 ≤ n ∧ n < 256 := by
  simp only [Lit.wf, Bool.and_eq_true, decide_eq_true_eq] at h
  have a : IntKind.min .u8 = 0 := by decide
  have b : IntKind.max .u8 = 255 := by decide
  omega

set_option maxRecDepth 100000 in
theorem contract (H : Type) (enc : TypeId × Value → H) (W : World) (base : Nat) (args : Array Value) (ds gs : List (DataW H)) (before : List MemPlace)
    (hval : ∀ (j : Nat) t v, Tryz.f13.params[j]? = some t → args[j]? = some v → Value.okWide Tryz.prog W .any base t v)
    (hW : DataW.Whole enc Tryz.prog Tryz.f13.params.toList Rows.playPartsSpec.vars false W args.toList ds gs before) (hL : laidMetH Tryz.prog Rows.playPartsRow.laid W) :
    Calls Tryz.prog 13 args W fun e W' => ∃ v, e = .returned v ∧ Rows.playPartsSpec.post enc Tryz.prog Tryz.f13 false true false false W args v W' := by
  have hW' := hW
  obtain ⟨p, q, hA0, hV, rfl, hfz, hnd⟩ := hW
  have hA : DataW.TrodAll enc Tryz.prog W 0 (fun _ => true) true Tryz.f13.params.toList args.toList ds p := hA0
  rw [Tryz.params13] at hA hval
  obtain ⟨v0, vs0, d0, ds0, p0, q0, hargs, rfl, rfl, h0, r0⟩ := trodAll_cons hA
  obtain ⟨v1, vs1, d1, ds1, p1, q1, rfl, rfl, rfl, h1, r1⟩ := trodAll_cons r0
  obtain ⟨v2, vs2, d2, ds2, p2, q2, rfl, rfl, rfl, h2, r2⟩ := trodAll_cons r1
  obtain ⟨rfl, rfl, rfl⟩ := trodAll_nil r2
  obtain rfl : args = #[v0, v1, v2] := by cases args; simp_all
  obtain ⟨rfl, rfl⟩ := trodVars_none hV
  obtain ⟨s, rfl, rfl, rfl, hs⟩ := Go.ChangeMaps.open_string Tryz.underlying9 (hval 0 9 v0 rfl rfl) h0
  obtain ⟨n, rfl, rfl, rfl, hn⟩ := open_int Tryz.underlying5 (hval 1 5 v1 rfl rfl) h1
  obtain ⟨a0, b0, rfl, rfl, rfl, ha, hb⟩ := open_two Tryz.underlying75 Tryz.underlying3 c75 c3 (hval 2 75 v2 rfl rfl) h2
  clear hA0
  simp only [List.append_nil] at hW'
  have G : GRel W.heap.size W gT := GRel.of_laid gWays gWaysType ways_lay hL
  have e4 : F13 [.str (s.data.toList.map UInt8.toNat), .int .u8 n, .agg [.int .i64 a0, .int .i64 b0]] = some (.bool true) := by
    show (if _ then _ else _) = _
    rw [if_pos ⟨bytes_ok s, cut_ok hn⟩]
  refine (fn13 W.heap.size ⟨W, froAll W⟩ G _ _ e4 _ (froAll W) W (.cons _ _ _ _ (.str _ s rfl) (.cons _ _ _ _ (.int .u8 n) (.cons _ _ _ _ (.agg _ _ (.cons _ _ _ _ (.int .i64 a0) (.cons _ _ _ _ (.int .i64 b0) .nil))) .nil))) (froAll_ok W) (Below.refl _ _) (Nat.le_refl _)).mono ?_
  rintro e W' ⟨u, φ, rfl, hu, hg, -⟩
  cases hu
  have hfn : Rows.playPartsSpec.fn H ([.lit (.string s.data.toList), .lit (.int .u8 n), .agg [.lit (.int .i64 a0), .lit (.int .i64 b0)]] ++ []) = { results := [.lit (.bool true)], args := [.lit (.string s.data.toList), .lit (.int .u8 n), .agg [.lit (.int .i64 a0), .lit (.int .i64 b0)]] } := rfl
  have hrt : Tryz.f13.resultTypes = #[4] := rfl
  have k1 : ∀ (b : Nat) (sp : Nat → Bool) (hd : Bool), DataW.TrodAll enc Tryz.prog W' b sp hd Tryz.f13.resultTypes.toList ((Value.bool true).resultList Tryz.f13.resultTypes.size) (Rows.playPartsSpec.fn H ([.lit (.string s.data.toList), .lit (.int .u8 n), .agg [.lit (.int .i64 a0), .lit (.int .i64 b0)]] ++ [])).results [] := by
    intro b sp hd
    rw [hfn, hrt]
    exact trodAll_cons_mk (shut_bool Tryz.underlying4 _) trodAll_mk0
  have k2 : ∀ sp : Nat → Bool, DataW.TrodAll enc Tryz.prog W' 0 sp true Tryz.f13.params.toList [Value.string s, Value.int IntKind.u8 n, Value.agg #[.int .i64 a0, .int .i64 b0]] (Rows.playPartsSpec.fn H ([.lit (.string s.data.toList), .lit (.int .u8 n), .agg [.lit (.int .i64 a0), .lit (.int .i64 b0)]] ++ [])).args [] := by
    intro sp
    rw [hfn, Tryz.params13]
    exact trodAll_cons_mk (Go.ChangeMaps.shut_string Tryz.underlying9 hs) (trodAll_cons_mk (shut_int Tryz.underlying5 hn) (trodAll_cons_mk (shut_two Tryz.underlying75 Tryz.underlying3 c75 c3 ha hb) trodAll_mk0))
  have k4 : ∀ (j : Nat) (t : TypeId) (r : Value), Tryz.f13.resultTypes[j]? = some t → ((Value.bool true).resultList Tryz.f13.resultTypes.size)[j]? = some r → Value.okWide Tryz.prog W' .any 0 t r := ok_one (f := Tryz.f13) hrt rfl (okWide_bool_mk Tryz.underlying4 _)
  exact ⟨_, rfl, post_of_below (pa := []) (pv := []) hW' k1 (fun sp _ => k2 sp) (fun _ _ => rfl) rfl hg k4⟩

def argsW : Array Value := #[.string ⟨#[]⟩, .int .u8 0, .agg #[.int .i64 0, .int .i64 0]]
theorem laid_met (os : Os) : laidMet Tryz.prog Rows.playPartsRow.laid ((laidWorld os).forCall (fun _ _ => 0) ⟨#[], argsW, []⟩).memory :=
  laidMet_of_run' 8 (by kernel_rfl) (by kernel_rfl)
theorem reads (os : Os) {H : Type} (enc : TypeId × Value → H) : ∃ places, DataW.whole enc Tryz.prog ((laidWorld os).forCall (fun _ _ => 0) ⟨#[], argsW, []⟩).memory Tryz.f13.params.toList Rows.playPartsSpec.vars false argsW.toList 8 = some ([.lit (.string []), .lit (.int .u8 0), .agg [.lit (.int .i64 0), .lit (.int .i64 0)]], [], places) :=
  ⟨[], by kernel_rfl⟩

set_option maxRecDepth 100000 in
theorem lifted (os : Os) (started : os.Started) (H : Type) (enc : TypeId × Value → H) (F : Stop.Interp) :
    ReturnsInHanded {} Tryz.checked os 13 .any ((OpenSpec.ofChange Rows.playPartsSpec).preRow enc Tryz.prog Tryz.f13 Rows.playPartsRow.domain false Rows.playPartsRow.laid) (((OpenSpec.ofChange Rows.playPartsSpec).at F).post enc Tryz.prog Tryz.f13 false true false false) := by
  obtain ⟨places, hx⟩ := reads os enc
  refine returnsInHanded_of_row (C := Tryz.checked) (s := OpenSpec.ofChange Rows.playPartsSpec) own started (by kernel_rfl) Tryz.func13
    (witness_row_at (enc := enc) (C := Tryz.checked) false (laidWorld os) argsW rfl (by kernel_rfl) (by kernel_rfl) (by kernel_rfl)
      (OpenSpec.preRow_of_cond 8 hx (by kernel_rfl) (fun k hk => by cases hk) (by kernel_rfl) (laid_met os))) ?_
  intro W base args ds gs before hval hW _ _ _ hL _ _
  exact contract H enc W base args ds gs before hval hW hL

theorem said : Rows.PlayPartsSaid :=
  OpenClaim.holds_of_cond 13 Tryz.f13 rfl rfl rfl rfl rfl rfl rfl ⟨rfl, rfl, rfl, rfl, rfl⟩ rfl rfl rfl rfl rfl (by kernel_rfl) Tryz.func13 (by kernel_rfl)
    (of_decide_eq_true (by kernel_rfl)) (by unfold Func.isWrapper; first | (rw [if_pos (by decide +kernel)]; kernel_rfl) | (rw [if_neg (by decide +kernel)]; exact ⟨rfl, rfl⟩))
    (fun os started H enc _ F => by rw [OpenClaim.pre_eq_preRow]; exact lifted os started H enc F)

theorem plain (f : FuncId) (fn : Func) (hf : Tryz.pinned.checked.prog.funcNamed Rows.playPartsRow.func = some f) (hfn : Tryz.pinned.checked.prog.funcs[f]? = some fn) :
    false = Tryz.pinned.checked.prog.looks [] ∧ ∀ (j : Nat) t, fn.params[j]? = some t → Tryz.pinned.checked.prog.wantsStandIn t = false := by
  obtain rfl : f = 13 := Option.some.inj ((show Tryz.prog.funcNamed Rows.playPartsRow.func = some 13 by kernel_rfl).symm.trans hf) |>.symm
  obtain rfl : fn = Tryz.f13 := (Option.some.inj (Tryz.func13.symm.trans hfn)).symm
  refine ⟨by kernel_rfl, fun j t ht => ?_⟩
  rw [Tryz.params13] at ht
  have hm : t = 9 ∨ t = 5 ∨ t = 75 := by simpa using Array.mem_of_getElem? ht
  rcases hm with rfl | rfl | rfl
  · exact (show Tryz.prog.wantsStandIn 9 = false by kernel_rfl)
  · exact (show Tryz.prog.wantsStandIn 5 = false by kernel_rfl)
  · exact (show Tryz.prog.wantsStandIn 75 = false by kernel_rfl)

theorem card : Rows.PlayPartsCardSaid :=
  Claim7.holds_tied_plain_at .later [] _ _ _ _ said (fun _ h => by cases h) (by kernel_rfl) (fun _ h => by cases h) playParts_row_tie rfl ⟨rfl, rfl⟩ (by kernel_rfl) rfl plain (by kernel_rfl)
end Go.Proofs.YtdbjdkkgpnkiaaaGreatDoor.playPartsC
namespace Go.Proofs.YtdbjdkkgpnkiaaaGreatDoor
theorem playParts_holds : Rows.PlayPartsCardSaid := playPartsC.card
end Go.Proofs.YtdbjdkkgpnkiaaaGreatDoor
