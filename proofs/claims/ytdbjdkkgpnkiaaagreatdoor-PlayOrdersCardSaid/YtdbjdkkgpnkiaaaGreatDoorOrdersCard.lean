/- For every three ratios PlayOrders returns true, and the ratios read afterwards as before: the whole card, tied to the table dugout-play.ways of the program. No condition. -/
import Derived.Test.YtdbjdkkgpnkiaaaGreatDoorCardBase
import Derived.Test.YtdbjdkkgpnkiaaaGreatDoorLawOrders
set_option linter.unusedSimpArgs false
set_option linter.unusedVariables false
namespace Go.Proofs.YtdbjdkkgpnkiaaaGreatDoor.playOrdersC
open Go.ChangeShapes Go.WideShapes Go.ChangeAt Go.RowKit Go.Lib Go.Ev Go.Joins Go.Deep Go.Proofs.YtdbjdkkgpnkiaaaGreatDoor.base

theorem hone : oneCellFields Tryz.prog #[⟨"Num", 3, 0, false, "", "", 0⟩, ⟨"Den", 3, 1, false, "", "", 8⟩] = true := by kernel_rfl
theorem c99 : Tryz.prog.cellsOf 99 = 2 := by kernel_rfl

set_option maxRecDepth 100000 in
theorem open_ratio {H : Type} {enc : TypeId × Value → H} {w : World} {r : Reach} {b0 base : Nat} {spare : Nat → Bool} {held : Bool} {v : Value} {d : DataW H} {p : List MemPlace}
    (hv : Value.okWide Tryz.prog w r b0 99 v) (h : DataW.Trod enc Tryz.prog w base spare held 99 v d p) :
    ∃ n m : Int, v = .agg #[.int .i64 n, .int .i64 m] ∧ p = [] ∧ ∀ (w' : World) (sp : Nat → Bool) (b' : Nat) (hd : Bool), DataW.Trod enc Tryz.prog w' b' sp hd 99 v d [] := by
  obtain ⟨v0, v1, y0, y1, k, rfl, rfl, rfl, h0, h1⟩ := open_agg2 Tryz.underlying99 hone c99 hv h
  obtain ⟨n, hn1, rfl, hn⟩ := DataW.trod_int Tryz.underlying3 h0
  obtain ⟨m, hm1, rfl, hm⟩ := DataW.trod_int Tryz.underlying3 h1
  obtain rfl : v0 = .int .i64 n := by simpa using hn1
  obtain rfl : v1 = .int .i64 m := by simpa using hm1
  refine ⟨n, m, rfl, rfl, fun w' sp b' hd => ?_⟩
  have q := shut_agg2 (enc := enc) (w := w') (base := b') (spare := sp) (held := hd) (y0 := (.lit (.int .i64 n), [])) (y1 := (.lit (.int .i64 m), [])) Tryz.underlying99 hone c99
    (v0 := .int .i64 n) (v1 := .int .i64 m) (shut_int Tryz.underlying3 hn) (shut_int Tryz.underlying3 hm)
  simpa using q

set_option maxRecDepth 100000 in
theorem contract (H : Type) (enc : TypeId × Value → H) (W : World) (base : Nat) (args : Array Value) (ds gs : List (DataW H)) (before : List MemPlace)
    (hval : ∀ (j : Nat) t v, Tryz.f15.params[j]? = some t → args[j]? = some v → Value.okWide Tryz.prog W .any base t v)
    (hW : DataW.Whole enc Tryz.prog Tryz.f15.params.toList Rows.playOrdersSpec.vars false W args.toList ds gs before) (hL : laidMetH Tryz.prog Rows.playOrdersRow.laid W) :
    Calls Tryz.prog 15 args W fun e W' => ∃ v, e = .returned v ∧ Rows.playOrdersSpec.post enc Tryz.prog Tryz.f15 false true false false W args v W' := by
  have hW' := hW
  obtain ⟨p, q, hA0, hV, rfl, hfz, hnd⟩ := hW
  have hA : DataW.TrodAll enc Tryz.prog W 0 (fun _ => true) true Tryz.f15.params.toList args.toList ds p := hA0
  rw [Tryz.params15] at hA hval
  obtain ⟨v0, vs0, d0, ds0, p0, q0, hargs, rfl, rfl, h0, r0⟩ := trodAll_cons hA
  obtain ⟨v1, vs1, d1, ds1, p1, q1, rfl, rfl, rfl, h1, r1⟩ := trodAll_cons r0
  obtain ⟨v2, vs2, d2, ds2, p2, q2, rfl, rfl, rfl, h2, r2⟩ := trodAll_cons r1
  obtain ⟨rfl, rfl, rfl⟩ := trodAll_nil r2
  obtain rfl : args = #[v0, v1, v2] := by cases args; simp_all
  obtain ⟨rfl, rfl⟩ := trodVars_none hV
  obtain ⟨n0, m0, rfl, rfl, s0⟩ := open_ratio (hval 0 99 v0 rfl rfl) h0
  obtain ⟨n1, m1, rfl, rfl, s1⟩ := open_ratio (hval 1 99 v1 rfl rfl) h1
  obtain ⟨n2, m2, rfl, rfl, s2⟩ := open_ratio (hval 2 99 v2 rfl rfl) h2
  clear hA0
  simp only [List.append_nil] at hW'
  have G : GRel W.heap.size W gT := GRel.of_laid gWays gWaysType ways_lay hL
  have e4 : F15 [.agg [.int .i64 n0, .int .i64 m0], .agg [.int .i64 n1, .int .i64 m1], .agg [.int .i64 n2, .int .i64 m2]] = some (.bool true) := rfl
  refine (fn15 W.heap.size ⟨W, froAll W⟩ G _ _ e4 _ (froAll W) W (.cons _ _ _ _ (.agg _ _ (.cons _ _ _ _ (.int .i64 n0) (.cons _ _ _ _ (.int .i64 m0) .nil))) (.cons _ _ _ _ (.agg _ _ (.cons _ _ _ _ (.int .i64 n1) (.cons _ _ _ _ (.int .i64 m1) .nil))) (.cons _ _ _ _ (.agg _ _ (.cons _ _ _ _ (.int .i64 n2) (.cons _ _ _ _ (.int .i64 m2) .nil))) .nil))) (froAll_ok W) (Below.refl _ _) (Nat.le_refl _)).mono ?_
  rintro e W' ⟨u, φ, rfl, hu, hg, -⟩
  cases hu
  have hfn : Rows.playOrdersSpec.fn H ([d0, d1, d2] ++ []) = { results := [.lit (.bool true)], args := [d0, d1, d2] } := rfl
  have hrt : Tryz.f15.resultTypes = #[4] := rfl
  have k1 : ∀ (b : Nat) (sp : Nat → Bool) (hd : Bool), DataW.TrodAll enc Tryz.prog W' b sp hd Tryz.f15.resultTypes.toList ((Value.bool true).resultList Tryz.f15.resultTypes.size) (Rows.playOrdersSpec.fn H ([d0, d1, d2] ++ [])).results [] := by
    intro b sp hd
    rw [hfn, hrt]
    exact trodAll_cons_mk (shut_bool Tryz.underlying4 _) trodAll_mk0
  have k2 : ∀ sp : Nat → Bool, DataW.TrodAll enc Tryz.prog W' 0 sp true Tryz.f15.params.toList [Value.agg #[.int .i64 n0, .int .i64 m0], Value.agg #[.int .i64 n1, .int .i64 m1], Value.agg #[.int .i64 n2, .int .i64 m2]] (Rows.playOrdersSpec.fn H ([d0, d1, d2] ++ [])).args [] := by
    intro sp
    rw [hfn, Tryz.params15]
    exact trodAll_cons_mk (s0 _ _ _ _) (trodAll_cons_mk (s1 _ _ _ _) (trodAll_cons_mk (s2 _ _ _ _) trodAll_mk0))
  have k4 : ∀ (j : Nat) (t : TypeId) (r : Value), Tryz.f15.resultTypes[j]? = some t → ((Value.bool true).resultList Tryz.f15.resultTypes.size)[j]? = some r → Value.okWide Tryz.prog W' .any 0 t r := ok_one (f := Tryz.f15) hrt rfl (okWide_bool_mk Tryz.underlying4 _)
  exact ⟨_, rfl, post_of_below (pa := []) (pv := []) hW' k1 (fun sp _ => k2 sp) (fun _ _ => rfl) rfl hg k4⟩

def argsW : Array Value := #[.agg #[.int .i64 0, .int .i64 0], .agg #[.int .i64 0, .int .i64 0], .agg #[.int .i64 0, .int .i64 0]]
theorem laid_met (os : Os) : laidMet Tryz.prog Rows.playOrdersRow.laid ((laidWorld os).forCall (fun _ _ => 0) ⟨#[], argsW, []⟩).memory :=
  laidMet_of_run' 8 (by kernel_rfl) (by kernel_rfl)
theorem reads (os : Os) {H : Type} (enc : TypeId × Value → H) : ∃ places, DataW.whole enc Tryz.prog ((laidWorld os).forCall (fun _ _ => 0) ⟨#[], argsW, []⟩).memory Tryz.f15.params.toList Rows.playOrdersSpec.vars false argsW.toList 8 = some ([.agg [.lit (.int .i64 0), .lit (.int .i64 0)], .agg [.lit (.int .i64 0), .lit (.int .i64 0)], .agg [.lit (.int .i64 0), .lit (.int .i64 0)]], [], places) :=
  ⟨[], by kernel_rfl⟩

set_option maxRecDepth 100000 in
theorem lifted (os : Os) (started : os.Started) (H : Type) (enc : TypeId × Value → H) (F : Stop.Interp) :
    ReturnsInHanded {} Tryz.checked os 15 .any ((OpenSpec.ofChange Rows.playOrdersSpec).preRow enc Tryz.prog Tryz.f15 Rows.playOrdersRow.domain false Rows.playOrdersRow.laid) (((OpenSpec.ofChange Rows.playOrdersSpec).at F).post enc Tryz.prog Tryz.f15 false true false false) := by
  obtain ⟨places, hx⟩ := reads os enc
  refine returnsInHanded_of_row (C := Tryz.checked) (s := OpenSpec.ofChange Rows.playOrdersSpec) own started (by kernel_rfl) Tryz.func15
    (witness_row_at (enc := enc) (C := Tryz.checked) false (laidWorld os) argsW rfl (by kernel_rfl) (by kernel_rfl) (by kernel_rfl)
      (OpenSpec.preRow_of_cond 8 hx (by kernel_rfl) (fun k hk => by cases hk) (by kernel_rfl) (laid_met os))) ?_
  intro W base args ds gs before hval hW _ _ _ hL _ _
  exact contract H enc W base args ds gs before hval hW hL

theorem said : Rows.PlayOrdersSaid :=
  OpenClaim.holds_of_cond 15 Tryz.f15 rfl rfl rfl rfl rfl rfl rfl ⟨rfl, rfl, rfl, rfl, rfl⟩ rfl rfl rfl rfl rfl (by kernel_rfl) Tryz.func15 (by kernel_rfl)
    (of_decide_eq_true (by kernel_rfl)) (by unfold Func.isWrapper; first | (rw [if_pos (by decide +kernel)]; kernel_rfl) | (rw [if_neg (by decide +kernel)]; exact ⟨rfl, rfl⟩))
    (fun os started H enc _ F => by rw [OpenClaim.pre_eq_preRow]; exact lifted os started H enc F)

theorem plain (f : FuncId) (fn : Func) (hf : Tryz.pinned.checked.prog.funcNamed Rows.playOrdersRow.func = some f) (hfn : Tryz.pinned.checked.prog.funcs[f]? = some fn) :
    false = Tryz.pinned.checked.prog.looks [] ∧ ∀ (j : Nat) t, fn.params[j]? = some t → Tryz.pinned.checked.prog.wantsStandIn t = false := by
  obtain rfl : f = 15 := Option.some.inj ((show Tryz.prog.funcNamed Rows.playOrdersRow.func = some 15 by kernel_rfl).symm.trans hf) |>.symm
  obtain rfl : fn = Tryz.f15 := (Option.some.inj (Tryz.func15.symm.trans hfn)).symm
  refine ⟨by kernel_rfl, fun j t ht => ?_⟩
  rw [Tryz.params15] at ht
  obtain rfl : t = 99 := by simpa using Array.mem_of_getElem? ht
  exact (show Tryz.prog.wantsStandIn 99 = false by kernel_rfl)

theorem card : Rows.PlayOrdersCardSaid :=
  Claim7.holds_tied_plain_at .later [] _ _ _ _ said (fun _ h => by cases h) (by kernel_rfl) (fun _ h => by cases h) playOrders_row_tie rfl ⟨rfl, rfl⟩ (by kernel_rfl) rfl plain (by kernel_rfl)
end Go.Proofs.YtdbjdkkgpnkiaaaGreatDoor.playOrdersC
namespace Go.Proofs.YtdbjdkkgpnkiaaaGreatDoor
theorem playOrders_holds : Rows.PlayOrdersCardSaid := playOrdersC.card
end Go.Proofs.YtdbjdkkgpnkiaaaGreatDoor
