/- For every two plays and every integer PlayLoose returns true, and its arguments read afterwards as before: the whole card, tied to the table of the ways of the program. No condition. -/
import Derived.Test.YtdhnjbgggkdiiaaGreatDoorCardBase
import Derived.Test.YtdhnjbgggkdiiaaGreatDoorLawLoose
import Derived.Test.YtdhnjbgggkdiiaaGreatDoorPlayOpen
set_option linter.unusedSimpArgs false
set_option linter.unusedVariables false
namespace Go.Proofs.YtdhnjbgggkdiiaaGreatDoor.playLooseC
open Go.ChangeShapes Go.WideShapes Go.ChangeAt Go.RowKit Go.Lib Go.Ev Go.Joins Go.Deep Go.Proofs.YtdhnjbgggkdiiaaGreatDoor.base

theorem c75 : Tryz.prog.cellsOf 75 = 2 := by kernel_rfl

set_option maxRecDepth 100000 in
theorem contract (H : Type) (enc : TypeId × Value → H) (W : World) (base : Nat) (args : Array Value) (ds gs : List (DataW H)) (bV : List MemPlace)
    (hval : ∀ (j : Nat) t v, Tryz.f12.params[j]? = some t → args[j]? = some v → Value.okWide Tryz.prog W .any base t v)
    (hW : DataW.Whole enc Tryz.prog Tryz.f12.params.toList Rows.playLooseSpec.vars false W args.toList ds gs bV) (hL : laidMetH Tryz.prog Rows.playLooseRow.laid W) :
    Calls Tryz.prog 12 args W fun e W' => ∃ v, e = .returned v ∧ Rows.playLooseSpec.post enc Tryz.prog Tryz.f12 false true false false W args v W' := by
  have hW' := hW
  obtain ⟨p, q, hA0, hV, rfl, hfz, hnd⟩ := hW
  have hA : DataW.TrodAll enc Tryz.prog W 0 (fun _ => true) true Tryz.f12.params.toList args.toList ds p := hA0
  rw [Tryz.params12] at hA hval
  obtain ⟨v0, vs0, d0, ds0, p0, q0, hargs, rfl, rfl, h0, r0⟩ := trodAll_cons hA
  obtain ⟨v1, vs1, d1, ds1, p1, q1, rfl, rfl, rfl, h1, r1⟩ := trodAll_cons r0
  obtain ⟨v2, vs2, d2, ds2, p2, q2, rfl, rfl, rfl, h2, r2⟩ := trodAll_cons r1
  obtain ⟨rfl, rfl, rfl⟩ := trodAll_nil r2
  obtain rfl : args = #[v0, v1, v2] := by cases args; simp_all
  obtain ⟨rfl, rfl⟩ := trodVars_none hV
  obtain ⟨s0, e0, late0, l0, hr0, hl0, hok0⟩ := open_play (hval 0 24 v0 rfl rfl) h0
  obtain ⟨s1, e1, late1, l1, hr1, hl1, hok1⟩ := open_play (hval 1 24 v1 rfl rfl) h1
  obtain ⟨n2, rfl, rfl, rfl, hn2⟩ := open_int Tryz.underlying3 (hval 2 3 v2 rfl rfl) h2
  clear hA0
  simp only [List.append_nil] at hW'
  have hlt0 : ∀ x ∈ p0, x.block < W.heap.size := fun x hx => hW'.lt x (by simp [hx])
  have hlt1 : ∀ x ∈ p1, x.block < W.heap.size := fun x hx => hW'.lt x (by simp [hx])
  have G : dW W.heap.size W gT := dW.of_laid gWays gWaysType ways_lay hL
  have e4 : F12 [.agg [.str (s0.data.toList.map UInt8.toNat), .str (e0.data.toList.map UInt8.toNat), .bool late0, .lsl (aG l0)], .agg [.str (s1.data.toList.map UInt8.toNat), .str (e1.data.toList.map UInt8.toNat), .bool late1, .lsl (aG l1)], .int .i64 n2] = some (.bool true) := by
    simp only [F12, cB hl0 hok0, cB hl1 hok1]
    rw [if_pos ⟨⟨bytes_ok s0, bytes_ok e0⟩, bytes_ok s1, bytes_ok e1⟩]
  refine (fn12 W.heap.size ⟨W, froAll W⟩ G _ _ e4 _ (froAll W) W (.cons _ _ _ _ (hr0) (.cons _ _ _ _ (hr1) (.cons _ _ _ _ (.int .i64 n2) .nil))) (froAll_ok W) (Below.refl _ _) (Nat.le_refl _)).mono ?_
  rintro e W' ⟨u, φ, rfl, hu, hg, -⟩
  cases hu
  have hfn : Rows.playLooseSpec.fn H ([d0, d1, .lit (.int .i64 n2)] ++ []) = { results := [.lit (.bool true)], args := [d0, d1, .lit (.int .i64 n2)] } := rfl
  have hrt : Tryz.f12.resultTypes = #[4] := rfl
  have k1 : ∀ (b : Nat) (sp : Nat → Bool) (hd : Bool), DataW.TrodAll enc Tryz.prog W' b sp hd Tryz.f12.resultTypes.toList ((Value.bool true).resultList Tryz.f12.resultTypes.size) (Rows.playLooseSpec.fn H ([d0, d1, .lit (.int .i64 n2)] ++ [])).results [] := by
    intro b sp hd
    rw [hfn, hrt]
    exact trodAll_cons_mk (shut_bool Tryz.underlying4 _) trodAll_mk0
  have k2 : ∀ sp : Nat → Bool, (∀ x ∈ p0 ++ p1, sp x.block = true) → DataW.TrodAll enc Tryz.prog W' 0 sp true Tryz.f12.params.toList [v0, v1, Value.int IntKind.i64 n2] (Rows.playLooseSpec.fn H ([d0, d1, .lit (.int .i64 n2)] ++ [])).args (p0 ++ p1) := by
    intro sp hsp
    have hsp0 : ∀ x ∈ p0, sp x.block = true := fun x hx => hsp x (by simp [hx])
    have hsp1 : ∀ x ∈ p1, sp x.block = true := fun x hx => hsp x (by simp [hx])
    rw [hfn, Tryz.params12]
    have q := trodAll_cons_mk (stay_play h0 hg hlt0 hsp0) (trodAll_cons_mk (stay_play h1 hg hlt1 hsp1) (trodAll_cons_mk (shut_int Tryz.underlying3 hn2) trodAll_mk0))
    simpa only [List.append_nil, List.nil_append] using q
  have k4 : ∀ (j : Nat) (t : TypeId) (r : Value), Tryz.f12.resultTypes[j]? = some t → ((Value.bool true).resultList Tryz.f12.resultTypes.size)[j]? = some r → Value.okWide Tryz.prog W' .any 0 t r := ok_one (f := Tryz.f12) hrt rfl (okWide_bool_mk Tryz.underlying4 _)
  exact ⟨_, rfl, post_of_below (pa := p0 ++ p1) (pv := []) hW' k1 k2 (fun _ _ => rfl) (List.append_nil _).symm hg k4⟩

def argsW : Array Value := #[.agg #[.string ⟨#[]⟩, .string ⟨#[]⟩, .bool false, .slice none 0 0], .agg #[.string ⟨#[]⟩, .string ⟨#[]⟩, .bool false, .slice none 0 0], .int .i64 0]
theorem laid_met (os : Os) : laidMet Tryz.prog Rows.playLooseRow.laid ((laidWorld os).forCall (fun _ _ => 0) ⟨#[], argsW, []⟩).memory :=
  laidMet_of_run' 8 (by kernel_rfl) (by kernel_rfl)
theorem reads (os : Os) {H : Type} (enc : TypeId × Value → H) : ∃ places, DataW.whole enc Tryz.prog ((laidWorld os).forCall (fun _ _ => 0) ⟨#[], argsW, []⟩).memory Tryz.f12.params.toList Rows.playLooseSpec.vars false argsW.toList 8 = some ([.agg [.lit (.string []), .lit (.string []), .lit (.bool false), .nil], .agg [.lit (.string []), .lit (.string []), .lit (.bool false), .nil], .lit (.int .i64 0)], [], places) :=
  ⟨[], by kernel_rfl⟩

set_option maxRecDepth 100000 in
theorem lifted (os : Os) (started : os.Started) (H : Type) (enc : TypeId × Value → H) (F : Stop.Interp) :
    ReturnsInHanded {} Tryz.checked os 12 .any ((OpenSpec.ofChange Rows.playLooseSpec).preRow enc Tryz.prog Tryz.f12 Rows.playLooseRow.domain false Rows.playLooseRow.laid) (((OpenSpec.ofChange Rows.playLooseSpec).at F).post enc Tryz.prog Tryz.f12 false true false false) := by
  obtain ⟨places, hx⟩ := reads os enc
  refine returnsInHanded_of_row (C := Tryz.checked) (s := OpenSpec.ofChange Rows.playLooseSpec) own started (by kernel_rfl) Tryz.func12
    (witness_row_at (enc := enc) (C := Tryz.checked) false (laidWorld os) argsW rfl (by kernel_rfl) (by kernel_rfl) (by kernel_rfl)
      (OpenSpec.preRow_of_cond 8 hx (by kernel_rfl) (fun k hk => by cases hk) (by kernel_rfl) (laid_met os))) ?_
  intro W base args ds gs bV hval hW _ _ _ hL _ _
  exact contract H enc W base args ds gs bV hval hW hL

theorem said : Rows.PlayLooseSaid :=
  OpenClaim.holds_of_cond 12 Tryz.f12 rfl rfl rfl rfl rfl rfl rfl ⟨rfl, rfl, rfl, rfl, rfl⟩ rfl rfl rfl rfl rfl (by kernel_rfl) Tryz.func12 (by kernel_rfl)
    (of_decide_eq_true (by kernel_rfl)) (by unfold Func.isWrapper; first | (rw [if_pos (by decide +kernel)]; kernel_rfl) | (rw [if_neg (by decide +kernel)]; exact ⟨rfl, rfl⟩))
    (fun os started H enc _ F => by rw [OpenClaim.pre_eq_preRow]; exact lifted os started H enc F)

theorem plain (f : FuncId) (fn : Func) (hf : Tryz.pinned.checked.prog.funcNamed Rows.playLooseRow.func = some f) (hfn : Tryz.pinned.checked.prog.funcs[f]? = some fn) :
    false = Tryz.pinned.checked.prog.looks [] ∧ ∀ (j : Nat) t, fn.params[j]? = some t → Tryz.pinned.checked.prog.wantsStandIn t = false := by
  obtain rfl : f = 12 := Option.some.inj ((show Tryz.prog.funcNamed Rows.playLooseRow.func = some 12 by kernel_rfl).symm.trans hf) |>.symm
  obtain rfl : fn = Tryz.f12 := (Option.some.inj (Tryz.func12.symm.trans hfn)).symm
  refine ⟨by kernel_rfl, fun j t ht => ?_⟩
  rw [Tryz.params12] at ht
  have hm : t = 24 ∨ t = 3 := by simpa using Array.mem_of_getElem? ht
  rcases hm with rfl | rfl
  · exact (show Tryz.prog.wantsStandIn 24 = false by kernel_rfl)
  · exact (show Tryz.prog.wantsStandIn 3 = false by kernel_rfl)

theorem card : Rows.PlayLooseCardSaid :=
  Claim7.holds_tied_plain_at .later [] _ _ _ _ said (fun _ h => by cases h) (by kernel_rfl) (fun _ h => by cases h) playLoose_row_tie rfl ⟨rfl, rfl⟩ (by kernel_rfl) rfl plain (by kernel_rfl)
end Go.Proofs.YtdhnjbgggkdiiaaGreatDoor.playLooseC
namespace Go.Proofs.YtdhnjbgggkdiiaaGreatDoor
theorem playLoose_holds : Rows.PlayLooseCardSaid := playLooseC.card
end Go.Proofs.YtdhnjbgggkdiiaaGreatDoor
