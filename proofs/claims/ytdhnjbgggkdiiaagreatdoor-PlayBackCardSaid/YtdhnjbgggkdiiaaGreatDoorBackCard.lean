/- For every two plays and every list of plays PlayBack returns true, and its arguments read afterwards as before: the whole card, tied to the table of the ways of the program. No condition. -/
import Derived.Test.YtdhnjbgggkdiiaaGreatDoorCardBase
import Derived.Test.YtdhnjbgggkdiiaaGreatDoorLawBack
import Derived.Test.YtdhnjbgggkdiiaaGreatDoorPlaysOpen
set_option linter.unusedSimpArgs false
set_option linter.unusedVariables false
namespace Go.Proofs.YtdhnjbgggkdiiaaGreatDoor.playBackC
open Go.ChangeShapes Go.WideShapes Go.ChangeAt Go.RowKit Go.Lib Go.Ev Go.Joins Go.Deep Go.Proofs.YtdhnjbgggkdiiaaGreatDoor.base

theorem c75 : Tryz.prog.cellsOf 75 = 2 := by kernel_rfl

set_option maxRecDepth 100000 in
theorem contract (H : Type) (enc : TypeId × Value → H) (W : World) (base : Nat) (args : Array Value) (ds gs : List (DataW H)) (cJ : List MemPlace)
    (hval : ∀ (j : Nat) t v, Tryz.f11.params[j]? = some t → args[j]? = some v → Value.okWide Tryz.prog W .any base t v)
    (hW : DataW.Whole enc Tryz.prog Tryz.f11.params.toList Rows.playBackSpec.vars false W args.toList ds gs cJ) (hL : laidMetH Tryz.prog Rows.playBackRow.laid W) :
    Calls Tryz.prog 11 args W fun e W' => ∃ v, e = .returned v ∧ Rows.playBackSpec.post enc Tryz.prog Tryz.f11 false true false false W args v W' := by
  have hW' := hW
  obtain ⟨p, q, hA0, hV, rfl, hfz, hnd⟩ := hW
  have hA : DataW.TrodAll enc Tryz.prog W 0 (fun _ => true) true Tryz.f11.params.toList args.toList ds p := hA0
  rw [Tryz.params11] at hA hval
  obtain ⟨v0, vs0, d0, ds0, p0, q0, hargs, rfl, rfl, h0, r0⟩ := trodAll_cons hA
  obtain ⟨v1, vs1, d1, ds1, p1, q1, rfl, rfl, rfl, h1, r1⟩ := trodAll_cons r0
  obtain ⟨v2, vs2, d2, ds2, p2, q2, rfl, rfl, rfl, h2, r2⟩ := trodAll_cons r1
  obtain ⟨rfl, rfl, rfl⟩ := trodAll_nil r2
  obtain rfl : args = #[v0, v1, v2] := by cases args; simp_all
  obtain ⟨rfl, rfl⟩ := trodVars_none hV
  obtain ⟨s0, e0, late0, l0, hr0, hl0, hok0⟩ := open_play (hval 0 24 v0 rfl rfl) h0
  obtain ⟨s1, e1, late1, l1, hr1, hl1, hok1⟩ := open_play (hval 1 24 v1 rfl rfl) h1
  obtain ⟨l2, hr2, hl2, hok2, hb2⟩ := open_plays (hval 2 54 v2 rfl rfl) h2
  clear hA0
  simp only [List.append_nil, List.nil_append] at hW'
  have hlt0 : ∀ x ∈ p0, x.block < W.heap.size := fun x hx => hW'.lt x (by simp [hx])
  have hlt1 : ∀ x ∈ p1, x.block < W.heap.size := fun x hx => hW'.lt x (by simp [hx])
  have hlt2 : ∀ x ∈ p2, x.block < W.heap.size := fun x hx => hW'.lt x (by simp [hx])
  have G : eX W.heap.size W gT := eX.of_laid gWays gWaysType ways_lay hL
  have e4 : F11 [.agg [.str (s0.data.toList.map UInt8.toNat), .str (e0.data.toList.map UInt8.toNat), .bool late0, .lsl (bG l0)], .agg [.str (s1.data.toList.map UInt8.toNat), .str (e1.data.toList.map UInt8.toNat), .bool late1, .lsl (bG l1)], .lsl (dQ l2)] = some (.bool true) := by
    simp only [F11, dMoves_e hl0 hok0, dMoves_e hl1 hok1, dPls_e hl2 hok2]
    rw [if_pos ⟨⟨⟨bytes_ok s0, bytes_ok e0⟩, bytes_ok s1, bytes_ok e1⟩, hb2⟩]
  refine (fn11 W.heap.size ⟨W, froAll W⟩ G _ _ e4 _ (froAll W) W (.cons _ _ _ _ (hr0) (.cons _ _ _ _ (hr1) (.cons _ _ _ _ (hr2) .nil))) (froAll_ok W) (Below.refl _ _) (Nat.le_refl _)).mono ?_
  rintro e W' ⟨u, φ, rfl, hu, hg, -⟩
  cases hu
  have hfn : Rows.playBackSpec.fn H ([d0, d1, d2] ++ []) = { results := [.lit (.bool true)], args := [d0, d1, d2] } := rfl
  have hrt : Tryz.f11.resultTypes = #[4] := rfl
  have k1 : ∀ (b : Nat) (sp : Nat → Bool) (hd : Bool), DataW.TrodAll enc Tryz.prog W' b sp hd Tryz.f11.resultTypes.toList ((Value.bool true).resultList Tryz.f11.resultTypes.size) (Rows.playBackSpec.fn H ([d0, d1, d2] ++ [])).results [] := by
    intro b sp hd
    rw [hfn, hrt]
    exact trodAll_cons_mk (shut_bool Tryz.underlying4 _) trodAll_mk0
  have k2 : ∀ sp : Nat → Bool, (∀ x ∈ p0 ++ (p1 ++ p2), sp x.block = true) → DataW.TrodAll enc Tryz.prog W' 0 sp true Tryz.f11.params.toList [v0, v1, v2] (Rows.playBackSpec.fn H ([d0, d1, d2] ++ [])).args (p0 ++ (p1 ++ p2)) := by
    intro sp hsp
    have hsp0 : ∀ x ∈ p0, sp x.block = true := fun x hx => hsp x (by simp [hx])
    have hsp1 : ∀ x ∈ p1, sp x.block = true := fun x hx => hsp x (by simp [hx])
    have hsp2 : ∀ x ∈ p2, sp x.block = true := fun x hx => hsp x (by simp [hx])
    rw [hfn, Tryz.params11]
    have q := trodAll_cons_mk (stay_play h0 hg hlt0 hsp0) (trodAll_cons_mk (stay_play h1 hg hlt1 hsp1) (trodAll_cons_mk (stay_plays h2 hg hlt2 hsp2) trodAll_mk0))
    simpa only [List.append_nil, List.nil_append] using q
  have k4 : ∀ (j : Nat) (t : TypeId) (r : Value), Tryz.f11.resultTypes[j]? = some t → ((Value.bool true).resultList Tryz.f11.resultTypes.size)[j]? = some r → Value.okWide Tryz.prog W' .any 0 t r := ok_one (f := Tryz.f11) hrt rfl (okWide_bool_mk Tryz.underlying4 _)
  exact ⟨_, rfl, post_of_below (pa := p0 ++ (p1 ++ p2)) (pv := []) hW' k1 k2 (fun _ _ => rfl) (List.append_nil _).symm hg k4⟩

def argsW : Array Value := #[.agg #[.string ⟨#[]⟩, .string ⟨#[]⟩, .bool false, .slice none 0 0], .agg #[.string ⟨#[]⟩, .string ⟨#[]⟩, .bool false, .slice none 0 0], .slice none 0 0]
theorem laid_met (os : Os) : laidMet Tryz.prog Rows.playBackRow.laid ((laidWorld os).forCall (fun _ _ => 0) ⟨#[], argsW, []⟩).memory :=
  laidMet_of_run' 8 (by kernel_rfl) (by kernel_rfl)
theorem reads (os : Os) {H : Type} (enc : TypeId × Value → H) : ∃ places, DataW.whole enc Tryz.prog ((laidWorld os).forCall (fun _ _ => 0) ⟨#[], argsW, []⟩).memory Tryz.f11.params.toList Rows.playBackSpec.vars false argsW.toList 8 = some ([.agg [.lit (.string []), .lit (.string []), .lit (.bool false), .nil], .agg [.lit (.string []), .lit (.string []), .lit (.bool false), .nil], .nil], [], places) :=
  ⟨[], by kernel_rfl⟩

set_option maxRecDepth 100000 in
theorem lifted (os : Os) (started : os.Started) (H : Type) (enc : TypeId × Value → H) (F : Stop.Interp) :
    ReturnsInHanded {} Tryz.checked os 11 .any ((OpenSpec.ofChange Rows.playBackSpec).preRow enc Tryz.prog Tryz.f11 Rows.playBackRow.domain false Rows.playBackRow.laid) (((OpenSpec.ofChange Rows.playBackSpec).at F).post enc Tryz.prog Tryz.f11 false true false false) := by
  obtain ⟨places, hx⟩ := reads os enc
  refine returnsInHanded_of_row (C := Tryz.checked) (s := OpenSpec.ofChange Rows.playBackSpec) own started (by kernel_rfl) Tryz.func11
    (witness_row_at (enc := enc) (C := Tryz.checked) false (laidWorld os) argsW rfl (by kernel_rfl) (by kernel_rfl) (by kernel_rfl)
      (OpenSpec.preRow_of_cond 8 hx (by kernel_rfl) (fun k hk => by cases hk) (by kernel_rfl) (laid_met os))) ?_
  intro W base args ds gs cJ hval hW _ _ _ hL _ _
  exact contract H enc W base args ds gs cJ hval hW hL

theorem said : Rows.PlayBackSaid :=
  OpenClaim.holds_of_cond 11 Tryz.f11 rfl rfl rfl rfl rfl rfl rfl ⟨rfl, rfl, rfl, rfl, rfl⟩ rfl rfl rfl rfl rfl (by kernel_rfl) Tryz.func11 (by kernel_rfl)
    (of_decide_eq_true (by kernel_rfl)) (by unfold Func.isWrapper; first | (rw [if_pos (by decide +kernel)]; kernel_rfl) | (rw [if_neg (by decide +kernel)]; exact ⟨rfl, rfl⟩))
    (fun os started H enc _ F => by rw [OpenClaim.pre_eq_preRow]; exact lifted os started H enc F)

theorem plain (f : FuncId) (fn : Func) (hf : Tryz.pinned.checked.prog.funcNamed Rows.playBackRow.func = some f) (hfn : Tryz.pinned.checked.prog.funcs[f]? = some fn) :
    false = Tryz.pinned.checked.prog.looks [] ∧ ∀ (j : Nat) t, fn.params[j]? = some t → Tryz.pinned.checked.prog.wantsStandIn t = false := by
  obtain rfl : f = 11 := Option.some.inj ((show Tryz.prog.funcNamed Rows.playBackRow.func = some 11 by kernel_rfl).symm.trans hf) |>.symm
  obtain rfl : fn = Tryz.f11 := (Option.some.inj (Tryz.func11.symm.trans hfn)).symm
  refine ⟨by kernel_rfl, fun j t ht => ?_⟩
  rw [Tryz.params11] at ht
  have hm : t = 24 ∨ t = 54 := by simpa using Array.mem_of_getElem? ht
  rcases hm with rfl | rfl
  · exact (show Tryz.prog.wantsStandIn 24 = false by kernel_rfl)
  · exact (show Tryz.prog.wantsStandIn 54 = false by kernel_rfl)

theorem card : Rows.PlayBackCardSaid :=
  Claim7.holds_tied_plain_at .later [] _ _ _ _ said (fun _ h => by cases h) (by kernel_rfl) (fun _ h => by cases h) playBack_row_tie rfl ⟨rfl, rfl⟩ (by kernel_rfl) rfl plain (by kernel_rfl)
end Go.Proofs.YtdhnjbgggkdiiaaGreatDoor.playBackC
namespace Go.Proofs.YtdhnjbgggkdiiaaGreatDoor
theorem playBack_holds : Rows.PlayBackCardSaid := playBackC.card
end Go.Proofs.YtdhnjbgggkdiiaaGreatDoor
