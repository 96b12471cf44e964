/- For every list of games and every two numbers of a byte SeasonMonoid returns true, and its arguments read afterwards as before: the whole card, tied to the tables of the program. No condition. -/
import Derived.Test.YtldebobgefdnhaaGreatDoorCardBase
import Derived.Test.YtldebobgefdnhaaGreatDoorSeasT
set_option linter.unusedSimpArgs false
set_option linter.unusedVariables false
namespace Go.Proofs.YtldebobgefdnhaaGreatDoor.seasonMonoidC
open Go.ChangeShapes Go.WideShapes Go.ChangeAt Go.RowKit Go.Lib Go.Ev Go.Joins Go.Deep Go.Proofs.YtldebobgefdnhaaGreatDoor.base
set_option maxRecDepth 100000 in
theorem aqw (H : Type) (enc : TypeId × Value → H) (W : World) (base : Nat) (args : Array Value) (ds gs : List (DataW H)) (before : List MemPlace)
  (hval : ∀ (j : Nat) t v, Tryz.f4.params[j]? = some t → args[j]? = some v → Value.okWide Tryz.prog W .any base t v)
  (hW : DataW.Whole enc Tryz.prog Tryz.f4.params.toList Rows.seasonMonoidSpec.vars false W args.toList ds gs before) (hL : laidMetH Tryz.prog Rows.seasonMonoidRow.laid W) :
  Calls Tryz.prog 4 args W fun e W' => ∃ v, e = .returned v ∧ Rows.seasonMonoidSpec.post enc Tryz.prog Tryz.f4 false true false false W args v W' := by
 have hW' := hW
 obtain ⟨p, q, hA0, hV, rfl, hfz, hnd⟩ := hW
 have hA : DataW.TrodAll enc Tryz.prog W 0 (fun _ => true) true Tryz.f4.params.toList args.toList ds p := hA0
 rw [Tryz.params4] at hA hval
 obtain ⟨v0, vs0, d0, ds0, p0, q0, hargs, rfl, rfl, h0, r0⟩ := trodAll_cons hA
 obtain ⟨v1, vs1, d1, ds1, p1, q1, rfl, rfl, rfl, h1, r1⟩ := trodAll_cons r0
 obtain ⟨rfl, rfl, rfl⟩ := trodAll_nil r1
 obtain rfl : args = #[v0, v1] := by cases args; simp_all
 obtain ⟨rfl, rfl⟩ := trodVars_none hV
 obtain ⟨e0, hr0, hf0⟩ := aqV (n := 9) (k := (.l [.b])) (by kernel_rfl) (by kernel_rfl) (hval 0 22 v0 rfl rfl) h0
 obtain ⟨x0, hx0⟩ := (KC.list (KR.iso (KR.cons KC.bool KR.nil)) : KC (Cod.list false a8) (.l [.b])) e0 hf0
 subst hx0
 obtain ⟨e1, hr1, hf1⟩ := aqW (n := 9) (ks := [.i .u8, .i .u8]) (by kernel_rfl) (by kernel_rfl) (hval 1 38 v1 rfl rfl) h1
 obtain ⟨x1, hx1⟩ := (KR.cons (KC.int _) (KR.cons (KC.int _) KR.nil) : KR (Row.cons cU8 (Row.cons cU8 Row.nil)) [.i .u8, .i .u8]) e1 hf1
 subst hx1
 clear hA0
 simp only [List.append_nil, List.nil_append] at hW'
 have hlt0 : ∀ x ∈ p0, x.block < W.heap.size := fun x hx => hW'.lt x (by simp [hx])
 have hlt1 : ∀ x ∈ p1, x.block < W.heap.size := fun x hx => hW'.lt x (by simp [hx])
 have G : GRel W.heap.size W gT := gLaid hL
 have e4 : fOf Az4 cB Sz4 [((Cod.list false a8).v x0).c, .agg (V.cs ((Row.cons cU8 (Row.cons cU8 Row.nil)).v x1))] = some (.bool true) := by
  show fOf Az4 cB Sz4 (V.cs (Az4.v (x0, x1, ()))) = _
  unfold fOf
  rw [Az4.rt, Option.bind_some, law4 x0 x1.1 x1.2.1 (u8_ok hf1) (u8_ok2 hf1)]; rfl
 refine (Kz4.ok W.heap.size ⟨W, bR W⟩ G _ _ e4 _ (bR W) W (.cons _ _ _ _ hr0 (.cons _ _ _ _ hr1 .nil)) (m9 W) (Below.refl _ _) (Nat.le_refl _)).mono ?_
 rintro e W' ⟨u, φ, rfl, hu, hg, -⟩
 cases hu
 have hfn : Rows.seasonMonoidSpec.fn H ([d0, d1] ++ []) = { results := [.lit (.bool true)], args := [d0, d1] } := rfl
 have hrt : Tryz.f4.resultTypes = #[4] := rfl
 have k1 : ∀ (b : Nat) (sp : Nat → Bool) (hd : Bool), DataW.TrodAll enc Tryz.prog W' b sp hd Tryz.f4.resultTypes.toList ((Value.bool true).resultList Tryz.f4.resultTypes.size) (Rows.seasonMonoidSpec.fn H ([d0, d1] ++ [])).results [] := by
  intro b sp hd
  rw [hfn, hrt]
  exact trodAll_cons_mk (shut_bool Tryz.underlying4 _) trodAll_mk0
 have k2 : ∀ sp : Nat → Bool, (∀ x ∈ p0 ++ p1, sp x.block = true) → DataW.TrodAll enc Tryz.prog W' 0 sp true Tryz.f4.params.toList [v0, v1] (Rows.seasonMonoidSpec.fn H ([d0, d1] ++ [])).args (p0 ++ p1) := by
  intro sp hsp
  have hsp0 : ∀ x ∈ p0, sp x.block = true := fun x hx => hsp x (by simp [hx])
  have hsp1 : ∀ x ∈ p1, sp x.block = true := fun x hx => hsp x (by simp [hx])
  rw [hfn, Tryz.params4]
  have q := (trodAll_cons_mk (Go.WideElems.Trod_stays yW (by kernel_rfl) (of_decide_eq_true (by kernel_rfl)) h0 (fun x hx => hg.same (hlt0 x hx)) hsp0) (trodAll_cons_mk (Go.WideElems.Trod_stays yW (by kernel_rfl) (of_decide_eq_true (by kernel_rfl)) h1 (fun x hx => hg.same (hlt1 x hx)) hsp1) trodAll_mk0))
  simpa only [List.append_nil, List.nil_append] using q
 have k4 : ∀ (j : Nat) (t : TypeId) (r : Value), Tryz.f4.resultTypes[j]? = some t → ((Value.bool true).resultList Tryz.f4.resultTypes.size)[j]? = some r → Value.okWide Tryz.prog W' .any 0 t r := ok_one (f := Tryz.f4) hrt rfl (okWide_bool_mk Tryz.underlying4 _)
 exact ⟨_, rfl, pU (pa := p0 ++ p1) (pv := []) hW' k1 k2 (fun _ _ => rfl) (List.append_nil _).symm hg k4⟩
def ajC : Array Value := #[.slice none 0 0, .agg #[.int .u8 0, .int .u8 0]]
theorem laid_met (os : Os) : laidMet Tryz.prog Rows.seasonMonoidRow.laid ((mV os).forCall (fun _ _ => 0) ⟨#[], ajC, []⟩).memory :=
 laidMet_of_run' 8 (by kernel_rfl) (by kernel_rfl)
theorem reads (os : Os) {H : Type} (enc : TypeId × Value → H) : ∃ places, DataW.whole enc Tryz.prog ((mV os).forCall (fun _ _ => 0) ⟨#[], ajC, []⟩).memory Tryz.f4.params.toList Rows.seasonMonoidSpec.vars false ajC.toList 8 = some ([.nil, .agg [.lit (.int .u8 0), .lit (.int .u8 0)]], [], places) :=
 ⟨[], by kernel_rfl⟩
set_option maxRecDepth 100000 in
theorem lifted (os : Os) (started : os.Started) (H : Type) (enc : TypeId × Value → H) (F : Stop.Interp) :
  ReturnsInHanded {} Tryz.checked os 4 .any ((OpenSpec.ofChange Rows.seasonMonoidSpec).preRow enc Tryz.prog Tryz.f4 Rows.seasonMonoidRow.domain false Rows.seasonMonoidRow.laid) (((OpenSpec.ofChange Rows.seasonMonoidSpec).at F).post enc Tryz.prog Tryz.f4 false true false false) := by
 obtain ⟨places, hx⟩ := reads os enc
 refine returnsInHanded_of_row (C := Tryz.checked) (s := OpenSpec.ofChange Rows.seasonMonoidSpec) own started (by kernel_rfl) Tryz.func4
  (witness_row_at (enc := enc) (C := Tryz.checked) false (mV os) ajC rfl (by kernel_rfl) (by kernel_rfl) (by kernel_rfl)
   (OpenSpec.preRow_of_cond 8 hx (by kernel_rfl) (fun k hk => by cases hk) (by kernel_rfl) (laid_met os))) ?_
 intro W base args ds gs before hval hW _ _ _ hL _ _
 exact aqw H enc W base args ds gs before hval hW hL
theorem said : Rows.SeasonMonoidSaid :=
 OpenClaim.holds_of_cond 4 Tryz.f4 rfl rfl rfl rfl rfl rfl rfl ⟨rfl, rfl, rfl, rfl, rfl⟩ rfl rfl rfl rfl rfl (by kernel_rfl) Tryz.func4 (by kernel_rfl)
  (of_decide_eq_true (by kernel_rfl)) (by unfold Func.isWrapper; first | (rw [if_pos (by decide +kernel)]; kernel_rfl) | (rw [if_neg (by decide +kernel)]; exact ⟨rfl, rfl⟩))
  (fun os started H enc _ F => by rw [OpenClaim.pre_eq_preRow]; exact lifted os started H enc F)
theorem plain (f : FuncId) (fn : Func) (hf : Tryz.pinned.checked.prog.funcNamed Rows.seasonMonoidRow.func = some f) (hfn : Tryz.pinned.checked.prog.funcs[f]? = some fn) :
  false = Tryz.pinned.checked.prog.looks [] ∧ ∀ (j : Nat) t, fn.params[j]? = some t → Tryz.pinned.checked.prog.wantsStandIn t = false := by
 obtain rfl : f = 4 := Option.some.inj ((show Tryz.prog.funcNamed Rows.seasonMonoidRow.func = some 4 by kernel_rfl).symm.trans hf) |>.symm
 obtain rfl : fn = Tryz.f4 := (Option.some.inj (Tryz.func4.symm.trans hfn)).symm
 refine ⟨by kernel_rfl, fun j t ht => ?_⟩
 rw [Tryz.params4] at ht
 have hm : t = 22 ∨ t = 38 := by simpa using Array.mem_of_getElem? ht
 rcases hm with rfl | rfl
 · exact (show Tryz.prog.wantsStandIn 22 = false by kernel_rfl)
 · exact (show Tryz.prog.wantsStandIn 38 = false by kernel_rfl)
theorem card : Rows.SeasonMonoidCardSaid :=
 Claim7.holds_tied_plain_at .later [] _ _ _ _ said (fun _ h => by cases h) (by kernel_rfl) (fun _ h => by cases h) seasonMonoid_row_tie rfl ⟨rfl, rfl⟩ (by kernel_rfl) rfl plain (by kernel_rfl)
end Go.Proofs.YtldebobgefdnhaaGreatDoor.seasonMonoidC
namespace Go.Proofs.YtldebobgefdnhaaGreatDoor
theorem seasonMonoid_holds : Rows.SeasonMonoidCardSaid := seasonMonoidC.card
end Go.Proofs.YtldebobgefdnhaaGreatDoor
