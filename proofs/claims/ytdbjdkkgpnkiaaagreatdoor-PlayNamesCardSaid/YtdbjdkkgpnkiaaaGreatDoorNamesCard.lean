/- For every string and every two integers PlayNames returns true, and the string and the integers read afterwards as before: the whole card, tied to the program's table dugout/play.ways. No condition. -/
import Derived.Test.YtdbjdkkgpnkiaaaGreatDoorCards
import Derived.Test.YtdbjdkkgpnkiaaaGreatDoorTie
import Derived.Test.YtdbjdkkgpnkiaaaGreatDoorLawNames
import Derived.WalkKit
import Derived.ProofKit
import Derived.OpenShut
import Derived.Deep.DeepHandedRow
import Derived.Lib.LaidTab
import Derived.Lib.SmallJoins
import Derived.ChangeMaps5
set_option linter.unusedSimpArgs false
set_option linter.unusedVariables false
namespace Go.Proofs.YtdbjdkkgpnkiaaaGreatDoor.names
open Go.ChangeShapes Go.WideShapes Go.ChangeAt Go.RowKit Go.Lib Go.Ev Go.Joins Go.Deep

section
variable {H : Type} {enc : TypeId × Value → H} {P : Program}
theorem post_of_below {f : Func} {s : ChangeSpec} {apart fresh handsOn again : Bool} {W W' : World} {args : Array Value} {v : Value} {ds gs : List (DataW H)} {before pa pv : List MemPlace}
    (hW : DataW.Whole enc P f.params.toList s.vars apart W args.toList ds gs before)
    (hres : ∀ (b : Nat) (sp : Nat → Bool) (hd : Bool), DataW.TrodAll enc P W' b sp hd f.resultTypes.toList (v.resultList f.resultTypes.size) (s.fn H (ds ++ gs)).results [])
    (hargs : ∀ sp : Nat → Bool, (∀ p ∈ before, sp p.block = true) → DataW.TrodAll enc P W' 0 sp true f.params.toList args.toList (s.fn H (ds ++ gs)).args pa)
    (hvars : ∀ sp : Nat → Bool, (∀ p ∈ before, sp p.block = true) → DataW.TrodVars enc P W' sp s.vars (s.fn H (ds ++ gs)).vars pv)
    (hps : before = pa ++ pv) (hb : Below W.heap.size W W')
    (hok : ∀ (j : Nat) (t : TypeId) (r : Value), f.resultTypes[j]? = some t → (v.resultList f.resultTypes.size)[j]? = some r → Value.okWide P W' .any 0 t r) :
    s.post enc P f apart fresh handsOn again W args v W' := by
  have hlt : ∀ p ∈ before, p.block < W.heap.size := fun p hp => hW.lt p hp
  have hold : ∀ p ∈ before, (fun b => decide (b < W.heap.size)) p.block = true := fun p hp => by simpa using hlt p hp
  refine ⟨ds, gs, before, [], pa, pv, hW, hres _ _ _, hargs _ hold, hvars _ hold, World.keptBut_mono (fun p hp => ⟨hp, ?_⟩) (hb.frame (· ∈ before)), fun _ => ?_⟩
  · rw [hps, List.mem_append] at hp
    exact Or.inr hp
  · obtain ⟨_, _, _, _, _, hz, hn⟩ := hW
    refine ⟨hok, _, _, ([] ++ pa) ++ pv, ⟨[] ++ pa, pv, trodAll_append (hargs _ (fun _ _ => rfl)) (hres _ _ _), hvars _ (fun _ _ => rfl), rfl, ?_, ?_⟩, ?_⟩
    · intro b off hp
      have hin : MemPlace.cell b off ∈ before := by rw [hps]; simpa using hp
      rw [hb.frozen (hlt _ hin)]
      exact hz b off hin
    · intro ha
      have := hn ha
      rw [hps] at this
      simpa using this
    · intro p hp _
      rw [hps]
      simpa using hp
end

theorem own : ownKnob Tryz.prog.godebug = none := by kernel_rfl

theorem bytes_ok (s : ByteArray) : bytesB (s.data.toList.map UInt8.toNat) = true := by
  simp only [bytesB, List.all_eq_true, List.mem_map, decide_eq_true_eq]
  rintro x ⟨u, _, rfl⟩
  exact UInt8.toNat_lt u
set_option maxRecDepth 100000 in
theorem contract (H : Type) (enc : TypeId × Value → H) (W : World) (base : Nat) (args : Array Value) (ds gs : List (DataW H)) (before : List MemPlace)
    (hval : ∀ (j : Nat) t v, Tryz.f4.params[j]? = some t → args[j]? = some v → Value.okWide Tryz.prog W .any base t v)
    (hW : DataW.Whole enc Tryz.prog Tryz.f4.params.toList Rows.playNamesSpec.vars false W args.toList ds gs before) (hL : laidMetH Tryz.prog Rows.playNamesRow.laid W) :
    Calls Tryz.prog 4 args W fun e W' => ∃ v, e = .returned v ∧ Rows.playNamesSpec.post enc Tryz.prog Tryz.f4 false true false false W args v W' := by
  have hW' := hW
  obtain ⟨p, q, hA0, hV, rfl, hfz, hnd⟩ := hW
  have hA : DataW.TrodAll enc Tryz.prog W 0 (fun _ => true) true Tryz.f4.params.toList args.toList ds p := hA0
  rw [Tryz.params4] at hA hval
  obtain ⟨v0, vs0, d0, ds0, p0, q0, hargs, rfl, rfl, h0, r0⟩ := trodAll_cons hA
  obtain ⟨v1, vs1, d1, ds1, p1, q1, rfl, rfl, rfl, h1, r1⟩ := trodAll_cons r0
  obtain ⟨v2, vs2, d2, ds2, p2, q2, rfl, rfl, rfl, h2, r2⟩ := trodAll_cons r1
  obtain ⟨rfl, rfl, rfl⟩ := trodAll_nil r2
  obtain rfl : args = #[v0, v1, v2] := by cases args; simp_all
  obtain ⟨rfl, rfl⟩ := trodVars_none hV
  obtain ⟨s, rfl, rfl, rfl, hs⟩ := Go.ChangeMaps.open_string Tryz.underlying9 (hval 0 9 v0 rfl rfl) h0
  obtain ⟨n, rfl, rfl, rfl, hn⟩ := open_int Tryz.underlying3 (hval 1 3 v1 rfl rfl) h1
  obtain ⟨m, rfl, rfl, rfl, hm⟩ := open_int Tryz.underlying3 (hval 2 3 v2 rfl rfl) h2
  clear hA0
  simp only [List.append_nil] at hW'
  have G : GRel W.heap.size W gT := GRel.of_laid gWays gWaysType ways_lay hL
  have e4 : F4 [.str (s.data.toList.map UInt8.toNat), .int .i64 n, .int .i64 m] = some (.bool true) := by show (if _ then _ else _) = _; rw [if_pos (bytes_ok s)]
  refine (fn4 W.heap.size ⟨W, froAll W⟩ G _ _ e4 _ (froAll W) W (.cons _ _ _ _ (.str _ s rfl) (.cons _ _ _ _ (.int .i64 n) (.cons _ _ _ _ (.int .i64 m) .nil))) (froAll_ok W) (Below.refl _ _) (Nat.le_refl _)).mono ?_
  rintro e W' ⟨u, φ, rfl, hu, hg, -⟩
  cases hu
  have hfn : Rows.playNamesSpec.fn H ([.lit (.string s.data.toList), .lit (.int .i64 n), .lit (.int .i64 m)] ++ []) = { results := [.lit (.bool true)], args := [.lit (.string s.data.toList), .lit (.int .i64 n), .lit (.int .i64 m)] } := rfl
  have hrt : Tryz.f4.resultTypes = #[4] := rfl
  have k1 : ∀ (b : Nat) (sp : Nat → Bool) (hd : Bool), DataW.TrodAll enc Tryz.prog W' b sp hd Tryz.f4.resultTypes.toList ((Value.bool true).resultList Tryz.f4.resultTypes.size) (Rows.playNamesSpec.fn H ([.lit (.string s.data.toList), .lit (.int .i64 n), .lit (.int .i64 m)] ++ [])).results [] := by
    intro b sp hd
    rw [hfn, hrt]
    exact trodAll_cons_mk (shut_bool Tryz.underlying4 _) trodAll_mk0
  have k2 : ∀ sp : Nat → Bool, DataW.TrodAll enc Tryz.prog W' 0 sp true Tryz.f4.params.toList [Value.string s, Value.int IntKind.i64 n, Value.int IntKind.i64 m] (Rows.playNamesSpec.fn H ([.lit (.string s.data.toList), .lit (.int .i64 n), .lit (.int .i64 m)] ++ [])).args [] := by
    intro sp
    rw [hfn, Tryz.params4]
    exact trodAll_cons_mk (Go.ChangeMaps.shut_string Tryz.underlying9 hs) (trodAll_cons_mk (shut_int Tryz.underlying3 hn) (trodAll_cons_mk (shut_int Tryz.underlying3 hm) trodAll_mk0))
  have k4 : ∀ (j : Nat) (t : TypeId) (r : Value), Tryz.f4.resultTypes[j]? = some t → ((Value.bool true).resultList Tryz.f4.resultTypes.size)[j]? = some r → Value.okWide Tryz.prog W' .any 0 t r := ok_one (f := Tryz.f4) hrt rfl (okWide_bool_mk Tryz.underlying4 _)
  exact ⟨_, rfl, post_of_below (pa := []) (pv := []) hW' k1 (fun sp _ => k2 sp) (fun _ _ => rfl) rfl hg k4⟩

/-- A WORLD FOR THE WITNESS: the settled one, the table holding what its initialiser lays. -/
noncomputable def laidWorld (os : Os) : World :=
  { World.holding Tryz.prog os ⟨#[], #[], []⟩ with heap := (World.holding Tryz.prog os ⟨#[], #[], []⟩).heap.modify 0 fun
      | .cells _ t frozen => .cells #[.bool false, .string ⟨#[98]⟩, .int .i64 3, .int .i64 3, .bool false, .string ⟨#[97]⟩, .int .i64 3, .int .i64 3, .bool false, .string ⟨#[115]⟩, .int .i64 0, .int .i64 3, .bool false, .string ⟨#[112]⟩, .int .i64 3, .int .i64 3, .bool false, .string ⟨#[107]⟩, .int .i64 0, .int .i64 3, .bool false, .string ⟨#[116]⟩, .int .i64 3, .int .i64 3, .bool false, .string ⟨#[111]⟩, .int .i64 3, .int .i64 3, .bool true, .string ⟨#[102]⟩, .int .i64 2, .int .i64 2, .bool true, .string ⟨#[103]⟩, .int .i64 3, .int .i64 4, .bool true, .string ⟨#[99]⟩, .int .i64 2, .int .i64 0, .bool true, .string ⟨#[100]⟩, .int .i64 0, .int .i64 1, .bool true, .string ⟨#[107]⟩, .int .i64 2, .int .i64 0, .bool true, .string ⟨#[110]⟩, .int .i64 2, .int .i64 3, .bool true, .string ⟨#[121]⟩, .int .i64 2, .int .i64 0] t frozen
      | o => o }
def argsW : Array Value := #[.string ⟨#[]⟩, .int .i64 0, .int .i64 0]
theorem laid_met (os : Os) : laidMet Tryz.prog Rows.playNamesRow.laid ((laidWorld os).forCall (fun _ _ => 0) ⟨#[], argsW, []⟩).memory :=
  laidMet_of_run' 8 (by kernel_rfl) (by kernel_rfl)
theorem reads (os : Os) {H : Type} (enc : TypeId × Value → H) : ∃ places, DataW.whole enc Tryz.prog ((laidWorld os).forCall (fun _ _ => 0) ⟨#[], argsW, []⟩).memory Tryz.f4.params.toList Rows.playNamesSpec.vars false argsW.toList 8 = some ([.lit (.string []), .lit (.int .i64 0), .lit (.int .i64 0)], [], places) :=
  ⟨[], by kernel_rfl⟩

set_option maxRecDepth 100000 in
theorem lifted (os : Os) (started : os.Started) (H : Type) (enc : TypeId × Value → H) (F : Stop.Interp) :
    ReturnsInHanded {} Tryz.checked os 4 .any ((OpenSpec.ofChange Rows.playNamesSpec).preRow enc Tryz.prog Tryz.f4 Rows.playNamesRow.domain false Rows.playNamesRow.laid) (((OpenSpec.ofChange Rows.playNamesSpec).at F).post enc Tryz.prog Tryz.f4 false true false false) := by
  obtain ⟨places, hx⟩ := reads os enc
  refine returnsInHanded_of_row (C := Tryz.checked) (s := OpenSpec.ofChange Rows.playNamesSpec) own started (by kernel_rfl) Tryz.func4
    (witness_row_at (enc := enc) (C := Tryz.checked) false (laidWorld os) argsW rfl (by kernel_rfl) (by kernel_rfl) (by kernel_rfl)
      (OpenSpec.preRow_of_cond 8 hx (by kernel_rfl) (fun k hk => by cases hk) (by kernel_rfl) (laid_met os))) ?_
  intro W base args ds gs before hval hW _ _ _ hL _ _
  exact contract H enc W base args ds gs before hval hW hL

theorem said : Rows.PlayNamesSaid :=
  OpenClaim.holds_of_cond 4 Tryz.f4 rfl rfl rfl rfl rfl rfl rfl ⟨rfl, rfl, rfl, rfl, rfl⟩ rfl rfl rfl rfl rfl (by kernel_rfl) Tryz.func4 (by kernel_rfl)
    (of_decide_eq_true (by kernel_rfl)) (by unfold Func.isWrapper; first | (rw [if_pos (by decide +kernel)]; kernel_rfl) | (rw [if_neg (by decide +kernel)]; exact ⟨rfl, rfl⟩))
    (fun os started H enc _ F => by rw [OpenClaim.pre_eq_preRow]; exact lifted os started H enc F)

theorem plain (f : FuncId) (fn : Func) (hf : Tryz.pinned.checked.prog.funcNamed "dugout/dugoutlaw01.PlayNames" = some f) (hfn : Tryz.pinned.checked.prog.funcs[f]? = some fn) :
    false = Tryz.pinned.checked.prog.looks [] ∧ ∀ (j : Nat) t, fn.params[j]? = some t → Tryz.pinned.checked.prog.wantsStandIn t = false := by
  obtain rfl : f = 4 := Option.some.inj ((show Tryz.prog.funcNamed "dugout/dugoutlaw01.PlayNames" = some 4 by kernel_rfl).symm.trans hf) |>.symm
  obtain rfl : fn = Tryz.f4 := (Option.some.inj (Tryz.func4.symm.trans hfn)).symm
  refine ⟨by kernel_rfl, fun j t ht => ?_⟩
  rw [Tryz.params4] at ht
  have hm : t = 9 ∨ t = 3 := by simpa using Array.mem_of_getElem? ht
  rcases hm with rfl | rfl
  · exact (show Tryz.prog.wantsStandIn 9 = false by kernel_rfl)
  · exact (show Tryz.prog.wantsStandIn 3 = false by kernel_rfl)

theorem card : Rows.PlayNamesCardSaid :=
  Claim7.holds_tied_plain_at .later [] _ _ _ _ said (fun _ h => by cases h) (by kernel_rfl) (fun _ h => by cases h) playNames_row_tie rfl ⟨rfl, rfl⟩ (by kernel_rfl) rfl plain (by kernel_rfl)
end Go.Proofs.YtdbjdkkgpnkiaaaGreatDoor.names
namespace Go.Proofs.YtdbjdkkgpnkiaaaGreatDoor
theorem playNames_holds : Rows.PlayNamesCardSaid := names.card
end Go.Proofs.YtdbjdkkgpnkiaaaGreatDoor
