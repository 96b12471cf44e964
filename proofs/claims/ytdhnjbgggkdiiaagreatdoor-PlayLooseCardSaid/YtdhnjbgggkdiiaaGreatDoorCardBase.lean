import Derived.Test.YtdhnjbgggkdiiaaGreatDoorCards
import Derived.Test.YtdhnjbgggkdiiaaGreatDoorTie
import Derived.Test.YtdhnjbgggkdiiaaGreatDoorAwake
import Derived.WalkKit
import Derived.ProofKit
import Derived.OpenShut
import Derived.Deep.DeepHandedRow
import Derived.Lib.LaidTab
import Derived.Lib.SmallJoins
import Derived.ChangeMaps5
set_option linter.unusedSimpArgs false
set_option linter.unusedVariables false
namespace Go.Proofs.YtdhnjbgggkdiiaaGreatDoor.base
open Go.ChangeShapes Go.WideShapes Go.ChangeAt Go.RowKit Go.Lib Go.Ev Go.Joins Go.Deep

section
variable {H : Type} {enc : TypeId × Value → H} {P : Program}
theorem post_of_below {f : Func} {s : ChangeSpec} {apart fresh handsOn again : Bool} {W W' : World} {args : Array Value} {v : Value} {ds gs : List (DataW H)} {bV pa pv : List MemPlace}
    (hW : DataW.Whole enc P f.params.toList s.vars apart W args.toList ds gs bV)
    (hres : ∀ (b : Nat) (sp : Nat → Bool) (hd : Bool), DataW.TrodAll enc P W' b sp hd f.resultTypes.toList (v.resultList f.resultTypes.size) (s.fn H (ds ++ gs)).results [])
    (hargs : ∀ sp : Nat → Bool, (∀ p ∈ bV, sp p.block = true) → DataW.TrodAll enc P W' 0 sp true f.params.toList args.toList (s.fn H (ds ++ gs)).args pa)
    (hvars : ∀ sp : Nat → Bool, (∀ p ∈ bV, sp p.block = true) → DataW.TrodVars enc P W' sp s.vars (s.fn H (ds ++ gs)).vars pv)
    (hps : bV = pa ++ pv) (hb : Below W.heap.size W W')
    (hok : ∀ (j : Nat) (t : TypeId) (r : Value), f.resultTypes[j]? = some t → (v.resultList f.resultTypes.size)[j]? = some r → Value.okWide P W' .any 0 t r) :
    s.post enc P f apart fresh handsOn again W args v W' := by
  have hlt : ∀ p ∈ bV, p.block < W.heap.size := fun p hp => hW.lt p hp
  have hold : ∀ p ∈ bV, (fun b => decide (b < W.heap.size)) p.block = true := fun p hp => by simpa using hlt p hp
  refine ⟨ds, gs, bV, [], pa, pv, hW, hres _ _ _, hargs _ hold, hvars _ hold, World.keptBut_mono (fun p hp => ⟨hp, ?_⟩) (hb.frame (· ∈ bV)), fun _ => ?_⟩
  · rw [hps, List.mem_append] at hp
    exact Or.inr hp
  · obtain ⟨_, _, _, _, _, hz, hn⟩ := hW
    refine ⟨hok, _, _, ([] ++ pa) ++ pv, ⟨[] ++ pa, pv, trodAll_append (hargs _ (fun _ _ => rfl)) (hres _ _ _), hvars _ (fun _ _ => rfl), rfl, ?_, ?_⟩, ?_⟩
    · intro b off hp
      have hin : MemPlace.cell b off ∈ bV := by rw [hps]; simpa using hp
      rw [hb.frozen (hlt _ hin)]
      exact hz b off hin
    · intro ha
      have := hn ha
      rw [hps] at this
      simpa using this
    · intro p hp _
      rw [hps]
      simpa using hp
end

theorem own : ownKnob Tryz.prog.godebug = none := by kernel_rfl

/-- A WORLD FOR THE WITNESS: the settled one, the table holding what its initialiser lays. -/
noncomputable def laidWorld (os : Os) : World :=
  { World.holding Tryz.prog os ⟨#[], #[], []⟩ with heap := (World.holding Tryz.prog os ⟨#[], #[], []⟩).heap.modify 0 fun
      | .cells _ t frozen => .cells #[.bool false, .string ⟨#[98]⟩, .int .i64 3, .int .i64 3, .bool false, .string ⟨#[97]⟩, .int .i64 3, .int .i64 3, .bool false, .string ⟨#[115]⟩, .int .i64 0, .int .i64 3, .bool false, .string ⟨#[112]⟩, .int .i64 3, .int .i64 3, .bool false, .string ⟨#[107]⟩, .int .i64 0, .int .i64 3, .bool false, .string ⟨#[116]⟩, .int .i64 3, .int .i64 3, .bool false, .string ⟨#[111]⟩, .int .i64 3, .int .i64 3, .bool true, .string ⟨#[102]⟩, .int .i64 2, .int .i64 2, .bool true, .string ⟨#[103]⟩, .int .i64 3, .int .i64 4, .bool true, .string ⟨#[99]⟩, .int .i64 2, .int .i64 0, .bool true, .string ⟨#[100]⟩, .int .i64 0, .int .i64 1, .bool true, .string ⟨#[107]⟩, .int .i64 2, .int .i64 0, .bool true, .string ⟨#[110]⟩, .int .i64 2, .int .i64 3, .bool true, .string ⟨#[121]⟩, .int .i64 2, .int .i64 0] t frozen
      | o => o }
end Go.Proofs.YtdhnjbgggkdiiaaGreatDoor.base
