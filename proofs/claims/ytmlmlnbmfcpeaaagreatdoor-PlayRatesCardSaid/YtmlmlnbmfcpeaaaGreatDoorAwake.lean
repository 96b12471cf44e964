import Derived.Test.YtmlmlnbmfcpeaaaGreatDoorEvLaid
import Derived.Test.YtmlmlnbmfcpeaaaGreatDoorRows
import Derived.Eval
namespace Go.Proofs.YtmlmlnbmfcpeaaaGreatDoor
open Go.Ev Go.RowKit

noncomputable def ways : List EVal := ((layE Tryz.prog 5 181 Rows.laid_dugout_play_ways).getD [])
def waysL : List EVal := [.bool false, .str [98], .int .i64 3, .int .i64 3, .bool false, .str [97], .int .i64 3, .int .i64 3, .bool false, .str [115], .int .i64 0, .int .i64 3, .bool false, .str [112], .int .i64 3, .int .i64 3, .bool false, .str [107], .int .i64 0, .int .i64 3, .bool false, .str [116], .int .i64 3, .int .i64 3, .bool false, .str [111], .int .i64 3, .int .i64 3,
 .bool true, .str [102], .int .i64 2, .int .i64 2, .bool true, .str [103], .int .i64 3, .int .i64 4, .bool true, .str [99], .int .i64 2, .int .i64 0, .bool true, .str [100], .int .i64 0, .int .i64 1, .bool true, .str [107], .int .i64 2, .int .i64 0, .bool true, .str [110], .int .i64 2, .int .i64 3, .bool true, .str [121], .int .i64 2, .int .i64 0]
theorem ways_lay : layE Tryz.prog 5 181 Rows.laid_dugout_play_ways = some waysL := by kernel_rfl
theorem gWays : Tryz.prog.globalNamed "dugout/play.ways" = some 0 := by kernel_rfl
theorem gWaysType : (Tryz.prog.globals[0]?).map (·.type) = some 181 := by kernel_rfl
theorem mixed : Tryz.prog.follows .mixedOrders = true := Tryz.checked.mixed
theorem noNGb : (Tryz.prog.funcs.toList.all fun fn => !(fn.name == "runtime.NumGoroutine")) = true := by kernel_rfl
theorem noNG : NoNG Tryz.prog := fun f fn h => by
  have hm : fn ∈ Tryz.prog.funcs.toList := by
    rw [← Array.getElem?_toList] at h
    exact List.mem_of_getElem? h
  have := List.all_eq_true.1 noNGb fn hm
  simpa using this

def allTrue : Option (List Out) → Bool
  | some l => l.all fun o => match o with | .val (.bool true) _ => true | _ => false
  | none => false

noncomputable def quietF : FuncId → Bool := fun f => Nat.beq f 167
noncomputable def known : Known := quietK Tryz.prog (oneG 0 waysL) 100 quietF

set_option maxRecDepth 100000 in
theorem awake_runs : allTrue (run Tryz.prog (oneG 0 waysL) known 3000 (.call 16 [] ⟨0, T.full none 14⟩)) = true := by kernel_rfl

/-- The examples come out true, in any world that holds the table. -/
theorem awake_true {W : World} (G : GRel W.heap.size W (oneG 0 waysL)) : Calls Tryz.prog 16 #[] W fun e w' => e = .returned (.bool true) ∧ Below W.heap.size W w' := by
  have h := awake_runs
  cases hr : run Tryz.prog (oneG 0 waysL) known 3000 (.call 16 [] ⟨0, T.full none 14⟩) with
  | none => rw [hr] at h; cases h
  | some outs =>
    rw [hr] at h
    have hall : ∀ o ∈ outs, (match o with | .val (.bool true) _ => true | _ => false) = true := List.all_eq_true.1 h
    refine (run_calls mixed noNG G (quietK_ok mixed noNG G 100 quietF) hr (vs := #[]) .nil).mono ?_
    rintro e w' ⟨v, h', u, ρ, hm, rfl, hv, hb⟩
    have := hall _ hm
    split at this
    · rename_i heq
      cases heq
      cases hv
      exact ⟨rfl, hb⟩
    · cases this

theorem gRel {W : World} (h : laidMetH Tryz.prog [("dugout/play.ways", Rows.laid_dugout_play_ways)] W) : GRel W.heap.size W (oneG 0 waysL) :=
  GRel.of_laid gWays gWaysType ways_lay h
#print axioms awake_true
end Go.Proofs.YtmlmlnbmfcpeaaaGreatDoor
