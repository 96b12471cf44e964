import Derived.Test.YtldebobgefdnhaaGreatDoorEvD
import Derived.Test.YtldebobgefdnhaaGreatDoorRows
import Derived.Eval
set_option linter.unusedSimpArgs false
set_option linter.unusedVariables false
namespace Go.Ev
open Go.RowKit Go.Proofs
def yQ : List EVal := [.str [97, 98], .str [104], .str [100], .str [116], .str [104, 114], .str [114], .str [114, 98, 105], .str [119], .str [107], .str [115, 98], .str [112, 111], .str [101]]
theorem yP : layE Tryz.prog 5 139 Go.Proofs.YtldebobgefdnhaaGreatDoor.Rows.laid_dugout_season_kinds = some yQ := by kernel_rfl
theorem gKinds : Tryz.prog.globalNamed "dugout/season.kinds" = some 0 := by kernel_rfl
theorem wO : (Tryz.prog.globals[0]?).map (·.type) = some 139 := by kernel_rfl
theorem mixed : Tryz.prog.follows .mixedOrders = true := Tryz.checked.mixed
theorem noNGb : (Tryz.prog.funcs.toList.all fun fn => !(fn.name == "runtime.NumGoroutine")) = true := by kernel_rfl
theorem qW : iN Tryz.prog := fun f fn h => by
 have hm : fn ∈ Tryz.prog.funcs.toList := by
  rw [← Array.getElem?_toList] at h
  exact List.mem_of_getElem? h
 have := List.all_eq_true.1 noNGb fn hm
 simpa using this
noncomputable def gT : G := oneG 0 yQ
abbrev FnT := Fn Tryz.prog gT
end Go.Ev
