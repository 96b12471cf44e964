import Derived.Test.YtahijjbkefmdpaaGreatDoorEvD
import Derived.Test.YtahijjbkefmdpaaGreatDoorRows
import Derived.Eval
set_option linter.unusedSimpArgs false
set_option linter.unusedVariables false
namespace Go.Ev
open Go.RowKit Go.Proofs
theorem mixed : Tryz.prog.follows .mixedOrders = true := Tryz.checked.mixed
theorem noNGb : (Tryz.prog.funcs.toList.all fun fn => !(fn.name == "runtime.NumGoroutine")) = true := by kernel_rfl
theorem jU : kB Tryz.prog := fun f fn h => by
 have hm : fn ∈ Tryz.prog.funcs.toList := by
  rw [← Array.getElem?_toList] at h
  exact List.mem_of_getElem? h
 have := List.all_eq_true.1 noNGb fn hm
 simpa using this
def gT : G := fun _ => none
abbrev FnT := Fn Tryz.prog gT
end Go.Ev
