import Derived.Test.YtgnnhpffealmmaaGreatDoorEvE
import Derived.Test.YtgnnhpffealmmaaGreatDoorRows
import Derived.Eval
set_option linter.unusedSimpArgs false
set_option linter.unusedVariables false
namespace Go.Ev
open Go.RowKit Go.Proofs
def aqN:List EVal:=[.str [97,98],.str [104],.str [100],.str [116],.str [104,114],.str [114],.str [114,98,105],.str [119],.str [107],.str [115,98],.str [112,111],.str [101]]
theorem aqM:layE Tryz.prog 5 100 Go.Proofs.YtgnnhpffealmmaaGreatDoor.Rows.laid_dugout_season_kinds=some aqN:=by kernel_rfl
theorem gKinds:Tryz.prog.globalNamed "dugout/season.kinds"=some 0:=by kernel_rfl
theorem yE:(Tryz.prog.globals[0]?).map (·.type)=some 100:=by kernel_rfl
theorem mixed:Tryz.prog.follows .mixedOrders=true:=Tryz.checked.mixed
theorem noNGb:(Tryz.prog.funcs.toList.all fun fn=>!(fn.name == "runtime.NumGoroutine"))=true:=by kernel_rfl
theorem noNG:fL Tryz.prog:=fun f fn h=>by
 have hm:fn∈Tryz.prog.funcs.toList:=by
  rw [←Array.getElem?_toList]at h
  exact List.mem_of_getElem? h
 have:=List.all_eq_true.1 noNGb fn hm
 simpa using this
noncomputable def gT:G:=oneG 0 aqN
abbrev FnT:=Fn Tryz.prog gT
end Go.Ev
