import Derived.Test.YtkhmgggponmimaaGreatDoorEvE
import Derived.Test.YtkhmgggponmimaaGreatDoorRows
import Derived.Eval
set_option linter.unusedSimpArgs false
set_option linter.unusedVariables false
namespace Go.Ev
open Go.RowKit Go.Proofs
def waysL:List EVal:=[.bool false,.str [98],.int .i64 3,.int .i64 3,.bool false,.str [97],.int .i64 3,.int .i64 3,.bool false,.str [115],.int .i64 0,.int .i64 3,.bool false,.str [112],.int .i64 3,.int .i64 3,.bool false,.str [107],.int .i64 0,.int .i64 3,.bool false,.str [116],.int .i64 3,.int .i64 3,.bool false,.str [111],.int .i64 3,.int .i64 3,
 .bool true,.str [102],.int .i64 2,.int .i64 2,.bool true,.str [103],.int .i64 3,.int .i64 4,.bool true,.str [99],.int .i64 2,.int .i64 0,.bool true,.str [100],.int .i64 0,.int .i64 1,.bool true,.str [107],.int .i64 2,.int .i64 0,.bool true,.str [110],.int .i64 2,.int .i64 3,.bool true,.str [121],.int .i64 2,.int .i64 0]
theorem aw1:layE Tryz.prog 5 178 Go.Proofs.YtkhmgggponmimaaGreatDoor.Rows.laid_dugout_play_ways=some waysL:=by kernel_rfl
theorem gWays:Tryz.prog.globalNamed "dugout/play.ways"=some 2:=by kernel_rfl
theorem avn:(Tryz.prog.globals[2]?).map (·.type)=some 178:=by kernel_rfl
theorem mixed:Tryz.prog.follows .mixedOrders=true:=Tryz.checked.mixed
theorem noNGb:(Tryz.prog.funcs.toList.all fun fn=>!(fn.name == "runtime.NumGoroutine"))=true:=by kernel_rfl
theorem noNG:gG Tryz.prog:=fun f fn h=>by
 have hm:fn∈Tryz.prog.funcs.toList:=by
  rw [←Array.getElem?_toList]at h
  exact List.mem_of_getElem? h
 have:=List.all_eq_true.1 noNGb fn hm
 simpa using this
noncomputable def gT:G:=oneG 2 waysL
abbrev FnT:=Fn Tryz.prog gT
end Go.Ev
