import Derived.Test.YtgnnhpffealmmaaGreatDoorAwkD
set_option linter.unusedSimpArgs false
set_option linter.unusedVariables false
namespace Go.Ev
open Go.RowKit Go.Proofs
set_option maxRecDepth 100000
set_option maxHeartbeats 4000000
theorem awr14:aK Tryz.prog (aw4) (run Tryz.prog gT (aR hD) 3000 (.call 26 [aw13,.str [104],.str [97,98],.int .i64 3,.int .i64 1] H.start))=true:=by kernel_rfl
theorem awr15:aK Tryz.prog (aw7) (run Tryz.prog gT (aR hD) 3000 (.call 26 [aw13,.str [104],.str [97,98],.int .i64 3,.int .i64 2] H.start))=true:=by kernel_rfl
end Go.Ev
