import Derived.Test.YtgnnhpffealmmaaGreatDoorAwkD
set_option linter.unusedSimpArgs false
set_option linter.unusedVariables false
namespace Go.Ev
open Go.RowKit Go.Proofs
set_option maxRecDepth 100000
set_option maxHeartbeats 4000000
theorem awr6:aK Tryz.prog (aw10) (run Tryz.prog gT (aR hD) 3000 (.call 17 [aw18,aw19] H.start))=true:=by kernel_rfl
end Go.Ev
