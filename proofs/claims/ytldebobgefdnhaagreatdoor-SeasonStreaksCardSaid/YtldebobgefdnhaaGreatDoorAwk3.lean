import Derived.Test.YtldebobgefdnhaaGreatDoorAwkD
set_option linter.unusedSimpArgs false
set_option linter.unusedVariables false
namespace Go.Ev
open Go.RowKit Go.Proofs
set_option maxRecDepth 100000
set_option maxHeartbeats 4000000
theorem awr10 : aH Tryz.prog (aw9) (run Tryz.prog gT (aU gF) 3000 (.call 19 [aqK] H.start)) = true := by kernel_rfl
end Go.Ev
