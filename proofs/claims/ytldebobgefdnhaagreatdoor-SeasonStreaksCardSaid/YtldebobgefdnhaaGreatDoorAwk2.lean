import Derived.Test.YtldebobgefdnhaaGreatDoorAwkD
set_option linter.unusedSimpArgs false
set_option linter.unusedVariables false
namespace Go.Ev
open Go.RowKit Go.Proofs
set_option maxRecDepth 100000
set_option maxHeartbeats 4000000
theorem awr8 : aH Tryz.prog (aw1) (run Tryz.prog gT (aU gF) 3000 (.call 6 [aw0] H.start)) = true := by kernel_rfl
theorem awr9 : aH Tryz.prog (aw2) (run Tryz.prog gT (aU gF) 3000 (.call 18 [aqK, .str [97, 110, 110], .str [104]] H.start)) = true := by kernel_rfl
end Go.Ev
