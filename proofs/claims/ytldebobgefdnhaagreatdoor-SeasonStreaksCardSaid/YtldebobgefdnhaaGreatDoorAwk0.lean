import Derived.Test.YtldebobgefdnhaaGreatDoorAwkD
set_option linter.unusedSimpArgs false
set_option linter.unusedVariables false
namespace Go.Ev
open Go.RowKit Go.Proofs
set_option maxRecDepth 100000
set_option maxHeartbeats 4000000
theorem awr0 : aH Tryz.prog (aqK) (run Tryz.prog gT (aU gF) 3000 (.call 14 [] H.start)) = true := by kernel_rfl
theorem awr1 : aH Tryz.prog (aw15) (run Tryz.prog gT (aU gF) 3000 (.call 16 [.int .i64 1, .int .i64 2] H.start)) = true := by kernel_rfl
theorem awr2 : aH Tryz.prog (aw16) (run Tryz.prog gT (aU gF) 3000 (.call 16 [.int .i64 2, .int .i64 3] H.start)) = true := by kernel_rfl
theorem awr3 : aH Tryz.prog (aw17) (run Tryz.prog gT (aU gF) 3000 (.call 16 [.int .i64 3, .int .i64 2] H.start)) = true := by kernel_rfl
theorem awr4 : aH Tryz.prog (aw12) (run Tryz.prog gT (aU gF) 3000 (.call 21 [] H.start)) = true := by kernel_rfl
theorem awr5 : aH Tryz.prog (aw14) (run Tryz.prog gT (aU gF) 3000 (.call 13 [aqK] H.start)) = true := by kernel_rfl
end Go.Ev
