import Derived.Test.YtldebobgefdnhaaGreatDoorAwkD
set_option linter.unusedSimpArgs false
set_option linter.unusedVariables false
namespace Go.Ev
open Go.RowKit Go.Proofs
set_option maxRecDepth 100000
set_option maxHeartbeats 4000000
theorem awr14 : aH Tryz.prog (aw4) (run Tryz.prog gT (aU gF) 3000 (.call 22 [aw13, .str [104], .str [97, 98], .int .i64 3, .int .i64 1] H.start)) = true := by kernel_rfl
theorem awr15 : aH Tryz.prog (aw7) (run Tryz.prog gT (aU gF) 3000 (.call 22 [aw13, .str [104], .str [97, 98], .int .i64 3, .int .i64 2] H.start)) = true := by kernel_rfl
theorem awr16 : aH Tryz.prog (.tup [.agg [.int .i64 1, .int .i64 4], .int .i64 0]) (run Tryz.prog gT (aU gF) 3000 (.call 23 [aw8, .str [104], .str [97, 98]] H.start)) = true := by kernel_rfl
theorem awr17 : aH Tryz.prog (.tup [.int .i64 2, .int .i64 0]) (run Tryz.prog gT (aU gF) 3000 (.call 24 [aw5, aw6] H.start)) = true := by kernel_rfl
end Go.Ev
