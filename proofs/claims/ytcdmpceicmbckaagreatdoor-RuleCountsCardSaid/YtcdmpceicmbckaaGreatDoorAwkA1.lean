import Derived.Test.YtcdmpceicmbckaaGreatDoorAwkD
set_option linter.unusedSimpArgs false
set_option linter.unusedVariables false
namespace Go.Ev
open Go.RowKit Go.Proofs
set_option maxRecDepth 100000
set_option maxHeartbeats 4000000
theorem aw32_4 : aL Tryz.prog (.tup [.agg [.int .i64 4, .int .i64 0, .int .i64 0, .int .i64 0, .int .i64 0, .int .i64 0, .int .i64 0, .int .i64 0, .int .i64 5, .int .i64 3, .int .i64 0, .int .i64 1, .bool false], .int .i64 0, .int .i64 0]) (run Tryz.prog gT (aM []) 3000 (.call 32 [AW.s4, AW.p4] H.start)) = true := by kernel_rfl
theorem aw32_5 : aL Tryz.prog (.tup [.agg [.int .i64 3, .int .i64 1, .int .i64 2, .int .i64 0, .int .i64 0, .int .i64 2, .int .i64 0, .int .i64 0, .int .i64 5, .int .i64 3, .int .i64 0, .int .i64 2, .bool false], .int .i64 0, .int .i64 0]) (run Tryz.prog gT (aM []) 3000 (.call 32 [AW.s4, AW.p5] H.start)) = true := by kernel_rfl
theorem aw32_6 : aL Tryz.prog (.tup [.agg [.int .i64 9, .int .i64 1, .int .i64 0, .int .i64 0, .int .i64 0, .int .i64 0, .int .i64 0, .int .i64 0, .int .i64 5, .int .i64 3, .int .i64 3, .int .i64 4, .bool true], .int .i64 0, .int .i64 0]) (run Tryz.prog gT (aM []) 3000 (.call 32 [AW.s5, AW.p6] H.start)) = true := by kernel_rfl
theorem aw32_7 : aL Tryz.prog (.tup [.agg [.int .i64 0, .int .i64 0, .int .i64 0, .int .i64 0, .int .i64 0, .int .i64 0, .int .i64 0, .int .i64 0, .int .i64 0, .int .i64 0, .int .i64 0, .int .i64 0, .bool false], .int .i64 10, .int .i64 18]) (run Tryz.prog gT (aM []) 3000 (.call 32 [AW.s3, AW.p7] H.start)) = true := by kernel_rfl
end Go.Ev
