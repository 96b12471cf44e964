import Derived.Test.YtcdmpceicmbckaaGreatDoorAwkD
set_option linter.unusedSimpArgs false
set_option linter.unusedVariables false
namespace Go.Ev
open Go.RowKit Go.Proofs
set_option maxRecDepth 100000
set_option maxHeartbeats 4000000
theorem aw32_0 : aL Tryz.prog (.tup [.agg [.int .i64 1, .int .i64 0, .int .i64 0, .int .i64 0, .int .i64 0, .int .i64 1, .int .i64 0, .int .i64 0, .int .i64 2, .int .i64 1, .int .i64 0, .int .i64 0, .bool false], .int .i64 0, .int .i64 0]) (run Tryz.prog gT (aM []) 3000 (.call 32 [AW.s0, AW.p0] H.start)) = true := by kernel_rfl
theorem aw32_1 : aL Tryz.prog (.tup [.agg [.int .i64 1, .int .i64 0, .int .i64 0, .int .i64 0, .int .i64 1, .int .i64 1, .int .i64 0, .int .i64 0, .int .i64 2, .int .i64 1, .int .i64 0, .int .i64 0, .bool false], .int .i64 0, .int .i64 0]) (run Tryz.prog gT (aM []) 3000 (.call 32 [AW.s1, AW.p1] H.start)) = true := by kernel_rfl
theorem aw32_2 : aL Tryz.prog (.tup [.agg [.int .i64 1, .int .i64 0, .int .i64 2, .int .i64 0, .int .i64 0, .int .i64 0, .int .i64 0, .int .i64 0, .int .i64 3, .int .i64 1, .int .i64 0, .int .i64 0, .bool false], .int .i64 0, .int .i64 0]) (run Tryz.prog gT (aM []) 3000 (.call 32 [AW.s2, AW.p2] H.start)) = true := by kernel_rfl
theorem aw32_3 : aL Tryz.prog (.tup [.agg [.int .i64 1, .int .i64 0, .int .i64 0, .int .i64 0, .int .i64 0, .int .i64 3, .int .i64 2, .int .i64 1, .int .i64 4, .int .i64 1, .int .i64 0, .int .i64 0, .bool false], .int .i64 0, .int .i64 0]) (run Tryz.prog gT (aM []) 3000 (.call 32 [AW.s3, AW.p3] H.start)) = true := by kernel_rfl
end Go.Ev
