import Derived.Test.YtcdmpceicmbckaaGreatDoorAwkD
set_option linter.unusedSimpArgs false
set_option linter.unusedVariables false
namespace Go.Ev
open Go.RowKit Go.Proofs
set_option maxRecDepth 100000
set_option maxHeartbeats 4000000
theorem aw32_8 : aL Tryz.prog (.tup [.agg [.int .i64 0, .int .i64 0, .int .i64 0, .int .i64 0, .int .i64 0, .int .i64 0, .int .i64 0, .int .i64 0, .int .i64 0, .int .i64 0, .int .i64 0, .int .i64 0, .bool false], .int .i64 2, .int .i64 18]) (run Tryz.prog gT (aM []) 3000 (.call 32 [AW.s3, AW.p8] H.start)) = true := by kernel_rfl
theorem aw32_9 : aL Tryz.prog (.tup [.agg [.int .i64 0, .int .i64 0, .int .i64 0, .int .i64 0, .int .i64 0, .int .i64 0, .int .i64 0, .int .i64 0, .int .i64 0, .int .i64 0, .int .i64 0, .int .i64 0, .bool false], .int .i64 13, .int .i64 18]) (run Tryz.prog gT (aM []) 3000 (.call 32 [AW.s6, AW.p9] H.start)) = true := by kernel_rfl
end Go.Ev
