import Derived.Test.YtcdmpceicmbckaaGreatDoorAwkD
set_option linter.unusedSimpArgs false
set_option linter.unusedVariables false
namespace Go.Ev
open Go.RowKit Go.Proofs
set_option maxRecDepth 100000
set_option maxHeartbeats 4000000
theorem aw34_0 : aL Tryz.prog (.tup [.lsl [], .int .i64 0]) (run Tryz.prog gT (aM []) 3000 (.call 34 [AW.s4, AW.p4] H.start)) = true := by kernel_rfl
theorem aw34_1 : aL Tryz.prog (.tup [.lsl [[.int .i64 1]], .int .i64 0]) (run Tryz.prog gT (aM []) 3000 (.call 34 [AW.s7, AW.p10] H.start)) = true := by kernel_rfl
theorem aw34_2 : aL Tryz.prog (.tup [.lsl [], .int .i64 0]) (run Tryz.prog gT (aM []) 3000 (.call 34 [AW.s7, AW.p9] H.start)) = true := by kernel_rfl
theorem aw35_0 : aL Tryz.prog (.tup [.lsl [[.int .i64 1]], .int .i64 0]) (run Tryz.prog gT (aM []) 3000 (.call 35 [AW.s4, AW.p4] H.start)) = true := by kernel_rfl
theorem aw36_0 : aL Tryz.prog (.tup [.int .i64 1, .int .i64 0]) (run Tryz.prog gT (aM []) 3000 (.call 36 [AW.s4, AW.p4] H.start)) = true := by kernel_rfl
end Go.Ev
