import Derived.Test.YtldebobgefdnhaaGreatDoorAwkD
set_option linter.unusedSimpArgs false
set_option linter.unusedVariables false
namespace Go.Ev
open Go.RowKit Go.Proofs
set_option maxRecDepth 100000
set_option maxHeartbeats 4000000
theorem awr6 : aH Tryz.prog (aw10) (run Tryz.prog gT (aU gF) 3000 (.call 15 [aw18, aw19] H.start)) = true := by kernel_rfl
theorem awr7 : aH Tryz.prog (.tup [.agg [.lsl []], .int .i64 32]) (run Tryz.prog gT (aU gF) 3000 (.call 17 [aqK, aw17] H.start)) = true := by kernel_rfl
end Go.Ev
