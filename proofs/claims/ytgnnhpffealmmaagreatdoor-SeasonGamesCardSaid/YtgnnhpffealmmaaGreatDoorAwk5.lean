import Derived.Test.YtgnnhpffealmmaaGreatDoorAwkD
set_option linter.unusedSimpArgs false
set_option linter.unusedVariables false
namespace Go.Ev
open Go.RowKit Go.Proofs
set_option maxRecDepth 100000
set_option maxHeartbeats 4000000
theorem awr11:aK Tryz.prog (aw11) (run Tryz.prog gT (aR hD) 3000 (.call 24 [aw12] H.start))=true:=by kernel_rfl
theorem awr12:aK Tryz.prog (.int .i64 1) (run Tryz.prog gT (aR hD) 3000 (.call 29 [.agg [.int .i64 5,.int .i64 1,.int .i64 1,.int .i64 3]] H.start))=true:=by kernel_rfl
theorem awr13:aK Tryz.prog (aw3) (run Tryz.prog gT (aR hD) 3000 (.call 21 [.agg [.int .i64 4,.int .i64 2,.int .i64 1,.int .i64 2],.agg [.int .i64 1,.int .i64 1,.int .i64 1,.int .i64 1]] H.start))=true:=by kernel_rfl
end Go.Ev
