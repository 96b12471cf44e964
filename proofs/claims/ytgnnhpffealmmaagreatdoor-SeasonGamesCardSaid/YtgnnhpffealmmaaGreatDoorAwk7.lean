import Derived.Test.YtgnnhpffealmmaaGreatDoorAwkD
set_option linter.unusedSimpArgs false
set_option linter.unusedVariables false
namespace Go.Ev
open Go.RowKit Go.Proofs
set_option maxRecDepth 100000
set_option maxHeartbeats 4000000
theorem awr16:aK Tryz.prog (.tup [.agg [.int .i64 1,.int .i64 4],.int .i64 0]) (run Tryz.prog gT (aR hD) 3000 (.call 27 [aw8,.str [104],.str [97,98]] H.start))=true:=by kernel_rfl
theorem awr17:aK Tryz.prog (.tup [.int .i64 2,.int .i64 0]) (run Tryz.prog gT (aR hD) 3000 (.call 28 [aw5,aw6] H.start))=true:=by kernel_rfl
end Go.Ev
