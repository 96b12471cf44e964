import Derived.Test.YtgnnhpffealmmaaGreatDoorAwkD
set_option linter.unusedSimpArgs false
set_option linter.unusedVariables false
namespace Go.Ev
open Go.RowKit Go.Proofs
set_option maxRecDepth 100000
set_option maxHeartbeats 4000000
theorem awr7:aK Tryz.prog (.tup [.agg [.lsl []],.int .i64 32]) (run Tryz.prog gT (aR hD) 3000 (.call 19 [ajV,aw17] H.start))=true:=by kernel_rfl
theorem awr8:aK Tryz.prog (aw1) (run Tryz.prog gT (aR hD) 3000 (.call 20 [aw0] H.start))=true:=by kernel_rfl
end Go.Ev
