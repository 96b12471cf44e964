import Derived.Test.YtgnnhpffealmmaaGreatDoorAwkD
set_option linter.unusedSimpArgs false
set_option linter.unusedVariables false
namespace Go.Ev
open Go.RowKit Go.Proofs
set_option maxRecDepth 100000
set_option maxHeartbeats 4000000
theorem awr0:aK Tryz.prog (ajV) (run Tryz.prog gT (aR hD) 3000 (.call 16 [] H.start))=true:=by kernel_rfl
theorem awr1:aK Tryz.prog (aw15) (run Tryz.prog gT (aR hD) 3000 (.call 18 [.int .i64 1,.int .i64 2] H.start))=true:=by kernel_rfl
theorem awr2:aK Tryz.prog (aw16) (run Tryz.prog gT (aR hD) 3000 (.call 18 [.int .i64 2,.int .i64 3] H.start))=true:=by kernel_rfl
theorem awr3:aK Tryz.prog (aw17) (run Tryz.prog gT (aR hD) 3000 (.call 18 [.int .i64 3,.int .i64 2] H.start))=true:=by kernel_rfl
theorem awr4:aK Tryz.prog (aw12) (run Tryz.prog gT (aR hD) 3000 (.call 25 [] H.start))=true:=by kernel_rfl
theorem awr5:aK Tryz.prog (aw14) (run Tryz.prog gT (aR hD) 3000 (.call 15 [ajV] H.start))=true:=by kernel_rfl
end Go.Ev
