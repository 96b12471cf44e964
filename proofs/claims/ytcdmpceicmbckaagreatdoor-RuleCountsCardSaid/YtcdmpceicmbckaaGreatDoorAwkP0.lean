import Derived.Test.YtcdmpceicmbckaaGreatDoorAwkD
set_option linter.unusedSimpArgs false
set_option linter.unusedVariables false
namespace Go.Ev
open Go.RowKit Go.Proofs
set_option maxRecDepth 100000
set_option maxHeartbeats 4000000
theorem aw80_0 : aL Tryz.prog (AW.p0) (run Tryz.prog gT (aM []) 3000 (.call 80 [.str [66, 88, 32, 88, 32, 48, 45, 49, 98]] H.start)) = true := by kernel_rfl
theorem aw80_1 : aL Tryz.prog (AW.p1) (run Tryz.prog gT (aM []) 3000 (.call 80 [.str [67, 32, 45]] H.start)) = true := by kernel_rfl
theorem aw80_2 : aL Tryz.prog (AW.p2) (run Tryz.prog gT (aM []) 3000 (.call 80 [.str [88, 32, 88, 32, 49, 120, 50, 102, 58, 54, 52, 32, 48, 120, 49, 102, 58, 52, 51]] H.start)) = true := by kernel_rfl
theorem aw80_3 : aL Tryz.prog (AW.p3) (run Tryz.prog gT (aM []) 3000 (.call 80 [.str [66, 32, 87, 32, 50, 45, 51, 97, 32, 49, 45, 50, 97, 32, 48, 45, 49, 97]] H.start)) = true := by kernel_rfl
theorem aw80_4 : aL Tryz.prog (AW.p4) (run Tryz.prog gT (aM []) 3000 (.call 80 [.str [83, 32, 75, 32, 51, 45, 52, 116, 32, 48, 120, 49, 107, 58, 50]] H.start)) = true := by kernel_rfl
theorem aw80_5 : aL Tryz.prog (AW.p5) (run Tryz.prog gT (aM []) 3000 (.call 80 [.str [83, 32, 75, 32, 51, 45, 52, 112, 32, 48, 45, 49, 112]] H.start)) = true := by kernel_rfl
theorem aw80_6 : aL Tryz.prog (AW.p6) (run Tryz.prog gT (aM []) 3000 (.call 80 [.str [88, 32, 88, 32, 51, 45, 52, 98, 32, 48, 45, 49, 98]] H.start)) = true := by kernel_rfl
theorem aw80_7 : aL Tryz.prog (AW.p7) (run Tryz.prog gT (aM []) 3000 (.call 80 [.str [66, 32, 87, 32, 50, 45, 51, 97, 32, 48, 45, 49, 97]] H.start)) = true := by kernel_rfl
theorem aw80_8 : aL Tryz.prog (AW.p8) (run Tryz.prog gT (aM []) 3000 (.call 80 [.str [66, 32, 45]] H.start)) = true := by kernel_rfl
theorem aw80_9 : aL Tryz.prog (AW.p9) (run Tryz.prog gT (aM []) 3000 (.call 80 [.str [88, 32, 88, 32, 108, 97, 116, 101, 32, 50, 45, 52, 98, 32, 48, 120, 50, 103, 58, 56, 52]] H.start)) = true := by kernel_rfl
theorem aw80_10 : aL Tryz.prog (AW.p10) (run Tryz.prog gT (aM []) 3000 (.call 80 [.str [88, 32, 88, 32, 50, 45, 52, 98, 32, 48, 120, 50, 103, 58, 56, 52]] H.start)) = true := by kernel_rfl
end Go.Ev
