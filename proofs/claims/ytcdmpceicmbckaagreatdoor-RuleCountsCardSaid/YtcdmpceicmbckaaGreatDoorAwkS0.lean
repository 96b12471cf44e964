import Derived.Test.YtcdmpceicmbckaaGreatDoorAwkD
set_option linter.unusedSimpArgs false
set_option linter.unusedVariables false
namespace Go.Ev
open Go.RowKit Go.Proofs
set_option maxRecDepth 100000
set_option maxHeartbeats 4000000
theorem aw78_0 : aL Tryz.prog (AW.s0) (run Tryz.prog gT (aM []) 3000 (.call 78 [.str [49, 116, 32, 48, 32, 48, 45, 48, 32, 48, 48, 48, 32, 49, 49, 32, 48, 58, 48, 32, 111, 110]] H.start)) = true := by kernel_rfl
theorem aw78_1 : aL Tryz.prog (AW.s1) (run Tryz.prog gT (aM []) 3000 (.call 78 [.str [49, 116, 32, 48, 32, 48, 45, 48, 32, 49, 48, 48, 32, 50, 49, 32, 48, 58, 48, 32, 111, 110]] H.start)) = true := by kernel_rfl
theorem aw78_2 : aL Tryz.prog (AW.s2) (run Tryz.prog gT (aM []) 3000 (.call 78 [.str [49, 116, 32, 48, 32, 48, 45, 49, 32, 49, 48, 48, 32, 50, 49, 32, 48, 58, 48, 32, 111, 110]] H.start)) = true := by kernel_rfl
theorem aw78_3 : aL Tryz.prog (AW.s3) (run Tryz.prog gT (aM []) 3000 (.call 78 [.str [49, 116, 32, 48, 32, 51, 45, 48, 32, 50, 49, 48, 32, 51, 49, 32, 48, 58, 48, 32, 111, 110]] H.start)) = true := by kernel_rfl
theorem aw78_4 : aL Tryz.prog (AW.s4) (run Tryz.prog gT (aM []) 3000 (.call 78 [.str [51, 98, 32, 50, 32, 49, 45, 50, 32, 48, 48, 49, 32, 53, 50, 32, 48, 58, 49, 32, 111, 110]] H.start)) = true := by kernel_rfl
theorem aw78_5 : aL Tryz.prog (AW.s5) (run Tryz.prog gT (aM []) 3000 (.call 78 [.str [57, 98, 32, 49, 32, 48, 45, 48, 32, 48, 48, 49, 32, 53, 50, 32, 51, 58, 51, 32, 111, 110]] H.start)) = true := by kernel_rfl
theorem aw78_6 : aL Tryz.prog (AW.s6) (run Tryz.prog gT (aM []) 3000 (.call 78 [.str [49, 116, 32, 49, 32, 48, 45, 48, 32, 48, 49, 48, 32, 50, 49, 32, 48, 58, 48, 32, 111, 110]] H.start)) = true := by kernel_rfl
theorem aw78_7 : aL Tryz.prog (AW.s7) (run Tryz.prog gT (aM []) 3000 (.call 78 [.str [49, 116, 32, 50, 32, 48, 45, 48, 32, 48, 49, 48, 32, 50, 49, 32, 48, 58, 48, 32, 111, 110]] H.start)) = true := by kernel_rfl
end Go.Ev
