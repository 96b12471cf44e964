import Derived.Test.YtahijjbkefmdpaaGreatDoorAwk1_0
import Derived.Test.YtahijjbkefmdpaaGreatDoorAwk1_1
import Derived.Test.YtahijjbkefmdpaaGreatDoorAwk1_2
import Derived.Test.YtahijjbkefmdpaaGreatDoorAwk2_0
import Derived.Test.YtahijjbkefmdpaaGreatDoorAwk2_1
import Derived.Test.YtahijjbkefmdpaaGreatDoorAwk3_0
import Derived.Test.YtahijjbkefmdpaaGreatDoorAwk4_0
import Derived.Test.YtahijjbkefmdpaaGreatDoorAwk5_0
import Derived.Test.YtahijjbkefmdpaaGreatDoorAwk5_1
import Derived.Test.YtahijjbkefmdpaaGreatDoorAwk5_2
import Derived.Test.YtahijjbkefmdpaaGreatDoorAwk5_3
set_option linter.unusedSimpArgs false
set_option linter.unusedVariables false
namespace Go.Ev
open Go.RowKit Go.Proofs
set_option maxRecDepth 100000
set_option maxHeartbeats 4000000
theorem awTop : kN Tryz.prog (.bool true) (run Tryz.prog gT (jZ (aD [r13, r18, r19, r20, r21, r22, r23, r24, r25])) 3000 (.call 4 [] (H.st false))) = true := by kernel_rfl
def F4 : List EVal → Option EVal
 | [] => some (.bool true)
 | _ => none
theorem fn4 : FnT 4 F4 := Fn.runE mixed jU (aD [r13, r18, r19, r20, r21, r22, r23, r24, r25]) (n := 3000) (b := false) fun a v h => by
 unfold F4 at h
 split at h
 · cases h; exact awTop
 · cases h
end Go.Ev
