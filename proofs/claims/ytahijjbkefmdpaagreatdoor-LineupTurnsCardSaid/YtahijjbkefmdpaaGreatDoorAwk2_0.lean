import Derived.Test.YtahijjbkefmdpaaGreatDoorAwk1_0
import Derived.Test.YtahijjbkefmdpaaGreatDoorAwk1_1
import Derived.Test.YtahijjbkefmdpaaGreatDoorAwk1_2
set_option linter.unusedSimpArgs false
set_option linter.unusedVariables false
namespace Go.Ev
open Go.RowKit Go.Proofs
set_option maxRecDepth 100000
set_option maxHeartbeats 4000000
noncomputable def r13 : kD := .row mixed jU (aD [r1, r3]) 3000 false 27 [av3] (.int .i64 0) (by kernel_rfl)
noncomputable def r14 : kD := .row mixed jU (aD [r0, r4]) 3000 false 27 [av2] (.int .i64 0) (by kernel_rfl)
noncomputable def r15 : kD := .row mixed jU (aD [r5, r6]) 3000 false 58 [av4, av1] (.int .i64 0) (by kernel_rfl)
end Go.Ev
