import Derived.Test.YthdehohoafhnjaaGreatDoorAwk1_0
import Derived.Test.YthdehohoafhnjaaGreatDoorAwk1_1
import Derived.Test.YthdehohoafhnjaaGreatDoorAwk1_2
set_option linter.unusedSimpArgs false
set_option linter.unusedVariables false
namespace Go.Ev
open Go.RowKit Go.Proofs
set_option maxRecDepth 100000
set_option maxHeartbeats 4000000
noncomputable def r13 : j2 := .row mixed jC (aD [r0, r5]) 3000 false 28 [av2] (.int .i64 0) (by kernel_rfl)
noncomputable def r14 : j2 := .row mixed jC (aD [r1, r6]) 3000 false 28 [av3] (.int .i64 0) (by kernel_rfl)
noncomputable def r15 : j2 := .row mixed jC (aD [r3, r4]) 3000 false 62 [av4, av1] (.int .i64 0) (by kernel_rfl)
end Go.Ev
