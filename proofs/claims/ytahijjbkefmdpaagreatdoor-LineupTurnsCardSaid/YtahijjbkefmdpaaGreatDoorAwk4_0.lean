import Derived.Test.YtahijjbkefmdpaaGreatDoorAwk3_0
set_option linter.unusedSimpArgs false
set_option linter.unusedVariables false
namespace Go.Ev
open Go.RowKit Go.Proofs
set_option maxRecDepth 100000
set_option maxHeartbeats 4000000
noncomputable def r19 : kD := .row mixed jU (aD [r2, r17]) 3000 false 24 [av4, av0] (.int .i64 29) (by kernel_rfl)
noncomputable def r20 : kD := .row mixed jU (aD [r15, r17]) 3000 false 24 [av4, av1] (.int .i64 0) (by kernel_rfl)
end Go.Ev
