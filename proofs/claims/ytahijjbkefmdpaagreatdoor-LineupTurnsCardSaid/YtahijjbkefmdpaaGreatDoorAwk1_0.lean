import Derived.Test.YtahijjbkefmdpaaGreatDoorAwkD
set_option linter.unusedSimpArgs false
set_option linter.unusedVariables false
namespace Go.Ev
open Go.RowKit Go.Proofs
set_option maxRecDepth 100000
set_option maxHeartbeats 4000000
noncomputable def r0 : kD := .row mixed jU (aD []) 3000 false 61 [av2] (.int .i64 0) (by kernel_rfl)
noncomputable def r1 : kD := .row mixed jU (aD []) 3000 false 61 [av3] (.int .i64 0) (by kernel_rfl)
noncomputable def r2 : kD := .row mixed jU (aD []) 3000 false 58 [av4, av0] (.int .i64 29) (by kernel_rfl)
noncomputable def r3 : kD := .row mixed jU (aD []) 3000 false 62 [av3] (.int .i64 0) (by kernel_rfl)
noncomputable def r4 : kD := .row mixed jU (aD []) 3000 false 62 [av2] (.int .i64 0) (by kernel_rfl)
noncomputable def r5 : kD := .row mixed jU (aD []) 3000 false 62 [.agg [.str [99, 49], .str [98, 50], .str [98, 51], .str [98, 52], .str [98, 53], .str [98, 54], .str [98, 55], .str [98, 56], .str [98, 57], .int .i64 9, .int .i64 3, .int .i64 4, .int .i64 5, .int .i64 6, .int .i64 7, .int .i64 8, .int .i64 2, .int .i64 1]] (.int .i64 0) (by kernel_rfl)
end Go.Ev
