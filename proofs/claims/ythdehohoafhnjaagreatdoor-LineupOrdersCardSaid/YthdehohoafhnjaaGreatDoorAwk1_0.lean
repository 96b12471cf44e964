import Derived.Test.YthdehohoafhnjaaGreatDoorAwkD
set_option linter.unusedSimpArgs false
set_option linter.unusedVariables false
namespace Go.Ev
open Go.RowKit Go.Proofs
set_option maxRecDepth 100000
set_option maxHeartbeats 4000000
noncomputable def r0 : j2 := .row mixed jC (aD []) 3000 false 63 [av2] (.int .i64 0) (by kernel_rfl)
noncomputable def r1 : j2 := .row mixed jC (aD []) 3000 false 63 [av3] (.int .i64 0) (by kernel_rfl)
noncomputable def r2 : j2 := .row mixed jC (aD []) 3000 false 62 [av4, av0] (.int .i64 29) (by kernel_rfl)
noncomputable def r3 : j2 := .row mixed jC (aD []) 3000 false 64 [.agg [.str [99, 49], .str [98, 50], .str [98, 51], .str [98, 52], .str [98, 53], .str [98, 54], .str [98, 55], .str [98, 56], .str [99, 57], .int .i64 9, .int .i64 3, .int .i64 4, .int .i64 5, .int .i64 6, .int .i64 7, .int .i64 8, .int .i64 2, .int .i64 1]] (.int .i64 0) (by kernel_rfl)
noncomputable def r4 : j2 := .row mixed jC (aD []) 3000 false 64 [.agg [.str [99, 49], .str [98, 50], .str [98, 51], .str [98, 52], .str [98, 53], .str [98, 54], .str [98, 55], .str [98, 56], .str [98, 57], .int .i64 9, .int .i64 3, .int .i64 4, .int .i64 5, .int .i64 6, .int .i64 7, .int .i64 8, .int .i64 2, .int .i64 1]] (.int .i64 0) (by kernel_rfl)
noncomputable def r5 : j2 := .row mixed jC (aD []) 3000 false 64 [av2] (.int .i64 0) (by kernel_rfl)
end Go.Ev
