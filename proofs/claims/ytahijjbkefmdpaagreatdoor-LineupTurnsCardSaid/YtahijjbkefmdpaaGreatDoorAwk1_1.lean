import Derived.Test.YtahijjbkefmdpaaGreatDoorAwkD
set_option linter.unusedSimpArgs false
set_option linter.unusedVariables false
namespace Go.Ev
open Go.RowKit Go.Proofs
set_option maxRecDepth 100000
set_option maxHeartbeats 4000000
noncomputable def r6 : kD := .row mixed jU (aD []) 3000 false 62 [.agg [.str [99, 49], .str [98, 50], .str [98, 51], .str [98, 52], .str [98, 53], .str [98, 54], .str [98, 55], .str [98, 56], .str [99, 57], .int .i64 9, .int .i64 3, .int .i64 4, .int .i64 5, .int .i64 6, .int .i64 7, .int .i64 8, .int .i64 2, .int .i64 1]] (.int .i64 0) (by kernel_rfl)
noncomputable def r7 : kD := .row mixed jU (aD []) 3000 false 90 [av4] (.int .i64 0) (by kernel_rfl)
noncomputable def r8 : kD := .row mixed jU (aD []) 3000 false 68 [av4, av1, .int .i64 6, .int .i64 1] (.lsl [[.str [98, 49], .str [98, 50], .str [98, 51], .str [98, 52], .str [98, 53], .str [98, 54], .str [98, 55], .str [98, 56], .str [98, 57], .int .i64 2, .int .i64 3, .int .i64 4, .int .i64 5, .int .i64 6, .int .i64 7, .int .i64 8, .int .i64 9, .int .i64 1, .int .i64 0, .int .i64 2], [.str [99, 49], .str [98, 50], .str [98, 51], .str [98, 52], .str [98, 53], .str [98, 54], .str [98, 55], .str [98, 56], .str [98, 57], .int .i64 9, .int .i64 3, .int .i64 4, .int .i64 5, .int .i64 6, .int .i64 7, .int .i64 8, .int .i64 2, .int .i64 1, .int .i64 2, .int .i64 4], [.str [99, 49], .str [98, 50], .str [98, 51], .str [98, 52], .str [98, 53], .str [98, 54], .str [98, 55], .str [98, 56], .str [99, 57], .int .i64 9, .int .i64 3, .int .i64 4, .int .i64 5, .int .i64 6, .int .i64 7, .int .i64 8, .int .i64 2, .int .i64 1, .int .i64 4, .int .i64 6]]) (by kernel_rfl)
noncomputable def r9 : kD := .row mixed jU (aD []) 3000 false 68 [av4, av1, .int .i64 6, .int .i64 0] (.lsl [[.str [97, 49], .str [97, 50], .str [97, 51], .str [97, 52], .str [97, 53], .str [97, 54], .str [97, 55], .str [97, 56], .str [97, 57], .int .i64 2, .int .i64 3, .int .i64 4, .int .i64 5, .int .i64 6, .int .i64 7, .int .i64 8, .int .i64 9, .int .i64 1, .int .i64 0, .int .i64 6]]) (by kernel_rfl)
noncomputable def r10 : kD := .row mixed jU (aD []) 3000 false 55 [.str [97, 116, 32, 52, 32, 49, 32, 57, 32, 99, 57, 32, 49, 10], .int .i64 20] (.tup [.agg [.int .i64 1, .int .i64 4, .int .i64 9, .str [99, 57], .int .i64 1], .bool true]) (by kernel_rfl)
noncomputable def r11 : kD := .row mixed jU (aD []) 3000 false 55 [.str [97, 116, 32, 50, 32, 49, 32, 56, 32, 98, 56, 32, 50, 10], .int .i64 19] (.tup [.agg [.int .i64 1, .int .i64 2, .int .i64 8, .str [98, 56], .int .i64 2], .bool true]) (by kernel_rfl)
end Go.Ev
