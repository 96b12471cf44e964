import Derived.Test.YtahijjbkefmdpaaGreatDoorAwk1_0
import Derived.Test.YtahijjbkefmdpaaGreatDoorAwk1_1
import Derived.Test.YtahijjbkefmdpaaGreatDoorAwk1_2
set_option linter.unusedSimpArgs false
set_option linter.unusedVariables false
namespace Go.Ev
open Go.RowKit Go.Proofs
set_option maxRecDepth 100000
set_option maxHeartbeats 4000000
noncomputable def r16 : kD := .row mixed jU (aD [r8, r9]) 3000 false 43 [av4, av1, .int .i64 6] (.lsl [[.int .i64 0, .int .i64 1, .int .i64 2, .str [97, 49], .int .i64 0, .int .i64 6], [.int .i64 0, .int .i64 2, .int .i64 3, .str [97, 50], .int .i64 0, .int .i64 6], [.int .i64 0, .int .i64 3, .int .i64 4, .str [97, 51], .int .i64 0, .int .i64 6], [.int .i64 0, .int .i64 4, .int .i64 5, .str [97, 52], .int .i64 0, .int .i64 6], [.int .i64 0, .int .i64 5, .int .i64 6, .str [97, 53], .int .i64 0, .int .i64 6], [.int .i64 0, .int .i64 6, .int .i64 7, .str [97, 54], .int .i64 0, .int .i64 6], [.int .i64 0, .int .i64 7, .int .i64 8, .str [97, 55], .int .i64 0, .int .i64 6], [.int .i64 0, .int .i64 8, .int .i64 9, .str [97, 56], .int .i64 0, .int .i64 6], [.int .i64 0, .int .i64 9, .int .i64 1, .str [97, 57], .int .i64 0, .int .i64 6], [.int .i64 1, .int .i64 1, .int .i64 2, .str [98, 49], .int .i64 0, .int .i64 2], [.int .i64 1, .int .i64 1, .int .i64 9, .str [99, 49], .int .i64 2, .int .i64 6], [.int .i64 1, .int .i64 2, .int .i64 3, .str [98, 50], .int .i64 0, .int .i64 6], [.int .i64 1, .int .i64 3, .int .i64 4, .str [98, 51], .int .i64 0, .int .i64 6], [.int .i64 1, .int .i64 4, .int .i64 5, .str [98, 52], .int .i64 0, .int .i64 6], [.int .i64 1, .int .i64 5, .int .i64 6, .str [98, 53], .int .i64 0, .int .i64 6], [.int .i64 1, .int .i64 6, .int .i64 7, .str [98, 54], .int .i64 0, .int .i64 6], [.int .i64 1, .int .i64 7, .int .i64 8, .str [98, 55], .int .i64 0, .int .i64 6], [.int .i64 1, .int .i64 8, .int .i64 9, .str [98, 56], .int .i64 0, .int .i64 2], [.int .i64 1, .int .i64 8, .int .i64 2, .str [98, 56], .int .i64 2, .int .i64 6], [.int .i64 1, .int .i64 9, .int .i64 1, .str [98, 57], .int .i64 0, .int .i64 4], [.int .i64 1, .int .i64 9, .int .i64 1, .str [99, 57], .int .i64 4, .int .i64 6]]) (by kernel_rfl)
end Go.Ev
