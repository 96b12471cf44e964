import Derived.Test.YtahijjbkefmdpaaGreatDoorAwk2_0
import Derived.Test.YtahijjbkefmdpaaGreatDoorAwk2_1
set_option linter.unusedSimpArgs false
set_option linter.unusedVariables false
namespace Go.Ev
open Go.RowKit Go.Proofs
set_option maxRecDepth 100000
set_option maxHeartbeats 4000000
noncomputable def r17 : kD := .row mixed jU (aD [r7, r13, r14]) 3000 false 57 [av4] (.int .i64 0) (by kernel_rfl)
noncomputable def r18 : kD := .row mixed jU (aD [r13]) 3000 false 6 [av3, .int .i64 8, .lsl [[.str [97, 56]], [.str [97, 57]], [.str [97, 50]], [.str [97, 49]]]] (.tup [.agg [.int .i64 2, .str [97, 49], .str [97, 50], .str [97, 50]], .int .i64 0]) (by kernel_rfl)
end Go.Ev
