import Derived.Test.YtahijjbkefmdpaaGreatDoorAwkD
set_option linter.unusedSimpArgs false
set_option linter.unusedVariables false
namespace Go.Ev
open Go.RowKit Go.Proofs
set_option maxRecDepth 100000
set_option maxHeartbeats 4000000
noncomputable def r12 : kD := .row mixed jU (aD []) 3000 false 55 [.str [97, 116, 32, 50, 32, 49, 32, 49, 32, 99, 49, 32, 57, 10], .int .i64 18] (.tup [.agg [.int .i64 1, .int .i64 2, .int .i64 1, .str [99, 49], .int .i64 9], .bool true]) (by kernel_rfl)
end Go.Ev
