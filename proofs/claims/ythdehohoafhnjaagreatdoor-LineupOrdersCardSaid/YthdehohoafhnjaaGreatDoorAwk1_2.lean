import Derived.Test.YthdehohoafhnjaaGreatDoorAwkD
set_option linter.unusedSimpArgs false
set_option linter.unusedVariables false
namespace Go.Ev
open Go.RowKit Go.Proofs
set_option maxRecDepth 100000
set_option maxHeartbeats 4000000
noncomputable def r12 : j2 := .row mixed jC (aD []) 3000 false 59 [.str [97, 116, 32, 52, 32, 49, 32, 57, 32, 99, 57, 32, 49, 10], .int .i64 20] (.tup [.agg [.int .i64 1, .int .i64 4, .int .i64 9, .str [99, 57], .int .i64 1], .bool true]) (by kernel_rfl)
end Go.Ev
