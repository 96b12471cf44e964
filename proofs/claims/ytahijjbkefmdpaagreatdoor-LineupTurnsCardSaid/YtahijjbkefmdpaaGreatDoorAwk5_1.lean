import Derived.Test.YtahijjbkefmdpaaGreatDoorAwk4_0
set_option linter.unusedSimpArgs false
set_option linter.unusedVariables false
namespace Go.Ev
open Go.RowKit Go.Proofs
set_option maxRecDepth 100000
set_option maxHeartbeats 4000000
noncomputable def r22 : kD := .row mixed jU (aD [r16, r20]) 3000 false 17 [av4, av1, .int .i64 6, .str [98, 49]] (.tup [.int .i64 2, .int .i64 0]) (by kernel_rfl)
end Go.Ev
