import Derived.Test.YthdehohoafhnjaaGreatDoorAwk2_0
import Derived.Test.YthdehohoafhnjaaGreatDoorAwk2_1
set_option linter.unusedSimpArgs false
set_option linter.unusedVariables false
namespace Go.Ev
open Go.RowKit Go.Proofs
set_option maxRecDepth 100000
set_option maxHeartbeats 4000000
noncomputable def r17 : j2 := .row mixed jC (aD [r7, r13, r14]) 3000 false 61 [av4] (.int .i64 0) (by kernel_rfl)
noncomputable def r18 : j2 := .row mixed jC (aD [r13]) 3000 false 5 [av2, .int .i64 8, .lsl [[.str [97, 56]], [.str [97, 57]], [.str [97, 50]], [.str [97, 49]]]] (.tup [.agg [.int .i64 2, .str [97, 49], .str [97, 50], .str [97, 50]], .int .i64 0]) (by kernel_rfl)
end Go.Ev
