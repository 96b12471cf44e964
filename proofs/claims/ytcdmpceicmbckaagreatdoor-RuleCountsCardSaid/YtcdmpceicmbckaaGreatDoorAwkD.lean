import Derived.Test.YtcdmpceicmbckaaGreatDoorEvD
import Derived.Test.YtcdmpceicmbckaaGreatDoorTypes
set_option linter.unusedSimpArgs false
set_option linter.unusedVariables false
namespace Go.Ev
open Go.RowKit Go.Proofs
set_option maxRecDepth 100000
set_option maxHeartbeats 4000000
namespace AW
noncomputable def s0 : EVal := .agg [.int .i64 1, .int .i64 0, .int .i64 0, .int .i64 0, .int .i64 0, .int .i64 0, .int .i64 0, .int .i64 0, .int .i64 1, .int .i64 1, .int .i64 0, .int .i64 0, .bool false]
noncomputable def s1 : EVal := .agg [.int .i64 1, .int .i64 0, .int .i64 0, .int .i64 0, .int .i64 0, .int .i64 1, .int .i64 0, .int .i64 0, .int .i64 2, .int .i64 1, .int .i64 0, .int .i64 0, .bool false]
noncomputable def s2 : EVal := .agg [.int .i64 1, .int .i64 0, .int .i64 0, .int .i64 0, .int .i64 1, .int .i64 1, .int .i64 0, .int .i64 0, .int .i64 2, .int .i64 1, .int .i64 0, .int .i64 0, .bool false]
noncomputable def s3 : EVal := .agg [.int .i64 1, .int .i64 0, .int .i64 0, .int .i64 3, .int .i64 0, .int .i64 2, .int .i64 1, .int .i64 0, .int .i64 3, .int .i64 1, .int .i64 0, .int .i64 0, .bool false]
noncomputable def s4 : EVal := .agg [.int .i64 3, .int .i64 1, .int .i64 2, .int .i64 1, .int .i64 2, .int .i64 0, .int .i64 0, .int .i64 1, .int .i64 5, .int .i64 2, .int .i64 0, .int .i64 1, .bool false]
noncomputable def s5 : EVal := .agg [.int .i64 9, .int .i64 1, .int .i64 1, .int .i64 0, .int .i64 0, .int .i64 0, .int .i64 0, .int .i64 1, .int .i64 5, .int .i64 2, .int .i64 3, .int .i64 3, .bool false]
noncomputable def s6 : EVal := .agg [.int .i64 1, .int .i64 0, .int .i64 1, .int .i64 0, .int .i64 0, .int .i64 0, .int .i64 1, .int .i64 0, .int .i64 2, .int .i64 1, .int .i64 0, .int .i64 0, .bool false]
noncomputable def s7 : EVal := .agg [.int .i64 1, .int .i64 0, .int .i64 2, .int .i64 0, .int .i64 0, .int .i64 0, .int .i64 1, .int .i64 0, .int .i64 2, .int .i64 1, .int .i64 0, .int .i64 0, .bool false]
noncomputable def p0 : EVal := .agg [.str [66, 88], .str [88], .bool false, .lsl [[.int .i64 0, .int .i64 1, .bool false, .str [98], .lsl []]]]
noncomputable def p1 : EVal := .agg [.str [67], .str [], .bool false, .lsl []]
noncomputable def p2 : EVal := .agg [.str [88], .str [88], .bool false, .lsl [[.int .i64 1, .int .i64 2, .bool true, .str [102], .lsl [[.int .i64 6], [.int .i64 4]]], [.int .i64 0, .int .i64 1, .bool true, .str [102], .lsl [[.int .i64 4], [.int .i64 3]]]]]
noncomputable def p3 : EVal := .agg [.str [66], .str [87], .bool false, .lsl [[.int .i64 2, .int .i64 3, .bool false, .str [97], .lsl []], [.int .i64 1, .int .i64 2, .bool false, .str [97], .lsl []], [.int .i64 0, .int .i64 1, .bool false, .str [97], .lsl []]]]
noncomputable def p4 : EVal := .agg [.str [83], .str [75], .bool false, .lsl [[.int .i64 3, .int .i64 4, .bool false, .str [116], .lsl []], [.int .i64 0, .int .i64 1, .bool true, .str [107], .lsl [[.int .i64 2]]]]]
noncomputable def p5 : EVal := .agg [.str [83], .str [75], .bool false, .lsl [[.int .i64 3, .int .i64 4, .bool false, .str [112], .lsl []], [.int .i64 0, .int .i64 1, .bool false, .str [112], .lsl []]]]
noncomputable def p6 : EVal := .agg [.str [88], .str [88], .bool false, .lsl [[.int .i64 3, .int .i64 4, .bool false, .str [98], .lsl []], [.int .i64 0, .int .i64 1, .bool false, .str [98], .lsl []]]]
noncomputable def p7 : EVal := .agg [.str [66], .str [87], .bool false, .lsl [[.int .i64 2, .int .i64 3, .bool false, .str [97], .lsl []], [.int .i64 0, .int .i64 1, .bool false, .str [97], .lsl []]]]
noncomputable def p8 : EVal := .agg [.str [66], .str [], .bool false, .lsl []]
noncomputable def p9 : EVal := .agg [.str [88], .str [88], .bool true, .lsl [[.int .i64 2, .int .i64 4, .bool false, .str [98], .lsl []], [.int .i64 0, .int .i64 2, .bool true, .str [103], .lsl [[.int .i64 8], [.int .i64 4]]]]]
noncomputable def p10 : EVal := .agg [.str [88], .str [88], .bool false, .lsl [[.int .i64 2, .int .i64 4, .bool false, .str [98], .lsl []], [.int .i64 0, .int .i64 2, .bool true, .str [103], .lsl [[.int .i64 8], [.int .i64 4]]]]]
end AW
end Go.Ev
