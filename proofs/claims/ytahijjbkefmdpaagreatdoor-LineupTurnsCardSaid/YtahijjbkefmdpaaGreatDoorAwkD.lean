import Derived.Test.YtahijjbkefmdpaaGreatDoorEvD
import Derived.Test.YtahijjbkefmdpaaGreatDoorBase
set_option linter.unusedSimpArgs false
set_option linter.unusedVariables false
namespace Go.Ev
open Go.RowKit Go.Proofs
abbrev kD := Ent Tryz.prog gT
noncomputable def aD (l : List kD) : List kD := autos mixed jU l 3000 [52, 51, 69, 64, 39, 24, 95, 41, 93, 117, 47, 48, 34, 33, 38, 56, 90, 31, 30, 29, 27, 62, 28, 61, 26]
noncomputable def av0 : EVal := .lsl [[.int .i64 1, .int .i64 2, .int .i64 8, .str [98, 56], .int .i64 2]]
noncomputable def av1 : EVal := .lsl [[.int .i64 1, .int .i64 2, .int .i64 1, .str [99, 49], .int .i64 9], [.int .i64 1, .int .i64 2, .int .i64 8, .str [98, 56], .int .i64 2], [.int .i64 1, .int .i64 4, .int .i64 9, .str [99, 57], .int .i64 1]]
noncomputable def av2 : EVal := .agg [.str [98, 49], .str [98, 50], .str [98, 51], .str [98, 52], .str [98, 53], .str [98, 54], .str [98, 55], .str [98, 56], .str [98, 57], .int .i64 2, .int .i64 3, .int .i64 4, .int .i64 5, .int .i64 6, .int .i64 7, .int .i64 8, .int .i64 9, .int .i64 1]
noncomputable def av3 : EVal := .agg [.str [97, 49], .str [97, 50], .str [97, 51], .str [97, 52], .str [97, 53], .str [97, 54], .str [97, 55], .str [97, 56], .str [97, 57], .int .i64 2, .int .i64 3, .int .i64 4, .int .i64 5, .int .i64 6, .int .i64 7, .int .i64 8, .int .i64 9, .int .i64 1]
noncomputable def av4 : EVal := .agg [.str [97, 49], .str [97, 50], .str [97, 51], .str [97, 52], .str [97, 53], .str [97, 54], .str [97, 55], .str [97, 56], .str [97, 57], .int .i64 2, .int .i64 3, .int .i64 4, .int .i64 5, .int .i64 6, .int .i64 7, .int .i64 8, .int .i64 9, .int .i64 1, .str [98, 49], .str [98, 50], .str [98, 51], .str [98, 52], .str [98, 53], .str [98, 54], .str [98, 55], .str [98, 56], .str [98, 57], .int .i64 2, .int .i64 3, .int .i64 4, .int .i64 5, .int .i64 6, .int .i64 7, .int .i64 8, .int .i64 9, .int .i64 1]
end Go.Ev
