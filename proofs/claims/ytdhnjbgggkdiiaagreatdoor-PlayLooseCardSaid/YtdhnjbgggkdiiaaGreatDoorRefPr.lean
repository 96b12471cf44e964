import Derived.Test.YtdhnjbgggkdiiaaGreatDoorCnt
import Derived.Test.YtdhnjbgggkdiiaaGreatDoorPrMove
import Derived.Test.YtdhnjbgggkdiiaaGreatDoorJoin
set_option linter.unusedSimpArgs false
set_option linter.unusedVariables false
namespace Go.Ev
open Go.RowKit Go.Proofs
set_option maxRecDepth 20000
set_option maxHeartbeats 4000000

/-! contracts by running, of strings -/
end Go.Ev
namespace Go.Ev
open Go.RowKit Go.Proofs
set_option linter.defProp false
set_option maxRecDepth 20000
set_option maxHeartbeats 8000000

/-! the strings of the reference -/
def cP (s : List Nat) : List Nat := if s = [] then [45] else s
end Go.Ev
