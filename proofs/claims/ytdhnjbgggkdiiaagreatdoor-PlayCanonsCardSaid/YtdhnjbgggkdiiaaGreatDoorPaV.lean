import Derived.Test.YtdhnjbgggkdiiaaGreatDoorPlaysC
set_option linter.unusedSimpArgs false
set_option linter.unusedVariables false
namespace Go.Ev
open Go.RowKit Go.Proofs
set_option linter.defProp false
set_option maxRecDepth 20000
set_option maxHeartbeats 8000000

/-! what a text is read as -/
end Go.Ev
