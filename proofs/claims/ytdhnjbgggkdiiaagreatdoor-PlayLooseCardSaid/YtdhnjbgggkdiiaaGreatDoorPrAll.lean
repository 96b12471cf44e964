import Derived.Test.YtdhnjbgggkdiiaaGreatDoorPlaysC
set_option linter.unusedSimpArgs false
set_option linter.unusedVariables false
namespace Go.Ev
open Go.RowKit Go.Proofs
set_option linter.defProp false
set_option maxRecDepth 20000
set_option maxHeartbeats 8000000

/-! the text of plays -/
def plStr (q : Pl) : List Nat := playStr q.p q.e q.l q.m
def dV (q : Pl) : Int := playE q.p q.e q.m
def plB (q : Pl) : Bool := aU q.p && aU q.e
/-! the reference's text -/
end Go.Ev
