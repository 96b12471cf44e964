import Derived.Test.YtkhmgggponmimaaGreatDoorDQP
set_option linter.unusedSimpArgs false
set_option linter.unusedVariables false
namespace Go.Ev
open Go.RowKit Go.Proofs
set_option maxRecDepth 100000
set_option maxHeartbeats 8000000
set_option linter.unusedSimpArgs false
noncomputable section
def lfR (a:Int) (c:Bool) (p f:Int):List Int:=bif(p==a)&&(decide (a<4)||!c)then [f]else []
def lfRa (a:Int) (c:Bool) (p0 p1 p2 p3:Int):List Int:=lfR a c p3 3++(lfR a c p2 2++(lfR a c p1 1++lfR a c p0 0))
def lfRs (c:Bool) (p0 p1 p2 p3:Int):List Int:=lfRa 4 c p0 p1 p2 p3++(lfRa 3 c p0 p1 p2 p3++(lfRa 2 c p0 p1 p2 p3++lfRa 1 c p0 p1 p2 p3))
section
variable {s:St}{t:Pl}
end
end
end Go.Ev

