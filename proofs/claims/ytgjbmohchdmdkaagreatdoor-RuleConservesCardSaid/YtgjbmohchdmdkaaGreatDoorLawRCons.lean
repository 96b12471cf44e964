import Derived.Test.YtgjbmohchdmdkaaGreatDoorDCH
set_option linter.unusedSimpArgs false
set_option linter.unusedVariables false
namespace Go.Ev
open Go.RowKit Go.Proofs
set_option maxRecDepth 100000
set_option maxHeartbeats 4000000
noncomputable section
def F9:List EVal→Option EVal:=fOf Az9 cB Sz9
theorem fn9:FnT 9 F9:=Kz9.ok
theorem F9_e {s:St}{t:Pl}(hp:bW t.p=true) (he:bW t.e=true):F9 [.agg (eSt s),.agg [.str t.p,.str t.e,.bool t.l,.lsl (lY t.m)]]=some (.bool true):=by
 have e:V.cs (Az9.v (s,t,()))=[.agg (eSt s),.agg [.str t.p,.str t.e,.bool t.l,.lsl (lY t.m)]]:=by
  show V.cs [V.agg (rSt.v s),(Cod.agg rPl).v t]=_
  rw [V.cs,V.cs,V.cs,vPl_c]
  simp only [V.c,vSt_c];rfl
 unfold F9 fOf
 rw [←e,Az9.rt,Option.bind_some,law9 s t hp he]
 simp only [Option.map_some,cB,V.c]
end
end Go.Ev
