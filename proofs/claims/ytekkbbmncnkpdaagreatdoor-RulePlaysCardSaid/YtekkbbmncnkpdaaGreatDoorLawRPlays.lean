import Derived.Test.YtekkbbmncnkpdaaGreatDoorDQT
set_option linter.unusedSimpArgs false
set_option linter.unusedVariables false
namespace Go.Ev
open Go.RowKit Go.Proofs
set_option maxRecDepth 100000
set_option maxHeartbeats 4000000
noncomputable section
def F5 : List EVal → Option EVal := fOf Az5 cB Sz5
theorem fn5 : FnT 5 F5 := Kz5.ok
theorem F5_e {s : St} {t : Pl} (hp : bR t.p = true) (he : bR t.e = true) : F5 [.agg (eSt s), .agg [.str t.p, .str t.e, .bool t.l, .lsl (j9 t.m)]] = some (.bool true) := by
 have e : V.cs (Az5.v (s, t, ())) = [.agg (eSt s), .agg [.str t.p, .str t.e, .bool t.l, .lsl (j9 t.m)]] := by
  show V.cs [V.agg (rSt.v s), (Cod.agg rPl).v t] = _
  rw [V.cs, V.cs, V.cs, vPl_c]
  simp only [V.c, vSt_c]; rfl
 unfold F5 fOf
 rw [← e, Az5.rt, Option.bind_some, law5 s t hp he]
 simp only [Option.map_some, cB, V.c]
end
end Go.Ev
