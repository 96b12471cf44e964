import Derived.Test.YtmejahdlkaifoaaGreatDoorDM7
import Derived.Test.YtmejahdlkaifoaaGreatDoorAwk
set_option linter.unusedSimpArgs false
set_option linter.unusedVariables false
namespace Go.Ev
open Go.RowKit Go.Proofs
set_option maxRecDepth 100000
set_option maxHeartbeats 4000000
noncomputable section
def A18:Row (St×Unit):=Row.cons (Cod.agg rSt) Row.nil
def S18 (x:St×Unit):Option Int:=some (stE x.1)
def K18:Con Tryz.prog gT:=Con.of 26 A18 cI S18 (Con.less Kf18.ok fun x r h=>(m18 x.1).trans h)
def A17:Row (St×Unit):=Row.cons (Cod.agg rSt) Row.nil
def S17 (x:St×Unit):Option Int:=some (stE x.1)
def K17:Con Tryz.prog gT:=Con.of 20 A17 cI S17 (Con.less Kf17.ok fun x r h=>(m17 x.1).trans h)
def Aw27:Row Unit:=Row.nil
def Sw27 (_:Unit):Option Bool:=some true
def Kw27:Con Tryz.prog gT:=Con.of 4 Aw27 cB Sw27 (Fn.weak fn4 fun a v h=>by
 obtain⟨_,r,rfl,hs,rfl⟩:=wG h
 cases hs
 have e:V.cs (Aw27.v ())=[]:=by
  show V.cs []=_
  rw [V.cs]
 rw [e];simp only [F4,cB,V.c])
def cCntR:Cod CntR:=Cod.tup (Row.cons (Cod.agg (Row.cons cI (Row.cons cI Row.nil))) (Row.cons cI (Row.cons cI Row.nil)))
def A29:Row (Int×Int×List Nat×Unit):=Row.cons cI (Row.cons cI (Row.cons cS Row.nil))
def S29 (x:Int×Int×List Nat×Unit):Option CntR:=if x.2.2.1.length<9223372036854775808 then some (oB x.1 x.2.1 x.2.2.1)else none
def K29:Con Tryz.prog gT:=Con.of 81 A29 cCntR S29 (Con.less Kf29.ok fun x r h=>by
 unfold S29 at h
 split at h
 · exact(m29 x.1 x.2.1 x.2.2.1).trans h
 · cases h)
def A81:Row (Int×Int×List Nat×Unit):=Row.cons cI (Row.cons cI (Row.cons cS Row.nil))
def S81 (x:Int×Int×List Nat×Unit):Option CntR:=if aW x.2.2.1=true then some (oB x.1 x.2.1 x.2.2.1)else none
def K81:Con Tryz.prog gT:=Con.of 11 A81 cCntR S81 (Con.less Kf81.ok fun x r h=>by
 unfold S81 at h
 split at h
 · rename_i hb;exact(m81 x.1 x.2.1 x.2.2.1 hb).trans h
 · cases h)
def okPl (p:Pl):Bool:=decide (p.m.length<9223372036854775808)&&p.m.all fun m=>decide (m.b.length<9223372036854775808)
def A142:Row (Pl×Unit):=Row.cons (Cod.agg rPl) Row.nil
def S142 (x:Pl×Unit):Option Int:=if okPl x.1=true∧aW x.1.p=true∧aW x.1.e=true then some (playE x.1.p x.1.e x.1.m)else none
def K142:Con Tryz.prog gT:=Con.of 52 A142 cI S142 (Con.less Kf142.ok fun x r h=>by
 unfold S142 at h
 split at h
 · rename_i hb;exact(m142 x.1 hb.2.1 hb.2.2).trans h
 · cases h)
def A58:Row (Pl×Unit):=Row.cons (Cod.agg rPl) Row.nil
def S58 (x:Pl×Unit):Option Int:=if okPl x.1=true then some (playE x.1.p x.1.e x.1.m)else none
def K58:Con Tryz.prog gT:=Con.of 6 A58 cI S58 (Con.less Kf58.ok fun x r h=>by
 unfold S58 at h
 split at h
 · exact(m58 x.1).trans h
 · cases h)
def A33:Row (Pl×Unit):=Row.cons (Cod.agg rPl) Row.nil
def S33 (x:Pl×Unit):Option Pl:=if okPl x.1=true∧sH x.1.m=true then some x.1 else none
def K33:Con Tryz.prog gT:=Con.of 9 A33 (Cod.agg rPl) S33 (Con.less Kf33.ok fun x r h=>by
 unfold S33 at h
 split at h
 · rename_i hh;exact(m33 x.1 hh.2).trans h
 · cases h)
end
end Go.Ev
