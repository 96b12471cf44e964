import Derived.Test.YtkhmgggponmimaaGreatDoorDM7
import Derived.Test.YtkhmgggponmimaaGreatDoorAwk
set_option linter.unusedSimpArgs false
set_option linter.unusedVariables false
namespace Go.Ev
open Go.RowKit Go.Proofs
set_option maxRecDepth 100000
set_option maxHeartbeats 4000000
noncomputable section
def A18:Row (St×Unit):=Row.cons (Cod.agg rSt) Row.nil
def S18 (x:St×Unit):Option Int:=some (stE x.1)
def K18:Con Tryz.prog gT:=Con.of 43 A18 cI S18 (Con.less Kf18.ok fun x r h=>(m18 x.1).trans h)
def Aw27:Row Unit:=Row.nil
def Sw27 (_:Unit):Option Bool:=some true
def Kw27:Con Tryz.prog gT:=Con.of 5 Aw27 cB Sw27 (Fn.weak fn5 fun a v h=>by
 obtain⟨_,r,rfl,hs,rfl⟩:=rE h
 cases hs
 have e:V.cs (Aw27.v ())=[]:=by
  show V.cs []=_
  rw [V.cs]
 rw [e];simp only [F5,cB,V.c])
def cCntR:Cod CntR:=Cod.tup (Row.cons (Cod.agg (Row.cons cI (Row.cons cI Row.nil))) (Row.cons cI (Row.cons cI Row.nil)))
def A81:Row (Int×Int×List Nat×Unit):=Row.cons cI (Row.cons cI (Row.cons cS Row.nil))
def S81 (x:Int×Int×List Nat×Unit):Option CntR:=if aS x.2.2.1=true then some (axo x.1 x.2.1 x.2.2.1)else none
def K81:Con Tryz.prog gT:=Con.of 12 A81 cCntR S81 (Con.less Kf81.ok fun x r h=>by
 unfold S81 at h
 split at h
 · rename_i hb;exact(m81 x.1 x.2.1 x.2.2.1 hb).trans h
 · cases h)
theorem vMv_c (m:Mv):V.cs (rMv.v m)=eMove m:=by
 show V.cs [V.int .i64 m.f,V.int .i64 m.t,V.bool m.o,V.str m.h,(Cod.list 0 nB).v m.b]=_
 have h1:(V.el (m.b.map nB.v)).c=((Cod.list 0 nB).v m.b).c:=aR
 have h2:((Cod.list 0 nB).v m.b).c=.lsl (eInts m.b):=h1.symm.trans (by
  rw [V.c,V.css_map,List.map_map,eInts]
  exact congrArg EVal.lsl (List.map_congr_left fun x _=>by
   show V.cs [V.int .i64 x]=_
   simp only [V.cs,V.c]))
 simp only [V.cs,V.c,h2,eMove]
theorem vMvs_c (l:List Mv):((Cod.list mv0 rMv).v l).c=.lsl (yM l):=by
 have h1:(V.el (l.map rMv.v)).c=((Cod.list mv0 rMv).v l).c:=aR
 refine h1.symm.trans ?_
 rw [V.c,V.css_map,List.map_map,yM]
 congr 1
 exact List.map_congr_left fun m _=>vMv_c m
def ax0 (p:Pl):Bool:=decide (p.m.length<9223372036854775808)&&p.m.all fun m=>decide (m.b.length<9223372036854775808)
def ePl (p:Pl):EVal:=.agg [.str p.p,.str p.e,.bool p.l,.lsl (yM p.m)]
theorem vPl_c (p:Pl):((Cod.agg rPl).v p).c=ePl p:=by
 show(V.agg [V.str p.p,V.str p.e,V.bool p.l,(Cod.list mv0 rMv).v p.m]).c=_
 simp only [V.c,V.cs,vMvs_c,ePl]
theorem aw3 (s:St):V.cs (rSt.v s)=eSt s:=by
 show V.cs [_,_,_,_,_,_,_,_,_,_,_,_,_]=_
 simp only [V.cs,azO,cB,V.c];rfl
def A142:Row (Pl×Unit):=Row.cons (Cod.agg rPl) Row.nil
def azR (x:Pl×Unit):Option Int:=if ax0 x.1=true∧aS x.1.p=true∧aS x.1.e=true then some (playE x.1.p x.1.e x.1.m)else none
def K142:Con Tryz.prog gT:=Con.of 20 A142 cI azR (Con.less Kf142.ok fun x r h=>by
 unfold azR at h
 split at h
 · rename_i hb;exact(m142 x.1 hb.2.1 hb.2.2).trans h
 · cases h)
def A33:Row (Pl×Unit):=Row.cons (Cod.agg rPl) Row.nil
def S33 (x:Pl×Unit):Option Pl:=if ax0 x.1=true∧gX x.1.m=true then some x.1 else none
def K33:Con Tryz.prog gT:=Con.of 7 A33 (Cod.agg rPl) S33 (Con.less Kf33.ok fun x r h=>by
 unfold S33 at h
 split at h
 · rename_i hh;exact(m33 x.1 hh.2).trans h
 · cases h)
end
end Go.Ev
