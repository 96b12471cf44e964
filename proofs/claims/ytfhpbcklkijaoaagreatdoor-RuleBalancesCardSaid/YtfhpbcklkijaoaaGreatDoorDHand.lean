import Derived.Test.YtfhpbcklkijaoaaGreatDoorAwkU
import Derived.Test.YtfhpbcklkijaoaaGreatDoorDM7
set_option linter.unusedSimpArgs false
set_option linter.unusedVariables false
namespace Go.Ev
open Go.RowKit Go.Proofs
set_option maxRecDepth 100000
set_option maxHeartbeats 4000000
theorem aw27_0:aB Tryz.prog (.bool true) (run Tryz.prog gT (aG [(15,A77),(18,A79),(16,A78),(20,A80),(13,A54),(19,A34),(21,A35),(22,A36)]) 3000 (.call 5 [] H.start0))=true:=by kernel_rfl
noncomputable def A27:List EVal→Option EVal:=tbl [([],.bool true)]
theorem an27:FnT 5 A27:=Fn.tbl0 mixed noNG [(15,A77),(18,A79),(16,A78),(20,A80),(13,A54),(19,A34),(21,A35),(22,A36)] (by simp only [List.forall_mem_cons];exact⟨an77,an79,an78,an80,an54,an34,an35,an36,fun _ h=>by cases h⟩) (n:=3000) (by simp only [List.forall_mem_cons];exact⟨aw27_0,fun _ h=>by cases h⟩)
def F27:List EVal→Option EVal
 | []=>some (.bool true)
 | _=>none
theorem e27:F27 []=some (.bool true):=rfl
theorem fn27:FnT 5 F27:=by
 intro B0 W0 G a v hF
 refine an27 B0 W0 G a v ?_
 unfold F27 at hF
 split at hF
 · exact hF
 · cases hF
end Go.Ev
namespace Go.Ev
open Go.RowKit Go.Proofs
set_option maxRecDepth 100000
set_option maxHeartbeats 4000000
noncomputable section
def A18:Row (St×Unit):=Row.cons (Cod.agg rSt) Row.nil
def S18 (x:St×Unit):Option Int:=some (stE x.1)
def K18:Con Tryz.prog gT:=Con.of 17 A18 cI S18 (Con.less Kf18.ok fun x r h=>(m18 x.1).trans h)
def Aw27:Row Unit:=Row.nil
def Sw27 (_:Unit):Option Bool:=some true
def Kw27:Con Tryz.prog gT:=Con.of 5 Aw27 cB Sw27 (Fn.weak fn27 fun a v h=>by
 obtain⟨_,r,rfl,hs,rfl⟩:=jI h
 cases hs
 have e:V.cs (Aw27.v ())=[]:=by
  show V.cs []=_
  rw [V.cs]
 rw [e,e27];simp only [cB,V.c])
def cCntR:Cod CntR:=Cod.tup (Row.cons (Cod.agg (Row.cons cI (Row.cons cI Row.nil))) (Row.cons cI (Row.cons cI Row.nil)))
def A81:Row (Int×Int×List Nat×Unit):=Row.cons cI (Row.cons cI (Row.cons cS Row.nil))
def S81 (x:Int×Int×List Nat×Unit):Option CntR:=if aV x.2.2.1=true then some (azC x.1 x.2.1 x.2.2.1)else none
def K81:Con Tryz.prog gT:=Con.of 116 A81 cCntR S81 (Con.less Kf81.ok fun x r h=>by
 unfold S81 at h
 split at h
 · rename_i hb;exact(m81 x.1 x.2.1 x.2.2.1 hb).trans h
 · cases h)
theorem vMv_c (m:Mv):V.cs (rMv.v m)=eMove m:=by
 show V.cs [V.int .i64 m.f,V.int .i64 m.t,V.bool m.o,V.str m.h,(Cod.list 0 dQ).v m.b]=_
 have h1:(V.el (m.b.map dQ.v)).c=((Cod.list 0 dQ).v m.b).c:=aY
 have h2:((Cod.list 0 dQ).v m.b).c=.lsl (eInts m.b):=h1.symm.trans (by
  rw [V.c,V.css_map,List.map_map,eInts]
  exact congrArg EVal.lsl (List.map_congr_left fun x _=>by
   show V.cs [V.int .i64 x]=_
   simp only [V.cs,V.c]))
 simp only [V.cs,V.c,h2,eMove]
theorem vMvs_c (l:List Mv):((Cod.list mv0 rMv).v l).c=.lsl (t9 l):=by
 have h1:(V.el (l.map rMv.v)).c=((Cod.list mv0 rMv).v l).c:=aY
 refine h1.symm.trans ?_
 rw [V.c,V.css_map,List.map_map,t9]
 congr 1
 exact List.map_congr_left fun m _=>vMv_c m
def aw6 (p:Pl):Bool:=decide (p.m.length<9223372036854775808)&&p.m.all fun m=>decide (m.b.length<9223372036854775808)
def ePl (p:Pl):EVal:=.agg [.str p.p,.str p.e,.bool p.l,.lsl (t9 p.m)]
theorem vPl_c (p:Pl):((Cod.agg rPl).v p).c=ePl p:=by
 show(V.agg [V.str p.p,V.str p.e,V.bool p.l,(Cod.list mv0 rMv).v p.m]).c=_
 simp only [V.c,V.cs,vMvs_c,ePl]
theorem aze (s:St):V.cs (rSt.v s)=eSt s:=by
 show V.cs [_,_,_,_,_,_,_,_,_,_,_,_,_]=_
 simp only [V.cs,az4,cB,V.c];rfl
def A142:Row (Pl×Unit):=Row.cons (Cod.agg rPl) Row.nil
def S142 (x:Pl×Unit):Option Int:=if aw6 x.1=true∧aV x.1.p=true∧aV x.1.e=true then some (playE x.1.p x.1.e x.1.m)else none
def K142:Con Tryz.prog gT:=Con.of 76 A142 cI S142 (Con.less Kf142.ok fun x r h=>by
 unfold S142 at h
 split at h
 · rename_i hb;exact(m142 x.1 hb.2.1 hb.2.2).trans h
 · cases h)
def A33:Row (Pl×Unit):=Row.cons (Cod.agg rPl) Row.nil
def S33 (x:Pl×Unit):Option Pl:=if aw6 x.1=true∧jQ x.1.m=true then some x.1 else none
def K33:Con Tryz.prog gT:=Con.of 28 A33 (Cod.agg rPl) S33 (Con.less Kf33.ok fun x r h=>by
 unfold S33 at h
 split at h
 · rename_i hh;exact(m33 x.1 hh.2).trans h
 · cases h)
end
end Go.Ev
