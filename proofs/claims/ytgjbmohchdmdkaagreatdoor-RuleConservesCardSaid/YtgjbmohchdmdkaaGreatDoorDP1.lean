import Derived.Test.YtgjbmohchdmdkaaGreatDoorAwkU
import Derived.Test.YtgjbmohchdmdkaaGreatDoorDM7
set_option linter.unusedSimpArgs false
set_option linter.unusedVariables false
namespace Go.Ev
open Go.RowKit Go.Proofs
set_option maxRecDepth 100000
set_option maxHeartbeats 4000000
theorem aw27_0:aD Tryz.prog (.bool true) (run Tryz.prog gT (aI [(77,A77),(79,A79),(78,A78),(80,A80),(54,A54),(34,A34),(35,A35),(36,A36)]) 3000 (.call 27 [] H.start0))=true:=by kernel_rfl
noncomputable def A27:List EVal→Option EVal:=tbl [([],.bool true)]
theorem an27:FnT 27 A27:=Fn.tbl0 mixed aja [(77,A77),(79,A79),(78,A78),(80,A80),(54,A54),(34,A34),(35,A35),(36,A36)] (by simp only [List.forall_mem_cons];exact⟨an77,an79,an78,an80,an54,an34,an35,an36,fun _ h=>by cases h⟩) (n:=3000) (by simp only [List.forall_mem_cons];exact⟨aw27_0,fun _ h=>by cases h⟩)
def F27:List EVal→Option EVal
 | []=>some (.bool true)
 | _=>none
theorem e27:F27 []=some (.bool true):=rfl
theorem fn27:FnT 27 F27:=by
 intro B0 W0 G a v hF
 refine an27 B0 W0 G a v ?_
 unfold F27 at hF
 split at hF
 · exact hF
 · cases hF
end Go.Ev
namespace Go.Ev
open Go.RowKit Go.Proofs
set_option maxRecDepth 100000
set_option maxHeartbeats 4000000
noncomputable section
def A18:Row (St×Unit):=Row.cons (Cod.agg rSt) Row.nil
def S18 (x:St×Unit):Option Int:=some (stE x.1)
def K18:Con Tryz.prog gT:=Con.of 18 A18 cI S18 (Con.less Kf18.ok fun x r h=>(m18 x.1).trans h)
def A17:Row (St×Unit):=Row.cons (Cod.agg rSt) Row.nil
def S17 (x:St×Unit):Option Int:=some (stE x.1)
def K17:Con Tryz.prog gT:=Con.of 17 A17 cI S17 (Con.less Kf17.ok fun x r h=>(m17 x.1).trans h)
def axe:Row Unit:=Row.nil
def ajM (_:Unit):Option Bool:=some true
def Kw27:Con Tryz.prog gT:=Con.of 27 axe cB ajM (Fn.weak fn27 fun a v h=>by
 obtain⟨_,r,rfl,hs,rfl⟩:=yB h
 cases hs
 have e:V.cs (axe.v ())=[]:=by
  show V.cs []=_
  rw [V.cs]
 rw [e,e27];simp only [cB,V.c])
def cCntR:Cod CntR:=Cod.tup (Row.cons (Cod.agg (Row.cons cI (Row.cons cI Row.nil))) (Row.cons cI (Row.cons cI Row.nil)))
def A29:Row (Int×Int×List Nat×Unit):=Row.cons cI (Row.cons cI (Row.cons cS Row.nil))
def S29 (x:Int×Int×List Nat×Unit):Option CntR:=if x.2.2.1.length<9223372036854775808 then some (aqb x.1 x.2.1 x.2.2.1)else none
def A81:Row (Int×Int×List Nat×Unit):=Row.cons cI (Row.cons cI (Row.cons cS Row.nil))
def S81 (x:Int×Int×List Nat×Unit):Option CntR:=if bW x.2.2.1=true then some (aqb x.1 x.2.1 x.2.2.1)else none
def K81:Con Tryz.prog gT:=Con.of 81 A81 cCntR S81 (Con.less Kf81.ok fun x r h=>by
 unfold S81 at h
 split at h
 · rename_i hb;exact(m81 x.1 x.2.1 x.2.2.1 hb).trans h
 · cases h)
theorem vMv_c (m:Mv):V.cs (rMv.v m)=ajy m:=by
 show V.cs [V.int .i64 m.f,V.int .i64 m.t,V.bool m.o,V.str m.h,(Cod.list 0 aJ).v m.b]=_
 have h1:(V.el (m.b.map aJ.v)).c=((Cod.list 0 aJ).v m.b).c:=bO
 have h2:((Cod.list 0 aJ).v m.b).c=.lsl (avR m.b):=h1.symm.trans (by
  rw [V.c,V.css_map,List.map_map,avR]
  exact congrArg EVal.lsl (List.map_congr_left fun x _=>by
   show V.cs [V.int .i64 x]=_
   simp only [V.cs,V.c]))
 simp only [V.cs,V.c,h2,ajy]
theorem vMvs_c (l:List Mv):((Cod.list mv0 rMv).v l).c=.lsl (lY l):=by
 have h1:(V.el (l.map rMv.v)).c=((Cod.list mv0 rMv).v l).c:=bO
 refine h1.symm.trans ?_
 rw [V.c,V.css_map,List.map_map,lY]
 congr 1
 exact List.map_congr_left fun m _=>vMv_c m
def okPl (p:Pl):Bool:=decide (p.m.length<9223372036854775808)&&p.m.all fun m=>decide (m.b.length<9223372036854775808)
def ePl (p:Pl):EVal:=.agg [.str p.p,.str p.e,.bool p.l,.lsl (lY p.m)]
theorem vPl_c (p:Pl):((Cod.agg rPl).v p).c=ePl p:=by
 show(V.agg [V.str p.p,V.str p.e,V.bool p.l,(Cod.list mv0 rMv).v p.m]).c=_
 simp only [V.c,V.cs,vMvs_c,ePl]
theorem vSt_c (s:St):V.cs (rSt.v s)=eSt s:=by
 show V.cs [_,_,_,_,_,_,_,_,_,_,_,_,_]=_
 simp only [V.cs,ayK,cB,V.c];rfl
def A142:Row (Pl×Unit):=Row.cons (Cod.agg rPl) Row.nil
def S142 (x:Pl×Unit):Option Int:=if okPl x.1=true∧bW x.1.p=true∧bW x.1.e=true then some (playE x.1.p x.1.e x.1.m)else none
def K142:Con Tryz.prog gT:=Con.of 142 A142 cI S142 (Con.less Kf142.ok fun x r h=>by
 unfold S142 at h
 split at h
 · rename_i hb;exact(m142 x.1 hb.2.1 hb.2.2).trans h
 · cases h)
def A58:Row (Pl×Unit):=Row.cons (Cod.agg rPl) Row.nil
def S58 (x:Pl×Unit):Option Int:=if okPl x.1=true then some (playE x.1.p x.1.e x.1.m)else none
def K58:Con Tryz.prog gT:=Con.of 58 A58 cI S58 (Con.less Kf58.ok fun x r h=>by
 unfold S58 at h
 split at h
 · exact(m58 x.1).trans h
 · cases h)
def A33:Row (Pl×Unit):=Row.cons (Cod.agg rPl) Row.nil
def S33 (x:Pl×Unit):Option Pl:=if okPl x.1=true∧tO x.1.m=true then some x.1 else none
def K33:Con Tryz.prog gT:=Con.of 33 A33 (Cod.agg rPl) S33 (Con.less Kf33.ok fun x r h=>by
 unfold S33 at h
 split at h
 · rename_i hh;exact(m33 x.1 hh.2).trans h
 · cases h)
end
end Go.Ev
namespace Go.Ev
open Go.RowKit Go.Proofs
set_option maxRecDepth 100000
set_option maxHeartbeats 4000000
set_option linter.unusedVariables false
noncomputable section
structure Tn where
 s_inn:Int
 s_half:Int
 s_outs:Int
 s_balls:Int
 s_strikes:Int
 s_b1:Int
 s_b2:Int
 s_b3:Int
 s_n0:Int
 s_n1:Int
 s_c0:Int
 s_c1:Int
 s_over:Bool
 p_p:List Nat
 p_e:List Nat
 p_l:Bool
 p_m:List (Mv)
 k0:Int
 k1:Int
 counted:Bool
 outs:Int
 f0:Bool
 f1:Bool
 f2:Bool
 f3:Bool
noncomputable def rTn:Row Tn:=Row.iso (Row.cons cI (Row.cons cI (Row.cons cI (Row.cons cI (Row.cons cI (Row.cons cI (Row.cons cI (Row.cons cI (Row.cons cI (Row.cons cI (Row.cons cI (Row.cons cI (Row.cons cB (Row.cons cS (Row.cons cS (Row.cons cB (Row.cons (Cod.list mv0 rMv) (Row.cons cI (Row.cons cI (Row.cons cB (Row.cons cI (Row.cons cB (Row.cons cB (Row.cons cB (Row.cons cB Row.nil))))))))))))))))))))))))) (fun x=>⟨x.1,x.2.1,x.2.2.1,x.2.2.2.1,x.2.2.2.2.1,x.2.2.2.2.2.1,x.2.2.2.2.2.2.1,x.2.2.2.2.2.2.2.1,x.2.2.2.2.2.2.2.2.1,x.2.2.2.2.2.2.2.2.2.1,x.2.2.2.2.2.2.2.2.2.2.1,x.2.2.2.2.2.2.2.2.2.2.2.1,x.2.2.2.2.2.2.2.2.2.2.2.2.1,x.2.2.2.2.2.2.2.2.2.2.2.2.2.1,x.2.2.2.2.2.2.2.2.2.2.2.2.2.2.1,x.2.2.2.2.2.2.2.2.2.2.2.2.2.2.2.1,x.2.2.2.2.2.2.2.2.2.2.2.2.2.2.2.2.1,x.2.2.2.2.2.2.2.2.2.2.2.2.2.2.2.2.2.1,x.2.2.2.2.2.2.2.2.2.2.2.2.2.2.2.2.2.2.1,x.2.2.2.2.2.2.2.2.2.2.2.2.2.2.2.2.2.2.2.1,x.2.2.2.2.2.2.2.2.2.2.2.2.2.2.2.2.2.2.2.2.1,x.2.2.2.2.2.2.2.2.2.2.2.2.2.2.2.2.2.2.2.2.2.1,x.2.2.2.2.2.2.2.2.2.2.2.2.2.2.2.2.2.2.2.2.2.2.1,x.2.2.2.2.2.2.2.2.2.2.2.2.2.2.2.2.2.2.2.2.2.2.2.1,x.2.2.2.2.2.2.2.2.2.2.2.2.2.2.2.2.2.2.2.2.2.2.2.2.1⟩) (fun y=>(y.s_inn,y.s_half,y.s_outs,y.s_balls,y.s_strikes,y.s_b1,y.s_b2,y.s_b3,y.s_n0,y.s_n1,y.s_c0,y.s_c1,y.s_over,y.p_p,y.p_e,y.p_l,y.p_m,y.k0,y.k1,y.counted,y.outs,y.f0,y.f1,y.f2,y.f3,())) (fun _=>rfl) (fun _=>rfl)
noncomputable def Az84:=(Row.cons (Cod.agg rPl) Row.nil)
inductive Lz84 where
 | k8 (x1:Int)
noncomputable def uz84:Lz84→Nat
 | .k8 _=>8
noncomputable def sLz84 (s:Pl):Lz84→D
 | .k8 x1=>mD [(1,.ptr 0 0),(3,.int .i64 x1)] 1 [(0,.row ⟨(rPl.v s),56,false⟩)] 128 []
noncomputable def ayZ (s:Pl):(l_:Lz84)→Tr Bool Lz84 (sLz84 s) cB.v
 | .k8 x1=>(.i (decide (x1<((s.m.length:Nat):Int))) (.i (inR x1 s.m.length) (.i (decide (20<((((s.m.getD x1.toNat mv0).h).length:Nat):Int))) (.r false) (.i (inR x1 s.m.length) (.i (decide (40<((((s.m.getD x1.toNat mv0).b).length:Nat):Int))) (.r false) (.g (.k8 (w6 (x1+1))))) .n)) .n) (.r true))
noncomputable def Tz84 (s:Pl):Tr Bool Lz84 (sLz84 s) cB.v:=(.i (decide (26<((s.p.length:Nat):Int))) (.r false) (.i (decide (20<((s.e.length:Nat):Int))) (.r false) (.i (decide (6<((s.m.length:Nat):Int))) (.r false) (.g (.k8 0)))))
noncomputable def ayk (s:Pl):=Tr.lp (ayZ s)
theorem ayj {s:Pl}{n:Nat}{l_:Lz84}:ayk s (n+1) l_=(ayZ s l_).d (ayk s n):=rfl
noncomputable def Ez84 (n:Nat) (s:Pl):=(Tz84 s).d (ayk s n)
noncomputable def Sz84 (x:Pl×Unit):=Ez84 (x.1.m.length+64) x.1
noncomputable def wz84:Wk (Pl×Unit) Bool Lz84 cB.v:=⟨fun x=>sLz84 x.1,uz84,fun x=>Tz84 x.1,fun x=>ayZ x.1⟩
noncomputable def Kz84:=aS 84 Tryz.func84 [] noZ ⟨45,(lookA [(4,⟨[1,3],[0],1,[],[],[],[]⟩)]),noL,noL⟩ 128 Az84 cB Sz84 wz84 (fun x=>x.1.m.length+64)
noncomputable def Az31:=(Row.cons (Cod.agg rPl) Row.nil)
noncomputable def Tz31 (s:Pl):Tr Bool Empty noS cB.v:=(.c Az84 Sz84 (s,()) fun r2=>(.r r2))
noncomputable def Ez31 (s:Pl):=(Tz31 s).d noE
noncomputable def Sz31 (x:Pl×Unit):=Ez31 x.1
noncomputable def wz31:Wk (Pl×Unit) Bool Empty cB.v:=wk0 fun x=>Tz31 x.1
noncomputable def Kz31:=aS 31 Tryz.func31 [Kz84] noZ ⟨5,noL,noL,noL⟩ 128 Az31 cB Sz31 wz31 (fun _=>0)
noncomputable def Az61:=(Row.cons (Cod.agg rSt) Row.nil)
noncomputable def Tz61 (s:St):Tr Int Empty noS cI.v:=(.i s.over (.r 20) (.r 0))
noncomputable def Ez61 (s:St):=(Tz61 s).d noE
noncomputable def Sz61 (x:St×Unit):=Ez61 x.1
noncomputable def wz61:Wk (St×Unit) Int Empty cI.v:=wk0 fun x=>Tz61 x.1
noncomputable def Kz61:=aS 61 Tryz.func61 [] noZ ⟨5,noL,noL,noL⟩ 128 Az61 cI Sz61 wz61 (fun _=>0)
noncomputable def Az141:=(Row.cons (Cod.agg rSt) (Row.cons (Cod.ptr rPl) Row.nil))
noncomputable def Tz141 (s:St) (t:Pl):Tr Int Empty noS cI.v:=(.c A142 S142 (t,()) fun r2=>(.r r2))
noncomputable def Ez141 (s:St) (t:Pl):=(Tz141 s t).d noE
noncomputable def Sz141 (x:St×Pl×Unit):=Ez141 x.1 x.2.1
noncomputable def wz141:Wk (St×Pl×Unit) Int Empty cI.v:=wk0 fun x=>Tz141 x.1 x.2.1
noncomputable def Kz141:=aS 141 Tryz.func141 [K142] noZ ⟨6,noL,noL,noL⟩ 128 Az141 cI Sz141 wz141 (fun _=>0)
noncomputable def kM:=(Row.cons (Cod.agg rSt) (Row.cons (Cod.lit (Els.cons (Row.cons (Cod.fn0 18) Row.nil) (Els.cons (Row.cons (Cod.fn 141 (Row.cons (Cod.ptr rPl) Row.nil)) Row.nil) (Els.cons (Row.cons (Cod.fn0 61) Row.nil) Els.nil)))) Row.nil))
inductive aY where
 | k4 (x2:Int)
noncomputable def rV:aY→Nat
 | .k4 _=>4
noncomputable def eV (s:St) (t:((Unit)×Unit)×(((Pl)×Unit)×Unit)×((Unit)×Unit)×Unit):aY→D
 | .k4 x2=>mD [(2,.ptr 0 0),(8,.el [[.raw (.func 18 [])],[.fn 141 [.lptr (rPl.v t.2.1.1.1) 0]],[.raw (.func 61 [])]]),(9,.int .i64 3),(10,.int .i64 x2)] 1 [(0,.row ⟨(rSt.v s),26,false⟩)] 128 []
noncomputable def cX (s:St) (t:((Unit)×Unit)×(((Pl)×Unit)×Unit)×((Unit)×Unit)×Unit):(l_:aY)→Tr Int aY (eV s t) cI.v
 | .k4 x2=>(.i (decide (x2<3)) (.i (x2==0) (.c A18 S18 (s,()) fun r8=>(.i (!(r8==0)) (.r r8) (.g (.k4 (w6 (x2+1)))))) (.i (x2==1) (.c Az141 Sz141 (s,t.2.1.1.1,()) fun r7=>(.i (!(r7==0)) (.r r7) (.g (.k4 (w6 (x2+1)))))) (.i (x2==2) (.c Az61 Sz61 (s,()) fun r6=>(.i (!(r6==0)) (.r r6) (.g (.k4 (w6 (x2+1)))))) .n))) (.r 0))
noncomputable def fW (s:St) (t:((Unit)×Unit)×(((Pl)×Unit)×Unit)×((Unit)×Unit)×Unit):Tr Int aY (eV s t) cI.v:=(.g (.k4 0))
noncomputable def cZ (s:St) (t:((Unit)×Unit)×(((Pl)×Unit)×Unit)×((Unit)×Unit)×Unit):=Tr.lp (cX s t)
theorem oD {s:St}{t:((Unit)×Unit)×(((Pl)×Unit)×Unit)×((Unit)×Unit)×Unit}{n:Nat}{l_:aY}:cZ s t (n+1) l_=(cX s t l_).d (cZ s t n):=rfl
noncomputable def f6 (n:Nat) (s:St) (t:((Unit)×Unit)×(((Pl)×Unit)×Unit)×((Unit)×Unit)×Unit):=(fW s t).d (cZ s t n)
noncomputable def d7 (x:St×(((Unit)×Unit)×(((Pl)×Unit)×Unit)×((Unit)×Unit)×Unit)×Unit):=f6 64 x.1 x.2.1
noncomputable def rT:Wk (St×(((Unit)×Unit)×(((Pl)×Unit)×Unit)×((Unit)×Unit)×Unit)×Unit) Int aY cI.v:=⟨fun x=>eV x.1 x.2.1,rV,fun x=>fW x.1 x.2.1,fun x=>cX x.1 x.2.1⟩
noncomputable def uC:=aS 60 Tryz.func60 [K18,Kz61,Kz141] noZ ⟨21,(lookA [(2,⟨[2,8,9,10],[0],1,[],[],[],[]⟩)]),noL,noL⟩ 128 kM cI d7 rT (fun x=>64)
noncomputable def Az196:=(Row.cons (Cod.agg rMv) Row.nil)
noncomputable def Tz196 (s:Mv):Tr Bool Empty noS cB.v:=(.r s.o)
noncomputable def Ez196 (s:Mv):=(Tz196 s).d noE
noncomputable def Sz196 (x:Mv×Unit):=Ez196 x.1
noncomputable def wz196:Wk (Mv×Unit) Bool Empty cB.v:=wk0 fun x=>Tz196 x.1
noncomputable def Kz196:=aS 196 Tryz.func196 [] noZ ⟨5,noL,noL,noL⟩ 128 Az196 cB Sz196 wz196 (fun _=>0)
noncomputable def ajH:=(Row.cons (Cod.list mv0 rMv) (Row.cons (Cod.fn0 196) Row.nil))
inductive fX where
 | k6 (x2:Int) (x3:Int)
noncomputable def akG:fX→Nat
 | .k6 _ _=>6
noncomputable def oN (s:List (Mv)) (t:Unit):fX→D
 | .k6 x2 x3=>mD [(1,.raw (.func 196 [])),(5,.int .i64 x2),(8,(Cod.list mv0 rMv).v s),(9,.int .i64 ((s.length:Nat):Int)),(10,.int .i64 x3)] 0 [] 128 []
noncomputable def dO (s:List (Mv)) (t:Unit):(l_:fX)→Tr Int fX (oN s t) cI.v
 | .k6 x2 x3=>(.i (decide (x3<((s.length:Nat):Int))) (.i (inR x3 s.length) (.c Az196 Sz196 ((s.getD x3.toNat mv0),()) fun r5=>(.i r5 (.g (.k6 (w6 (x2+1)) (w6 (x3+1)))) (.g (.k6 x2 (w6 (x3+1)))))) .n) (.r x2))
noncomputable def t4 (s:List (Mv)) (t:Unit):Tr Int fX (oN s t) cI.v:=(.g (.k6 0 0))
noncomputable def iA (s:List (Mv)) (t:Unit):=Tr.lp (dO s t)
theorem eQ {s:List (Mv)}{t:Unit}{n:Nat}{l_:fX}:iA s t (n+1) l_=(dO s t l_).d (iA s t n):=rfl
noncomputable def uF (n:Nat) (s:List (Mv)) (t:Unit):=(t4 s t).d (iA s t n)
noncomputable def t9 (x:(List (Mv))×Unit×Unit):=uF (x.1.length+64) x.1 x.2.1
noncomputable def akA:Wk ((List (Mv))×Unit×Unit) Int fX cI.v:=⟨fun x=>oN x.1 x.2.1,akG,fun x=>t4 x.1 x.2.1,fun x=>dO x.1 x.2.1⟩
noncomputable def aya:=aS 187 Tryz.func187 [Kz196] noZ ⟨21,(lookA [(3,⟨[1,5,8,9,10],[],0,[],[],[],[]⟩)]),noL,noL⟩ 128 ajH cI t9 akA (fun x=>x.1.length+64)
noncomputable def Az63:=(Row.cons (Cod.agg rSt) Row.nil)
inductive Lz63 where
 | k6 (x1:Int) (x2:Bool) (x3:Bool) (x4:Bool)
noncomputable def uz63:Lz63→Nat
 | .k6 _ _ _ _=>6
noncomputable def sLz63 (s:St):Lz63→D
 | .k6 x1 x2 x3 x4=>mD [(2,.ptr 1 0),(3,.ptr 2 0),(8,.agg [.int .i64 s.b1,.int .i64 s.b2,.int .i64 s.b3]),(9,.int .i64 x1)] 3 [(1,.row ⟨[.bool false,.bool false,.bool false,.bool false],33,false⟩),(2,.row ⟨[.bool true,.bool x2,.bool x4,.bool x3],33,false⟩)] 128 []
noncomputable def bjM (s:St):(l_:Lz63)→Tr ((Bool)×(Bool)×(Bool)×(Bool)×Unit) Lz63 (sLz63 s) (Cod.agg (Row.cons cB (Row.cons cB (Row.cons cB (Row.cons cB Row.nil))))).v
 | .k6 x1 x2 x3 x4=>(.i (decide (x1<3)) (.i (x1==0) (.i (s.b1==0) (.r (true,x2,x4,x3,())) (.i ((w6 (x1+1))==0) (.g (.k6 (w6 (x1+1)) x2 x3 x4)) (.i ((w6 (x1+1))==1) (.g (.k6 (w6 (x1+1)) true x3 x4)) (.i ((w6 (x1+1))==2) (.g (.k6 (w6 (x1+1)) x2 x3 true)) (.i ((w6 (x1+1))==3) (.g (.k6 (w6 (x1+1)) x2 true x4)) .n))))) (.i (x1==1) (.i (s.b2==0) (.r (true,x2,x4,x3,())) (.i ((w6 (x1+1))==0) (.g (.k6 (w6 (x1+1)) x2 x3 x4)) (.i ((w6 (x1+1))==1) (.g (.k6 (w6 (x1+1)) true x3 x4)) (.i ((w6 (x1+1))==2) (.g (.k6 (w6 (x1+1)) x2 x3 true)) (.i ((w6 (x1+1))==3) (.g (.k6 (w6 (x1+1)) x2 true x4)) .n))))) (.i (x1==2) (.i (s.b3==0) (.r (true,x2,x4,x3,())) (.i ((w6 (x1+1))==0) (.g (.k6 (w6 (x1+1)) x2 x3 x4)) (.i ((w6 (x1+1))==1) (.g (.k6 (w6 (x1+1)) true x3 x4)) (.i ((w6 (x1+1))==2) (.g (.k6 (w6 (x1+1)) x2 x3 true)) (.i ((w6 (x1+1))==3) (.g (.k6 (w6 (x1+1)) x2 true x4)) .n))))) .n))) (.r (true,x2,x4,x3,())))
noncomputable def Tz63 (s:St):Tr ((Bool)×(Bool)×(Bool)×(Bool)×Unit) Lz63 (sLz63 s) (Cod.agg (Row.cons cB (Row.cons cB (Row.cons cB (Row.cons cB Row.nil))))).v:=(.g (.k6 0 false false false))
noncomputable def bjp (s:St):=Tr.lp (bjM s)
theorem Ez63J_s {s:St}{n:Nat}{l_:Lz63}:bjp s (n+1) l_=(bjM s l_).d (bjp s n):=rfl
noncomputable def Ez63 (n:Nat) (s:St):=(Tz63 s).d (bjp s n)
noncomputable def Sz63 (x:St×Unit):=Ez63 64 x.1
noncomputable def wz63:Wk (St×Unit) ((Bool)×(Bool)×(Bool)×(Bool)×Unit) Lz63 (Cod.agg (Row.cons cB (Row.cons cB (Row.cons cB (Row.cons cB Row.nil))))).v:=⟨fun x=>sLz63 x.1,uz63,fun x=>Tz63 x.1,fun x=>bjM x.1⟩
noncomputable def Kz63:=aS 63 Tryz.func63 [] noZ ⟨20,(lookA [(3,⟨[2,3,8,9],[1,2],3,[],[],[],[]⟩)]),noL,noL⟩ 128 Az63 (Cod.agg (Row.cons cB (Row.cons cB (Row.cons cB (Row.cons cB Row.nil))))) Sz63 wz63 (fun x=>64)
noncomputable def Az143:=(Row.cons (Cod.agg rSt) (Row.cons (Cod.agg rPl) Row.nil))
inductive avg where
 | k2000001 (x4:Int) (x5:Int) (x6:Bool) (x7:Int) (x8:Bool) (x9:Bool) (x10:Bool) (x11:Bool)
noncomputable def uz143:avg→Nat
 | .k2000001 _ _ _ _ _ _ _ _=>2000001
noncomputable def ak7 (s:St) (t:Pl):avg→D
 | .k2000001 x4 x5 x6 x7 x8 x9 x10 x11=>mD [(4,.lptr [.int .i64 s.inn,.int .i64 s.half,.int .i64 s.outs,.int .i64 s.balls,.int .i64 s.strikes,.int .i64 s.b1,.int .i64 s.b2,.int .i64 s.b3,.int .i64 s.n0,.int .i64 s.n1,.int .i64 s.c0,.int .i64 s.c1,.bool s.over,.str t.p,.str t.e,.bool t.l,(Cod.list mv0 rMv).v t.m,.int .i64 x4,.int .i64 x5,.bool x6,.int .i64 x7,.bool x8,.bool x9,.bool x10,.bool x11] 0)] 0 [] 128 []
noncomputable def bxd (s:St) (t:Pl):(l_:avg)→Tr Tn avg (ak7 s t) (Cod.ptr rTn).v
 | .k2000001 x4 x5 x6 x7 x8 x9 x10 x11=>(.r (⟨s.inn,s.half,s.outs,s.balls,s.strikes,s.b1,s.b2,s.b3,s.n0,s.n1,s.c0,s.c1,s.over,t.p,t.e,t.l,t.m,x4,x5,x6,x7,x8,x9,x10,x11⟩:Tn))
noncomputable def Tz143 (s:St) (t:Pl):Tr Tn avg (ak7 s t) (Cod.ptr rTn).v:=(.c A81 S81 (s.balls,s.strikes,t.p,()) fun r15=>(.c ajH t9 (t.m,(),()) fun r16=>(.c Az63 Sz63 (s,()) fun r17=>(.g (.k2000001 r15.1.1 r15.1.2.1 (r15.2.2.1==0) (w6 (s.outs+r16)) r17.1 r17.2.1 r17.2.2.1 r17.2.2.2.1)))))
noncomputable def Ez143J (s:St) (t:Pl):=Tr.lp (bxd s t)
noncomputable def Ez143 (n:Nat) (s:St) (t:Pl):=(Tz143 s t).d (Ez143J s t n)
noncomputable def bjZ (x:St×Pl×Unit):=Ez143 (x.2.1.m.length+64) x.1 x.2.1
noncomputable def wz143:Wk (St×Pl×Unit) Tn avg (Cod.ptr rTn).v:=⟨fun x=>ak7 x.1 x.2.1,uz143,fun x=>Tz143 x.1 x.2.1,fun x=>bxd x.1 x.2.1⟩
noncomputable def Kz143:=aS 143 Tryz.func143 [Kz63,K81,aya] noZ ⟨34,noL,(lookA [(1000000,⟨[4],[],0,[],[],[(3,1)],[]⟩)]),noL⟩ 128 Az143 (Cod.ptr rTn) bjZ wz143 (fun x=>x.2.1.m.length+64)
noncomputable def Az74:=Row.nil
noncomputable def Tz74:Tr ((List Nat)×Unit×(List Nat)×Unit×(List Nat)×Unit×(List Nat)×Unit×(List Nat)×Unit×(List Nat)×Unit×(List Nat)×Unit×(List Nat)×Unit×(List Nat)×Unit×(List Nat)×Unit×(List Nat)×Unit×(List Nat)×Unit×(List Nat)×Unit×Unit) Empty noS (Cod.agg (Row.cons cS (Row.cons (Cod.fn0 122) (Row.cons cS (Row.cons (Cod.fn0 123) (Row.cons cS (Row.cons (Cod.fn0 124) (Row.cons cS (Row.cons (Cod.fn0 125) (Row.cons cS (Row.cons (Cod.fn0 126) (Row.cons cS (Row.cons (Cod.fn0 127) (Row.cons cS (Row.cons (Cod.fn0 128) (Row.cons cS (Row.cons (Cod.fn0 129) (Row.cons cS (Row.cons (Cod.fn0 130) (Row.cons cS (Row.cons (Cod.fn0 131) (Row.cons cS (Row.cons (Cod.fn0 132) (Row.cons cS (Row.cons (Cod.fn0 133) (Row.cons cS (Row.cons (Cod.fn0 134) Row.nil))))))))))))))))))))))))))).v:=(.r ([112,105,116,99,104,101,115],(),[101,118,101,110,116],(),[98,97,116,116,101,114],(),[114,117,110,110,101,114,115],(),[98,97,116,116,101,114,39,115,32,119,97,121],(),[116,104,105,114,100,32,115,116,114,105,107,101],(),[105,110,102,105,101,108,100,32,102,108,121],(),[119,97,121,115],(),[98,97,108,107],(),[97,119,97,114,100,115],(),[111,114,100,101,114],(),[111,117,116,115],(),[108,97,116,101,32,114,117,110,115],(),()))
noncomputable def Ez74:=(Tz74).d noE
noncomputable def Sz74 (x:Unit):=Ez74
noncomputable def wz74:Wk (Unit) ((List Nat)×Unit×(List Nat)×Unit×(List Nat)×Unit×(List Nat)×Unit×(List Nat)×Unit×(List Nat)×Unit×(List Nat)×Unit×(List Nat)×Unit×(List Nat)×Unit×(List Nat)×Unit×(List Nat)×Unit×(List Nat)×Unit×(List Nat)×Unit×Unit) Empty (Cod.agg (Row.cons cS (Row.cons (Cod.fn0 122) (Row.cons cS (Row.cons (Cod.fn0 123) (Row.cons cS (Row.cons (Cod.fn0 124) (Row.cons cS (Row.cons (Cod.fn0 125) (Row.cons cS (Row.cons (Cod.fn0 126) (Row.cons cS (Row.cons (Cod.fn0 127) (Row.cons cS (Row.cons (Cod.fn0 128) (Row.cons cS (Row.cons (Cod.fn0 129) (Row.cons cS (Row.cons (Cod.fn0 130) (Row.cons cS (Row.cons (Cod.fn0 131) (Row.cons cS (Row.cons (Cod.fn0 132) (Row.cons cS (Row.cons (Cod.fn0 133) (Row.cons cS (Row.cons (Cod.fn0 134) Row.nil))))))))))))))))))))))))))).v:=wk0 fun x=>Tz74
noncomputable def Kz74:=aS 74 Tryz.func74 [] noZ ⟨15,noL,noL,noL⟩ 128 Az74 (Cod.agg (Row.cons cS (Row.cons (Cod.fn0 122) (Row.cons cS (Row.cons (Cod.fn0 123) (Row.cons cS (Row.cons (Cod.fn0 124) (Row.cons cS (Row.cons (Cod.fn0 125) (Row.cons cS (Row.cons (Cod.fn0 126) (Row.cons cS (Row.cons (Cod.fn0 127) (Row.cons cS (Row.cons (Cod.fn0 128) (Row.cons cS (Row.cons (Cod.fn0 129) (Row.cons cS (Row.cons (Cod.fn0 130) (Row.cons cS (Row.cons (Cod.fn0 131) (Row.cons cS (Row.cons (Cod.fn0 132) (Row.cons cS (Row.cons (Cod.fn0 133) (Row.cons cS (Row.cons (Cod.fn0 134) Row.nil))))))))))))))))))))))))))) Sz74 wz74 (fun _=>0)
noncomputable def Az122:=(Row.cons (Cod.ptr rTn) Row.nil)
noncomputable def Tz122 (s:Tn):Tr Bool Empty noS cB.v:=(.r (!s.counted))
noncomputable def Ez122 (s:Tn):=(Tz122 s).d noE
noncomputable def Sz122 (x:Tn×Unit):=Ez122 x.1
noncomputable def wz122:Wk (Tn×Unit) Bool Empty cB.v:=wk0 fun x=>Tz122 x.1
noncomputable def Kz122:=aS 122 Tryz.func122 [] noZ ⟨8,noL,noL,noL⟩ 128 Az122 cB Sz122 wz122 (fun _=>0)
noncomputable def Az191:=(Row.cons cS (Row.cons cS Row.nil))
noncomputable def Tz191 (s:List Nat) (t:List Nat):Tr Bool Empty noS cB.v:=(.i (decide (((t.length:Nat):Int)≤((s.length:Nat):Int))) (.i (decide ((0:Int)≤(w6 (((s.length:Nat):Int)-((t.length:Nat):Int))))&&decide ((w6 (((s.length:Nat):Int)-((t.length:Nat):Int)))≤((s.length:Nat):Int))) (.r (decide (((s.take s.length).drop ((w6 (((s.length:Nat):Int)-((t.length:Nat):Int))).toNat))=t))) .n) (.r false))
noncomputable def Ez191 (s:List Nat) (t:List Nat):=(Tz191 s t).d noE
noncomputable def Sz191 (x:(List Nat)×(List Nat)×Unit):=Ez191 x.1 x.2.1
noncomputable def wz191:Wk ((List Nat)×(List Nat)×Unit) Bool Empty cB.v:=wk0 fun x=>Tz191 x.1 x.2.1
noncomputable def Kz191:=aS 191 Tryz.func191 [] noZ ⟨21,noL,noL,noL⟩ 128 Az191 cB Sz191 wz191 (fun _=>0)
noncomputable def Az140:=(Row.cons cS (Row.cons cS Row.nil))
noncomputable def Tz140 (s:List Nat) (t:List Nat):Tr Bool Empty noS cB.v:=(.c Az191 Sz191 (s,t,()) fun r2=>(.r r2))
noncomputable def Ez140 (s:List Nat) (t:List Nat):=(Tz140 s t).d noE
noncomputable def bj0 (x:(List Nat)×(List Nat)×Unit):=Ez140 x.1 x.2.1
noncomputable def wz140:Wk ((List Nat)×(List Nat)×Unit) Bool Empty cB.v:=wk0 fun x=>Tz140 x.1 x.2.1
noncomputable def Kz140:=aS 140 Tryz.func140 [Kz191] noZ ⟨8,noL,noL,noL⟩ 128 Az140 cB bj0 wz140 (fun _=>0)
noncomputable def Az82:=(Row.cons (Cod.agg (Row.cons cI (Row.cons cI Row.nil))) (Row.cons cS Row.nil))
noncomputable def Tz82 (s:(Int)×(Int)×Unit) (t:List Nat):Tr (List Nat) Empty noS cS.v:=(.i (decide (2<s.2.1)) (.r [75]) (.i (decide (3<s.1)) (.r [87]) (.c Az140 bj0 (t,[72],()) fun r3=>(.i r3 (.r [72]) (.c Az140 bj0 (t,[88],()) fun r4=>(.i r4 (.r [88]) (.r [])))))))
noncomputable def Ez82 (s:(Int)×(Int)×Unit) (t:List Nat):=(Tz82 s t).d noE
noncomputable def Sz82 (x:((Int)×(Int)×Unit)×(List Nat)×Unit):=Ez82 x.1 x.2.1
noncomputable def wz82:Wk (((Int)×(Int)×Unit)×(List Nat)×Unit) (List Nat) Empty cS.v:=wk0 fun x=>Tz82 x.1 x.2.1
noncomputable def Kz82:=aS 82 Tryz.func82 [Kz140] noZ ⟨19,noL,noL,noL⟩ 128 Az82 cS Sz82 wz82 (fun _=>0)
noncomputable def axd:=(Row.cons (Cod.ptr rTn) Row.nil)
noncomputable def Tz145 (s:Tn):Tr Bool Empty noS cB.v:=(.r (decide (s.p_e=[])))
noncomputable def Ez145 (s:Tn):=(Tz145 s).d noE
noncomputable def u7 (x:Tn×Unit):=Ez145 x.1
noncomputable def wz145:Wk (Tn×Unit) Bool Empty cB.v:=wk0 fun x=>Tz145 x.1
noncomputable def bjl:=aS 145 Tryz.func145 [] noZ ⟨9,noL,noL,noL⟩ 128 axd cB u7 wz145 (fun _=>0)
noncomputable def kO:=(Row.cons (Cod.ptr rTn) (Row.cons cS Row.nil))
noncomputable def Tz178 (s:Tn) (t:List Nat):Tr Bool Empty noS cB.v:=(.i (!decide (s.p_e=[])) (.c azp y9 (t,s.p_e,()) fun r2=>(.r r2)) (.r false))
noncomputable def Ez178 (s:Tn) (t:List Nat):=(Tz178 s t).d noE
noncomputable def jE (x:Tn×(List Nat)×Unit):=Ez178 x.1 x.2.1
noncomputable def wz178:Wk (Tn×(List Nat)×Unit) Bool Empty cB.v:=wk0 fun x=>Tz178 x.1 x.2.1
noncomputable def avq:=aS 178 Tryz.func178 [K181] noZ ⟨20,noL,noL,noL⟩ 128 kO cB jE wz178 (fun _=>0)
noncomputable def Az123:=(Row.cons (Cod.ptr rTn) Row.nil)
noncomputable def Tz123 (s:Tn):Tr Bool Empty noS cB.v:=(.c Az82 Sz82 ((s.k0,s.k1,()),s.p_p,()) fun r5=>(.i (decide (r5=[])) (.c axd u7 (s,()) fun r6=>(.i (!r6) (.c kO jE (s,[73,78],()) fun r7=>(.r (!r7))) (.r false))) (.i (decide (r5=[88])) (.c kO jE (s,[88,89],()) fun r8=>(.r (!r8))) (.r (!decide (s.p_e=r5))))))
noncomputable def Ez123 (s:Tn):=(Tz123 s).d noE
noncomputable def bjc (x:Tn×Unit):=Ez123 x.1
noncomputable def wz123:Wk (Tn×Unit) Bool Empty cB.v:=wk0 fun x=>Tz123 x.1
noncomputable def Kz123:=aS 123 Tryz.func123 [Kz82,bjl,avq] noZ ⟨37,noL,noL,noL⟩ 128 Az123 cB bjc wz123 (fun _=>0)
noncomputable def bjv:=(Row.cons (Cod.ptr rTn) Row.nil)
noncomputable def Tz179 (s:Tn):Tr ((Mv)×(Bool)×Unit) Empty noS (Cod.tup (Row.cons (Cod.agg rMv) (Row.cons cB Row.nil))).v:=(.i (((s.p_m.length:Nat):Int)==0) (.w ((⟨0,0,false,[],[]⟩:Mv),false,()) (.tup [.agg [.int .i64 0,.int .i64 0,.bool false,.str [],.el []],.bool false]) ⟨by kernel_rfl⟩) (.i (inR (w6 (((s.p_m.length:Nat):Int)-1)) s.p_m.length) (.i (!((s.p_m.getD (w6 (((s.p_m.length:Nat):Int)-1)).toNat mv0).f==0)) (.w ((⟨0,0,false,[],[]⟩:Mv),false,()) (.tup [.agg [.int .i64 0,.int .i64 0,.bool false,.str [],.el []],.bool false]) ⟨by kernel_rfl⟩) (.i (inR (w6 (((s.p_m.length:Nat):Int)-1)) s.p_m.length) (.r ((s.p_m.getD (w6 (((s.p_m.length:Nat):Int)-1)).toNat mv0),true,())) .n)) .n))
noncomputable def Ez179 (s:Tn):=(Tz179 s).d noE
noncomputable def ay3 (x:Tn×Unit):=Ez179 x.1
noncomputable def wz179:Wk (Tn×Unit) ((Mv)×(Bool)×Unit) Empty (Cod.tup (Row.cons (Cod.agg rMv) (Row.cons cB Row.nil))).v:=wk0 fun x=>Tz179 x.1
noncomputable def Kz179:=aS 179 Tryz.func179 [] noZ ⟨30,noL,noL,noL⟩ 128 bjv (Cod.tup (Row.cons (Cod.agg rMv) (Row.cons cB Row.nil))) ay3 wz179 (fun _=>0)
noncomputable def Az124:=(Row.cons (Cod.ptr rTn) Row.nil)
noncomputable def Tz124 (s:Tn):Tr Bool Empty noS cB.v:=(.c bjv ay3 (s,()) fun r3=>(.c axd u7 (s,()) fun r4=>(.r (r3.2.1==r4))))
noncomputable def Ez124 (s:Tn):=(Tz124 s).d noE
noncomputable def bjb (x:Tn×Unit):=Ez124 x.1
noncomputable def wz124:Wk (Tn×Unit) Bool Empty cB.v:=wk0 fun x=>Tz124 x.1
noncomputable def Kz124:=aS 124 Tryz.func124 [bjl,Kz179] noZ ⟨14,noL,noL,noL⟩ 128 Az124 cB bjb wz124 (fun _=>0)
noncomputable def Az125:=(Row.cons (Cod.ptr rTn) Row.nil)
inductive ax7 where
 | k200002 (x1:Int)
noncomputable def uz125:ax7→Nat
 | .k200002 _=>200002
noncomputable def akc (s:Tn):ax7→D
 | .k200002 x1=>mE [(0,.raw (.yieldf 4)),(6,(Cod.list mv0 rMv).v s.p_m),(7,.int .i64 ((s.p_m.length:Nat):Int)),(8,.int .i64 x1)] [] none [[(1,.ptr 0 0),(2,.ptr 1 0),(8,.fn 213 [.ptr 2 0])]] 5 [(0,.row ⟨[.lptr (rTn.v s) 0],129,false⟩),(1,.row ⟨[.bool false],4,false⟩),(2,.row ⟨[.str s.p_p,.str s.p_e,.bool s.p_l,(Cod.list mv0 rMv).v s.p_m],56,false⟩),(3,.dfr false),(4,.loop .ready none 20 [(1,.ptr 0 0),(2,.ptr 1 0),(8,.fn 213 [.ptr 2 0])] [9] (subC (q7 Tryz.f125) [1,0,1,0,0]) (subC (q7 Tryz.f125) [1,0,1,0,1]))] 128 []
noncomputable def aqr (s:Tn):(l_:ax7)→Tr Bool ax7 (akc s) cB.v
 | .k200002 x1=>(.i (decide (x1<((s.p_m.length:Nat):Int))) (.i (inR x1 s.p_m.length) (.i (decide (0<(s.p_m.getD x1.toNat mv0).f)) (.i ((w6 ((s.p_m.getD x1.toNat mv0).f-1))==0) (.i (s.s_b1==0) (.r true) (.g (.k200002 (w6 (x1+1))))) (.i ((w6 ((s.p_m.getD x1.toNat mv0).f-1))==1) (.i (s.s_b2==0) (.r true) (.g (.k200002 (w6 (x1+1))))) (.i ((w6 ((s.p_m.getD x1.toNat mv0).f-1))==2) (.i (s.s_b3==0) (.r true) (.g (.k200002 (w6 (x1+1))))) .n))) (.g (.k200002 (w6 (x1+1))))) .n) (.r false))
noncomputable def Tz125 (s:Tn):Tr Bool ax7 (akc s) cB.v:=(.g (.k200002 0))
noncomputable def azo (s:Tn):=Tr.lp (aqr s)
theorem azn {s:Tn}{n:Nat}{l_:ax7}:azo s (n+1) l_=(aqr s l_).d (azo s n):=rfl
noncomputable def Ez125 (n:Nat) (s:Tn):=(Tz125 s).d (azo s n)
noncomputable def bja (x:Tn×Unit):=Ez125 (x.1.p_m.length+64) x.1
noncomputable def wz125:Wk (Tn×Unit) Bool ax7 cB.v:=⟨fun x=>akc x.1,uz125,fun x=>Tz125 x.1,fun x=>aqr x.1⟩
noncomputable def Kz125:=aS 125 Tryz.func125 [] noZ ⟨20,(lookA [(100001,⟨[0,6,7,8],[0,1,2,3,4],5,[],[],[],[]⟩)]),noL,(lookA [(2,⟨213,100000,3,22,[],[1,2,8]⟩)])⟩ 128 Az125 cB bja wz125 (fun x=>x.1.p_m.length+64)
noncomputable def Az126:=(Row.cons (Cod.ptr rTn) Row.nil)
noncomputable def Tz126 (s:Tn):Tr Bool Empty noS cB.v:=(.c bjv ay3 (s,()) fun r10=>(.i (!r10.2.1) (.r false) (.i (decide (s.p_e=[75])) (.c azp y9 ([107,102,103,112,116],r10.1.h,()) fun r11=>(.i (!r11) (.r true) (.i (decide (r10.1.h=[97])) (.r (!(r10.1.t==1))) (.r false)))) (.i (decide (s.p_e=[87])) (.c azp y9 ([97],r10.1.h,()) fun r12=>(.i (!r12) (.r true) (.i (decide (r10.1.h=[97])) (.r (!(r10.1.t==1))) (.r false)))) (.i (decide (s.p_e=[72])) (.c azp y9 ([97],r10.1.h,()) fun r13=>(.i (!r13) (.r true) (.i (decide (r10.1.h=[97])) (.r (!(r10.1.t==1))) (.r false)))) (.i (decide (s.p_e=[73])) (.c azp y9 ([97],r10.1.h,()) fun r14=>(.i (!r14) (.r true) (.i (decide (r10.1.h=[97])) (.r (!(r10.1.t==1))) (.r false)))) (.i (decide (s.p_e=[88])) (.c azp y9 ([98,116,111,102,99,103],r10.1.h,()) fun r15=>(.i (!r15) (.r true) (.i (decide (r10.1.h=[97])) (.r (!(r10.1.t==1))) (.r false)))) (.i (decide (s.p_e=[78])) (.c azp y9 ([110],r10.1.h,()) fun r16=>(.i (!r16) (.r true) (.i (decide (r10.1.h=[97])) (.r (!(r10.1.t==1))) (.r false)))) (.i (decide (s.p_e=[89])) (.c azp y9 ([121],r10.1.h,()) fun r17=>(.i (!r17) (.r true) (.i (decide (r10.1.h=[97])) (.r (!(r10.1.t==1))) (.r false)))) (.c azp y9 ([],r10.1.h,()) fun r18=>(.i (!r18) (.r true) (.i (decide (r10.1.h=[97])) (.r (!(r10.1.t==1))) (.r false)))))))))))))
noncomputable def Ez126 (s:Tn):=(Tz126 s).d noE
noncomputable def bj9 (x:Tn×Unit):=Ez126 x.1
noncomputable def wz126:Wk (Tn×Unit) Bool Empty cB.v:=wk0 fun x=>Tz126 x.1
noncomputable def Kz126:=aS 126 Tryz.func126 [Kz179,K181] noZ ⟨36,noL,noL,noL⟩ 128 Az126 cB bj9 wz126 (fun _=>0)
noncomputable def axc:=(Row.cons (Cod.ptr rTn) (Row.cons cS Row.nil))
noncomputable def Tz182 (s:Tn) (t:List Nat):Tr Bool Empty noS cB.v:=(.c bjv ay3 (s,()) fun r3=>(.i r3.2.1 (.i r3.1.o (.c azp y9 (t,r3.1.h,()) fun r4=>(.r r4)) (.r false)) (.r false)))
noncomputable def Ez182 (s:Tn) (t:List Nat):=(Tz182 s t).d noE
noncomputable def aqz (x:Tn×(List Nat)×Unit):=Ez182 x.1 x.2.1
noncomputable def wz182:Wk (Tn×(List Nat)×Unit) Bool Empty cB.v:=wk0 fun x=>Tz182 x.1 x.2.1
noncomputable def Kz182:=aS 182 Tryz.func182 [Kz179,K181] noZ ⟨23,noL,noL,noL⟩ 128 axc cB aqz wz182 (fun _=>0)
noncomputable def Az127:=(Row.cons (Cod.ptr rTn) Row.nil)
noncomputable def Tz127 (s:Tn):Tr Bool Empty noS cB.v:=(.c kO jE (s,[75],()) fun r3=>(.i r3 (.c axc aqz (s,[107],()) fun r4=>(.i (!r4) (.i (!(s.s_b1==0)) (.r (decide (s.s_outs<2))) (.r false)) (.r false))) (.r false)))
noncomputable def Ez127 (s:Tn):=(Tz127 s).d noE
noncomputable def bj8 (x:Tn×Unit):=Ez127 x.1
noncomputable def wz127:Wk (Tn×Unit) Bool Empty cB.v:=wk0 fun x=>Tz127 x.1
noncomputable def Kz127:=aS 127 Tryz.func127 [avq,Kz182] noZ ⟨27,noL,noL,noL⟩ 128 Az127 cB bj8 wz127 (fun _=>0)
noncomputable def Az128:=(Row.cons (Cod.ptr rTn) Row.nil)
noncomputable def Tz128 (s:Tn):Tr Bool Empty noS cB.v:=(.c kO jE (s,[89],()) fun r2=>(.i r2 (.i (s.s_outs==2) (.r true) (.i (s.s_b1==0) (.r true) (.r (s.s_b2==0)))) (.r false)))
noncomputable def Ez128 (s:Tn):=(Tz128 s).d noE
noncomputable def bj7 (x:Tn×Unit):=Ez128 x.1
noncomputable def wz128:Wk (Tn×Unit) Bool Empty cB.v:=wk0 fun x=>Tz128 x.1
noncomputable def Kz128:=aS 128 Tryz.func128 [avq] noZ ⟨31,noL,noL,noL⟩ 128 Az128 cB bj7 wz128 (fun _=>0)
noncomputable def Az183:=(Row.cons (Cod.ptr rTn) (Row.cons (Cod.agg rMv) Row.nil))
noncomputable def Tz183 (s:Tn) (t:Mv):Tr Bool Empty noS cB.v:=(.i (decide (t.h=[102])) (.i (t.f==0) (.i s.f0 (.c kO jE (s,[88,75],()) fun r18=>(.i r18 (.c axc aqz (s,[99,107],()) fun r19=>(.r (!r19))) (.r false))) (.r false)) (.i (t.f==1) (.i s.f1 (.c kO jE (s,[88,75],()) fun r16=>(.i r16 (.c axc aqz (s,[99,107],()) fun r17=>(.r (!r17))) (.r false))) (.r false)) (.i (t.f==2) (.i s.f2 (.c kO jE (s,[88,75],()) fun r14=>(.i r14 (.c axc aqz (s,[99,107],()) fun r15=>(.r (!r15))) (.r false))) (.r false)) (.i (t.f==3) (.i s.f3 (.c kO jE (s,[88,75],()) fun r12=>(.i r12 (.c axc aqz (s,[99,107],()) fun r13=>(.r (!r13))) (.r false))) (.r false)) .n)))) (.i (decide (t.h=[100])) (.c kO jE (s,[89],()) fun r20=>(.i r20 (.r true) (.c axc aqz (s,[99],()) fun r21=>(.r r21)))) (.c kO jE (s,[72,73,78],()) fun r22=>(.r (!r22)))))
noncomputable def Ez183 (s:Tn) (t:Mv):=(Tz183 s t).d noE
noncomputable def Sz183 (x:Tn×Mv×Unit):=Ez183 x.1 x.2.1
noncomputable def wz183:Wk (Tn×Mv×Unit) Bool Empty cB.v:=wk0 fun x=>Tz183 x.1 x.2.1
noncomputable def Kz183:=aS 183 Tryz.func183 [avq,Kz182] noZ ⟨36,noL,noL,noL⟩ 128 Az183 cB Sz183 wz183 (fun _=>0)
noncomputable def Az184:=(Row.cons (Cod.ptr rTn) (Row.cons (Cod.agg rMv) Row.nil))
noncomputable def Tz184 (s:Tn) (t:Mv):Tr Bool Empty noS cB.v:=(.i (decide (t.h=[98])) (.c kO jE (s,[88,89],()) fun r9=>(.r r9)) (.i (decide (t.h=[97])) (.c kO jE (s,[87,72,73],()) fun r10=>(.i r10 (.i (t.f==0) (.i s.f0 (.r (t.t==(w6 (t.f+1)))) (.r false)) (.i (t.f==1) (.i s.f1 (.r (t.t==(w6 (t.f+1)))) (.r false)) (.i (t.f==2) (.i s.f2 (.r (t.t==(w6 (t.f+1)))) (.r false)) (.i (t.f==3) (.i s.f3 (.r (t.t==(w6 (t.f+1)))) (.r false)) .n)))) (.r false))) (.i (decide (t.h=[115])) (.c axd u7 (s,()) fun r11=>(.i r11 (.r true) (.c kO jE (s,[75,87],()) fun r12=>(.r r12)))) (.i (decide (t.h=[112])) (.c axd u7 (s,()) fun r13=>(.i r13 (.r (!decide (s.p_p=[]))) (.c kO jE (s,[75,87],()) fun r14=>(.i r14 (.r (!decide (s.p_p=[]))) (.r false))))) (.i (decide (t.h=[107])) (.c axd u7 (s,()) fun r15=>(.r r15)) (.c kO jE (s,[72,73,78],()) fun r16=>(.r (!r16))))))))
noncomputable def Ez184 (s:Tn) (t:Mv):=(Tz184 s t).d noE
noncomputable def bjU (x:Tn×Mv×Unit):=Ez184 x.1 x.2.1
noncomputable def wz184:Wk (Tn×Mv×Unit) Bool Empty cB.v:=wk0 fun x=>Tz184 x.1 x.2.1
noncomputable def Kz184:=aS 184 Tryz.func184 [bjl,avq] noZ ⟨63,noL,noL,noL⟩ 128 Az184 cB bjU wz184 (fun _=>0)
noncomputable def Az129:=(Row.cons (Cod.ptr rTn) Row.nil)
inductive ax6 where
 | k200002 (x3:Int)
noncomputable def uz129:ax6→Nat
 | .k200002 _=>200002
noncomputable def akb (s:Tn):ax6→D
 | .k200002 x3=>mE [(0,.raw (.yieldf 4)),(6,(Cod.list mv0 rMv).v s.p_m),(7,.int .i64 ((s.p_m.length:Nat):Int)),(8,.int .i64 x3)] [] none [[(1,.ptr 0 0),(2,.ptr 1 0),(8,.fn 213 [.ptr 2 0])]] 5 [(0,.row ⟨[.lptr (rTn.v s) 0],129,false⟩),(1,.row ⟨[.bool false],4,false⟩),(2,.row ⟨[.str s.p_p,.str s.p_e,.bool s.p_l,(Cod.list mv0 rMv).v s.p_m],56,false⟩),(3,.dfr false),(4,.loop .ready none 29 [(1,.ptr 0 0),(2,.ptr 1 0),(8,.fn 213 [.ptr 2 0])] [9] (subC (q7 Tryz.f129) [1,0,1,0,0]) (subC (q7 Tryz.f129) [1,0,1,0,1]))] 128 []
noncomputable def aqq (s:Tn):(l_:ax6)→Tr Bool ax6 (akb s) cB.v
 | .k200002 x3=>(.i (decide (x3<((s.p_m.length:Nat):Int))) (.i (inR x3 s.p_m.length) (.i (decide (0<(s.p_m.getD x3.toNat mv0).f)) (.i ((s.p_m.getD x3.toNat mv0).o) (.c Az183 Sz183 (s,(s.p_m.getD x3.toNat mv0),()) fun r8=>(.i (!r8) (.r true) (.i (!(s.p_m.getD x3.toNat mv0).o) (.c Az184 bjU (s,(s.p_m.getD x3.toNat mv0),()) fun r9=>(.i (!r9) (.r true) (.g (.k200002 (w6 (x3+1)))))) (.g (.k200002 (w6 (x3+1))))))) (.i (!(s.p_m.getD x3.toNat mv0).o) (.c Az184 bjU (s,(s.p_m.getD x3.toNat mv0),()) fun r10=>(.i (!r10) (.r true) (.g (.k200002 (w6 (x3+1)))))) (.g (.k200002 (w6 (x3+1)))))) (.g (.k200002 (w6 (x3+1))))) .n) (.r false))
noncomputable def Tz129 (s:Tn):Tr Bool ax6 (akb s) cB.v:=(.g (.k200002 0))
noncomputable def azm (s:Tn):=Tr.lp (aqq s)
theorem azl {s:Tn}{n:Nat}{l_:ax6}:azm s (n+1) l_=(aqq s l_).d (azm s n):=rfl
noncomputable def Ez129 (n:Nat) (s:Tn):=(Tz129 s).d (azm s n)
noncomputable def bj6 (x:Tn×Unit):=Ez129 (x.1.p_m.length+64) x.1
noncomputable def wz129:Wk (Tn×Unit) Bool ax6 cB.v:=⟨fun x=>akb x.1,uz129,fun x=>Tz129 x.1,fun x=>aqq x.1⟩
noncomputable def Kz129:=aS 129 Tryz.func129 [Kz183,Kz184] noZ ⟨29,(lookA [(100001,⟨[0,6,7,8],[0,1,2,3,4],5,[],[],[],[]⟩)]),noL,(lookA [(2,⟨213,100000,3,22,[],[1,2,8]⟩)])⟩ 128 Az129 cB bj6 wz129 (fun x=>x.1.p_m.length+64)
noncomputable def Az186:=(Row.cons cI Row.nil)
noncomputable def Tz186 (s:Int):Tr Bool Empty noS cB.v:=(.r (!(s==0)))
noncomputable def Ez186 (s:Int):=(Tz186 s).d noE
noncomputable def Sz186 (x:Int×Unit):=Ez186 x.1
noncomputable def wz186:Wk (Int×Unit) Bool Empty cB.v:=wk0 fun x=>Tz186 x.1
noncomputable def Kz186:=aS 186 Tryz.func186 [] noZ ⟨5,noL,noL,noL⟩ 128 Az186 cB Sz186 wz186 (fun _=>0)
noncomputable def ajJ:=(Row.cons (Cod.list 0 aJ) (Row.cons (Cod.fn0 186) Row.nil))
inductive fZ where
 | k6 (x2:Int) (x3:Int)
noncomputable def akI:fZ→Nat
 | .k6 _ _=>6
noncomputable def oP (s:List (Int)) (t:Unit):fZ→D
 | .k6 x2 x3=>mD [(1,.raw (.func 186 [])),(5,.int .i64 x2),(8,(Cod.list 0 aJ).v s),(9,.int .i64 ((s.length:Nat):Int)),(10,.int .i64 x3)] 0 [] 128 []
noncomputable def lO (s:List (Int)) (t:Unit):(l_:fZ)→Tr Int fZ (oP s t) cI.v
 | .k6 x2 x3=>(.i (decide (x3<((s.length:Nat):Int))) (.i (inR x3 s.length) (.c Az186 Sz186 ((s.getD x3.toNat 0),()) fun r5=>(.i r5 (.g (.k6 (w6 (x2+1)) (w6 (x3+1)))) (.g (.k6 x2 (w6 (x3+1)))))) .n) (.r x2))
noncomputable def t6 (s:List (Int)) (t:Unit):Tr Int fZ (oP s t) cI.v:=(.g (.k6 0 0))
noncomputable def lP (s:List (Int)) (t:Unit):=Tr.lp (lO s t)
theorem ajD {s:List (Int)}{t:Unit}{n:Nat}{l_:fZ}:lP s t (n+1) l_=(lO s t l_).d (lP s t n):=rfl
noncomputable def uH (n:Nat) (s:List (Int)) (t:Unit):=(t6 s t).d (lP s t n)
noncomputable def uB (x:(List (Int))×Unit×Unit):=uH (x.1.length+64) x.1 x.2.1
noncomputable def akC:Wk ((List (Int))×Unit×Unit) Int fZ cI.v:=⟨fun x=>oP x.1 x.2.1,akI,fun x=>t6 x.1 x.2.1,fun x=>lO x.1 x.2.1⟩
noncomputable def ayc:=aS 185 Tryz.func185 [Kz186] noZ ⟨21,(lookA [(3,⟨[1,5,8,9,10],[],0,[],[],[],[]⟩)]),noL,noL⟩ 128 ajJ cI uB akC (fun x=>x.1.length+64)
noncomputable def Az130:=(Row.cons (Cod.ptr rTn) Row.nil)
inductive ax5 where
 | k200002 (x1:Int) (x2:Bool) (x3:Int)
noncomputable def uz130:ax5→Nat
 | .k200002 _ _ _=>200002
noncomputable def aka (s:Tn):ax5→D
 | .k200002 x1 x2 x3=>mE [(0,.raw (.yieldf 4)),(6,(Cod.list mv0 rMv).v s.p_m),(7,.int .i64 ((s.p_m.length:Nat):Int)),(8,.int .i64 x1)] [] none [[(0,.lptr (rTn.v s) 0),(2,.bool false),(3,.ptr 0 0),(4,.ptr 1 0),(10,.fn 213 [.ptr 2 0])]] 5 [(0,.row ⟨[.bool x2],4,false⟩),(1,.row ⟨[.int .i64 x3],3,false⟩),(2,.row ⟨[.str s.p_p,.str s.p_e,.bool s.p_l,(Cod.list mv0 rMv).v s.p_m],56,false⟩),(3,.dfr false),(4,.loop .ready none 34 [(0,.lptr (rTn.v s) 0),(2,.bool false),(3,.ptr 0 0),(4,.ptr 1 0),(10,.fn 213 [.ptr 2 0])] [11] (subC (q7 Tryz.f130) [1,1,0,1,0,0]) (subC (q7 Tryz.f130) [1,1,0,1,0,1]))] 128 []
noncomputable def aqp (s:Tn):(l_:ax5)→Tr Bool ax5 (aka s) cB.v
 | .k200002 x1 x2 x3=>(.i (decide (x1<((s.p_m.length:Nat):Int))) (.i (inR x1 s.p_m.length) (.i (decide (0<(s.p_m.getD x1.toNat mv0).f)) (.i (decide (((s.p_m.getD x1.toNat mv0).h)=[107])) (.i ((s.p_m.getD x1.toNat mv0).t==(w6 ((s.p_m.getD x1.toNat mv0).f+1))) (.g (.k200002 (w6 (x1+1)) true (w6 (x3+1)))) (.g (.k200002 (w6 (x1+1)) true x3))) (.g (.k200002 (w6 (x1+1)) x2 x3))) (.g (.k200002 (w6 (x1+1)) x2 x3))) .n) (.i x2 (.c ajJ uB ([s.s_b1,s.s_b2,s.s_b3],(),()) fun r5=>(.r (decide (x3<r5)))) (.r false)))
noncomputable def Tz130 (s:Tn):Tr Bool ax5 (aka s) cB.v:=(.g (.k200002 0 false 0))
noncomputable def azk (s:Tn):=Tr.lp (aqp s)
theorem azj {s:Tn}{n:Nat}{l_:ax5}:azk s (n+1) l_=(aqp s l_).d (azk s n):=rfl
noncomputable def Ez130 (n:Nat) (s:Tn):=(Tz130 s).d (azk s n)
noncomputable def bj5 (x:Tn×Unit):=Ez130 (x.1.p_m.length+64) x.1
noncomputable def wz130:Wk (Tn×Unit) Bool ax5 cB.v:=⟨fun x=>aka x.1,uz130,fun x=>Tz130 x.1,fun x=>aqp x.1⟩
noncomputable def Kz130:=aS 130 Tryz.func130 [ayc] noZ ⟨34,(lookA [(100001,⟨[0,6,7,8],[0,1,2,3,4],5,[],[],[],[]⟩)]),noL,(lookA [(3,⟨213,100000,3,22,[],[0,2,3,4,10]⟩)])⟩ 128 Az130 cB bj5 wz130 (fun x=>x.1.p_m.length+64)
noncomputable def Az131:=(Row.cons (Cod.ptr rTn) Row.nil)
inductive ax4 where
 | k10 (x2:Int) (x3:Bool) (x4:Bool) (x5:Bool) (x6:Bool)
noncomputable def uz131:ax4→Nat
 | .k10 _ _ _ _ _=>10
noncomputable def ak9 (s:Tn):ax4→D
 | .k10 x2 x3 x4 x5 x6=>mD [(3,.ptr 0 0),(17,(Cod.list mv0 rMv).v s.p_m),(18,.int .i64 ((s.p_m.length:Nat):Int)),(19,.int .i64 x2)] 1 [(0,.row ⟨[.bool x6,.bool x5,.bool x4,.bool x3],33,false⟩)] 128 []
noncomputable def aqo (s:Tn):(l_:ax4)→Tr Bool ax4 (ak9 s) cB.v
 | .k10 x2 x3 x4 x5 x6=>(.i (decide (x2<((s.p_m.length:Nat):Int))) (.i (inR x2 s.p_m.length) (.i (!(s.p_m.getD x2.toNat mv0).o) (.i ((s.p_m.getD x2.toNat mv0).f==0) (.g (.k10 (w6 (x2+1)) x3 x4 x5 false)) (.i ((s.p_m.getD x2.toNat mv0).f==1) (.g (.k10 (w6 (x2+1)) x3 x4 false x6)) (.i ((s.p_m.getD x2.toNat mv0).f==2) (.g (.k10 (w6 (x2+1)) x3 false x5 x6)) (.i ((s.p_m.getD x2.toNat mv0).f==3) (.g (.k10 (w6 (x2+1)) false x4 x5 x6)) .n)))) (.g (.k10 (w6 (x2+1)) x3 x4 x5 x6))) .n) (.r (!((x6==false)&&((x5==false)&&((x4==false)&&((x3==false)&&true)))))))
noncomputable def Tz131 (s:Tn):Tr Bool ax4 (ak9 s) cB.v:=(.c kO jE (s,[87,72,73],()) fun r8=>(.i (!r8) (.r false) (.g (.k10 0 s.f3 s.f2 s.f1 s.f0))))
noncomputable def ajF (s:Tn):=Tr.lp (aqo s)
theorem azi {s:Tn}{n:Nat}{l_:ax4}:ajF s (n+1) l_=(aqo s l_).d (ajF s n):=rfl
noncomputable def Ez131 (n:Nat) (s:Tn):=(Tz131 s).d (ajF s n)
noncomputable def bj4 (x:Tn×Unit):=Ez131 (x.1.p_m.length+64) x.1
noncomputable def wz131:Wk (Tn×Unit) Bool ax4 cB.v:=⟨fun x=>ak9 x.1,uz131,fun x=>Tz131 x.1,fun x=>aqo x.1⟩
noncomputable def Kz131:=aS 131 Tryz.func131 [avq] noZ ⟨33,(lookA [(5,⟨[3,17,18,19],[0],1,[],[],[],[]⟩)]),noL,noL⟩ 128 Az131 cB bj4 wz131 (fun x=>x.1.p_m.length+64)
noncomputable def Az152:=(Row.cons (Cod.ptr rTn) Row.nil)
inductive ax1 where
 | k6 (x1:Int) (x2:Int) (x3:Int) (x4:Int) (x5:Int)
 | k18 (x6:Int) (x7:Int) (x8:Int) (x9:Int) (x10:Int)
noncomputable def uz152:ax1→Nat
 | .k6 _ _ _ _ _=>6
 | .k18 _ _ _ _ _=>18
noncomputable def ak3 (s:Tn):ax1→D
 | .k6 x1 x2 x3 x4 x5=>mD [(0,.lptr (rTn.v s) 0),(2,.ptr 0 0),(3,.ptr 1 0),(12,.agg [.int .i64 s.s_b1,.int .i64 s.s_b2,.int .i64 s.s_b3]),(13,.int .i64 x1)] 2 [(0,.row ⟨[.int .i64 0,.int .i64 0,.int .i64 0,.int .i64 0],176,false⟩),(1,.row ⟨[.int .i64 x5,.int .i64 x2,.int .i64 x4,.int .i64 x3],176,false⟩)] 128 []
 | .k18 x6 x7 x8 x9 x10=>mD [(2,.ptr 0 0),(3,.ptr 1 0),(29,(Cod.list mv0 rMv).v s.p_m),(30,.int .i64 ((s.p_m.length:Nat):Int)),(31,.int .i64 x10)] 2 [(0,.row ⟨[.int .i64 0,.int .i64 0,.int .i64 0,.int .i64 0],176,false⟩),(1,.row ⟨[.int .i64 x7,.int .i64 x6,.int .i64 x8,.int .i64 x9],176,false⟩)] 128 []
noncomputable def wN (s:Tn):(l_:ax1)→Tr ((Int)×(Int)×(Int)×(Int)×Unit) ax1 (ak3 s) (Cod.agg (Row.cons cI (Row.cons cI (Row.cons cI (Row.cons cI Row.nil))))).v
 | .k6 x1 x2 x3 x4 x5=>(.i (decide (x1<3)) (.i (x1==0) (.i (!(s.s_b1==0)) (.i ((w6 (x1+1))==0) (.g (.k6 (w6 (x1+1)) x2 x3 x4 (w6 (x1+1)))) (.i ((w6 (x1+1))==1) (.g (.k6 (w6 (x1+1)) (w6 (x1+1)) x3 x4 x5)) (.i ((w6 (x1+1))==2) (.g (.k6 (w6 (x1+1)) x2 x3 (w6 (x1+1)) x5)) (.i ((w6 (x1+1))==3) (.g (.k6 (w6 (x1+1)) x2 (w6 (x1+1)) x4 x5)) .n)))) (.g (.k6 (w6 (x1+1)) x2 x3 x4 x5))) (.i (x1==1) (.i (!(s.s_b2==0)) (.i ((w6 (x1+1))==0) (.g (.k6 (w6 (x1+1)) x2 x3 x4 (w6 (x1+1)))) (.i ((w6 (x1+1))==1) (.g (.k6 (w6 (x1+1)) (w6 (x1+1)) x3 x4 x5)) (.i ((w6 (x1+1))==2) (.g (.k6 (w6 (x1+1)) x2 x3 (w6 (x1+1)) x5)) (.i ((w6 (x1+1))==3) (.g (.k6 (w6 (x1+1)) x2 (w6 (x1+1)) x4 x5)) .n)))) (.g (.k6 (w6 (x1+1)) x2 x3 x4 x5))) (.i (x1==2) (.i (!(s.s_b3==0)) (.i ((w6 (x1+1))==0) (.g (.k6 (w6 (x1+1)) x2 x3 x4 (w6 (x1+1)))) (.i ((w6 (x1+1))==1) (.g (.k6 (w6 (x1+1)) (w6 (x1+1)) x3 x4 x5)) (.i ((w6 (x1+1))==2) (.g (.k6 (w6 (x1+1)) x2 x3 (w6 (x1+1)) x5)) (.i ((w6 (x1+1))==3) (.g (.k6 (w6 (x1+1)) x2 (w6 (x1+1)) x4 x5)) .n)))) (.g (.k6 (w6 (x1+1)) x2 x3 x4 x5))) .n))) (.g (.k18 x2 x5 x4 x3 0)))
 | .k18 x6 x7 x8 x9 x10=>(.i (decide (x10<((s.p_m.length:Nat):Int))) (.i (inR x10 s.p_m.length) (.i ((s.p_m.getD x10.toNat mv0).f==0) (.i ((s.p_m.getD x10.toNat mv0).o) (.i ((s.p_m.getD x10.toNat mv0).f==0) (.g (.k18 x6 0 x8 x9 (w6 (x10+1)))) (.i ((s.p_m.getD x10.toNat mv0).f==1) (.g (.k18 0 (s.p_m.getD x10.toNat mv0).t x8 x9 (w6 (x10+1)))) (.i ((s.p_m.getD x10.toNat mv0).f==2) (.g (.k18 x6 (s.p_m.getD x10.toNat mv0).t 0 x9 (w6 (x10+1)))) (.i ((s.p_m.getD x10.toNat mv0).f==3) (.g (.k18 x6 (s.p_m.getD x10.toNat mv0).t x8 0 (w6 (x10+1)))) .n)))) (.g (.k18 x6 (s.p_m.getD x10.toNat mv0).t x8 x9 (w6 (x10+1))))) (.i ((s.p_m.getD x10.toNat mv0).f==1) (.i ((s.p_m.getD x10.toNat mv0).o) (.i ((s.p_m.getD x10.toNat mv0).f==0) (.g (.k18 (s.p_m.getD x10.toNat mv0).t 0 x8 x9 (w6 (x10+1)))) (.i ((s.p_m.getD x10.toNat mv0).f==1) (.g (.k18 0 x7 x8 x9 (w6 (x10+1)))) (.i ((s.p_m.getD x10.toNat mv0).f==2) (.g (.k18 (s.p_m.getD x10.toNat mv0).t x7 0 x9 (w6 (x10+1)))) (.i ((s.p_m.getD x10.toNat mv0).f==3) (.g (.k18 (s.p_m.getD x10.toNat mv0).t x7 x8 0 (w6 (x10+1)))) .n)))) (.g (.k18 (s.p_m.getD x10.toNat mv0).t x7 x8 x9 (w6 (x10+1))))) (.i ((s.p_m.getD x10.toNat mv0).f==2) (.i ((s.p_m.getD x10.toNat mv0).o) (.i ((s.p_m.getD x10.toNat mv0).f==0) (.g (.k18 x6 0 (s.p_m.getD x10.toNat mv0).t x9 (w6 (x10+1)))) (.i ((s.p_m.getD x10.toNat mv0).f==1) (.g (.k18 0 x7 (s.p_m.getD x10.toNat mv0).t x9 (w6 (x10+1)))) (.i ((s.p_m.getD x10.toNat mv0).f==2) (.g (.k18 x6 x7 0 x9 (w6 (x10+1)))) (.i ((s.p_m.getD x10.toNat mv0).f==3) (.g (.k18 x6 x7 (s.p_m.getD x10.toNat mv0).t 0 (w6 (x10+1)))) .n)))) (.g (.k18 x6 x7 (s.p_m.getD x10.toNat mv0).t x9 (w6 (x10+1))))) (.i ((s.p_m.getD x10.toNat mv0).f==3) (.i ((s.p_m.getD x10.toNat mv0).o) (.i ((s.p_m.getD x10.toNat mv0).f==0) (.g (.k18 x6 0 x8 (s.p_m.getD x10.toNat mv0).t (w6 (x10+1)))) (.i ((s.p_m.getD x10.toNat mv0).f==1) (.g (.k18 0 x7 x8 (s.p_m.getD x10.toNat mv0).t (w6 (x10+1)))) (.i ((s.p_m.getD x10.toNat mv0).f==2) (.g (.k18 x6 x7 0 (s.p_m.getD x10.toNat mv0).t (w6 (x10+1)))) (.i ((s.p_m.getD x10.toNat mv0).f==3) (.g (.k18 x6 x7 x8 0 (w6 (x10+1)))) .n)))) (.g (.k18 x6 x7 x8 (s.p_m.getD x10.toNat mv0).t (w6 (x10+1))))) .n)))) .n) (.r (x7,x6,x8,x9,())))
noncomputable def Tz152 (s:Tn):Tr ((Int)×(Int)×(Int)×(Int)×Unit) ax1 (ak3 s) (Cod.agg (Row.cons cI (Row.cons cI (Row.cons cI (Row.cons cI Row.nil))))).v:=(.g (.k6 0 0 0 0 0))
noncomputable def wQ (s:Tn):=Tr.lp (wN s)
theorem zD {s:Tn}{n:Nat}{l_:ax1}:wQ s (n+1) l_=(wN s l_).d (wQ s n):=rfl
noncomputable def Ez152 (n:Nat) (s:Tn):=(Tz152 s).d (wQ s n)
noncomputable def ay5 (x:Tn×Unit):=Ez152 (x.1.p_m.length+64) x.1
noncomputable def wz152:Wk (Tn×Unit) ((Int)×(Int)×(Int)×(Int)×Unit) ax1 (Cod.agg (Row.cons cI (Row.cons cI (Row.cons cI (Row.cons cI Row.nil))))).v:=⟨fun x=>ak3 x.1,uz152,fun x=>Tz152 x.1,fun x=>wN x.1⟩
noncomputable def Kz152:=aS 152 Tryz.func152 [] noZ ⟨47,(lookA [(3,⟨[0,2,3,12,13],[0,1],2,[],[],[],[]⟩),(9,⟨[2,3,29,30,31],[0,1],2,[],[],[],[]⟩)]),noL,noL⟩ 128 Az152 (Cod.agg (Row.cons cI (Row.cons cI (Row.cons cI (Row.cons cI Row.nil))))) ay5 wz152 (fun x=>x.1.p_m.length+64)
noncomputable def Az132:=(Row.cons (Cod.ptr rTn) Row.nil)
inductive avh where
 | k6_0 (x2:Int) (x3:Int) (x4:Int) (x5:Int) (x6:Int) (x7:Int) (x8:Int) (x9:Int)
 | k12_0 (x10:Int) (x11:Int) (x12:Int) (x13:Int) (x14:Int) (x15:Int) (x16:Int) (x17:Int) (x18:Int)
 | k6_1 (x19:Int) (x20:Int) (x21:Int) (x22:Int) (x23:Int) (x24:Int) (x25:Int) (x26:Int)
 | k12_1 (x27:Int) (x28:Int) (x29:Int) (x30:Int) (x31:Int) (x32:Int) (x33:Int) (x34:Int) (x35:Int)
 | k12_2 (x36:Int) (x37:Int) (x38:Int) (x39:Int) (x40:Int) (x41:Int) (x42:Int) (x43:Int) (x44:Int)
 | k6_2 (x45:Int) (x46:Int) (x47:Int) (x48:Int) (x49:Int) (x50:Int) (x51:Int) (x52:Int)
 | k12_3 (x53:Int) (x54:Int) (x55:Int) (x56:Int) (x57:Int) (x58:Int) (x59:Int) (x60:Int) (x61:Int)
 | k12_4 (x62:Int) (x63:Int) (x64:Int) (x65:Int) (x66:Int) (x67:Int) (x68:Int) (x69:Int) (x70:Int)
 | k12_5 (x71:Int) (x72:Int) (x73:Int) (x74:Int) (x75:Int) (x76:Int) (x77:Int) (x78:Int) (x79:Int)
 | k6_3 (x80:Int) (x81:Int) (x82:Int) (x83:Int) (x84:Int) (x85:Int) (x86:Int) (x87:Int)
 | k12_6 (x88:Int) (x89:Int) (x90:Int) (x91:Int) (x92:Int) (x93:Int) (x94:Int) (x95:Int) (x96:Int)
 | k12_7 (x97:Int) (x98:Int) (x99:Int) (x100:Int) (x101:Int) (x102:Int) (x103:Int) (x104:Int) (x105:Int)
 | k12_8 (x106:Int) (x107:Int) (x108:Int) (x109:Int) (x110:Int) (x111:Int) (x112:Int) (x113:Int) (x114:Int)
 | k12_9 (x115:Int) (x116:Int) (x117:Int) (x118:Int) (x119:Int) (x120:Int) (x121:Int) (x122:Int) (x123:Int)
 | k6_4 (x124:Int) (x125:Int) (x126:Int) (x127:Int) (x128:Int) (x129:Int) (x130:Int) (x131:Int)
noncomputable def uz132:avh→Nat
 | .k6_0 _ _ _ _ _ _ _ _=>6
 | .k12_0 _ _ _ _ _ _ _ _ _=>12
 | .k6_1 _ _ _ _ _ _ _ _=>6
 | .k12_1 _ _ _ _ _ _ _ _ _=>12
 | .k12_2 _ _ _ _ _ _ _ _ _=>12
 | .k6_2 _ _ _ _ _ _ _ _=>6
 | .k12_3 _ _ _ _ _ _ _ _ _=>12
 | .k12_4 _ _ _ _ _ _ _ _ _=>12
 | .k12_5 _ _ _ _ _ _ _ _ _=>12
 | .k6_3 _ _ _ _ _ _ _ _=>6
 | .k12_6 _ _ _ _ _ _ _ _ _=>12
 | .k12_7 _ _ _ _ _ _ _ _ _=>12
 | .k12_8 _ _ _ _ _ _ _ _ _=>12
 | .k12_9 _ _ _ _ _ _ _ _ _=>12
 | .k6_4 _ _ _ _ _ _ _ _=>6
noncomputable def ak8 (s:Tn):avh→D
 | .k6_0 x2 x3 x4 x5 x6 x7 x8 x9=>mD [(3,.ptr 0 0),(10,.agg [.int .i64 x2,.int .i64 x3,.int .i64 x4,.int .i64 x5]),(11,.int .i64 0)] 1 [(0,.row ⟨[.int .i64 x6,.int .i64 x7,.int .i64 x8,.int .i64 x9],176,false⟩)] 128 []
 | .k12_0 x10 x11 x12 x13 x14 x15 x16 x17 x18=>mD [(3,.ptr 0 0),(5,.int .i64 x10),(10,.agg [.int .i64 x11,.int .i64 x12,.int .i64 x13,.int .i64 x14]),(11,.int .i64 0),(16,.sl 0 0 0 (.exact 4)),(17,.int .i64 0),(18,.int .i64 0)] 1 [(0,.row ⟨[.int .i64 x15,.int .i64 x16,.int .i64 x17,.int .i64 x18],176,false⟩)] 128 []
 | .k6_1 x19 x20 x21 x22 x23 x24 x25 x26=>mD [(3,.ptr 0 0),(10,.agg [.int .i64 x19,.int .i64 x20,.int .i64 x21,.int .i64 x22]),(11,.int .i64 1)] 1 [(0,.row ⟨[.int .i64 x23,.int .i64 x24,.int .i64 x25,.int .i64 x26],176,false⟩)] 128 []
 | .k12_1 x27 x28 x29 x30 x31 x32 x33 x34 x35=>mD [(3,.ptr 0 0),(5,.int .i64 x27),(10,.agg [.int .i64 x28,.int .i64 x29,.int .i64 x30,.int .i64 x31]),(11,.int .i64 1),(16,.sl 0 0 1 (.exact 4)),(17,.int .i64 1),(18,.int .i64 0)] 1 [(0,.row ⟨[.int .i64 x32,.int .i64 x33,.int .i64 x34,.int .i64 x35],176,false⟩)] 128 []
 | .k12_2 x36 x37 x38 x39 x40 x41 x42 x43 x44=>mD [(3,.ptr 0 0),(5,.int .i64 x36),(10,.agg [.int .i64 x37,.int .i64 x38,.int .i64 x39,.int .i64 x40]),(11,.int .i64 1),(16,.sl 0 0 1 (.exact 4)),(17,.int .i64 1),(18,.int .i64 1)] 1 [(0,.row ⟨[.int .i64 x41,.int .i64 x42,.int .i64 x43,.int .i64 x44],176,false⟩)] 128 []
 | .k6_2 x45 x46 x47 x48 x49 x50 x51 x52=>mD [(3,.ptr 0 0),(10,.agg [.int .i64 x45,.int .i64 x46,.int .i64 x47,.int .i64 x48]),(11,.int .i64 2)] 1 [(0,.row ⟨[.int .i64 x49,.int .i64 x50,.int .i64 x51,.int .i64 x52],176,false⟩)] 128 []
 | .k12_3 x53 x54 x55 x56 x57 x58 x59 x60 x61=>mD [(3,.ptr 0 0),(5,.int .i64 x53),(10,.agg [.int .i64 x54,.int .i64 x55,.int .i64 x56,.int .i64 x57]),(11,.int .i64 2),(16,.sl 0 0 2 (.exact 4)),(17,.int .i64 2),(18,.int .i64 0)] 1 [(0,.row ⟨[.int .i64 x58,.int .i64 x59,.int .i64 x60,.int .i64 x61],176,false⟩)] 128 []
 | .k12_4 x62 x63 x64 x65 x66 x67 x68 x69 x70=>mD [(3,.ptr 0 0),(5,.int .i64 x62),(10,.agg [.int .i64 x63,.int .i64 x64,.int .i64 x65,.int .i64 x66]),(11,.int .i64 2),(16,.sl 0 0 2 (.exact 4)),(17,.int .i64 2),(18,.int .i64 1)] 1 [(0,.row ⟨[.int .i64 x67,.int .i64 x68,.int .i64 x69,.int .i64 x70],176,false⟩)] 128 []
 | .k12_5 x71 x72 x73 x74 x75 x76 x77 x78 x79=>mD [(3,.ptr 0 0),(5,.int .i64 x71),(10,.agg [.int .i64 x72,.int .i64 x73,.int .i64 x74,.int .i64 x75]),(11,.int .i64 2),(16,.sl 0 0 2 (.exact 4)),(17,.int .i64 2),(18,.int .i64 2)] 1 [(0,.row ⟨[.int .i64 x76,.int .i64 x77,.int .i64 x78,.int .i64 x79],176,false⟩)] 128 []
 | .k6_3 x80 x81 x82 x83 x84 x85 x86 x87=>mD [(3,.ptr 0 0),(10,.agg [.int .i64 x80,.int .i64 x81,.int .i64 x82,.int .i64 x83]),(11,.int .i64 3)] 1 [(0,.row ⟨[.int .i64 x84,.int .i64 x85,.int .i64 x86,.int .i64 x87],176,false⟩)] 128 []
 | .k12_6 x88 x89 x90 x91 x92 x93 x94 x95 x96=>mD [(3,.ptr 0 0),(5,.int .i64 x88),(10,.agg [.int .i64 x89,.int .i64 x90,.int .i64 x91,.int .i64 x92]),(11,.int .i64 3),(16,.sl 0 0 3 (.exact 4)),(17,.int .i64 3),(18,.int .i64 0)] 1 [(0,.row ⟨[.int .i64 x93,.int .i64 x94,.int .i64 x95,.int .i64 x96],176,false⟩)] 128 []
 | .k12_7 x97 x98 x99 x100 x101 x102 x103 x104 x105=>mD [(3,.ptr 0 0),(5,.int .i64 x97),(10,.agg [.int .i64 x98,.int .i64 x99,.int .i64 x100,.int .i64 x101]),(11,.int .i64 3),(16,.sl 0 0 3 (.exact 4)),(17,.int .i64 3),(18,.int .i64 1)] 1 [(0,.row ⟨[.int .i64 x102,.int .i64 x103,.int .i64 x104,.int .i64 x105],176,false⟩)] 128 []
 | .k12_8 x106 x107 x108 x109 x110 x111 x112 x113 x114=>mD [(3,.ptr 0 0),(5,.int .i64 x106),(10,.agg [.int .i64 x107,.int .i64 x108,.int .i64 x109,.int .i64 x110]),(11,.int .i64 3),(16,.sl 0 0 3 (.exact 4)),(17,.int .i64 3),(18,.int .i64 2)] 1 [(0,.row ⟨[.int .i64 x111,.int .i64 x112,.int .i64 x113,.int .i64 x114],176,false⟩)] 128 []
 | .k12_9 x115 x116 x117 x118 x119 x120 x121 x122 x123=>mD [(3,.ptr 0 0),(5,.int .i64 x115),(10,.agg [.int .i64 x116,.int .i64 x117,.int .i64 x118,.int .i64 x119]),(11,.int .i64 3),(16,.sl 0 0 3 (.exact 4)),(17,.int .i64 3),(18,.int .i64 3)] 1 [(0,.row ⟨[.int .i64 x120,.int .i64 x121,.int .i64 x122,.int .i64 x123],176,false⟩)] 128 []
 | .k6_4 x124 x125 x126 x127 x128 x129 x130 x131=>mD [(3,.ptr 0 0),(10,.agg [.int .i64 x124,.int .i64 x125,.int .i64 x126,.int .i64 x127]),(11,.int .i64 4)] 1 [(0,.row ⟨[.int .i64 x128,.int .i64 x129,.int .i64 x130,.int .i64 x131],176,false⟩)] 128 []
noncomputable def bxe (s:Tn):(l_:avh)→Tr Bool avh (ak8 s) cB.v
 | .k6_0 x2 x3 x4 x5 x6 x7 x8 x9=>(.g (.k12_0 x2 x2 x3 x4 x5 x6 x7 x8 x9))
 | .k12_0 x10 x11 x12 x13 x14 x15 x16 x17 x18=>(.g (.k6_1 x11 x12 x13 x14 x15 x16 x17 x18))
 | .k6_1 x19 x20 x21 x22 x23 x24 x25 x26=>(.g (.k12_1 x20 x19 x20 x21 x22 x23 x24 x25 x26))
 | .k12_1 x27 x28 x29 x30 x31 x32 x33 x34 x35=>(.i (!(x32==0)) (.i (!(x27==0)) (.i (decide (x27≤x32)) (.i (!(x32==4)) (.r true) (.i (!(x27==4)) (.r true) (.g (.k12_2 x27 x28 x29 x30 x31 x32 x33 x34 x35)))) (.g (.k12_2 x27 x28 x29 x30 x31 x32 x33 x34 x35))) (.g (.k12_2 x27 x28 x29 x30 x31 x32 x33 x34 x35))) (.g (.k12_2 x27 x28 x29 x30 x31 x32 x33 x34 x35)))
 | .k12_2 x36 x37 x38 x39 x40 x41 x42 x43 x44=>(.g (.k6_2 x37 x38 x39 x40 x41 x42 x43 x44))
 | .k6_2 x45 x46 x47 x48 x49 x50 x51 x52=>(.g (.k12_3 x47 x45 x46 x47 x48 x49 x50 x51 x52))
 | .k12_3 x53 x54 x55 x56 x57 x58 x59 x60 x61=>(.i (!(x58==0)) (.i (!(x53==0)) (.i (decide (x53≤x58)) (.i (!(x58==4)) (.r true) (.i (!(x53==4)) (.r true) (.g (.k12_4 x53 x54 x55 x56 x57 x58 x59 x60 x61)))) (.g (.k12_4 x53 x54 x55 x56 x57 x58 x59 x60 x61))) (.g (.k12_4 x53 x54 x55 x56 x57 x58 x59 x60 x61))) (.g (.k12_4 x53 x54 x55 x56 x57 x58 x59 x60 x61)))
 | .k12_4 x62 x63 x64 x65 x66 x67 x68 x69 x70=>(.i (!(x68==0)) (.i (!(x62==0)) (.i (decide (x62≤x68)) (.i (!(x68==4)) (.r true) (.i (!(x62==4)) (.r true) (.g (.k12_5 x62 x63 x64 x65 x66 x67 x68 x69 x70)))) (.g (.k12_5 x62 x63 x64 x65 x66 x67 x68 x69 x70))) (.g (.k12_5 x62 x63 x64 x65 x66 x67 x68 x69 x70))) (.g (.k12_5 x62 x63 x64 x65 x66 x67 x68 x69 x70)))
 | .k12_5 x71 x72 x73 x74 x75 x76 x77 x78 x79=>(.g (.k6_3 x72 x73 x74 x75 x76 x77 x78 x79))
 | .k6_3 x80 x81 x82 x83 x84 x85 x86 x87=>(.g (.k12_6 x83 x80 x81 x82 x83 x84 x85 x86 x87))
 | .k12_6 x88 x89 x90 x91 x92 x93 x94 x95 x96=>(.i (!(x93==0)) (.i (!(x88==0)) (.i (decide (x88≤x93)) (.i (!(x93==4)) (.r true) (.i (!(x88==4)) (.r true) (.g (.k12_7 x88 x89 x90 x91 x92 x93 x94 x95 x96)))) (.g (.k12_7 x88 x89 x90 x91 x92 x93 x94 x95 x96))) (.g (.k12_7 x88 x89 x90 x91 x92 x93 x94 x95 x96))) (.g (.k12_7 x88 x89 x90 x91 x92 x93 x94 x95 x96)))
 | .k12_7 x97 x98 x99 x100 x101 x102 x103 x104 x105=>(.i (!(x103==0)) (.i (!(x97==0)) (.i (decide (x97≤x103)) (.i (!(x103==4)) (.r true) (.i (!(x97==4)) (.r true) (.g (.k12_8 x97 x98 x99 x100 x101 x102 x103 x104 x105)))) (.g (.k12_8 x97 x98 x99 x100 x101 x102 x103 x104 x105))) (.g (.k12_8 x97 x98 x99 x100 x101 x102 x103 x104 x105))) (.g (.k12_8 x97 x98 x99 x100 x101 x102 x103 x104 x105)))
 | .k12_8 x106 x107 x108 x109 x110 x111 x112 x113 x114=>(.i (!(x113==0)) (.i (!(x106==0)) (.i (decide (x106≤x113)) (.i (!(x113==4)) (.r true) (.i (!(x106==4)) (.r true) (.g (.k12_9 x106 x107 x108 x109 x110 x111 x112 x113 x114)))) (.g (.k12_9 x106 x107 x108 x109 x110 x111 x112 x113 x114))) (.g (.k12_9 x106 x107 x108 x109 x110 x111 x112 x113 x114))) (.g (.k12_9 x106 x107 x108 x109 x110 x111 x112 x113 x114)))
 | .k12_9 x115 x116 x117 x118 x119 x120 x121 x122 x123=>(.g (.k6_4 x116 x117 x118 x119 x120 x121 x122 x123))
 | .k6_4 x124 x125 x126 x127 x128 x129 x130 x131=>(.r false)
noncomputable def Tz132 (s:Tn):Tr Bool avh (ak8 s) cB.v:=(.c Az152 ay5 (s,()) fun r133=>(.g (.k6_0 r133.1 r133.2.1 r133.2.2.1 r133.2.2.2.1 r133.1 r133.2.1 r133.2.2.1 r133.2.2.2.1)))
noncomputable def cV (s:Tn):=Tr.lp (bxe s)
noncomputable def Ez132 (n:Nat) (s:Tn):=(Tz132 s).d (cV s n)
noncomputable def bj3 (x:Tn×Unit):=Ez132 (x.1.p_m.length+64) x.1
noncomputable def wz132:Wk (Tn×Unit) Bool avh cB.v:=⟨fun x=>ak8 x.1,uz132,fun x=>Tz132 x.1,fun x=>bxe x.1⟩
noncomputable def Kz132:=aS 132 Tryz.func132 [Kz152] noZ ⟨43,(lookA [(3,⟨[3,10,11],[0],1,[],[],[],[]⟩),(6,⟨[3,5,10,11,16,17,18],[0],1,[],[],[],[]⟩)]),noL,noL⟩ 128 Az132 cB bj3 wz132 (fun x=>x.1.p_m.length+64)
noncomputable def Az133:=(Row.cons (Cod.ptr rTn) Row.nil)
noncomputable def Tz133 (s:Tn):Tr Bool Empty noS cB.v:=(.r (decide (3<s.outs)))
noncomputable def Ez133 (s:Tn):=(Tz133 s).d noE
noncomputable def bj2 (x:Tn×Unit):=Ez133 x.1
noncomputable def wz133:Wk (Tn×Unit) Bool Empty cB.v:=wk0 fun x=>Tz133 x.1
noncomputable def Kz133:=aS 133 Tryz.func133 [] noZ ⟨8,noL,noL,noL⟩ 128 Az133 cB bj2 wz133 (fun _=>0)
noncomputable def Az151:=(Row.cons (Cod.agg rMv) Row.nil)
noncomputable def Tz151 (s:Mv):Tr Bool Empty noS cB.v:=(.i (!s.o) (.r (s.t==4)) (.r false))
noncomputable def Ez151 (s:Mv):=(Tz151 s).d noE
noncomputable def bjX (x:Mv×Unit):=Ez151 x.1
noncomputable def wz151:Wk (Mv×Unit) Bool Empty cB.v:=wk0 fun x=>Tz151 x.1
noncomputable def Kz151:=aS 151 Tryz.func151 [] noZ ⟨11,noL,noL,noL⟩ 128 Az151 cB bjX wz151 (fun _=>0)
noncomputable def ajI:=(Row.cons (Cod.list mv0 rMv) (Row.cons (Cod.fn0 151) Row.nil))
inductive fY where
 | k6 (x2:Int) (x3:Int)
noncomputable def akH:fY→Nat
 | .k6 _ _=>6
noncomputable def oO (s:List (Mv)) (t:Unit):fY→D
 | .k6 x2 x3=>mD [(1,.raw (.func 151 [])),(5,.int .i64 x2),(8,(Cod.list mv0 rMv).v s),(9,.int .i64 ((s.length:Nat):Int)),(10,.int .i64 x3)] 0 [] 128 []
noncomputable def dP (s:List (Mv)) (t:Unit):(l_:fY)→Tr Int fY (oO s t) cI.v
 | .k6 x2 x3=>(.i (decide (x3<((s.length:Nat):Int))) (.i (inR x3 s.length) (.c Az151 bjX ((s.getD x3.toNat mv0),()) fun r5=>(.i r5 (.g (.k6 (w6 (x2+1)) (w6 (x3+1)))) (.g (.k6 x2 (w6 (x3+1)))))) .n) (.r x2))
noncomputable def t5 (s:List (Mv)) (t:Unit):Tr Int fY (oO s t) cI.v:=(.g (.k6 0 0))
noncomputable def iB (s:List (Mv)) (t:Unit):=Tr.lp (dP s t)
theorem eS {s:List (Mv)}{t:Unit}{n:Nat}{l_:fY}:iB s t (n+1) l_=(dP s t l_).d (iB s t n):=rfl
noncomputable def uG (n:Nat) (s:List (Mv)) (t:Unit):=(t5 s t).d (iB s t n)
noncomputable def uA (x:(List (Mv))×Unit×Unit):=uG (x.1.length+64) x.1 x.2.1
noncomputable def akB:Wk ((List (Mv))×Unit×Unit) Int fY cI.v:=⟨fun x=>oO x.1 x.2.1,akH,fun x=>t5 x.1 x.2.1,fun x=>dP x.1 x.2.1⟩
noncomputable def ayb:=aS 187 Tryz.func187 [Kz151] noZ ⟨21,(lookA [(3,⟨[1,5,8,9,10],[],0,[],[],[],[]⟩)]),noL,noL⟩ 128 ajI cI uA akB (fun x=>x.1.length+64)
noncomputable def Az134:=(Row.cons (Cod.ptr rTn) Row.nil)
noncomputable def Tz134 (s:Tn):Tr Bool Empty noS cB.v:=(.i s.p_l (.i (decide (s.outs<3)) (.r true) (.c ajI uA (s.p_m,(),()) fun r2=>(.r (r2==0)))) (.r false))
noncomputable def Ez134 (s:Tn):=(Tz134 s).d noE
noncomputable def bj1 (x:Tn×Unit):=Ez134 x.1
noncomputable def wz134:Wk (Tn×Unit) Bool Empty cB.v:=wk0 fun x=>Tz134 x.1
noncomputable def Kz134:=aS 134 Tryz.func134 [ayb] noZ ⟨24,noL,noL,noL⟩ 128 Az134 cB bj1 wz134 (fun _=>0)
noncomputable def Az144:=(Row.cons (Cod.ptr rTn) Row.nil)
inductive avf where
 | k6_0 (x2:List Nat) (x3:List Nat) (x4:List Nat) (x5:List Nat) (x6:List Nat) (x7:List Nat) (x8:List Nat) (x9:List Nat) (x10:List Nat) (x11:List Nat) (x12:List Nat) (x13:List Nat) (x14:List Nat)
 | k6_1 (x16:List Nat) (x17:List Nat) (x18:List Nat) (x19:List Nat) (x20:List Nat) (x21:List Nat) (x22:List Nat) (x23:List Nat) (x24:List Nat) (x25:List Nat) (x26:List Nat) (x27:List Nat) (x28:List Nat)
 | k6_2 (x30:List Nat) (x31:List Nat) (x32:List Nat) (x33:List Nat) (x34:List Nat) (x35:List Nat) (x36:List Nat) (x37:List Nat) (x38:List Nat) (x39:List Nat) (x40:List Nat) (x41:List Nat) (x42:List Nat)
 | k6_3 (x44:List Nat) (x45:List Nat) (x46:List Nat) (x47:List Nat) (x48:List Nat) (x49:List Nat) (x50:List Nat) (x51:List Nat) (x52:List Nat) (x53:List Nat) (x54:List Nat) (x55:List Nat) (x56:List Nat)
 | k6_4 (x58:List Nat) (x59:List Nat) (x60:List Nat) (x61:List Nat) (x62:List Nat) (x63:List Nat) (x64:List Nat) (x65:List Nat) (x66:List Nat) (x67:List Nat) (x68:List Nat) (x69:List Nat) (x70:List Nat)
 | k6_5 (x72:List Nat) (x73:List Nat) (x74:List Nat) (x75:List Nat) (x76:List Nat) (x77:List Nat) (x78:List Nat) (x79:List Nat) (x80:List Nat) (x81:List Nat) (x82:List Nat) (x83:List Nat) (x84:List Nat)
 | k6_6 (x86:List Nat) (x87:List Nat) (x88:List Nat) (x89:List Nat) (x90:List Nat) (x91:List Nat) (x92:List Nat) (x93:List Nat) (x94:List Nat) (x95:List Nat) (x96:List Nat) (x97:List Nat) (x98:List Nat)
 | k6_7 (x100:List Nat) (x101:List Nat) (x102:List Nat) (x103:List Nat) (x104:List Nat) (x105:List Nat) (x106:List Nat) (x107:List Nat) (x108:List Nat) (x109:List Nat) (x110:List Nat) (x111:List Nat) (x112:List Nat)
 | k6_8 (x114:List Nat) (x115:List Nat) (x116:List Nat) (x117:List Nat) (x118:List Nat) (x119:List Nat) (x120:List Nat) (x121:List Nat) (x122:List Nat) (x123:List Nat) (x124:List Nat) (x125:List Nat) (x126:List Nat)
 | k6_9 (x128:List Nat) (x129:List Nat) (x130:List Nat) (x131:List Nat) (x132:List Nat) (x133:List Nat) (x134:List Nat) (x135:List Nat) (x136:List Nat) (x137:List Nat) (x138:List Nat) (x139:List Nat) (x140:List Nat)
 | k6_10 (x142:List Nat) (x143:List Nat) (x144:List Nat) (x145:List Nat) (x146:List Nat) (x147:List Nat) (x148:List Nat) (x149:List Nat) (x150:List Nat) (x151:List Nat) (x152:List Nat) (x153:List Nat) (x154:List Nat)
 | k6_11 (x156:List Nat) (x157:List Nat) (x158:List Nat) (x159:List Nat) (x160:List Nat) (x161:List Nat) (x162:List Nat) (x163:List Nat) (x164:List Nat) (x165:List Nat) (x166:List Nat) (x167:List Nat) (x168:List Nat)
 | k6_12 (x170:List Nat) (x171:List Nat) (x172:List Nat) (x173:List Nat) (x174:List Nat) (x175:List Nat) (x176:List Nat) (x177:List Nat) (x178:List Nat) (x179:List Nat) (x180:List Nat) (x181:List Nat) (x182:List Nat)
 | k6_13 (x184:List Nat) (x185:List Nat) (x186:List Nat) (x187:List Nat) (x188:List Nat) (x189:List Nat) (x190:List Nat) (x191:List Nat) (x192:List Nat) (x193:List Nat) (x194:List Nat) (x195:List Nat) (x196:List Nat)
noncomputable def uz144:avf→Nat
 | .k6_0 _ _ _ _ _ _ _ _ _ _ _ _ _=>6
 | .k6_1 _ _ _ _ _ _ _ _ _ _ _ _ _=>6
 | .k6_2 _ _ _ _ _ _ _ _ _ _ _ _ _=>6
 | .k6_3 _ _ _ _ _ _ _ _ _ _ _ _ _=>6
 | .k6_4 _ _ _ _ _ _ _ _ _ _ _ _ _=>6
 | .k6_5 _ _ _ _ _ _ _ _ _ _ _ _ _=>6
 | .k6_6 _ _ _ _ _ _ _ _ _ _ _ _ _=>6
 | .k6_7 _ _ _ _ _ _ _ _ _ _ _ _ _=>6
 | .k6_8 _ _ _ _ _ _ _ _ _ _ _ _ _=>6
 | .k6_9 _ _ _ _ _ _ _ _ _ _ _ _ _=>6
 | .k6_10 _ _ _ _ _ _ _ _ _ _ _ _ _=>6
 | .k6_11 _ _ _ _ _ _ _ _ _ _ _ _ _=>6
 | .k6_12 _ _ _ _ _ _ _ _ _ _ _ _ _=>6
 | .k6_13 _ _ _ _ _ _ _ _ _ _ _ _ _=>6
noncomputable def ak6 (s:Tn):avf→D
 | .k6_0 x2 x3 x4 x5 x6 x7 x8 x9 x10 x11 x12 x13 x14=>mD [(0,.lptr (rTn.v s) 0),(3,.int .i64 0),(6,.agg [.str x2,.raw (.func 122 []),.str x3,.raw (.func 123 []),.str x4,.raw (.func 124 []),.str x5,.raw (.func 125 []),.str x6,.raw (.func 126 []),.str x7,.raw (.func 127 []),.str x8,.raw (.func 128 []),.str x9,.raw (.func 129 []),.str x10,.raw (.func 130 []),.str x11,.raw (.func 131 []),.str x12,.raw (.func 132 []),.str x13,.raw (.func 133 []),.str x14,.raw (.func 134 [])]),(7,.int .i64 0)] 0 [] 128 []
 | .k6_1 x16 x17 x18 x19 x20 x21 x22 x23 x24 x25 x26 x27 x28=>mD [(0,.lptr (rTn.v s) 0),(3,.int .i64 0),(6,.agg [.str x16,.raw (.func 122 []),.str x17,.raw (.func 123 []),.str x18,.raw (.func 124 []),.str x19,.raw (.func 125 []),.str x20,.raw (.func 126 []),.str x21,.raw (.func 127 []),.str x22,.raw (.func 128 []),.str x23,.raw (.func 129 []),.str x24,.raw (.func 130 []),.str x25,.raw (.func 131 []),.str x26,.raw (.func 132 []),.str x27,.raw (.func 133 []),.str x28,.raw (.func 134 [])]),(7,.int .i64 1)] 0 [] 128 []
 | .k6_2 x30 x31 x32 x33 x34 x35 x36 x37 x38 x39 x40 x41 x42=>mD [(0,.lptr (rTn.v s) 0),(3,.int .i64 0),(6,.agg [.str x30,.raw (.func 122 []),.str x31,.raw (.func 123 []),.str x32,.raw (.func 124 []),.str x33,.raw (.func 125 []),.str x34,.raw (.func 126 []),.str x35,.raw (.func 127 []),.str x36,.raw (.func 128 []),.str x37,.raw (.func 129 []),.str x38,.raw (.func 130 []),.str x39,.raw (.func 131 []),.str x40,.raw (.func 132 []),.str x41,.raw (.func 133 []),.str x42,.raw (.func 134 [])]),(7,.int .i64 2)] 0 [] 128 []
 | .k6_3 x44 x45 x46 x47 x48 x49 x50 x51 x52 x53 x54 x55 x56=>mD [(0,.lptr (rTn.v s) 0),(3,.int .i64 0),(6,.agg [.str x44,.raw (.func 122 []),.str x45,.raw (.func 123 []),.str x46,.raw (.func 124 []),.str x47,.raw (.func 125 []),.str x48,.raw (.func 126 []),.str x49,.raw (.func 127 []),.str x50,.raw (.func 128 []),.str x51,.raw (.func 129 []),.str x52,.raw (.func 130 []),.str x53,.raw (.func 131 []),.str x54,.raw (.func 132 []),.str x55,.raw (.func 133 []),.str x56,.raw (.func 134 [])]),(7,.int .i64 3)] 0 [] 128 []
 | .k6_4 x58 x59 x60 x61 x62 x63 x64 x65 x66 x67 x68 x69 x70=>mD [(0,.lptr (rTn.v s) 0),(3,.int .i64 0),(6,.agg [.str x58,.raw (.func 122 []),.str x59,.raw (.func 123 []),.str x60,.raw (.func 124 []),.str x61,.raw (.func 125 []),.str x62,.raw (.func 126 []),.str x63,.raw (.func 127 []),.str x64,.raw (.func 128 []),.str x65,.raw (.func 129 []),.str x66,.raw (.func 130 []),.str x67,.raw (.func 131 []),.str x68,.raw (.func 132 []),.str x69,.raw (.func 133 []),.str x70,.raw (.func 134 [])]),(7,.int .i64 4)] 0 [] 128 []
 | .k6_5 x72 x73 x74 x75 x76 x77 x78 x79 x80 x81 x82 x83 x84=>mD [(0,.lptr (rTn.v s) 0),(3,.int .i64 0),(6,.agg [.str x72,.raw (.func 122 []),.str x73,.raw (.func 123 []),.str x74,.raw (.func 124 []),.str x75,.raw (.func 125 []),.str x76,.raw (.func 126 []),.str x77,.raw (.func 127 []),.str x78,.raw (.func 128 []),.str x79,.raw (.func 129 []),.str x80,.raw (.func 130 []),.str x81,.raw (.func 131 []),.str x82,.raw (.func 132 []),.str x83,.raw (.func 133 []),.str x84,.raw (.func 134 [])]),(7,.int .i64 5)] 0 [] 128 []
 | .k6_6 x86 x87 x88 x89 x90 x91 x92 x93 x94 x95 x96 x97 x98=>mD [(0,.lptr (rTn.v s) 0),(3,.int .i64 0),(6,.agg [.str x86,.raw (.func 122 []),.str x87,.raw (.func 123 []),.str x88,.raw (.func 124 []),.str x89,.raw (.func 125 []),.str x90,.raw (.func 126 []),.str x91,.raw (.func 127 []),.str x92,.raw (.func 128 []),.str x93,.raw (.func 129 []),.str x94,.raw (.func 130 []),.str x95,.raw (.func 131 []),.str x96,.raw (.func 132 []),.str x97,.raw (.func 133 []),.str x98,.raw (.func 134 [])]),(7,.int .i64 6)] 0 [] 128 []
 | .k6_7 x100 x101 x102 x103 x104 x105 x106 x107 x108 x109 x110 x111 x112=>mD [(0,.lptr (rTn.v s) 0),(3,.int .i64 0),(6,.agg [.str x100,.raw (.func 122 []),.str x101,.raw (.func 123 []),.str x102,.raw (.func 124 []),.str x103,.raw (.func 125 []),.str x104,.raw (.func 126 []),.str x105,.raw (.func 127 []),.str x106,.raw (.func 128 []),.str x107,.raw (.func 129 []),.str x108,.raw (.func 130 []),.str x109,.raw (.func 131 []),.str x110,.raw (.func 132 []),.str x111,.raw (.func 133 []),.str x112,.raw (.func 134 [])]),(7,.int .i64 7)] 0 [] 128 []
 | .k6_8 x114 x115 x116 x117 x118 x119 x120 x121 x122 x123 x124 x125 x126=>mD [(0,.lptr (rTn.v s) 0),(3,.int .i64 0),(6,.agg [.str x114,.raw (.func 122 []),.str x115,.raw (.func 123 []),.str x116,.raw (.func 124 []),.str x117,.raw (.func 125 []),.str x118,.raw (.func 126 []),.str x119,.raw (.func 127 []),.str x120,.raw (.func 128 []),.str x121,.raw (.func 129 []),.str x122,.raw (.func 130 []),.str x123,.raw (.func 131 []),.str x124,.raw (.func 132 []),.str x125,.raw (.func 133 []),.str x126,.raw (.func 134 [])]),(7,.int .i64 8)] 0 [] 128 []
 | .k6_9 x128 x129 x130 x131 x132 x133 x134 x135 x136 x137 x138 x139 x140=>mD [(0,.lptr (rTn.v s) 0),(3,.int .i64 0),(6,.agg [.str x128,.raw (.func 122 []),.str x129,.raw (.func 123 []),.str x130,.raw (.func 124 []),.str x131,.raw (.func 125 []),.str x132,.raw (.func 126 []),.str x133,.raw (.func 127 []),.str x134,.raw (.func 128 []),.str x135,.raw (.func 129 []),.str x136,.raw (.func 130 []),.str x137,.raw (.func 131 []),.str x138,.raw (.func 132 []),.str x139,.raw (.func 133 []),.str x140,.raw (.func 134 [])]),(7,.int .i64 9)] 0 [] 128 []
 | .k6_10 x142 x143 x144 x145 x146 x147 x148 x149 x150 x151 x152 x153 x154=>mD [(0,.lptr (rTn.v s) 0),(3,.int .i64 0),(6,.agg [.str x142,.raw (.func 122 []),.str x143,.raw (.func 123 []),.str x144,.raw (.func 124 []),.str x145,.raw (.func 125 []),.str x146,.raw (.func 126 []),.str x147,.raw (.func 127 []),.str x148,.raw (.func 128 []),.str x149,.raw (.func 129 []),.str x150,.raw (.func 130 []),.str x151,.raw (.func 131 []),.str x152,.raw (.func 132 []),.str x153,.raw (.func 133 []),.str x154,.raw (.func 134 [])]),(7,.int .i64 10)] 0 [] 128 []
 | .k6_11 x156 x157 x158 x159 x160 x161 x162 x163 x164 x165 x166 x167 x168=>mD [(0,.lptr (rTn.v s) 0),(3,.int .i64 0),(6,.agg [.str x156,.raw (.func 122 []),.str x157,.raw (.func 123 []),.str x158,.raw (.func 124 []),.str x159,.raw (.func 125 []),.str x160,.raw (.func 126 []),.str x161,.raw (.func 127 []),.str x162,.raw (.func 128 []),.str x163,.raw (.func 129 []),.str x164,.raw (.func 130 []),.str x165,.raw (.func 131 []),.str x166,.raw (.func 132 []),.str x167,.raw (.func 133 []),.str x168,.raw (.func 134 [])]),(7,.int .i64 11)] 0 [] 128 []
 | .k6_12 x170 x171 x172 x173 x174 x175 x176 x177 x178 x179 x180 x181 x182=>mD [(0,.lptr (rTn.v s) 0),(3,.int .i64 0),(6,.agg [.str x170,.raw (.func 122 []),.str x171,.raw (.func 123 []),.str x172,.raw (.func 124 []),.str x173,.raw (.func 125 []),.str x174,.raw (.func 126 []),.str x175,.raw (.func 127 []),.str x176,.raw (.func 128 []),.str x177,.raw (.func 129 []),.str x178,.raw (.func 130 []),.str x179,.raw (.func 131 []),.str x180,.raw (.func 132 []),.str x181,.raw (.func 133 []),.str x182,.raw (.func 134 [])]),(7,.int .i64 12)] 0 [] 128 []
 | .k6_13 x184 x185 x186 x187 x188 x189 x190 x191 x192 x193 x194 x195 x196=>mD [(0,.lptr (rTn.v s) 0),(3,.int .i64 0),(6,.agg [.str x184,.raw (.func 122 []),.str x185,.raw (.func 123 []),.str x186,.raw (.func 124 []),.str x187,.raw (.func 125 []),.str x188,.raw (.func 126 []),.str x189,.raw (.func 127 []),.str x190,.raw (.func 128 []),.str x191,.raw (.func 129 []),.str x192,.raw (.func 130 []),.str x193,.raw (.func 131 []),.str x194,.raw (.func 132 []),.str x195,.raw (.func 133 []),.str x196,.raw (.func 134 [])]),(7,.int .i64 13)] 0 [] 128 []
noncomputable def bxc (s:Tn):(l_:avf)→Tr Int avf (ak6 s) cI.v
 | .k6_0 x2 x3 x4 x5 x6 x7 x8 x9 x10 x11 x12 x13 x14=>(.c Az122 Sz122 (s,()) fun r199=>(.i r199 (.r 1) (.g (.k6_1 x2 x3 x4 x5 x6 x7 x8 x9 x10 x11 x12 x13 x14))))
 | .k6_1 x16 x17 x18 x19 x20 x21 x22 x23 x24 x25 x26 x27 x28=>(.c Az123 bjc (s,()) fun r200=>(.i r200 (.r 2) (.g (.k6_2 x16 x17 x18 x19 x20 x21 x22 x23 x24 x25 x26 x27 x28))))
 | .k6_2 x30 x31 x32 x33 x34 x35 x36 x37 x38 x39 x40 x41 x42=>(.c Az124 bjb (s,()) fun r201=>(.i r201 (.r 3) (.g (.k6_3 x30 x31 x32 x33 x34 x35 x36 x37 x38 x39 x40 x41 x42))))
 | .k6_3 x44 x45 x46 x47 x48 x49 x50 x51 x52 x53 x54 x55 x56=>(.c Az125 bja (s,()) fun r202=>(.i r202 (.r 4) (.g (.k6_4 x44 x45 x46 x47 x48 x49 x50 x51 x52 x53 x54 x55 x56))))
 | .k6_4 x58 x59 x60 x61 x62 x63 x64 x65 x66 x67 x68 x69 x70=>(.c Az126 bj9 (s,()) fun r203=>(.i r203 (.r 5) (.g (.k6_5 x58 x59 x60 x61 x62 x63 x64 x65 x66 x67 x68 x69 x70))))
 | .k6_5 x72 x73 x74 x75 x76 x77 x78 x79 x80 x81 x82 x83 x84=>(.c Az127 bj8 (s,()) fun r204=>(.i r204 (.r 6) (.g (.k6_6 x72 x73 x74 x75 x76 x77 x78 x79 x80 x81 x82 x83 x84))))
 | .k6_6 x86 x87 x88 x89 x90 x91 x92 x93 x94 x95 x96 x97 x98=>(.c Az128 bj7 (s,()) fun r205=>(.i r205 (.r 7) (.g (.k6_7 x86 x87 x88 x89 x90 x91 x92 x93 x94 x95 x96 x97 x98))))
 | .k6_7 x100 x101 x102 x103 x104 x105 x106 x107 x108 x109 x110 x111 x112=>(.c Az129 bj6 (s,()) fun r206=>(.i r206 (.r 8) (.g (.k6_8 x100 x101 x102 x103 x104 x105 x106 x107 x108 x109 x110 x111 x112))))
 | .k6_8 x114 x115 x116 x117 x118 x119 x120 x121 x122 x123 x124 x125 x126=>(.c Az130 bj5 (s,()) fun r207=>(.i r207 (.r 9) (.g (.k6_9 x114 x115 x116 x117 x118 x119 x120 x121 x122 x123 x124 x125 x126))))
 | .k6_9 x128 x129 x130 x131 x132 x133 x134 x135 x136 x137 x138 x139 x140=>(.c Az131 bj4 (s,()) fun r208=>(.i r208 (.r 10) (.g (.k6_10 x128 x129 x130 x131 x132 x133 x134 x135 x136 x137 x138 x139 x140))))
 | .k6_10 x142 x143 x144 x145 x146 x147 x148 x149 x150 x151 x152 x153 x154=>(.c Az132 bj3 (s,()) fun r209=>(.i r209 (.r 11) (.g (.k6_11 x142 x143 x144 x145 x146 x147 x148 x149 x150 x151 x152 x153 x154))))
 | .k6_11 x156 x157 x158 x159 x160 x161 x162 x163 x164 x165 x166 x167 x168=>(.c Az133 bj2 (s,()) fun r210=>(.i r210 (.r 12) (.g (.k6_12 x156 x157 x158 x159 x160 x161 x162 x163 x164 x165 x166 x167 x168))))
 | .k6_12 x170 x171 x172 x173 x174 x175 x176 x177 x178 x179 x180 x181 x182=>(.c Az134 bj1 (s,()) fun r211=>(.i r211 (.r 13) (.g (.k6_13 x170 x171 x172 x173 x174 x175 x176 x177 x178 x179 x180 x181 x182))))
 | .k6_13 x184 x185 x186 x187 x188 x189 x190 x191 x192 x193 x194 x195 x196=>(.r 0)
noncomputable def Tz144 (s:Tn):Tr Int avf (ak6 s) cI.v:=(.c Az74 Sz74 (()) fun r198=>(.g (.k6_0 r198.1 r198.2.2.1 r198.2.2.2.2.1 r198.2.2.2.2.2.2.1 r198.2.2.2.2.2.2.2.2.1 r198.2.2.2.2.2.2.2.2.2.2.1 r198.2.2.2.2.2.2.2.2.2.2.2.2.1 r198.2.2.2.2.2.2.2.2.2.2.2.2.2.2.1 r198.2.2.2.2.2.2.2.2.2.2.2.2.2.2.2.2.1 r198.2.2.2.2.2.2.2.2.2.2.2.2.2.2.2.2.2.2.1 r198.2.2.2.2.2.2.2.2.2.2.2.2.2.2.2.2.2.2.2.2.1 r198.2.2.2.2.2.2.2.2.2.2.2.2.2.2.2.2.2.2.2.2.2.2.1 r198.2.2.2.2.2.2.2.2.2.2.2.2.2.2.2.2.2.2.2.2.2.2.2.2.1)))
noncomputable def bF (s:Tn):=Tr.lp (bxc s)
noncomputable def Ez144 (n:Nat) (s:Tn):=(Tz144 s).d (bF s n)
noncomputable def yZ (x:Tn×Unit):=Ez144 (x.1.p_m.length+64) x.1
noncomputable def wz144:Wk (Tn×Unit) Int avf cI.v:=⟨fun x=>ak6 x.1,uz144,fun x=>Tz144 x.1,fun x=>bxc x.1⟩
noncomputable def Kz144:=aS 144 Tryz.func144 [Kz74,Kz122,Kz123,Kz124,Kz125,Kz126,Kz127,Kz128,Kz129,Kz130,Kz131,Kz132,Kz133,Kz134] noZ ⟨19,(lookA [(3,⟨[0,3,6,7],[],0,[],[],[],[]⟩)]),noL,noL⟩ 128 Az144 cI yZ wz144 (fun x=>x.1.p_m.length+64)
noncomputable def Az150:=(Row.cons (Cod.ptr rTn) Row.nil)
inductive ax2 where
 | k4 (x2:Int)
noncomputable def uz150:ax2→Nat
 | .k4 _=>4
noncomputable def ak4 (s:Tn):ax2→D
 | .k4 x2=>mD [(10,(Cod.list mv0 rMv).v s.p_m),(11,.int .i64 ((s.p_m.length:Nat):Int)),(12,.int .i64 x2)] 0 [] 128 []
noncomputable def aqm (s:Tn):(l_:ax2)→Tr Bool ax2 (ak4 s) cB.v
 | .k4 x2=>(.i (decide (x2<((s.p_m.length:Nat):Int))) (.i (inR x2 s.p_m.length) (.i ((s.p_m.getD x2.toNat mv0).f==0) (.c azp y9 ([99,107,110,121],(s.p_m.getD x2.toNat mv0).h,()) fun r4=>(.i r4 (.i ((s.p_m.getD x2.toNat mv0).o) (.i (decide (((s.p_m.getD x2.toNat mv0).h)=[102])) (.r true) (.r true)) (.g (.k4 (w6 (x2+1))))) (.i (decide (((s.p_m.getD x2.toNat mv0).h)=[103])) (.i ((s.p_m.getD x2.toNat mv0).o) (.i (decide (((s.p_m.getD x2.toNat mv0).h)=[102])) (.r true) (.i ((s.p_m.getD x2.toNat mv0).t==1) (.r true) (.g (.k4 (w6 (x2+1)))))) (.g (.k4 (w6 (x2+1))))) (.i ((s.p_m.getD x2.toNat mv0).o) (.i (decide (((s.p_m.getD x2.toNat mv0).h)=[102])) (.r true) (.g (.k4 (w6 (x2+1))))) (.g (.k4 (w6 (x2+1)))))))) (.i ((s.p_m.getD x2.toNat mv0).o) (.i (decide (((s.p_m.getD x2.toNat mv0).h)=[102])) (.r true) (.g (.k4 (w6 (x2+1))))) (.g (.k4 (w6 (x2+1)))))) .n) (.r false))
noncomputable def Tz150 (s:Tn):Tr Bool ax2 (ak4 s) cB.v:=(.g (.k4 0))
noncomputable def azf (s:Tn):=Tr.lp (aqm s)
theorem aze {s:Tn}{n:Nat}{l_:ax2}:azf s (n+1) l_=(aqm s l_).d (azf s n):=rfl
noncomputable def Ez150 (n:Nat) (s:Tn):=(Tz150 s).d (azf s n)
noncomputable def Sz150 (x:Tn×Unit):=Ez150 (x.1.p_m.length+64) x.1
noncomputable def wz150:Wk (Tn×Unit) Bool ax2 cB.v:=⟨fun x=>ak4 x.1,uz150,fun x=>Tz150 x.1,fun x=>aqm x.1⟩
noncomputable def Kz150:=aS 150 Tryz.func150 [K181] noZ ⟨45,(lookA [(2,⟨[10,11,12],[],0,[],[],[],[]⟩)]),noL,noL⟩ 128 Az150 cB Sz150 wz150 (fun x=>x.1.p_m.length+64)
noncomputable def bxi:=(Row.cons (Cod.ptr rTn) Row.nil)
noncomputable def Wz89 (r:(List (Mv))):V:=.el (r.map rMv.v)
theorem hWz89 (r:(List (Mv))):(Wz89 r).c=((Cod.list mv0 rMv).v r).c:=by
 first|rfl|exact bO|(show EVal.tup (V.cs _)=EVal.tup (V.cs _);simp only [V.cs_map,List.map_cons,List.map_nil,bO];rfl)
inductive Lz89 where
 | k10 (x3:Int) (x4:List (Mv))
noncomputable def uz89:Lz89→Nat
 | .k10 _ _=>10
noncomputable def axh (s:Tn) (x3:Int) (x4:List (List V)):D:=mD [(3,.gl 128),(26,(Cod.list mv0 rMv).v s.p_m),(27,.int .i64 ((s.p_m.length:Nat):Int)),(28,.int .i64 x3)] 0 [] 129 [(128,(x4,106))]
noncomputable def bqI (s:Tn):Lz89→D
 | .k10 x3 x4=>axh s x3 (x4.map rMv.v)
noncomputable def ayX (s:Tn):(l_:Lz89)→Tr (List (Mv)) Lz89 (bqI s) Wz89
 | .k10 x3 x4=>(.i (decide (x3<((s.p_m.length:Nat):Int))) (.i (inR x3 s.p_m.length) (.c Az151 bjX ((s.p_m.getD x3.toNat mv0),()) fun r8=>(.i r8 (.i (Nat.ble (64*(((x4.map rMv.v)).length+1)) 1000000) (.j (.k10 (w6 (x3+1)) (x4++[(s.p_m.getD x3.toNat mv0)])) (axh s (w6 (x3+1)) ((x4.map rMv.v)++[[.int .i64 (s.p_m.getD x3.toNat mv0).f,.int .i64 (s.p_m.getD x3.toNat mv0).t,.bool ((s.p_m.getD x3.toNat mv0).o),.str ((s.p_m.getD x3.toNat mv0).h),(Cod.list 0 aJ).v ((s.p_m.getD x3.toNat mv0).b)]])) ⟨by simp only [bqI,List.map_append,List.map_cons,List.map_nil];rfl⟩) .n) (.g (.k10 (w6 (x3+1)) x4)))) .n) (.r x4))
noncomputable def Tz89 (s:Tn):Tr (List (Mv)) Lz89 (bqI s) Wz89:=(.i (s.outs==3) (.i s.p_l (.r []) (.c Az150 Sz150 (s,()) fun r7=>(.i r7 (.r []) (.g (.k10 0 []))))) (.g (.k10 0 [])))
noncomputable def ayh (s:Tn):=Tr.lp (ayX s)
theorem ayg {s:Tn}{n:Nat}{l_:Lz89}:ayh s (n+1) l_=(ayX s l_).d (ayh s n):=rfl
noncomputable def Ez89 (n:Nat) (s:Tn):=(Tz89 s).d (ayh s n)
noncomputable def ajL (x:Tn×Unit):=Ez89 (x.1.p_m.length+64) x.1
noncomputable def wz89:Wk (Tn×Unit) (List (Mv)) Lz89 Wz89:=⟨fun x=>bqI x.1,uz89,fun x=>Tz89 x.1,fun x=>ayX x.1⟩
noncomputable def Kz89:=aS 89 Tryz.func89 [Kz150,Kz151] noZ ⟨40,(lookA [(5,⟨[3,26,27,28],[],0,[(3,106)],[128],[],[]⟩)]),noL,noL⟩ 128 bxi (Cod.list mv0 rMv) ajL wz89 (fun x=>x.1.p_m.length+64) hWz89
noncomputable def Az85:=(Row.cons (Cod.agg rSt) (Row.cons (Cod.agg rPl) Row.nil))
inductive Lz85 where
 | k3
noncomputable def uz85:Lz85→Nat
 | .k3=>3
noncomputable def sLz85 (s:St) (t:Pl):Lz85→D
 | .k3=>mD [(2,.ptr 0 0),(3,.lptr (rPl.v t) 0)] 1 [(0,.row ⟨(rSt.v s),26,false⟩)] 128 []
noncomputable def Tz85J (s:St) (t:Pl):(l_:Lz85)→Tr ((Option (Tn))×(Int)×(Int)×Unit) Lz85 (sLz85 s t) (Cod.tup (Row.cons (Cod.opt rTn) (Row.cons cI (Row.cons cI Row.nil)))).v
 | .k3=>(.c kM d7 (s,(((),()),((t,()),()),((),()),()),()) fun r6=>(.i (!(r6==0)) (.r (none,0,r6,())) (.c Az143 bjZ (s,t,()) fun r7=>(.c Az144 yZ (r7,()) fun r8=>(.i (!(r8==0)) (.r (none,r8,18,())) (.i (s.half==0) (.c bxi ajL (r7,()) fun r10=>(.i (decide (9999<(w6 (s.c0+((r10.length:Nat):Int))))) (.r (none,0,4,())) (.r ((some r7),0,0,())))) (.i (s.half==1) (.c bxi ajL (r7,()) fun r9=>(.i (decide (9999<(w6 (s.c1+((r9.length:Nat):Int))))) (.r (none,0,4,())) (.r ((some r7),0,0,())))) .n)))))))
noncomputable def Tz85 (s:St) (t:Pl):Tr ((Option (Tn))×(Int)×(Int)×Unit) Lz85 (sLz85 s t) (Cod.tup (Row.cons (Cod.opt rTn) (Row.cons cI (Row.cons cI Row.nil)))).v:=(.g .k3)
noncomputable def Ez85J (s:St) (t:Pl):=Tr.lp (Tz85J s t)
noncomputable def Ez85 (n:Nat) (s:St) (t:Pl):=(Tz85 s t).d (Ez85J s t n)
noncomputable def Sz85 (x:St×Pl×Unit):=Ez85 (x.2.1.m.length+64) x.1 x.2.1
noncomputable def wz85:Wk (St×Pl×Unit) ((Option (Tn))×(Int)×(Int)×Unit) Lz85 (Cod.tup (Row.cons (Cod.opt rTn) (Row.cons cI (Row.cons cI Row.nil)))).v:=⟨fun x=>sLz85 x.1 x.2.1,uz85,fun x=>Tz85 x.1 x.2.1,fun x=>Tz85J x.1 x.2.1⟩
noncomputable def Kz85:=aS 85 Tryz.func85 [uC,Kz89,Kz143,Kz144] noZ ⟨38,noL,(lookA [(1,⟨[2,3],[0],1,[],[],[(1,1)],[]⟩)]),noL⟩ 128 Az85 (Cod.tup (Row.cons (Cod.opt rTn) (Row.cons cI (Row.cons cI Row.nil)))) Sz85 wz85 (fun x=>x.2.1.m.length+64)
noncomputable def Az62:=(Row.cons (Cod.agg rSt) Row.nil)
noncomputable def Tz62 (s:St):Tr Int Empty noS cI.v:=(.i (s.half==0) (.r s.n0) (.i (s.half==1) (.r s.n1) .n))
noncomputable def Ez62 (s:St):=(Tz62 s).d noE
noncomputable def Sz62 (x:St×Unit):=Ez62 x.1
noncomputable def wz62:Wk (St×Unit) Int Empty cI.v:=wk0 fun x=>Tz62 x.1
noncomputable def Kz62:=aS 62 Tryz.func62 [] noZ ⟨8,noL,noL,noL⟩ 128 Az62 cI Sz62 wz62 (fun _=>0)
noncomputable def Az146:=(Row.cons cI Row.nil)
noncomputable def Tz146 (s:Int):Tr Int Empty noS cI.v:=(.r (w6 ((s.tmod 9)+1)))
noncomputable def Ez146 (s:Int):=(Tz146 s).d noE
noncomputable def bjY (x:Int×Unit):=Ez146 x.1
noncomputable def wz146:Wk (Int×Unit) Int Empty cI.v:=wk0 fun x=>Tz146 x.1
noncomputable def Kz146:=aS 146 Tryz.func146 [] noZ ⟨6,noL,noL,noL⟩ 128 Az146 cI bjY wz146 (fun _=>0)
noncomputable def qU:=(Row.cons (Cod.ptr rTn) (Row.cons cI Row.nil))
noncomputable def Tz91 (s:Tn) (t:Int):Tr Int Empty noS cI.v:=(.i (t==0) (.c Az62 Sz62 ((⟨s.s_inn,s.s_half,s.s_outs,s.s_balls,s.s_strikes,s.s_b1,s.s_b2,s.s_b3,s.s_n0,s.s_n1,s.s_c0,s.s_c1,s.s_over⟩:St),()) fun r2=>(.r r2)) (.i ((w6 (t-1))==0) (.r s.s_b1) (.i ((w6 (t-1))==1) (.r s.s_b2) (.i ((w6 (t-1))==2) (.r s.s_b3) .n))))
noncomputable def Ez91 (s:Tn) (t:Int):=(Tz91 s t).d noE
noncomputable def n9 (x:Tn×Int×Unit):=Ez91 x.1 x.2.1
noncomputable def wz91:Wk (Tn×Int×Unit) Int Empty cI.v:=wk0 fun x=>Tz91 x.1 x.2.1
noncomputable def Kz91:=aS 91 Tryz.func91 [Kz62] noZ ⟨20,noL,noL,noL⟩ 128 qU cI n9 wz91 (fun _=>0)
noncomputable def Az147:=(Row.cons (Cod.ptr rTn) Row.nil)
inductive ax3 where
 | k8 (x2:Int) (x3:Int) (x4:Int) (x5:Int)
noncomputable def uz147:ax3→Nat
 | .k8 _ _ _ _=>8
noncomputable def ak5 (s:Tn):ax3→D
 | .k8 x2 x3 x4 x5=>mD [(0,.lptr (rTn.v s) 0),(2,.ptr 0 0),(3,.ptr 1 0),(17,(Cod.list mv0 rMv).v s.p_m),(18,.int .i64 ((s.p_m.length:Nat):Int)),(19,.int .i64 x2)] 2 [(0,.row ⟨[.int .i64 0,.int .i64 0,.int .i64 0],22,false⟩),(1,.row ⟨[.int .i64 x5,.int .i64 x4,.int .i64 x3],22,false⟩)] 128 []
noncomputable def aqn (s:Tn):(l_:ax3)→Tr ((Int)×(Int)×(Int)×Unit) ax3 (ak5 s) (Cod.agg (Row.cons cI (Row.cons cI (Row.cons cI Row.nil)))).v
 | .k8 x2 x3 x4 x5=>(.i (decide (x2<((s.p_m.length:Nat):Int))) (.i (inR x2 s.p_m.length) (.i (decide (0<(s.p_m.getD x2.toNat mv0).f)) (.i ((w6 ((s.p_m.getD x2.toNat mv0).f-1))==0) (.i (!(s.p_m.getD x2.toNat mv0).o) (.i (decide ((s.p_m.getD x2.toNat mv0).t<4)) (.c qU n9 (s,(s.p_m.getD x2.toNat mv0).f,()) fun r15=>(.i ((w6 ((s.p_m.getD x2.toNat mv0).t-1))==0) (.g (.k8 (w6 (x2+1)) x3 x4 r15)) (.i ((w6 ((s.p_m.getD x2.toNat mv0).t-1))==1) (.g (.k8 (w6 (x2+1)) x3 r15 0)) (.i ((w6 ((s.p_m.getD x2.toNat mv0).t-1))==2) (.g (.k8 (w6 (x2+1)) r15 x4 0)) .n)))) (.g (.k8 (w6 (x2+1)) x3 x4 0))) (.g (.k8 (w6 (x2+1)) x3 x4 0))) (.i ((w6 ((s.p_m.getD x2.toNat mv0).f-1))==1) (.i (!(s.p_m.getD x2.toNat mv0).o) (.i (decide ((s.p_m.getD x2.toNat mv0).t<4)) (.c qU n9 (s,(s.p_m.getD x2.toNat mv0).f,()) fun r14=>(.i ((w6 ((s.p_m.getD x2.toNat mv0).t-1))==0) (.g (.k8 (w6 (x2+1)) x3 0 r14)) (.i ((w6 ((s.p_m.getD x2.toNat mv0).t-1))==1) (.g (.k8 (w6 (x2+1)) x3 r14 x5)) (.i ((w6 ((s.p_m.getD x2.toNat mv0).t-1))==2) (.g (.k8 (w6 (x2+1)) r14 0 x5)) .n)))) (.g (.k8 (w6 (x2+1)) x3 0 x5))) (.g (.k8 (w6 (x2+1)) x3 0 x5))) (.i ((w6 ((s.p_m.getD x2.toNat mv0).f-1))==2) (.i (!(s.p_m.getD x2.toNat mv0).o) (.i (decide ((s.p_m.getD x2.toNat mv0).t<4)) (.c qU n9 (s,(s.p_m.getD x2.toNat mv0).f,()) fun r13=>(.i ((w6 ((s.p_m.getD x2.toNat mv0).t-1))==0) (.g (.k8 (w6 (x2+1)) 0 x4 r13)) (.i ((w6 ((s.p_m.getD x2.toNat mv0).t-1))==1) (.g (.k8 (w6 (x2+1)) 0 r13 x5)) (.i ((w6 ((s.p_m.getD x2.toNat mv0).t-1))==2) (.g (.k8 (w6 (x2+1)) r13 x4 x5)) .n)))) (.g (.k8 (w6 (x2+1)) 0 x4 x5))) (.g (.k8 (w6 (x2+1)) 0 x4 x5))) .n))) (.i (!(s.p_m.getD x2.toNat mv0).o) (.i (decide ((s.p_m.getD x2.toNat mv0).t<4)) (.c qU n9 (s,(s.p_m.getD x2.toNat mv0).f,()) fun r16=>(.i ((w6 ((s.p_m.getD x2.toNat mv0).t-1))==0) (.g (.k8 (w6 (x2+1)) x3 x4 r16)) (.i ((w6 ((s.p_m.getD x2.toNat mv0).t-1))==1) (.g (.k8 (w6 (x2+1)) x3 r16 x5)) (.i ((w6 ((s.p_m.getD x2.toNat mv0).t-1))==2) (.g (.k8 (w6 (x2+1)) r16 x4 x5)) .n)))) (.g (.k8 (w6 (x2+1)) x3 x4 x5))) (.g (.k8 (w6 (x2+1)) x3 x4 x5)))) .n) (.r (x5,x4,x3,())))
noncomputable def Tz147 (s:Tn):Tr ((Int)×(Int)×(Int)×Unit) ax3 (ak5 s) (Cod.agg (Row.cons cI (Row.cons cI (Row.cons cI Row.nil)))).v:=(.g (.k8 0 s.s_b3 s.s_b2 s.s_b1))
noncomputable def azh (s:Tn):=Tr.lp (aqn s)
theorem azg {s:Tn}{n:Nat}{l_:ax3}:azh s (n+1) l_=(aqn s l_).d (azh s n):=rfl
noncomputable def Ez147 (n:Nat) (s:Tn):=(Tz147 s).d (azh s n)
noncomputable def ay7 (x:Tn×Unit):=Ez147 (x.1.p_m.length+64) x.1
noncomputable def wz147:Wk (Tn×Unit) ((Int)×(Int)×(Int)×Unit) ax3 (Cod.agg (Row.cons cI (Row.cons cI (Row.cons cI Row.nil)))).v:=⟨fun x=>ak5 x.1,uz147,fun x=>Tz147 x.1,fun x=>aqn x.1⟩
noncomputable def Kz147:=aS 147 Tryz.func147 [Kz91] noZ ⟨48,(lookA [(4,⟨[0,2,3,17,18,19],[0,1],2,[],[],[],[]⟩)]),noL,noL⟩ 128 Az147 (Cod.agg (Row.cons cI (Row.cons cI (Row.cons cI Row.nil)))) ay7 wz147 (fun x=>x.1.p_m.length+64)
noncomputable def Az177:=(Row.cons (Cod.agg rSt) Row.nil)
noncomputable def Tz177 (s:St):Tr Bool Empty noS cB.v:=(.r (decide (s.c0<s.c1)))
noncomputable def Ez177 (s:St):=(Tz177 s).d noE
noncomputable def bjV (x:St×Unit):=Ez177 x.1
noncomputable def wz177:Wk (St×Unit) Bool Empty cB.v:=wk0 fun x=>Tz177 x.1
noncomputable def Kz177:=aS 177 Tryz.func177 [] noZ ⟨10,noL,noL,noL⟩ 128 Az177 cB bjV wz177 (fun _=>0)
noncomputable def Az120:=(Row.cons (Cod.agg rSt) Row.nil)
noncomputable def Tz120 (s:St):Tr Bool Empty noS cB.v:=(.i (decide (9≤s.inn)) (.i (s.half==1) (.c Az177 bjV (s,()) fun r2=>(.r r2)) (.r false)) (.r false))
noncomputable def Ez120 (s:St):=(Tz120 s).d noE
noncomputable def ay8 (x:St×Unit):=Ez120 x.1
noncomputable def wz120:Wk (St×Unit) Bool Empty cB.v:=wk0 fun x=>Tz120 x.1
noncomputable def Kz120:=aS 120 Tryz.func120 [Kz177] noZ ⟨15,noL,noL,noL⟩ 128 Az120 cB ay8 wz120 (fun _=>0)
noncomputable def Az175:=(Row.cons (Cod.agg rSt) Row.nil)
noncomputable def Tz175 (s:St):Tr St Empty noS (Cod.agg rSt).v:=(.r (⟨s.inn,s.half,0,0,0,0,0,0,s.n0,s.n1,s.c0,s.c1,s.over⟩:St))
noncomputable def Ez175 (s:St):=(Tz175 s).d noE
noncomputable def bjW (x:St×Unit):=Ez175 x.1
noncomputable def wz175:Wk (St×Unit) St Empty (Cod.agg rSt).v:=wk0 fun x=>Tz175 x.1
noncomputable def Kz175:=aS 175 Tryz.func175 [] noZ ⟨9,noL,noL,noL⟩ 128 Az175 (Cod.agg rSt) bjW wz175 (fun _=>0)
noncomputable def Az148:=(Row.cons (Cod.agg rSt) Row.nil)
noncomputable def Tz148 (s:St):Tr St Empty noS (Cod.agg rSt).v:=(.c Az175 bjW (s,()) fun r2=>(.r (⟨r2.inn,r2.half,r2.outs,r2.balls,r2.strikes,r2.b1,r2.b2,r2.b3,r2.n0,r2.n1,r2.c0,r2.c1,true⟩:St)))
noncomputable def Ez148 (s:St):=(Tz148 s).d noE
noncomputable def av9 (x:St×Unit):=Ez148 x.1
noncomputable def wz148:Wk (St×Unit) St Empty (Cod.agg rSt).v:=wk0 fun x=>Tz148 x.1
noncomputable def Kz148:=aS 148 Tryz.func148 [Kz175] noZ ⟨7,noL,noL,noL⟩ 128 Az148 (Cod.agg rSt) av9 wz148 (fun _=>0)
noncomputable def Az176:=(Row.cons (Cod.agg rSt) Row.nil)
noncomputable def Tz176 (s:St):Tr Bool Empty noS cB.v:=(.i (decide (s.inn<9)) (.r false) (.c Az177 bjV (s,()) fun r2=>(.i r2 (.r true) (.i (s.half==1) (.i (!(s.c0==s.c1)) (.r true) (.r (s.inn==30))) (.r false)))))
noncomputable def Ez176 (s:St):=(Tz176 s).d noE
noncomputable def Sz176 (x:St×Unit):=Ez176 x.1
noncomputable def wz176:Wk (St×Unit) Bool Empty cB.v:=wk0 fun x=>Tz176 x.1
noncomputable def Kz176:=aS 176 Tryz.func176 [Kz177] noZ ⟨27,noL,noL,noL⟩ 128 Az176 cB Sz176 wz176 (fun _=>0)
noncomputable def Az149:=(Row.cons (Cod.agg rSt) Row.nil)
noncomputable def Tz149 (s:St):Tr St Empty noS (Cod.agg rSt).v:=(.c Az176 Sz176 (s,()) fun r4=>(.i r4 (.c Az148 av9 (s,()) fun r5=>(.r r5)) (.c Az175 bjW (s,()) fun r6=>(.i (r6.half==1) (.r (⟨(w6 (r6.inn+1)),(w6 (1-r6.half)),r6.outs,r6.balls,r6.strikes,r6.b1,r6.b2,r6.b3,r6.n0,r6.n1,r6.c0,r6.c1,r6.over⟩:St)) (.r (⟨r6.inn,(w6 (1-r6.half)),r6.outs,r6.balls,r6.strikes,r6.b1,r6.b2,r6.b3,r6.n0,r6.n1,r6.c0,r6.c1,r6.over⟩:St))))))
noncomputable def Ez149 (s:St):=(Tz149 s).d noE
noncomputable def ay6 (x:St×Unit):=Ez149 x.1
noncomputable def wz149:Wk (St×Unit) St Empty (Cod.agg rSt).v:=wk0 fun x=>Tz149 x.1
noncomputable def Kz149:=aS 149 Tryz.func149 [Kz148,Kz175,Kz176] noZ ⟨21,noL,noL,noL⟩ 128 Az149 (Cod.agg rSt) ay6 wz149 (fun _=>0)
noncomputable def Az86:=(Row.cons (Cod.ptr rTn) Row.nil)
inductive Lz86 where
 | k9 (x2:Int) (x3:Int)
 | k11 (x5:Int) (x6:Int)
 | k17 (x10:Int) (x11:Int) (x12:Int) (x13:Int) (x14:Int) (x15:Int)
noncomputable def uz86:Lz86→Nat
 | .k9 _ _=>9
 | .k11 _ _=>11
 | .k17 _ _ _ _ _ _=>17
noncomputable def sLz86 (s:Tn):Lz86→D
 | .k9 x2 x3=>mD [(0,.lptr (rTn.v s) 0),(2,.ptr 0 0),(3,.ptr 1 0)] 2 [(0,.row ⟨[.int .i64 0,.int .i64 0,.int .i64 0,.int .i64 0,.int .i64 0,.int .i64 0,.int .i64 0,.int .i64 0,.int .i64 0,.int .i64 0,.int .i64 0,.int .i64 0,.bool false],26,false⟩),(1,.row ⟨[.int .i64 s.s_inn,.int .i64 s.s_half,.int .i64 s.outs,.int .i64 s.s_balls,.int .i64 s.s_strikes,.int .i64 s.s_b1,.int .i64 s.s_b2,.int .i64 s.s_b3,.int .i64 s.s_n0,.int .i64 s.s_n1,.int .i64 x3,.int .i64 x2,.bool s.s_over],26,false⟩)] 128 []
 | .k11 x5 x6=>mD [(0,.lptr (rTn.v s) 0),(2,.ptr 0 0),(3,.ptr 1 0)] 2 [(0,.row ⟨[.int .i64 0,.int .i64 0,.int .i64 0,.int .i64 0,.int .i64 0,.int .i64 0,.int .i64 0,.int .i64 0,.int .i64 0,.int .i64 0,.int .i64 0,.int .i64 0,.bool false],26,false⟩),(1,.row ⟨[.int .i64 s.s_inn,.int .i64 s.s_half,.int .i64 s.outs,.int .i64 s.k0,.int .i64 s.k1,.int .i64 s.s_b1,.int .i64 s.s_b2,.int .i64 s.s_b3,.int .i64 s.s_n0,.int .i64 s.s_n1,.int .i64 x5,.int .i64 x6,.bool s.s_over],26,false⟩)] 128 []
 | .k17 x10 x11 x12 x13 x14 x15=>mD [(0,.lptr (rTn.v s) 0),(2,.ptr 0 0),(3,.ptr 1 0)] 2 [(0,.row ⟨[.int .i64 0,.int .i64 0,.int .i64 0,.int .i64 0,.int .i64 0,.int .i64 0,.int .i64 0,.int .i64 0,.int .i64 0,.int .i64 0,.int .i64 0,.int .i64 0,.bool false],26,false⟩),(1,.row ⟨[.int .i64 s.s_inn,.int .i64 s.s_half,.int .i64 s.outs,.int .i64 x14,.int .i64 x15,.int .i64 s.s_b1,.int .i64 s.s_b2,.int .i64 s.s_b3,.int .i64 x13,.int .i64 x10,.int .i64 x11,.int .i64 x12,.bool s.s_over],26,false⟩)] 128 []
noncomputable def Tz86J (s:Tn):(l_:Lz86)→Tr St Lz86 (sLz86 s) (Cod.agg rSt).v
 | .k9 x2 x3=>(.g (.k11 x3 x2))
 | .k11 x5 x6=>(.c axd u7 (s,()) fun r24=>(.i (!r24) (.c Az62 Sz62 ((⟨s.s_inn,s.s_half,s.outs,0,0,s.s_b1,s.s_b2,s.s_b3,s.s_n0,s.s_n1,x5,x6,s.s_over⟩:St),()) fun r25=>(.c Az146 bjY (r25,()) fun r26=>(.i (s.s_half==0) (.g (.k17 s.s_n1 x5 x6 r26 0 0)) (.i (s.s_half==1) (.g (.k17 r26 x5 x6 s.s_n0 0 0)) .n)))) (.g (.k17 s.s_n1 x5 x6 s.s_n0 s.k0 s.k1))))
 | .k17 x10 x11 x12 x13 x14 x15=>(.c Az147 ay7 (s,()) fun r27=>(.c Az120 ay8 ((⟨s.s_inn,s.s_half,s.outs,x14,x15,r27.1,r27.2.1,r27.2.2.1,x13,x10,x11,x12,s.s_over⟩:St),()) fun r28=>(.i r28 (.c Az148 av9 ((⟨s.s_inn,s.s_half,s.outs,x14,x15,r27.1,r27.2.1,r27.2.2.1,x13,x10,x11,x12,s.s_over⟩:St),()) fun r29=>(.r r29)) (.i (s.outs==3) (.c Az149 ay6 ((⟨s.s_inn,s.s_half,s.outs,x14,x15,r27.1,r27.2.1,r27.2.2.1,x13,x10,x11,x12,s.s_over⟩:St),()) fun r30=>(.r r30)) (.r (⟨s.s_inn,s.s_half,s.outs,x14,x15,r27.1,r27.2.1,r27.2.2.1,x13,x10,x11,x12,s.s_over⟩:St))))))
noncomputable def Tz86 (s:Tn):Tr St Lz86 (sLz86 s) (Cod.agg rSt).v:=(.i (s.s_half==0) (.c bxi ajL (s,()) fun r23=>(.i (s.s_half==0) (.g (.k9 s.s_c1 (w6 (s.s_c0+((r23.length:Nat):Int))))) (.i (s.s_half==1) (.g (.k9 (w6 (s.s_c0+((r23.length:Nat):Int))) s.s_c0)) .n))) (.i (s.s_half==1) (.c bxi ajL (s,()) fun r22=>(.i (s.s_half==0) (.g (.k9 s.s_c1 (w6 (s.s_c1+((r22.length:Nat):Int))))) (.i (s.s_half==1) (.g (.k9 (w6 (s.s_c1+((r22.length:Nat):Int))) s.s_c0)) .n))) .n))
noncomputable def zC (s:Tn):=Tr.lp (Tz86J s)
noncomputable def Ez86 (n:Nat) (s:Tn):=(Tz86 s).d (zC s n)
noncomputable def Sz86 (x:Tn×Unit):=Ez86 (x.1.p_m.length+64) x.1
noncomputable def wz86:Wk (Tn×Unit) St Lz86 (Cod.agg rSt).v:=⟨fun x=>sLz86 x.1,uz86,fun x=>Tz86 x.1,fun x=>Tz86J x.1⟩
noncomputable def Kz86:=aS 86 Tryz.func86 [Kz62,Kz89,Kz120,bjl,Kz146,Kz147,Kz148,Kz149] noZ ⟨63,noL,(lookA [(4,⟨[0,2,3],[0,1],2,[],[],[],[]⟩),(5,⟨[0,2,3],[0,1],2,[],[],[],[]⟩),(8,⟨[0,2,3],[0,1],2,[],[],[],[]⟩)]),noL⟩ 128 Az86 (Cod.agg rSt) Sz86 wz86 (fun x=>x.1.p_m.length+64)
noncomputable def Az32:=(Row.cons (Cod.agg rSt) (Row.cons (Cod.agg rPl) Row.nil))
noncomputable def Tz32 (s:St) (t:Pl):Tr ((St)×(Int)×(Int)×Unit) Empty noS (Cod.tup (Row.cons (Cod.agg rSt) (Row.cons cI (Row.cons cI Row.nil)))).v:=(.c Az85 Sz85 (s,t,()) fun r5=>(.s r5.1 (.i (!(r5.2.2.1==0)) (.r ((⟨0,0,0,0,0,0,0,0,0,0,0,0,false⟩:St),r5.2.1,r5.2.2.1,())) (.v Az86 Sz86 [.raw .nilp] fun r7=>(.r (r7,0,0,())))) fun r6=>(.i (!(r5.2.2.1==0)) (.r ((⟨0,0,0,0,0,0,0,0,0,0,0,0,false⟩:St),r5.2.1,r5.2.2.1,())) (.c Az86 Sz86 (r6,()) fun r8=>(.r (r8,0,0,()))))))
noncomputable def Ez32 (s:St) (t:Pl):=(Tz32 s t).d noE
noncomputable def Sz32 (x:St×Pl×Unit):=Ez32 x.1 x.2.1
noncomputable def wz32:Wk (St×Pl×Unit) ((St)×(Int)×(Int)×Unit) Empty (Cod.tup (Row.cons (Cod.agg rSt) (Row.cons cI (Row.cons cI Row.nil)))).v:=wk0 fun x=>Tz32 x.1 x.2.1
noncomputable def Kz32:=aS 32 Tryz.func32 [Kz85,Kz86] noZ ⟨24,noL,noL,noL⟩ 128 Az32 (Cod.tup (Row.cons (Cod.agg rSt) (Row.cons cI (Row.cons cI Row.nil)))) Sz32 wz32 (fun _=>0)
noncomputable def Az90:=(Row.cons (Cod.agg rMv) (Row.cons (Cod.ptr (Row.cons (Cod.ptr rTn) Row.nil)) Row.nil))
noncomputable def Tz90 (m:Mv) (t:Tn×Unit):Tr Int Empty noS cI.v:=(.c qU n9 (t.1,m.f,()) fun r2=>(.r r2))
noncomputable def Ez90 (m:Mv) (t:Tn×Unit):=(Tz90 m t).d noE
noncomputable def Sz90 (x:Mv×(Tn×Unit)×Unit):=Ez90 x.1 x.2.1
noncomputable def wz90:Wk (Mv×(Tn×Unit)×Unit) Int Empty cI.v:=wk0 fun x=>Tz90 x.1 x.2.1
noncomputable def Kz90:=aS 90 Tryz.func90 [Kz91] noZ ⟨8,noL,noL,noL⟩ 128 Az90 cI Sz90 wz90 (fun _=>0)
noncomputable def Az88:=(Row.cons (Cod.list mv0 rMv) (Row.cons (Cod.fn 90 (Row.cons (Cod.ptr (Row.cons (Cod.ptr rTn) Row.nil)) Row.nil)) Row.nil))
noncomputable def Wz88 (r:(List (Int))):V:=.el (r.map aJ.v)
theorem hWz88 (r:(List (Int))):(Wz88 r).c=((Cod.list 0 aJ).v r).c:=by
 first|rfl|exact bO|(show EVal.tup (V.cs _)=EVal.tup (V.cs _);simp only [V.cs_map,List.map_cons,List.map_nil,bO];rfl)
inductive Lz88 where
 | k6 (x2:Int) (x3:List (Int))
noncomputable def uz88:Lz88→Nat
 | .k6 _ _=>6
noncomputable def akL (l:List (Mv)) (f:(Tn×Unit)×Unit) (x2:Int) (x3:List (List V)):D:=mD [(1,.fn 90 [.lptr [.lptr (rTn.v f.1.1) 0] 0]),(5,.gl 128),(8,(Cod.list mv0 rMv).v l),(9,.int .i64 ((l.length:Nat):Int)),(10,.int .i64 x2)] 0 [] 129 [(128,(x3,3))]
noncomputable def bqJ (l:List (Mv)) (f:(Tn×Unit)×Unit):Lz88→D
 | .k6 x2 x3=>akL l f x2 (x3.map aJ.v)
noncomputable def ayY (l:List (Mv)) (f:(Tn×Unit)×Unit):(l_:Lz88)→Tr (List (Int)) Lz88 (bqJ l f) Wz88
 | .k6 x2 x3=>(.i (decide (x2<((l.length:Nat):Int))) (.i (inR x2 l.length) (.c Az90 Sz90 ((l.getD x2.toNat mv0),(f.1.1,()),()) fun r5=>(.i (Nat.ble (8*(((x3.map aJ.v)).length+1)) 1000000) (.j (.k6 (w6 (x2+1)) (x3++[r5])) (akL l f (w6 (x2+1)) ((x3.map aJ.v)++[[.int .i64 r5]])) ⟨by simp only [bqJ,List.map_append,List.map_cons,List.map_nil];rfl⟩) .n)) .n) (.r x3))
noncomputable def Tz88 (l:List (Mv)) (f:(Tn×Unit)×Unit):Tr (List (Int)) Lz88 (bqJ l f) Wz88:=(.g (.k6 0 []))
noncomputable def bjo (l:List (Mv)) (f:(Tn×Unit)×Unit):=Tr.lp (ayY l f)
theorem ayi {l:List (Mv)}{f:(Tn×Unit)×Unit}{n:Nat}{l_:Lz88}:bjo l f (n+1) l_=(ayY l f l_).d (bjo l f n):=rfl
noncomputable def Ez88 (n:Nat) (l:List (Mv)) (f:(Tn×Unit)×Unit):=(Tz88 l f).d (bjo l f n)
noncomputable def Sz88 (x:(List (Mv))×((Tn×Unit)×Unit)×Unit):=Ez88 (x.1.length+64) x.1 x.2.1
noncomputable def wz88:Wk ((List (Mv))×((Tn×Unit)×Unit)×Unit) (List (Int)) Lz88 Wz88:=⟨fun x=>bqJ x.1 x.2.1,uz88,fun x=>Tz88 x.1 x.2.1,fun x=>ayY x.1 x.2.1⟩
noncomputable def Kz88:=aS 88 Tryz.func88 [Kz90] noZ ⟨22,(lookA [(3,⟨[1,5,8,9,10],[],0,[(5,3)],[128],[],[]⟩)]),noL,noL⟩ 128 Az88 (Cod.list 0 aJ) Sz88 wz88 (fun x=>x.1.length+64) hWz88
noncomputable def Az34:=(Row.cons (Cod.agg rSt) (Row.cons (Cod.agg rPl) Row.nil))
inductive Lz34 where
 | k9_0
 | k9_1 (x3:Int) (x4:Int) (x5:Int) (x6:Int) (x7:Int) (x8:Int) (x9:Int) (x10:Int) (x11:Int) (x12:Int) (x13:Int) (x14:Int) (x15:Bool) (x16:List Nat) (x17:List Nat) (x18:Bool) (x19:List (Mv)) (x20:Int) (x21:Int) (x22:Bool) (x23:Int) (x24:Bool) (x25:Bool) (x26:Bool) (x27:Bool)
noncomputable def uz34:Lz34→Nat
 | .k9_0=>9
 | .k9_1 _ _ _ _ _ _ _ _ _ _ _ _ _ _ _ _ _ _ _ _ _ _ _ _ _=>9
noncomputable def sLz34 (s:St) (t:Pl):Lz34→D
 | .k9_0=>mD [(6,.lptr [.raw .nilp] 0)] 0 [] 128 []
 | .k9_1 x3 x4 x5 x6 x7 x8 x9 x10 x11 x12 x13 x14 x15 x16 x17 x18 x19 x20 x21 x22 x23 x24 x25 x26 x27=>mD [(6,.lptr [.lptr [.int .i64 x3,.int .i64 x4,.int .i64 x5,.int .i64 x6,.int .i64 x7,.int .i64 x8,.int .i64 x9,.int .i64 x10,.int .i64 x11,.int .i64 x12,.int .i64 x13,.int .i64 x14,.bool x15,.str x16,.str x17,.bool x18,(Cod.list mv0 rMv).v x19,.int .i64 x20,.int .i64 x21,.bool x22,.int .i64 x23,.bool x24,.bool x25,.bool x26,.bool x27] 0] 0)] 0 [] 128 []
noncomputable def Tz34J (s:St) (t:Pl):(l_:Lz34)→Tr ((List (Int))×(Int)×Unit) Lz34 (sLz34 s t) (Cod.tup (Row.cons (Cod.list 0 aJ) (Row.cons cI Row.nil))).v
 | .k9_0=>(.v bxi ajL [.raw .nilp] fun r36=>(.v Az88 Sz88 [(Cod.list mv0 rMv).v r36,.fn 90 [.lptr [.raw .nilp] 0]] fun r37=>(.r (r37,0,()))))
 | .k9_1 x3 x4 x5 x6 x7 x8 x9 x10 x11 x12 x13 x14 x15 x16 x17 x18 x19 x20 x21 x22 x23 x24 x25 x26 x27=>(.c bxi ajL ((⟨x3,x4,x5,x6,x7,x8,x9,x10,x11,x12,x13,x14,x15,x16,x17,x18,x19,x20,x21,x22,x23,x24,x25,x26,x27⟩:Tn),()) fun r38=>(.c Az88 Sz88 (r38,(((⟨x3,x4,x5,x6,x7,x8,x9,x10,x11,x12,x13,x14,x15,x16,x17,x18,x19,x20,x21,x22,x23,x24,x25,x26,x27⟩:Tn),()),()),()) fun r39=>(.r (r39,0,()))))
noncomputable def Tz34 (s:St) (t:Pl):Tr ((List (Int))×(Int)×Unit) Lz34 (sLz34 s t) (Cod.tup (Row.cons (Cod.list 0 aJ) (Row.cons cI Row.nil))).v:=(.c Az85 Sz85 (s,t,()) fun r34=>(.s r34.1 (.i (!(r34.2.2.1==0)) (.w ([],r34.2.2.1,()) (.tup [.el [],.int .i64 r34.2.2.1]) ⟨by kernel_rfl⟩) (.g .k9_0)) fun r35=>(.i (!(r34.2.2.1==0)) (.w ([],r34.2.2.1,()) (.tup [.el [],.int .i64 r34.2.2.1]) ⟨by kernel_rfl⟩) (.g (.k9_1 r35.s_inn r35.s_half r35.s_outs r35.s_balls r35.s_strikes r35.s_b1 r35.s_b2 r35.s_b3 r35.s_n0 r35.s_n1 r35.s_c0 r35.s_c1 r35.s_over r35.p_p r35.p_e r35.p_l r35.p_m r35.k0 r35.k1 r35.counted r35.outs r35.f0 r35.f1 r35.f2 r35.f3)))))
noncomputable def Ez34J (s:St) (t:Pl):=Tr.lp (Tz34J s t)
noncomputable def Ez34 (n:Nat) (s:St) (t:Pl):=(Tz34 s t).d (Ez34J s t n)
noncomputable def Sz34 (x:St×Pl×Unit):=Ez34 (x.2.1.m.length+64) x.1 x.2.1
noncomputable def wz34:Wk (St×Pl×Unit) ((List (Int))×(Int)×Unit) Lz34 (Cod.tup (Row.cons (Cod.list 0 aJ) (Row.cons cI Row.nil))).v:=⟨fun x=>sLz34 x.1 x.2.1,uz34,fun x=>Tz34 x.1 x.2.1,fun x=>Tz34J x.1 x.2.1⟩
noncomputable def Kz34:=aS 34 Tryz.func34 [Kz85,Kz88,Kz89] noZ ⟨23,noL,(lookA [(4,⟨[6],[],0,[],[],[(2,1)],[]⟩)]),noL⟩ 128 Az34 (Cod.tup (Row.cons (Cod.list 0 aJ) (Row.cons cI Row.nil))) Sz34 wz34 (fun x=>x.2.1.m.length+64)
noncomputable def Az92:=(Row.cons (Cod.ptr rTn) Row.nil)
noncomputable def Tz92 (s:Tn):Tr Int Empty noS cI.v:=(.c Az86 Sz86 (s,()) fun r2=>(.i r2.over (.r 2) (.i (!(r2.half==s.s_half)) (.r 1) (.r 0))))
noncomputable def Ez92 (s:Tn):=(Tz92 s).d noE
noncomputable def bxg (x:Tn×Unit):=Ez92 x.1
noncomputable def wz92:Wk (Tn×Unit) Int Empty cI.v:=wk0 fun x=>Tz92 x.1
noncomputable def Kz92:=aS 92 Tryz.func92 [Kz86] noZ ⟨18,noL,noL,noL⟩ 128 Az92 cI bxg wz92 (fun _=>0)
noncomputable def Az93:=(Row.cons (Cod.ptr rTn) Row.nil)
noncomputable def Wz93 (r:(List (Int))):V:=.el (r.map aJ.v)
theorem hWz93 (r:(List (Int))):(Wz93 r).c=((Cod.list 0 aJ).v r).c:=by
 first|rfl|exact bO|(show EVal.tup (V.cs _)=EVal.tup (V.cs _);simp only [V.cs_map,List.map_cons,List.map_nil,bO];rfl)
inductive Lz93 where
 | k8 (x3:Bool) (x4:Int) (x5:Int) (x6:Int) (x7:Int) (x9:Int) (x10:List (Int))
noncomputable def uz93:Lz93→Nat
 | .k8 _ _ _ _ _ _ _=>8
noncomputable def bD (s:Tn) (x3:Bool) (x4:Int) (x5:Int) (x6:Int) (x7:Int) (x9:Int) (x10:List (List V)):D:=mD [(0,.lptr (rTn.v s) 0),(3,.ptr 0 0),(4,.bool x3),(5,.gl 128),(15,.int .i64 x9)] 1 [(0,.row ⟨[.int .i64 x4,.int .i64 x5,.int .i64 x6,.int .i64 x7],176,false⟩)] 129 [(128,(x10,3))]
noncomputable def fN (s:Tn):Lz93→D
 | .k8 x3 x4 x5 x6 x7 x9 x10=>bD s x3 x4 x5 x6 x7 x9 (x10.map aJ.v)
noncomputable def axV (s:Tn):(l_:Lz93)→Tr (List (Int)) Lz93 (fN s) Wz93
 | .k8 x3 x4 x5 x6 x7 x9 x10=>(.i (decide (x9<4)) (.i x3 (.i ((w6 (3-x9))==0) (.i ((w6 (3-x9))==0) (.i (!(x4==0)) (.i (!(x4==4)) (.c qU n9 (s,(w6 (3-x9)),()) fun r51=>(.i (Nat.ble (8*(((x10.map aJ.v)).length+1)) 1000000) (.j (.k8 x3 x4 x5 x6 x7 (w6 (x9+1)) (x10++[r51])) (bD s x3 x4 x5 x6 x7 (w6 (x9+1)) ((x10.map aJ.v)++[[.int .i64 r51]])) ⟨by simp only [fN,List.map_append,List.map_cons,List.map_nil];rfl⟩) .n)) (.g (.k8 x3 x4 x5 x6 x7 (w6 (x9+1)) x10))) (.g (.k8 x3 x4 x5 x6 x7 (w6 (x9+1)) x10))) (.i ((w6 (3-x9))==1) (.i (!(x5==0)) (.i (!(x4==4)) (.c qU n9 (s,(w6 (3-x9)),()) fun r50=>(.i (Nat.ble (8*(((x10.map aJ.v)).length+1)) 1000000) (.j (.k8 x3 x4 x5 x6 x7 (w6 (x9+1)) (x10++[r50])) (bD s x3 x4 x5 x6 x7 (w6 (x9+1)) ((x10.map aJ.v)++[[.int .i64 r50]])) ⟨by simp only [fN,List.map_append,List.map_cons,List.map_nil];rfl⟩) .n)) (.g (.k8 x3 x4 x5 x6 x7 (w6 (x9+1)) x10))) (.g (.k8 x3 x4 x5 x6 x7 (w6 (x9+1)) x10))) (.i ((w6 (3-x9))==2) (.i (!(x6==0)) (.i (!(x4==4)) (.c qU n9 (s,(w6 (3-x9)),()) fun r49=>(.i (Nat.ble (8*(((x10.map aJ.v)).length+1)) 1000000) (.j (.k8 x3 x4 x5 x6 x7 (w6 (x9+1)) (x10++[r49])) (bD s x3 x4 x5 x6 x7 (w6 (x9+1)) ((x10.map aJ.v)++[[.int .i64 r49]])) ⟨by simp only [fN,List.map_append,List.map_cons,List.map_nil];rfl⟩) .n)) (.g (.k8 x3 x4 x5 x6 x7 (w6 (x9+1)) x10))) (.g (.k8 x3 x4 x5 x6 x7 (w6 (x9+1)) x10))) (.i ((w6 (3-x9))==3) (.i (!(x7==0)) (.i (!(x4==4)) (.c qU n9 (s,(w6 (3-x9)),()) fun r48=>(.i (Nat.ble (8*(((x10.map aJ.v)).length+1)) 1000000) (.j (.k8 x3 x4 x5 x6 x7 (w6 (x9+1)) (x10++[r48])) (bD s x3 x4 x5 x6 x7 (w6 (x9+1)) ((x10.map aJ.v)++[[.int .i64 r48]])) ⟨by simp only [fN,List.map_append,List.map_cons,List.map_nil];rfl⟩) .n)) (.g (.k8 x3 x4 x5 x6 x7 (w6 (x9+1)) x10))) (.g (.k8 x3 x4 x5 x6 x7 (w6 (x9+1)) x10))) .n)))) (.i ((w6 (3-x9))==1) (.i ((w6 (3-x9))==0) (.i (!(x4==0)) (.i (!(x5==4)) (.c qU n9 (s,(w6 (3-x9)),()) fun r47=>(.i (Nat.ble (8*(((x10.map aJ.v)).length+1)) 1000000) (.j (.k8 x3 x4 x5 x6 x7 (w6 (x9+1)) (x10++[r47])) (bD s x3 x4 x5 x6 x7 (w6 (x9+1)) ((x10.map aJ.v)++[[.int .i64 r47]])) ⟨by simp only [fN,List.map_append,List.map_cons,List.map_nil];rfl⟩) .n)) (.g (.k8 x3 x4 x5 x6 x7 (w6 (x9+1)) x10))) (.g (.k8 x3 x4 x5 x6 x7 (w6 (x9+1)) x10))) (.i ((w6 (3-x9))==1) (.i (!(x5==0)) (.i (!(x5==4)) (.c qU n9 (s,(w6 (3-x9)),()) fun r46=>(.i (Nat.ble (8*(((x10.map aJ.v)).length+1)) 1000000) (.j (.k8 x3 x4 x5 x6 x7 (w6 (x9+1)) (x10++[r46])) (bD s x3 x4 x5 x6 x7 (w6 (x9+1)) ((x10.map aJ.v)++[[.int .i64 r46]])) ⟨by simp only [fN,List.map_append,List.map_cons,List.map_nil];rfl⟩) .n)) (.g (.k8 x3 x4 x5 x6 x7 (w6 (x9+1)) x10))) (.g (.k8 x3 x4 x5 x6 x7 (w6 (x9+1)) x10))) (.i ((w6 (3-x9))==2) (.i (!(x6==0)) (.i (!(x5==4)) (.c qU n9 (s,(w6 (3-x9)),()) fun r45=>(.i (Nat.ble (8*(((x10.map aJ.v)).length+1)) 1000000) (.j (.k8 x3 x4 x5 x6 x7 (w6 (x9+1)) (x10++[r45])) (bD s x3 x4 x5 x6 x7 (w6 (x9+1)) ((x10.map aJ.v)++[[.int .i64 r45]])) ⟨by simp only [fN,List.map_append,List.map_cons,List.map_nil];rfl⟩) .n)) (.g (.k8 x3 x4 x5 x6 x7 (w6 (x9+1)) x10))) (.g (.k8 x3 x4 x5 x6 x7 (w6 (x9+1)) x10))) (.i ((w6 (3-x9))==3) (.i (!(x7==0)) (.i (!(x5==4)) (.c qU n9 (s,(w6 (3-x9)),()) fun r44=>(.i (Nat.ble (8*(((x10.map aJ.v)).length+1)) 1000000) (.j (.k8 x3 x4 x5 x6 x7 (w6 (x9+1)) (x10++[r44])) (bD s x3 x4 x5 x6 x7 (w6 (x9+1)) ((x10.map aJ.v)++[[.int .i64 r44]])) ⟨by simp only [fN,List.map_append,List.map_cons,List.map_nil];rfl⟩) .n)) (.g (.k8 x3 x4 x5 x6 x7 (w6 (x9+1)) x10))) (.g (.k8 x3 x4 x5 x6 x7 (w6 (x9+1)) x10))) .n)))) (.i ((w6 (3-x9))==2) (.i ((w6 (3-x9))==0) (.i (!(x4==0)) (.i (!(x6==4)) (.c qU n9 (s,(w6 (3-x9)),()) fun r43=>(.i (Nat.ble (8*(((x10.map aJ.v)).length+1)) 1000000) (.j (.k8 x3 x4 x5 x6 x7 (w6 (x9+1)) (x10++[r43])) (bD s x3 x4 x5 x6 x7 (w6 (x9+1)) ((x10.map aJ.v)++[[.int .i64 r43]])) ⟨by simp only [fN,List.map_append,List.map_cons,List.map_nil];rfl⟩) .n)) (.g (.k8 x3 x4 x5 x6 x7 (w6 (x9+1)) x10))) (.g (.k8 x3 x4 x5 x6 x7 (w6 (x9+1)) x10))) (.i ((w6 (3-x9))==1) (.i (!(x5==0)) (.i (!(x6==4)) (.c qU n9 (s,(w6 (3-x9)),()) fun r42=>(.i (Nat.ble (8*(((x10.map aJ.v)).length+1)) 1000000) (.j (.k8 x3 x4 x5 x6 x7 (w6 (x9+1)) (x10++[r42])) (bD s x3 x4 x5 x6 x7 (w6 (x9+1)) ((x10.map aJ.v)++[[.int .i64 r42]])) ⟨by simp only [fN,List.map_append,List.map_cons,List.map_nil];rfl⟩) .n)) (.g (.k8 x3 x4 x5 x6 x7 (w6 (x9+1)) x10))) (.g (.k8 x3 x4 x5 x6 x7 (w6 (x9+1)) x10))) (.i ((w6 (3-x9))==2) (.i (!(x6==0)) (.i (!(x6==4)) (.c qU n9 (s,(w6 (3-x9)),()) fun r41=>(.i (Nat.ble (8*(((x10.map aJ.v)).length+1)) 1000000) (.j (.k8 x3 x4 x5 x6 x7 (w6 (x9+1)) (x10++[r41])) (bD s x3 x4 x5 x6 x7 (w6 (x9+1)) ((x10.map aJ.v)++[[.int .i64 r41]])) ⟨by simp only [fN,List.map_append,List.map_cons,List.map_nil];rfl⟩) .n)) (.g (.k8 x3 x4 x5 x6 x7 (w6 (x9+1)) x10))) (.g (.k8 x3 x4 x5 x6 x7 (w6 (x9+1)) x10))) (.i ((w6 (3-x9))==3) (.i (!(x7==0)) (.i (!(x6==4)) (.c qU n9 (s,(w6 (3-x9)),()) fun r40=>(.i (Nat.ble (8*(((x10.map aJ.v)).length+1)) 1000000) (.j (.k8 x3 x4 x5 x6 x7 (w6 (x9+1)) (x10++[r40])) (bD s x3 x4 x5 x6 x7 (w6 (x9+1)) ((x10.map aJ.v)++[[.int .i64 r40]])) ⟨by simp only [fN,List.map_append,List.map_cons,List.map_nil];rfl⟩) .n)) (.g (.k8 x3 x4 x5 x6 x7 (w6 (x9+1)) x10))) (.g (.k8 x3 x4 x5 x6 x7 (w6 (x9+1)) x10))) .n)))) (.i ((w6 (3-x9))==3) (.i ((w6 (3-x9))==0) (.i (!(x4==0)) (.i (!(x7==4)) (.c qU n9 (s,(w6 (3-x9)),()) fun r39=>(.i (Nat.ble (8*(((x10.map aJ.v)).length+1)) 1000000) (.j (.k8 x3 x4 x5 x6 x7 (w6 (x9+1)) (x10++[r39])) (bD s x3 x4 x5 x6 x7 (w6 (x9+1)) ((x10.map aJ.v)++[[.int .i64 r39]])) ⟨by simp only [fN,List.map_append,List.map_cons,List.map_nil];rfl⟩) .n)) (.g (.k8 x3 x4 x5 x6 x7 (w6 (x9+1)) x10))) (.g (.k8 x3 x4 x5 x6 x7 (w6 (x9+1)) x10))) (.i ((w6 (3-x9))==1) (.i (!(x5==0)) (.i (!(x7==4)) (.c qU n9 (s,(w6 (3-x9)),()) fun r38=>(.i (Nat.ble (8*(((x10.map aJ.v)).length+1)) 1000000) (.j (.k8 x3 x4 x5 x6 x7 (w6 (x9+1)) (x10++[r38])) (bD s x3 x4 x5 x6 x7 (w6 (x9+1)) ((x10.map aJ.v)++[[.int .i64 r38]])) ⟨by simp only [fN,List.map_append,List.map_cons,List.map_nil];rfl⟩) .n)) (.g (.k8 x3 x4 x5 x6 x7 (w6 (x9+1)) x10))) (.g (.k8 x3 x4 x5 x6 x7 (w6 (x9+1)) x10))) (.i ((w6 (3-x9))==2) (.i (!(x6==0)) (.i (!(x7==4)) (.c qU n9 (s,(w6 (3-x9)),()) fun r37=>(.i (Nat.ble (8*(((x10.map aJ.v)).length+1)) 1000000) (.j (.k8 x3 x4 x5 x6 x7 (w6 (x9+1)) (x10++[r37])) (bD s x3 x4 x5 x6 x7 (w6 (x9+1)) ((x10.map aJ.v)++[[.int .i64 r37]])) ⟨by simp only [fN,List.map_append,List.map_cons,List.map_nil];rfl⟩) .n)) (.g (.k8 x3 x4 x5 x6 x7 (w6 (x9+1)) x10))) (.g (.k8 x3 x4 x5 x6 x7 (w6 (x9+1)) x10))) (.i ((w6 (3-x9))==3) (.i (!(x7==0)) (.i (!(x7==4)) (.c qU n9 (s,(w6 (3-x9)),()) fun r36=>(.i (Nat.ble (8*(((x10.map aJ.v)).length+1)) 1000000) (.j (.k8 x3 x4 x5 x6 x7 (w6 (x9+1)) (x10++[r36])) (bD s x3 x4 x5 x6 x7 (w6 (x9+1)) ((x10.map aJ.v)++[[.int .i64 r36]])) ⟨by simp only [fN,List.map_append,List.map_cons,List.map_nil];rfl⟩) .n)) (.g (.k8 x3 x4 x5 x6 x7 (w6 (x9+1)) x10))) (.g (.k8 x3 x4 x5 x6 x7 (w6 (x9+1)) x10))) .n)))) .n)))) (.i ((w6 (3-x9))==0) (.i (!(x4==0)) (.c qU n9 (s,(w6 (3-x9)),()) fun r55=>(.i (Nat.ble (8*(((x10.map aJ.v)).length+1)) 1000000) (.j (.k8 x3 x4 x5 x6 x7 (w6 (x9+1)) (x10++[r55])) (bD s x3 x4 x5 x6 x7 (w6 (x9+1)) ((x10.map aJ.v)++[[.int .i64 r55]])) ⟨by simp only [fN,List.map_append,List.map_cons,List.map_nil];rfl⟩) .n)) (.g (.k8 x3 x4 x5 x6 x7 (w6 (x9+1)) x10))) (.i ((w6 (3-x9))==1) (.i (!(x5==0)) (.c qU n9 (s,(w6 (3-x9)),()) fun r54=>(.i (Nat.ble (8*(((x10.map aJ.v)).length+1)) 1000000) (.j (.k8 x3 x4 x5 x6 x7 (w6 (x9+1)) (x10++[r54])) (bD s x3 x4 x5 x6 x7 (w6 (x9+1)) ((x10.map aJ.v)++[[.int .i64 r54]])) ⟨by simp only [fN,List.map_append,List.map_cons,List.map_nil];rfl⟩) .n)) (.g (.k8 x3 x4 x5 x6 x7 (w6 (x9+1)) x10))) (.i ((w6 (3-x9))==2) (.i (!(x6==0)) (.c qU n9 (s,(w6 (3-x9)),()) fun r53=>(.i (Nat.ble (8*(((x10.map aJ.v)).length+1)) 1000000) (.j (.k8 x3 x4 x5 x6 x7 (w6 (x9+1)) (x10++[r53])) (bD s x3 x4 x5 x6 x7 (w6 (x9+1)) ((x10.map aJ.v)++[[.int .i64 r53]])) ⟨by simp only [fN,List.map_append,List.map_cons,List.map_nil];rfl⟩) .n)) (.g (.k8 x3 x4 x5 x6 x7 (w6 (x9+1)) x10))) (.i ((w6 (3-x9))==3) (.i (!(x7==0)) (.c qU n9 (s,(w6 (3-x9)),()) fun r52=>(.i (Nat.ble (8*(((x10.map aJ.v)).length+1)) 1000000) (.j (.k8 x3 x4 x5 x6 x7 (w6 (x9+1)) (x10++[r52])) (bD s x3 x4 x5 x6 x7 (w6 (x9+1)) ((x10.map aJ.v)++[[.int .i64 r52]])) ⟨by simp only [fN,List.map_append,List.map_cons,List.map_nil];rfl⟩) .n)) (.g (.k8 x3 x4 x5 x6 x7 (w6 (x9+1)) x10))) .n))))) (.r x10))
noncomputable def Tz93 (s:Tn):Tr (List (Int)) Lz93 (fN s) Wz93:=(.c Az152 ay5 (s,()) fun r34=>(.c bxi ajL (s,()) fun r35=>(.g (.k8 (decide (0<((r35.length:Nat):Int))) r34.1 r34.2.1 r34.2.2.1 r34.2.2.2.1 0 []))))
noncomputable def axb (s:Tn):=Tr.lp (axV s)
theorem zA {s:Tn}{n:Nat}{l_:Lz93}:axb s (n+1) l_=(axV s l_).d (axb s n):=rfl
noncomputable def Ez93 (n:Nat) (s:Tn):=(Tz93 s).d (axb s n)
noncomputable def Sz93 (x:Tn×Unit):=Ez93 (x.1.p_m.length+64) x.1
noncomputable def wz93:Wk (Tn×Unit) (List (Int)) Lz93 Wz93:=⟨fun x=>fN x.1,uz93,fun x=>Tz93 x.1,fun x=>axV x.1⟩
noncomputable def Kz93:=aS 93 Tryz.func93 [Kz89,Kz91,Kz152] noZ ⟨43,(lookA [(4,⟨[0,3,4,5,15],[0],1,[(5,3)],[128],[],[]⟩)]),noL,noL⟩ 128 Az93 (Cod.list 0 aJ) Sz93 wz93 (fun x=>x.1.p_m.length+64) hWz93
noncomputable def Az35:=(Row.cons (Cod.agg rSt) (Row.cons (Cod.agg rPl) Row.nil))
noncomputable def Tz35 (s:St) (t:Pl):Tr ((List (Int))×(Int)×Unit) Empty noS (Cod.tup (Row.cons (Cod.list 0 aJ) (Row.cons cI Row.nil))).v:=(.c Az85 Sz85 (s,t,()) fun r7=>(.s r7.1 (.i (!(r7.2.2.1==0)) (.w ([],r7.2.2.1,()) (.tup [.el [],.int .i64 r7.2.2.1]) ⟨by kernel_rfl⟩) (.v Az92 bxg [.raw .nilp] fun r9=>(.i (r9==0) (.w ([],r7.2.2.1,()) (.tup [.el [],.int .i64 r7.2.2.1]) ⟨by kernel_rfl⟩) (.v Az93 Sz93 [.raw .nilp] fun r10=>(.r (r10,0,())))))) fun r8=>(.i (!(r7.2.2.1==0)) (.w ([],r7.2.2.1,()) (.tup [.el [],.int .i64 r7.2.2.1]) ⟨by kernel_rfl⟩) (.c Az92 bxg (r8,()) fun r11=>(.i (r11==0) (.w ([],r7.2.2.1,()) (.tup [.el [],.int .i64 r7.2.2.1]) ⟨by kernel_rfl⟩) (.c Az93 Sz93 (r8,()) fun r12=>(.r (r12,0,()))))))))
noncomputable def Ez35 (s:St) (t:Pl):=(Tz35 s t).d noE
noncomputable def Sz35 (x:St×Pl×Unit):=Ez35 x.1 x.2.1
noncomputable def wz35:Wk (St×Pl×Unit) ((List (Int))×(Int)×Unit) Empty (Cod.tup (Row.cons (Cod.list 0 aJ) (Row.cons cI Row.nil))).v:=wk0 fun x=>Tz35 x.1 x.2.1
noncomputable def Kz35:=aS 35 Tryz.func35 [Kz85,Kz92,Kz93] noZ ⟨26,noL,noL,noL⟩ 128 Az35 (Cod.tup (Row.cons (Cod.list 0 aJ) (Row.cons cI Row.nil))) Sz35 wz35 (fun _=>0)
noncomputable def Az36:=(Row.cons (Cod.agg rSt) (Row.cons (Cod.agg rPl) Row.nil))
noncomputable def Tz36 (s:St) (t:Pl):Tr ((Int)×(Int)×Unit) Empty noS (Cod.tup (Row.cons cI (Row.cons cI Row.nil))).v:=(.c Az85 Sz85 (s,t,()) fun r5=>(.s r5.1 (.i (!(r5.2.2.1==0)) (.r (0,r5.2.2.1,())) (.v Az92 bxg [.raw .nilp] fun r7=>(.r (r7,0,())))) fun r6=>(.i (!(r5.2.2.1==0)) (.r (0,r5.2.2.1,())) (.c Az92 bxg (r6,()) fun r8=>(.r (r8,0,()))))))
noncomputable def Ez36 (s:St) (t:Pl):=(Tz36 s t).d noE
noncomputable def Sz36 (x:St×Pl×Unit):=Ez36 x.1 x.2.1
noncomputable def wz36:Wk (St×Pl×Unit) ((Int)×(Int)×Unit) Empty (Cod.tup (Row.cons cI (Row.cons cI Row.nil))).v:=wk0 fun x=>Tz36 x.1 x.2.1
noncomputable def Kz36:=aS 36 Tryz.func36 [Kz85,Kz92] noZ ⟨21,noL,noL,noL⟩ 128 Az36 (Cod.tup (Row.cons cI (Row.cons cI Row.nil))) Sz36 wz36 (fun _=>0)
noncomputable def ayr:=(Row.cons (Cod.agg rPl) (Row.cons cI Row.nil))
inductive avd where
 | k4 (x1:Int)
noncomputable def uz157:avd→Nat
 | .k4 _=>4
noncomputable def bxC (s:Pl) (t:Int):avd→D
 | .k4 x1=>mD [(1,.int .i64 t),(2,.ptr 0 0),(5,.int .i64 x1)] 1 [(0,.row ⟨(rPl.v s),56,false⟩)] 128 []
noncomputable def t7 (s:Pl) (t:Int):(l_:avd)→Tr Int avd (bxC s t) cI.v
 | .k4 x1=>(.i (decide (x1<((s.m.length:Nat):Int))) (.i (inR x1 s.m.length) (.i ((s.m.getD x1.toNat mv0).f==t) (.r x1) (.g (.k4 (w6 (x1+1))))) .n) (.r (-1)))
noncomputable def Tz157 (s:Pl) (t:Int):Tr Int avd (bxC s t) cI.v:=(.g (.k4 0))
noncomputable def ajE (s:Pl) (t:Int):=Tr.lp (t7 s t)
theorem oF {s:Pl}{t:Int}{n:Nat}{l_:avd}:ajE s t (n+1) l_=(t7 s t l_).d (ajE s t n):=rfl
noncomputable def Ez157 (n:Nat) (s:Pl) (t:Int):=(Tz157 s t).d (ajE s t n)
noncomputable def axY (x:Pl×Int×Unit):=Ez157 (x.1.m.length+64) x.1 x.2.1
noncomputable def Az197:=(Row.cons (Cod.agg rPl) Row.nil)
noncomputable def Tz197 (s:Pl):Tr ((Mv)×(Bool)×Unit) Empty noS (Cod.tup (Row.cons (Cod.agg rMv) (Row.cons cB Row.nil))).v:=(.c ayr axY (s,0,()) fun r2=>(.i (decide (r2<0)) (.w ((⟨0,0,false,[],[]⟩:Mv),false,()) (.tup [.agg [.int .i64 0,.int .i64 0,.bool false,.str [],.el []],.bool false]) ⟨by kernel_rfl⟩) (.i (inR r2 s.m.length) (.r ((s.m.getD r2.toNat mv0),true,())) .n)))
noncomputable def Ez197 (s:Pl):=(Tz197 s).d noE
noncomputable def Sz197 (x:Pl×Unit):=Ez197 x.1
noncomputable def Az30:=(Row.cons (Cod.agg (Row.cons cI (Row.cons cI Row.nil))) (Row.cons cS Row.nil))
noncomputable def Tz30 (s:(Int)×(Int)×Unit) (t:List Nat):Tr (List Nat) Empty noS cS.v:=(.i (s.1==4) (.r [87]) (.i (s.2.1==3) (.r [75]) (.i (!decide (t=[])) (.i (inR (w6 (((t.length:Nat):Int)-1)) t.length) (.i (((t.getD (w6 (((t.length:Nat):Int)-1)).toNat 0:Nat):Int)==88) (.i (decide ((0:Int)≤(w6 (((t.length:Nat):Int)-1)))&&decide ((w6 (((t.length:Nat):Int)-1))≤((t.length:Nat):Int))) (.r ((t.take t.length).drop ((w6 (((t.length:Nat):Int)-1)).toNat))) .n) (.i (inR (w6 (((t.length:Nat):Int)-1)) t.length) (.i (((t.getD (w6 (((t.length:Nat):Int)-1)).toNat 0:Nat):Int)==72) (.i (decide ((0:Int)≤(w6 (((t.length:Nat):Int)-1)))&&decide ((w6 (((t.length:Nat):Int)-1))≤((t.length:Nat):Int))) (.r ((t.take t.length).drop ((w6 (((t.length:Nat):Int)-1)).toNat))) .n) (.r [])) .n)) .n) (.r []))))
noncomputable def Ez30 (s:(Int)×(Int)×Unit) (t:List Nat):=(Tz30 s t).d noE
noncomputable def Sz30 (x:((Int)×(Int)×Unit)×(List Nat)×Unit):=Ez30 x.1 x.2.1
noncomputable def Az198:=(Row.cons cS (Row.cons cS Row.nil))
noncomputable def Tz198 (s:List Nat) (t:List Nat):Tr Bool Empty noS cB.v:=(.i (decide (s=[88])) (.i (decide (t=[88])) (.r true) (.r (decide (t=[89])))) (.i (decide (s=[])) (.i (decide (t=[])) (.r true) (.i (decide (t=[73])) (.r true) (.r (decide (t=[78]))))) (.r (decide (t=s)))))
noncomputable def Ez198 (s:List Nat) (t:List Nat):=(Tz198 s t).d noE
noncomputable def Sz198 (x:(List Nat)×(List Nat)×Unit):=Ez198 x.1 x.2.1
noncomputable def Az83:=(Row.cons cS (Row.cons cU8 Row.nil))
inductive Lz83 where
 | k4 (x1:Int)
noncomputable def uz83:Lz83→Nat
 | .k4 _=>4
noncomputable def sLz83 (s:List Nat) (t:Int):Lz83→D
 | .k4 x1=>mD [(0,.str s),(1,.int .u8 t),(5,.int .i64 x1)] 0 [] 128 []
noncomputable def axW (s:List Nat) (t:Int):(l_:Lz83)→Tr Bool Lz83 (sLz83 s t) cB.v
 | .k4 x1=>(.i (decide (x1<((s.length:Nat):Int))) (.i (inR x1 s.length) (.i (((s.getD x1.toNat 0:Nat):Int)==t) (.r true) (.g (.k4 (w6 (x1+1))))) .n) (.r false))
noncomputable def Tz83 (s:List Nat) (t:Int):Tr Bool Lz83 (sLz83 s t) cB.v:=(.g (.k4 0))
noncomputable def ayl (s:List Nat) (t:Int):=Tr.lp (axW s t)
theorem uD {s:List Nat}{t:Int}{n:Nat}{l_:Lz83}:ayl s t (n+1) l_=(axW s t l_).d (ayl s t n):=rfl
noncomputable def Ez83 (n:Nat) (s:List Nat) (t:Int):=(Tz83 s t).d (ayl s t n)
noncomputable def Sz83 (x:(List Nat)×Int×Unit):=Ez83 (x.1.length+64) x.1 x.2.1
noncomputable def kN:=(Row.cons (Cod.agg rMv) (Row.cons cB (Row.cons cS Row.nil)))
noncomputable def Tz200 (s:Mv) (t:Bool) (u:List Nat):Tr Bool Empty noS cB.v:=(.i (s.o==t) (.i (inR 0 s.h.length) (.c Az83 Sz83 (u,((s.h.getD 0 0:Nat):Int),()) fun r2=>(.r r2)) .n) (.r false))
noncomputable def Ez200 (s:Mv) (t:Bool) (u:List Nat):=(Tz200 s t u).d noE
noncomputable def gA (x:Mv×Bool×(List Nat)×Unit):=Ez200 x.1 x.2.1 x.2.2.1
noncomputable def Az199:=(Row.cons cS (Row.cons (Cod.agg rMv) Row.nil))
noncomputable def Tz199 (s:List Nat) (t:Mv):Tr Bool Empty noS cB.v:=(.i (decide (s=[75])) (.c kN gA (t,true,[107,102,103],()) fun r10=>(.i r10 (.r true) (.c kN gA (t,false,[112,116],()) fun r11=>(.r r11)))) (.i (decide (s=[87])) (.c kN gA (t,false,[97],()) fun r12=>(.i r12 (.r (t.t==1)) (.r false))) (.i (decide (s=[72])) (.c kN gA (t,false,[97],()) fun r13=>(.i r13 (.r (t.t==1)) (.r false))) (.i (decide (s=[73])) (.c kN gA (t,false,[97],()) fun r14=>(.i r14 (.r (t.t==1)) (.r false))) (.i (decide (s=[88])) (.c kN gA (t,false,[98,116,111],()) fun r15=>(.i r15 (.r true) (.c kN gA (t,true,[102,99,103],()) fun r16=>(.r r16)))) (.i (decide (s=[78])) (.c kN gA (t,true,[110],()) fun r17=>(.r r17)) (.c kN gA (t,true,[121],()) fun r18=>(.r r18))))))))
noncomputable def Ez199 (s:List Nat) (t:Mv):=(Tz199 s t).d noE
noncomputable def Sz199 (x:(List Nat)×Mv×Unit):=Ez199 x.1 x.2.1
noncomputable def Az59:=(Row.cons (Cod.agg rPl) Row.nil)
inductive Lz59 where
 | k6 (x1:Int) (x2:Int)
noncomputable def uz59:Lz59→Nat
 | .k6 _ _=>6
noncomputable def sLz59 (s:Pl):Lz59→D
 | .k6 x1 x2=>mD [(1,.ptr 0 0),(3,.int .i64 x1),(4,.int .i64 x2)] 1 [(0,.row ⟨(rPl.v s),56,false⟩)] 128 []
noncomputable def axX (s:Pl):(l_:Lz59)→Tr Int Lz59 (sLz59 s) cI.v
 | .k6 x1 x2=>(.i (decide (x2<((s.m.length:Nat):Int))) (.i (inR x2 s.m.length) (.i ((s.m.getD x2.toNat mv0).o) (.g (.k6 (w6 (x1+1)) (w6 (x2+1)))) (.g (.k6 x1 (w6 (x2+1))))) .n) (.r x1))
noncomputable def Tz59 (s:Pl):Tr Int Lz59 (sLz59 s) cI.v:=(.g (.k6 0 0))
noncomputable def aym (s:Pl):=Tr.lp (axX s)
theorem uE {s:Pl}{n:Nat}{l_:Lz59}:aym s (n+1) l_=(axX s l_).d (aym s n):=rfl
noncomputable def Ez59 (n:Nat) (s:Pl):=(Tz59 s).d (aym s n)
noncomputable def azd (x:Pl×Unit):=Ez59 (x.1.m.length+64) x.1
noncomputable def Az155:=(Row.cons (Cod.agg rSt) (Row.cons (Cod.agg rPl) Row.nil))
noncomputable def Tz155 (s:St) (t:Pl):Tr Bool Empty noS cB.v:=(.c Az59 azd (t,()) fun r2=>(.r ((w6 (s.outs+r2))==3)))
noncomputable def Ez155 (s:St) (t:Pl):=(Tz155 s t).d noE
noncomputable def Sz155 (x:St×Pl×Unit):=Ez155 x.1 x.2.1
noncomputable def Az201:=(Row.cons (Cod.agg rPl) Row.nil)
inductive avc where
 | k6 (x1:Int) (x2:Int)
noncomputable def uz201:avc→Nat
 | .k6 _ _=>6
noncomputable def bxB (s:Pl):avc→D
 | .k6 x1 x2=>mD [(1,.ptr 0 0),(3,.int .i64 x1),(4,.int .i64 x2)] 1 [(0,.row ⟨(rPl.v s),56,false⟩)] 128 []
noncomputable def tZ (s:Pl):(l_:avc)→Tr Int avc (bxB s) cI.v
 | .k6 x1 x2=>(.i (decide (x2<((s.m.length:Nat):Int))) (.i (inR x2 s.m.length) (.i (!(s.m.getD x2.toNat mv0).o) (.i (inR x2 s.m.length) (.i ((s.m.getD x2.toNat mv0).t==4) (.g (.k6 (w6 (x1+1)) (w6 (x2+1)))) (.g (.k6 x1 (w6 (x2+1))))) .n) (.g (.k6 x1 (w6 (x2+1))))) .n) (.r x1))
noncomputable def Tz201 (s:Pl):Tr Int avc (bxB s) cI.v:=(.g (.k6 0 0))
noncomputable def ajC (s:Pl):=Tr.lp (tZ s)
theorem oE {s:Pl}{n:Nat}{l_:avc}:ajC s (n+1) l_=(tZ s l_).d (ajC s n):=rfl
noncomputable def Ez201 (n:Nat) (s:Pl):=(Tz201 s).d (ajC s n)
noncomputable def Sz201 (x:Pl×Unit):=Ez201 (x.1.m.length+64) x.1
noncomputable def Az25:=(Row.cons (Cod.agg rSt) Row.nil)
inductive Lz25 where
 | k6 (x1:Int) (x2:Bool) (x3:Bool) (x4:Bool) (x5:Bool)
noncomputable def uz25:Lz25→Nat
 | .k6 _ _ _ _ _=>6
noncomputable def sLz25 (s:St):Lz25→D
 | .k6 x1 x2 x3 x4 x5=>mD [(1,.ptr 0 0),(2,.ptr 1 0),(3,.ptr 2 0),(4,.int .i64 x1)] 3 [(0,.row ⟨(rSt.v s),25,false⟩),(1,.row ⟨[.bool false,.bool false,.bool false,.bool false],33,false⟩),(2,.row ⟨[.bool x3,.bool x2,.bool x5,.bool x4],33,false⟩)] 128 []
noncomputable def Tz25J (s:St):(l_:Lz25)→Tr ((Bool)×(Bool)×(Bool)×(Bool)×Unit) Lz25 (sLz25 s) (Cod.agg (Row.cons cB (Row.cons cB (Row.cons cB (Row.cons cB Row.nil))))).v
 | .k6 x1 x2 x3 x4 x5=>(.i (decide (x1<4)) (.i ((w6 (x1-1))==0) (.i x3 (.i ((w6 (x1-1))==0) (.i (x1==0) (.g (.k6 (w6 (x1+1)) x2 (!(s.b1==0)) x4 x5)) (.i (x1==1) (.g (.k6 (w6 (x1+1)) (!(s.b1==0)) x3 x4 x5)) (.i (x1==2) (.g (.k6 (w6 (x1+1)) x2 x3 x4 (!(s.b1==0)))) (.i (x1==3) (.g (.k6 (w6 (x1+1)) x2 x3 (!(s.b1==0)) x5)) .n)))) (.i ((w6 (x1-1))==1) (.i (x1==0) (.g (.k6 (w6 (x1+1)) x2 (!(s.b2==0)) x4 x5)) (.i (x1==1) (.g (.k6 (w6 (x1+1)) (!(s.b2==0)) x3 x4 x5)) (.i (x1==2) (.g (.k6 (w6 (x1+1)) x2 x3 x4 (!(s.b2==0)))) (.i (x1==3) (.g (.k6 (w6 (x1+1)) x2 x3 (!(s.b2==0)) x5)) .n)))) (.i ((w6 (x1-1))==2) (.i (x1==0) (.g (.k6 (w6 (x1+1)) x2 (!(s.b3==0)) x4 x5)) (.i (x1==1) (.g (.k6 (w6 (x1+1)) (!(s.b3==0)) x3 x4 x5)) (.i (x1==2) (.g (.k6 (w6 (x1+1)) x2 x3 x4 (!(s.b3==0)))) (.i (x1==3) (.g (.k6 (w6 (x1+1)) x2 x3 (!(s.b3==0)) x5)) .n)))) .n))) (.i (x1==0) (.g (.k6 (w6 (x1+1)) x2 false x4 x5)) (.i (x1==1) (.g (.k6 (w6 (x1+1)) false x3 x4 x5)) (.i (x1==2) (.g (.k6 (w6 (x1+1)) x2 x3 x4 false)) (.i (x1==3) (.g (.k6 (w6 (x1+1)) x2 x3 false x5)) .n))))) (.i ((w6 (x1-1))==1) (.i x2 (.i ((w6 (x1-1))==0) (.i (x1==0) (.g (.k6 (w6 (x1+1)) x2 (!(s.b1==0)) x4 x5)) (.i (x1==1) (.g (.k6 (w6 (x1+1)) (!(s.b1==0)) x3 x4 x5)) (.i (x1==2) (.g (.k6 (w6 (x1+1)) x2 x3 x4 (!(s.b1==0)))) (.i (x1==3) (.g (.k6 (w6 (x1+1)) x2 x3 (!(s.b1==0)) x5)) .n)))) (.i ((w6 (x1-1))==1) (.i (x1==0) (.g (.k6 (w6 (x1+1)) x2 (!(s.b2==0)) x4 x5)) (.i (x1==1) (.g (.k6 (w6 (x1+1)) (!(s.b2==0)) x3 x4 x5)) (.i (x1==2) (.g (.k6 (w6 (x1+1)) x2 x3 x4 (!(s.b2==0)))) (.i (x1==3) (.g (.k6 (w6 (x1+1)) x2 x3 (!(s.b2==0)) x5)) .n)))) (.i ((w6 (x1-1))==2) (.i (x1==0) (.g (.k6 (w6 (x1+1)) x2 (!(s.b3==0)) x4 x5)) (.i (x1==1) (.g (.k6 (w6 (x1+1)) (!(s.b3==0)) x3 x4 x5)) (.i (x1==2) (.g (.k6 (w6 (x1+1)) x2 x3 x4 (!(s.b3==0)))) (.i (x1==3) (.g (.k6 (w6 (x1+1)) x2 x3 (!(s.b3==0)) x5)) .n)))) .n))) (.i (x1==0) (.g (.k6 (w6 (x1+1)) x2 false x4 x5)) (.i (x1==1) (.g (.k6 (w6 (x1+1)) false x3 x4 x5)) (.i (x1==2) (.g (.k6 (w6 (x1+1)) x2 x3 x4 false)) (.i (x1==3) (.g (.k6 (w6 (x1+1)) x2 x3 false x5)) .n))))) (.i ((w6 (x1-1))==2) (.i x5 (.i ((w6 (x1-1))==0) (.i (x1==0) (.g (.k6 (w6 (x1+1)) x2 (!(s.b1==0)) x4 x5)) (.i (x1==1) (.g (.k6 (w6 (x1+1)) (!(s.b1==0)) x3 x4 x5)) (.i (x1==2) (.g (.k6 (w6 (x1+1)) x2 x3 x4 (!(s.b1==0)))) (.i (x1==3) (.g (.k6 (w6 (x1+1)) x2 x3 (!(s.b1==0)) x5)) .n)))) (.i ((w6 (x1-1))==1) (.i (x1==0) (.g (.k6 (w6 (x1+1)) x2 (!(s.b2==0)) x4 x5)) (.i (x1==1) (.g (.k6 (w6 (x1+1)) (!(s.b2==0)) x3 x4 x5)) (.i (x1==2) (.g (.k6 (w6 (x1+1)) x2 x3 x4 (!(s.b2==0)))) (.i (x1==3) (.g (.k6 (w6 (x1+1)) x2 x3 (!(s.b2==0)) x5)) .n)))) (.i ((w6 (x1-1))==2) (.i (x1==0) (.g (.k6 (w6 (x1+1)) x2 (!(s.b3==0)) x4 x5)) (.i (x1==1) (.g (.k6 (w6 (x1+1)) (!(s.b3==0)) x3 x4 x5)) (.i (x1==2) (.g (.k6 (w6 (x1+1)) x2 x3 x4 (!(s.b3==0)))) (.i (x1==3) (.g (.k6 (w6 (x1+1)) x2 x3 (!(s.b3==0)) x5)) .n)))) .n))) (.i (x1==0) (.g (.k6 (w6 (x1+1)) x2 false x4 x5)) (.i (x1==1) (.g (.k6 (w6 (x1+1)) false x3 x4 x5)) (.i (x1==2) (.g (.k6 (w6 (x1+1)) x2 x3 x4 false)) (.i (x1==3) (.g (.k6 (w6 (x1+1)) x2 x3 false x5)) .n))))) (.i ((w6 (x1-1))==3) (.i x4 (.i ((w6 (x1-1))==0) (.i (x1==0) (.g (.k6 (w6 (x1+1)) x2 (!(s.b1==0)) x4 x5)) (.i (x1==1) (.g (.k6 (w6 (x1+1)) (!(s.b1==0)) x3 x4 x5)) (.i (x1==2) (.g (.k6 (w6 (x1+1)) x2 x3 x4 (!(s.b1==0)))) (.i (x1==3) (.g (.k6 (w6 (x1+1)) x2 x3 (!(s.b1==0)) x5)) .n)))) (.i ((w6 (x1-1))==1) (.i (x1==0) (.g (.k6 (w6 (x1+1)) x2 (!(s.b2==0)) x4 x5)) (.i (x1==1) (.g (.k6 (w6 (x1+1)) (!(s.b2==0)) x3 x4 x5)) (.i (x1==2) (.g (.k6 (w6 (x1+1)) x2 x3 x4 (!(s.b2==0)))) (.i (x1==3) (.g (.k6 (w6 (x1+1)) x2 x3 (!(s.b2==0)) x5)) .n)))) (.i ((w6 (x1-1))==2) (.i (x1==0) (.g (.k6 (w6 (x1+1)) x2 (!(s.b3==0)) x4 x5)) (.i (x1==1) (.g (.k6 (w6 (x1+1)) (!(s.b3==0)) x3 x4 x5)) (.i (x1==2) (.g (.k6 (w6 (x1+1)) x2 x3 x4 (!(s.b3==0)))) (.i (x1==3) (.g (.k6 (w6 (x1+1)) x2 x3 (!(s.b3==0)) x5)) .n)))) .n))) (.i (x1==0) (.g (.k6 (w6 (x1+1)) x2 false x4 x5)) (.i (x1==1) (.g (.k6 (w6 (x1+1)) false x3 x4 x5)) (.i (x1==2) (.g (.k6 (w6 (x1+1)) x2 x3 x4 false)) (.i (x1==3) (.g (.k6 (w6 (x1+1)) x2 x3 false x5)) .n))))) .n)))) (.r (x3,x2,x5,x4,())))
noncomputable def Tz25 (s:St):Tr ((Bool)×(Bool)×(Bool)×(Bool)×Unit) Lz25 (sLz25 s) (Cod.agg (Row.cons cB (Row.cons cB (Row.cons cB (Row.cons cB Row.nil))))).v:=(.g (.k6 1 false true false false))
noncomputable def bjr (s:St):=Tr.lp (Tz25J s)
theorem Ez25J_s {s:St}{n:Nat}{l_:Lz25}:bjr s (n+1) l_=(Tz25J s l_).d (bjr s n):=rfl
noncomputable def Ez25 (n:Nat) (s:St):=(Tz25 s).d (bjr s n)
noncomputable def Sz25 (x:St×Unit):=Ez25 64 x.1
end
end Go.Ev
