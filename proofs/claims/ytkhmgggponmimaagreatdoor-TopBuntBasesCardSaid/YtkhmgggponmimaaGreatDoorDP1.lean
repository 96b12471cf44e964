import Derived.Test.YtkhmgggponmimaaGreatDoorDHand
set_option linter.unusedSimpArgs false
set_option linter.unusedVariables false
namespace Go.Ev
open Go.RowKit Go.Proofs
set_option maxRecDepth 100000
set_option maxHeartbeats 4000000
set_option linter.unusedVariables false
noncomputable section
structure Tn where
 s_inn:Int
 s_half:Int
 s_outs:Int
 s_balls:Int
 s_strikes:Int
 s_b1:Int
 s_b2:Int
 s_b3:Int
 s_n0:Int
 s_n1:Int
 s_c0:Int
 s_c1:Int
 s_over:Bool
 p_p:List Nat
 p_e:List Nat
 p_l:Bool
 p_m:List (Mv)
 k0:Int
 k1:Int
 counted:Bool
 outs:Int
 f0:Bool
 f1:Bool
 f2:Bool
 f3:Bool
noncomputable def rTn:Row Tn:=Row.iso (Row.cons cI (Row.cons cI (Row.cons cI (Row.cons cI (Row.cons cI (Row.cons cI (Row.cons cI (Row.cons cI (Row.cons cI (Row.cons cI (Row.cons cI (Row.cons cI (Row.cons cB (Row.cons cS (Row.cons cS (Row.cons cB (Row.cons (Cod.list mv0 rMv) (Row.cons cI (Row.cons cI (Row.cons cB (Row.cons cI (Row.cons cB (Row.cons cB (Row.cons cB (Row.cons cB Row.nil))))))))))))))))))))))))) (fun x=>⟨x.1,x.2.1,x.2.2.1,x.2.2.2.1,x.2.2.2.2.1,x.2.2.2.2.2.1,x.2.2.2.2.2.2.1,x.2.2.2.2.2.2.2.1,x.2.2.2.2.2.2.2.2.1,x.2.2.2.2.2.2.2.2.2.1,x.2.2.2.2.2.2.2.2.2.2.1,x.2.2.2.2.2.2.2.2.2.2.2.1,x.2.2.2.2.2.2.2.2.2.2.2.2.1,x.2.2.2.2.2.2.2.2.2.2.2.2.2.1,x.2.2.2.2.2.2.2.2.2.2.2.2.2.2.1,x.2.2.2.2.2.2.2.2.2.2.2.2.2.2.2.1,x.2.2.2.2.2.2.2.2.2.2.2.2.2.2.2.2.1,x.2.2.2.2.2.2.2.2.2.2.2.2.2.2.2.2.2.1,x.2.2.2.2.2.2.2.2.2.2.2.2.2.2.2.2.2.2.1,x.2.2.2.2.2.2.2.2.2.2.2.2.2.2.2.2.2.2.2.1,x.2.2.2.2.2.2.2.2.2.2.2.2.2.2.2.2.2.2.2.2.1,x.2.2.2.2.2.2.2.2.2.2.2.2.2.2.2.2.2.2.2.2.2.1,x.2.2.2.2.2.2.2.2.2.2.2.2.2.2.2.2.2.2.2.2.2.2.1,x.2.2.2.2.2.2.2.2.2.2.2.2.2.2.2.2.2.2.2.2.2.2.2.1,x.2.2.2.2.2.2.2.2.2.2.2.2.2.2.2.2.2.2.2.2.2.2.2.2.1⟩) (fun y=>(y.s_inn,y.s_half,y.s_outs,y.s_balls,y.s_strikes,y.s_b1,y.s_b2,y.s_b3,y.s_n0,y.s_n1,y.s_c0,y.s_c1,y.s_over,y.p_p,y.p_e,y.p_l,y.p_m,y.k0,y.k1,y.counted,y.outs,y.f0,y.f1,y.f2,y.f3,())) (fun _=>rfl) (fun _=>rfl)
def Az84:=(Row.cons (Cod.agg rPl) Row.nil)
inductive Lz84 where
 | k8 (x1:Int)
def uz84:Lz84→Nat
 | .k8 _=>8
def sLz84 (s:Pl):Lz84→D
 | .k8 x1=>mD [(1,.ptr 0 0),(3,.int .i64 x1)] 1 [(0,.row ⟨(rPl.v s),29,false⟩)] 128 []
noncomputable def akj (s:Pl):(l_:Lz84)→Tr Bool Lz84 (sLz84 s) cB.v
 | .k8 x1=>(.i (decide (x1<((s.m.length:Nat):Int))) (.i (inR x1 s.m.length) (.i (decide (20<((((s.m.getD x1.toNat mv0).h).length:Nat):Int))) (.r false) (.i (inR x1 s.m.length) (.i (decide (40<((((s.m.getD x1.toNat mv0).b).length:Nat):Int))) (.r false) (.g (.k8 (w6 (x1+1))))) .n)) .n) (.r true))
def Tz84 (s:Pl):Tr Bool Lz84 (sLz84 s) cB.v:=(.i (decide (26<((s.p.length:Nat):Int))) (.r false) (.i (decide (20<((s.e.length:Nat):Int))) (.r false) (.i (decide (6<((s.m.length:Nat):Int))) (.r false) (.g (.k8 0)))))
def awN (s:Pl):=Tr.lp (akj s)
theorem awM {s:Pl}{n:Nat}{l_:Lz84}:awN s (n+1) l_=(akj s l_).d (awN s n):=rfl
def Ez84 (n:Nat) (s:Pl):=(Tz84 s).d (awN s n)
def Sz84 (x:Pl×Unit):=Ez84 (x.1.m.length+64) x.1
def wz84:Wk (Pl×Unit) Bool Lz84 cB.v:=⟨fun x=>sLz84 x.1,uz84,fun x=>Tz84 x.1,fun x=>akj x.1⟩
def Kz84:=aP 35 Tryz.func35 [] noZ ⟨45,(lookA [(4,⟨[1,3],[0],1,[],[],[],[]⟩)]),noL,noL⟩ 128 Az84 cB Sz84 wz84 (fun x=>x.1.m.length+64)
def Az61:=(Row.cons (Cod.agg rSt) Row.nil)
def Tz61 (s:St):Tr Int Empty noS cI.v:=(.i s.over (.r 20) (.r 0))
def Ez61 (s:St):=(Tz61 s).d noE
def Sz61 (x:St×Unit):=Ez61 x.1
def wz61:Wk (St×Unit) Int Empty cI.v:=wk0 fun x=>Tz61 x.1
def Kz61:=aP 53 Tryz.func53 [] noZ ⟨5,noL,noL,noL⟩ 128 Az61 cI Sz61 wz61 (fun _=>0)
def Az141:=(Row.cons (Cod.agg rSt) (Row.cons (Cod.ptr rPl) Row.nil))
def Tz141 (s:St) (t:Pl):Tr Int Empty noS cI.v:=(.c A142 azR (t,()) fun r2=>(.r r2))
def Ez141 (s:St) (t:Pl):=(Tz141 s t).d noE
def Sz141 (x:St×Pl×Unit):=Ez141 x.1 x.2.1
def wz141:Wk (St×Pl×Unit) Int Empty cI.v:=wk0 fun x=>Tz141 x.1 x.2.1
def Kz141:=aP 51 Tryz.func51 [K142] noZ ⟨6,noL,noL,noL⟩ 128 Az141 cI Sz141 wz141 (fun _=>0)
def jQ:=(Row.cons (Cod.agg rSt) (Row.cons (Cod.lit (Els.cons (Row.cons (Cod.fn0 43) Row.nil) (Els.cons (Row.cons (Cod.fn 51 (Row.cons (Cod.ptr rPl) Row.nil)) Row.nil) (Els.cons (Row.cons (Cod.fn0 53) Row.nil) Els.nil)))) Row.nil))
inductive aX where
 | k4 (x2:Int)
def p6:aX→Nat
 | .k4 _=>4
noncomputable def eG (s:St) (t:((Unit)×Unit)×(((Pl)×Unit)×Unit)×((Unit)×Unit)×Unit):aX→D
 | .k4 x2=>mD [(2,.ptr 0 0),(8,.el [[.raw (.func 43 [])],[.fn 51 [.lptr (rPl.v t.2.1.1.1) 0]],[.raw (.func 53 [])]]),(9,.int .i64 3),(10,.int .i64 x2)] 1 [(0,.row ⟨(rSt.v s),33,false⟩)] 128 []
noncomputable def cT (s:St) (t:((Unit)×Unit)×(((Pl)×Unit)×Unit)×((Unit)×Unit)×Unit):(l_:aX)→Tr Int aX (eG s t) cI.v
 | .k4 x2=>(.i (decide (x2<3)) (.i (x2==0) (.c A18 S18 (s,()) fun r8=>(.i (!(r8==0)) (.r r8) (.g (.k4 (w6 (x2+1)))))) (.i (x2==1) (.c Az141 Sz141 (s,t.2.1.1.1,()) fun r7=>(.i (!(r7==0)) (.r r7) (.g (.k4 (w6 (x2+1)))))) (.i (x2==2) (.c Az61 Sz61 (s,()) fun r6=>(.i (!(r6==0)) (.r r6) (.g (.k4 (w6 (x2+1)))))) .n))) (.r 0))
def fL (s:St) (t:((Unit)×Unit)×(((Pl)×Unit)×Unit)×((Unit)×Unit)×Unit):Tr Int aX (eG s t) cI.v:=(.g (.k4 0))
def cV (s:St) (t:((Unit)×Unit)×(((Pl)×Unit)×Unit)×((Unit)×Unit)×Unit):=Tr.lp (cT s t)
theorem mS {s:St}{t:((Unit)×Unit)×(((Pl)×Unit)×Unit)×((Unit)×Unit)×Unit}{n:Nat}{l_:aX}:cV s t (n+1) l_=(cT s t l_).d (cV s t n):=rfl
def fP (n:Nat) (s:St) (t:((Unit)×Unit)×(((Pl)×Unit)×Unit)×((Unit)×Unit)×Unit):=(fL s t).d (cV s t n)
def dV (x:St×(((Unit)×Unit)×(((Pl)×Unit)×Unit)×((Unit)×Unit)×Unit)×Unit):=fP 64 x.1 x.2.1
def pY:Wk (St×(((Unit)×Unit)×(((Pl)×Unit)×Unit)×((Unit)×Unit)×Unit)×Unit) Int aX cI.v:=⟨fun x=>eG x.1 x.2.1,p6,fun x=>fL x.1 x.2.1,fun x=>cT x.1 x.2.1⟩
def sG:=aP 52 Tryz.func52 [K18,Kz61,Kz141] noZ ⟨21,(lookA [(2,⟨[2,8,9,10],[0],1,[],[],[],[]⟩)]),noL,noL⟩ 128 jQ cI dV pY (fun x=>64)
def Az196:=(Row.cons (Cod.agg rMv) Row.nil)
def Tz196 (s:Mv):Tr Bool Empty noS cB.v:=(.r s.o)
def Ez196 (s:Mv):=(Tz196 s).d noE
def Sz196 (x:Mv×Unit):=Ez196 x.1
def wz196:Wk (Mv×Unit) Bool Empty cB.v:=wk0 fun x=>Tz196 x.1
def Kz196:=aP 83 Tryz.func83 [] noZ ⟨5,noL,noL,noL⟩ 128 Az196 cB Sz196 wz196 (fun _=>0)
def zU:=(Row.cons (Cod.list mv0 rMv) (Row.cons (Cod.fn0 83) Row.nil))
inductive fM where
 | k6 (x2:Int) (x3:Int)
def az1:fM→Nat
 | .k6 _ _=>6
def m7 (s:List (Mv)) (t:Unit):fM→D
 | .k6 x2 x3=>mD [(1,.raw (.func 83 [])),(5,.int .i64 x2),(8,(Cod.list mv0 rMv).v s),(9,.int .i64 ((s.length:Nat):Int)),(10,.int .i64 x3)] 0 [] 128 []
noncomputable def dC (s:List (Mv)) (t:Unit):(l_:fM)→Tr Int fM (m7 s t) cI.v
 | .k6 x2 x3=>(.i (decide (x3<((s.length:Nat):Int))) (.i (inR x3 s.length) (.c Az196 Sz196 ((s.getD x3.toNat mv0),()) fun r5=>(.i r5 (.g (.k6 (w6 (x2+1)) (w6 (x3+1)))) (.g (.k6 x2 (w6 (x3+1)))))) .n) (.r x2))
def sA (s:List (Mv)) (t:Unit):Tr Int fM (m7 s t) cI.v:=(.g (.k6 0 0))
def g0 (s:List (Mv)) (t:Unit):=Tr.lp (dC s t)
theorem eC {s:List (Mv)}{t:Unit}{n:Nat}{l_:fM}:g0 s t (n+1) l_=(dC s t l_).d (g0 s t n):=rfl
def sH (n:Nat) (s:List (Mv)) (t:Unit):=(sA s t).d (g0 s t n)
def sD (x:(List (Mv))×Unit×Unit):=sH (x.1.length+64) x.1 x.2.1
def azU:Wk ((List (Mv))×Unit×Unit) Int fM cI.v:=⟨fun x=>m7 x.1 x.2.1,az1,fun x=>sA x.1 x.2.1,fun x=>dC x.1 x.2.1⟩
def awG:=aP 82 Tryz.func82 [Kz196] noZ ⟨21,(lookA [(3,⟨[1,5,8,9,10],[],0,[],[],[],[]⟩)]),noL,noL⟩ 128 zU cI sD azU (fun x=>x.1.length+64)
def Az63:=(Row.cons (Cod.agg rSt) Row.nil)
inductive Lz63 where
 | k6 (x1:Int) (x2:Bool) (x3:Bool) (x4:Bool)
def uz63:Lz63→Nat
 | .k6 _ _ _ _=>6
noncomputable def sLz63 (s:St):Lz63→D
 | .k6 x1 x2 x3 x4=>mD [(2,.ptr 1 0),(3,.ptr 2 0),(8,.agg [.int .i64 s.b1,.int .i64 s.b2,.int .i64 s.b3]),(9,.int .i64 x1)] 3 [(1,.row ⟨[.bool false,.bool false,.bool false,.bool false],93,false⟩),(2,.row ⟨[.bool true,.bool x2,.bool x4,.bool x3],93,false⟩)] 128 []
noncomputable def ayb (s:St):(l_:Lz63)→Tr ((Bool)×(Bool)×(Bool)×(Bool)×Unit) Lz63 (sLz63 s) (Cod.agg (Row.cons cB (Row.cons cB (Row.cons cB (Row.cons cB Row.nil))))).v
 | .k6 x1 x2 x3 x4=>(.i (decide (x1<3)) (.i (x1==0) (.i (s.b1==0) (.r (true,x2,x4,x3,())) (.i ((w6 (x1+1))==0) (.g (.k6 (w6 (x1+1)) x2 x3 x4)) (.i ((w6 (x1+1))==1) (.g (.k6 (w6 (x1+1)) true x3 x4)) (.i ((w6 (x1+1))==2) (.g (.k6 (w6 (x1+1)) x2 x3 true)) (.i ((w6 (x1+1))==3) (.g (.k6 (w6 (x1+1)) x2 true x4)) .n))))) (.i (x1==1) (.i (s.b2==0) (.r (true,x2,x4,x3,())) (.i ((w6 (x1+1))==0) (.g (.k6 (w6 (x1+1)) x2 x3 x4)) (.i ((w6 (x1+1))==1) (.g (.k6 (w6 (x1+1)) true x3 x4)) (.i ((w6 (x1+1))==2) (.g (.k6 (w6 (x1+1)) x2 x3 true)) (.i ((w6 (x1+1))==3) (.g (.k6 (w6 (x1+1)) x2 true x4)) .n))))) (.i (x1==2) (.i (s.b3==0) (.r (true,x2,x4,x3,())) (.i ((w6 (x1+1))==0) (.g (.k6 (w6 (x1+1)) x2 x3 x4)) (.i ((w6 (x1+1))==1) (.g (.k6 (w6 (x1+1)) true x3 x4)) (.i ((w6 (x1+1))==2) (.g (.k6 (w6 (x1+1)) x2 x3 true)) (.i ((w6 (x1+1))==3) (.g (.k6 (w6 (x1+1)) x2 true x4)) .n))))) .n))) (.r (true,x2,x4,x3,())))
def Tz63 (s:St):Tr ((Bool)×(Bool)×(Bool)×(Bool)×Unit) Lz63 (sLz63 s) (Cod.agg (Row.cons cB (Row.cons cB (Row.cons cB (Row.cons cB Row.nil))))).v:=(.g (.k6 0 false false false))
def ayz (s:St):=Tr.lp (ayb s)
theorem Ez63J_s {s:St}{n:Nat}{l_:Lz63}:ayz s (n+1) l_=(ayb s l_).d (ayz s n):=rfl
def Ez63 (n:Nat) (s:St):=(Tz63 s).d (ayz s n)
def Sz63 (x:St×Unit):=Ez63 64 x.1
def wz63:Wk (St×Unit) ((Bool)×(Bool)×(Bool)×(Bool)×Unit) Lz63 (Cod.agg (Row.cons cB (Row.cons cB (Row.cons cB (Row.cons cB Row.nil))))).v:=⟨fun x=>sLz63 x.1,uz63,fun x=>Tz63 x.1,fun x=>ayb x.1⟩
def Kz63:=aP 84 Tryz.func84 [] noZ ⟨20,(lookA [(3,⟨[2,3,8,9],[1,2],3,[],[],[],[]⟩)]),noL,noL⟩ 128 Az63 (Cod.agg (Row.cons cB (Row.cons cB (Row.cons cB (Row.cons cB Row.nil))))) Sz63 wz63 (fun x=>64)
def Az143:=(Row.cons (Cod.agg rSt) (Row.cons (Cod.agg rPl) Row.nil))
inductive axz where
 | k2000001 (x4:Int) (x5:Int) (x6:Bool) (x7:Int) (x8:Bool) (x9:Bool) (x10:Bool) (x11:Bool)
def uz143:axz→Nat
 | .k2000001 _ _ _ _ _ _ _ _=>2000001
noncomputable def azt (s:St) (t:Pl):axz→D
 | .k2000001 x4 x5 x6 x7 x8 x9 x10 x11=>mD [(4,.lptr [.int .i64 s.inn,.int .i64 s.half,.int .i64 s.outs,.int .i64 s.balls,.int .i64 s.strikes,.int .i64 s.b1,.int .i64 s.b2,.int .i64 s.b3,.int .i64 s.n0,.int .i64 s.n1,.int .i64 s.c0,.int .i64 s.c1,.bool s.over,.str t.p,.str t.e,.bool t.l,(Cod.list mv0 rMv).v t.m,.int .i64 x4,.int .i64 x5,.bool x6,.int .i64 x7,.bool x8,.bool x9,.bool x10,.bool x11] 0)] 0 [] 128 []
noncomputable def bqa (s:St) (t:Pl):(l_:axz)→Tr Tn axz (azt s t) (Cod.ptr rTn).v
 | .k2000001 x4 x5 x6 x7 x8 x9 x10 x11=>(.r (⟨s.inn,s.half,s.outs,s.balls,s.strikes,s.b1,s.b2,s.b3,s.n0,s.n1,s.c0,s.c1,s.over,t.p,t.e,t.l,t.m,x4,x5,x6,x7,x8,x9,x10,x11⟩:Tn))
noncomputable def Tz143 (s:St) (t:Pl):Tr Tn axz (azt s t) (Cod.ptr rTn).v:=(.c A81 S81 (s.balls,s.strikes,t.p,()) fun r15=>(.c zU sD (t.m,(),()) fun r16=>(.c Az63 Sz63 (s,()) fun r17=>(.g (.k2000001 r15.1.1 r15.1.2.1 (r15.2.2.1==0) (w6 (s.outs+r16)) r17.1 r17.2.1 r17.2.2.1 r17.2.2.2.1)))))
def Ez143J (s:St) (t:Pl):=Tr.lp (bqa s t)
def Ez143 (n:Nat) (s:St) (t:Pl):=(Tz143 s t).d (Ez143J s t n)
def ayk (x:St×Pl×Unit):=Ez143 (x.2.1.m.length+64) x.1 x.2.1
def wz143:Wk (St×Pl×Unit) Tn axz (Cod.ptr rTn).v:=⟨fun x=>azt x.1 x.2.1,uz143,fun x=>Tz143 x.1 x.2.1,fun x=>bqa x.1 x.2.1⟩
def Kz143:=aP 54 Tryz.func54 [Kz63,K81,awG] noZ ⟨34,noL,(lookA [(1000000,⟨[4],[],0,[],[],[(3,1)],[]⟩)]),noL⟩ 128 Az143 (Cod.ptr rTn) ayk wz143 (fun x=>x.2.1.m.length+64)
def Az74:=Row.nil
noncomputable def Tz74:Tr ((List Nat)×Unit×(List Nat)×Unit×(List Nat)×Unit×(List Nat)×Unit×(List Nat)×Unit×(List Nat)×Unit×(List Nat)×Unit×(List Nat)×Unit×(List Nat)×Unit×(List Nat)×Unit×(List Nat)×Unit×(List Nat)×Unit×(List Nat)×Unit×Unit) Empty noS (Cod.agg (Row.cons cS (Row.cons (Cod.fn0 105) (Row.cons cS (Row.cons (Cod.fn0 106) (Row.cons cS (Row.cons (Cod.fn0 107) (Row.cons cS (Row.cons (Cod.fn0 108) (Row.cons cS (Row.cons (Cod.fn0 109) (Row.cons cS (Row.cons (Cod.fn0 110) (Row.cons cS (Row.cons (Cod.fn0 111) (Row.cons cS (Row.cons (Cod.fn0 112) (Row.cons cS (Row.cons (Cod.fn0 113) (Row.cons cS (Row.cons (Cod.fn0 114) (Row.cons cS (Row.cons (Cod.fn0 115) (Row.cons cS (Row.cons (Cod.fn0 116) (Row.cons cS (Row.cons (Cod.fn0 117) Row.nil))))))))))))))))))))))))))).v:=(.r ([112,105,116,99,104,101,115],(),[101,118,101,110,116],(),[98,97,116,116,101,114],(),[114,117,110,110,101,114,115],(),[98,97,116,116,101,114,39,115,32,119,97,121],(),[116,104,105,114,100,32,115,116,114,105,107,101],(),[105,110,102,105,101,108,100,32,102,108,121],(),[119,97,121,115],(),[98,97,108,107],(),[97,119,97,114,100,115],(),[111,114,100,101,114],(),[111,117,116,115],(),[108,97,116,101,32,114,117,110,115],(),()))
def Ez74:=(Tz74).d noE
def Sz74 (x:Unit):=Ez74
noncomputable def wz74:Wk (Unit) ((List Nat)×Unit×(List Nat)×Unit×(List Nat)×Unit×(List Nat)×Unit×(List Nat)×Unit×(List Nat)×Unit×(List Nat)×Unit×(List Nat)×Unit×(List Nat)×Unit×(List Nat)×Unit×(List Nat)×Unit×(List Nat)×Unit×(List Nat)×Unit×Unit) Empty (Cod.agg (Row.cons cS (Row.cons (Cod.fn0 105) (Row.cons cS (Row.cons (Cod.fn0 106) (Row.cons cS (Row.cons (Cod.fn0 107) (Row.cons cS (Row.cons (Cod.fn0 108) (Row.cons cS (Row.cons (Cod.fn0 109) (Row.cons cS (Row.cons (Cod.fn0 110) (Row.cons cS (Row.cons (Cod.fn0 111) (Row.cons cS (Row.cons (Cod.fn0 112) (Row.cons cS (Row.cons (Cod.fn0 113) (Row.cons cS (Row.cons (Cod.fn0 114) (Row.cons cS (Row.cons (Cod.fn0 115) (Row.cons cS (Row.cons (Cod.fn0 116) (Row.cons cS (Row.cons (Cod.fn0 117) Row.nil))))))))))))))))))))))))))).v:=wk0 fun x=>Tz74
noncomputable def Kz74:=aP 85 Tryz.func85 [] noZ ⟨15,noL,noL,noL⟩ 128 Az74 (Cod.agg (Row.cons cS (Row.cons (Cod.fn0 105) (Row.cons cS (Row.cons (Cod.fn0 106) (Row.cons cS (Row.cons (Cod.fn0 107) (Row.cons cS (Row.cons (Cod.fn0 108) (Row.cons cS (Row.cons (Cod.fn0 109) (Row.cons cS (Row.cons (Cod.fn0 110) (Row.cons cS (Row.cons (Cod.fn0 111) (Row.cons cS (Row.cons (Cod.fn0 112) (Row.cons cS (Row.cons (Cod.fn0 113) (Row.cons cS (Row.cons (Cod.fn0 114) (Row.cons cS (Row.cons (Cod.fn0 115) (Row.cons cS (Row.cons (Cod.fn0 116) (Row.cons cS (Row.cons (Cod.fn0 117) Row.nil))))))))))))))))))))))))))) Sz74 wz74 (fun _=>0)
def Az122:=(Row.cons (Cod.ptr rTn) Row.nil)
def Tz122 (s:Tn):Tr Bool Empty noS cB.v:=(.r (!s.counted))
def Ez122 (s:Tn):=(Tz122 s).d noE
def aym (x:Tn×Unit):=Ez122 x.1
def wz122:Wk (Tn×Unit) Bool Empty cB.v:=wk0 fun x=>Tz122 x.1
def Kz122:=aP 105 Tryz.func105 [] noZ ⟨8,noL,noL,noL⟩ 128 Az122 cB aym wz122 (fun _=>0)
def Az191:=(Row.cons cS (Row.cons cS Row.nil))
noncomputable def Tz191 (s:List Nat) (t:List Nat):Tr Bool Empty noS cB.v:=(.i (decide (((t.length:Nat):Int)≤((s.length:Nat):Int))) (.i (decide ((0:Int)≤(w6 (((s.length:Nat):Int)-((t.length:Nat):Int))))&&decide ((w6 (((s.length:Nat):Int)-((t.length:Nat):Int)))≤((s.length:Nat):Int))) (.r (decide (((s.take s.length).drop ((w6 (((s.length:Nat):Int)-((t.length:Nat):Int))).toNat))=t))) .n) (.r false))
def Ez191 (s:List Nat) (t:List Nat):=(Tz191 s t).d noE
def Sz191 (x:(List Nat)×(List Nat)×Unit):=Ez191 x.1 x.2.1
def wz191:Wk ((List Nat)×(List Nat)×Unit) Bool Empty cB.v:=wk0 fun x=>Tz191 x.1 x.2.1
def Kz191:=aP 123 Tryz.func123 [] noZ ⟨21,noL,noL,noL⟩ 128 Az191 cB Sz191 wz191 (fun _=>0)
def Az140:=(Row.cons cS (Row.cons cS Row.nil))
def Tz140 (s:List Nat) (t:List Nat):Tr Bool Empty noS cB.v:=(.c Az191 Sz191 (s,t,()) fun r2=>(.r r2))
def Ez140 (s:List Nat) (t:List Nat):=(Tz140 s t).d noE
def ayl (x:(List Nat)×(List Nat)×Unit):=Ez140 x.1 x.2.1
def wz140:Wk ((List Nat)×(List Nat)×Unit) Bool Empty cB.v:=wk0 fun x=>Tz140 x.1 x.2.1
def Kz140:=aP 160 Tryz.func160 [Kz191] noZ ⟨8,noL,noL,noL⟩ 128 Az140 cB ayl wz140 (fun _=>0)
def Az82:=(Row.cons (Cod.agg (Row.cons cI (Row.cons cI Row.nil))) (Row.cons cS Row.nil))
noncomputable def Tz82 (s:(Int)×(Int)×Unit) (t:List Nat):Tr (List Nat) Empty noS cS.v:=(.i (decide (2<s.2.1)) (.r [75]) (.i (decide (3<s.1)) (.r [87]) (.c Az140 ayl (t,[72],()) fun r3=>(.i r3 (.r [72]) (.c Az140 ayl (t,[88],()) fun r4=>(.i r4 (.r [88]) (.r [])))))))
def Ez82 (s:(Int)×(Int)×Unit) (t:List Nat):=(Tz82 s t).d noE
def Sz82 (x:((Int)×(Int)×Unit)×(List Nat)×Unit):=Ez82 x.1 x.2.1
def wz82:Wk (((Int)×(Int)×Unit)×(List Nat)×Unit) (List Nat) Empty cS.v:=wk0 fun x=>Tz82 x.1 x.2.1
def Kz82:=aP 137 Tryz.func137 [Kz140] noZ ⟨19,noL,noL,noL⟩ 128 Az82 cS Sz82 wz82 (fun _=>0)
def ajJ:=(Row.cons (Cod.ptr rTn) Row.nil)
def Tz145 (s:Tn):Tr Bool Empty noS cB.v:=(.r (decide (s.p_e=[])))
def Ez145 (s:Tn):=(Tz145 s).d noE
def s4 (x:Tn×Unit):=Ez145 x.1
def wz145:Wk (Tn×Unit) Bool Empty cB.v:=wk0 fun x=>Tz145 x.1
def ayv:=aP 60 Tryz.func60 [] noZ ⟨9,noL,noL,noL⟩ 128 ajJ cB s4 wz145 (fun _=>0)
def jR:=(Row.cons (Cod.ptr rTn) (Row.cons cS Row.nil))
def Tz178 (s:Tn) (t:List Nat):Tr Bool Empty noS cB.v:=(.i (!decide (s.p_e=[])) (.c axT wT (t,s.p_e,()) fun r2=>(.r r2)) (.r false))
def Ez178 (s:Tn) (t:List Nat):=(Tz178 s t).d noE
def iZ (x:Tn×(List Nat)×Unit):=Ez178 x.1 x.2.1
def wz178:Wk (Tn×(List Nat)×Unit) Bool Empty cB.v:=wk0 fun x=>Tz178 x.1 x.2.1
def azH:=aP 138 Tryz.func138 [K181] noZ ⟨20,noL,noL,noL⟩ 128 jR cB iZ wz178 (fun _=>0)
def Az123:=(Row.cons (Cod.ptr rTn) Row.nil)
noncomputable def Tz123 (s:Tn):Tr Bool Empty noS cB.v:=(.c Az82 Sz82 ((s.k0,s.k1,()),s.p_p,()) fun r5=>(.i (decide (r5=[])) (.c ajJ s4 (s,()) fun r6=>(.i (!r6) (.c jR iZ (s,[73,78],()) fun r7=>(.r (!r7))) (.r false))) (.i (decide (r5=[88])) (.c jR iZ (s,[88,89],()) fun r8=>(.r (!r8))) (.r (!decide (s.p_e=r5))))))
def Ez123 (s:Tn):=(Tz123 s).d noE
def awB (x:Tn×Unit):=Ez123 x.1
def wz123:Wk (Tn×Unit) Bool Empty cB.v:=wk0 fun x=>Tz123 x.1
def Kz123:=aP 106 Tryz.func106 [Kz82,ayv,azH] noZ ⟨37,noL,noL,noL⟩ 128 Az123 cB awB wz123 (fun _=>0)
def bqG:=(Row.cons (Cod.ptr rTn) Row.nil)
noncomputable def Tz179 (s:Tn):Tr ((Mv)×(Bool)×Unit) Empty noS (Cod.tup (Row.cons (Cod.agg rMv) (Row.cons cB Row.nil))).v:=(.i (((s.p_m.length:Nat):Int)==0) (.w ((⟨0,0,false,[],[]⟩:Mv),false,()) (.tup [.agg [.int .i64 0,.int .i64 0,.bool false,.str [],.el []],.bool false]) ⟨by kernel_rfl⟩) (.i (inR (w6 (((s.p_m.length:Nat):Int)-1)) s.p_m.length) (.i (!((s.p_m.getD (w6 (((s.p_m.length:Nat):Int)-1)).toNat mv0).f==0)) (.w ((⟨0,0,false,[],[]⟩:Mv),false,()) (.tup [.agg [.int .i64 0,.int .i64 0,.bool false,.str [],.el []],.bool false]) ⟨by kernel_rfl⟩) (.i (inR (w6 (((s.p_m.length:Nat):Int)-1)) s.p_m.length) (.r ((s.p_m.getD (w6 (((s.p_m.length:Nat):Int)-1)).toNat mv0),true,())) .n)) .n))
def Ez179 (s:Tn):=(Tz179 s).d noE
def akn (x:Tn×Unit):=Ez179 x.1
def wz179:Wk (Tn×Unit) ((Mv)×(Bool)×Unit) Empty (Cod.tup (Row.cons (Cod.agg rMv) (Row.cons cB Row.nil))).v:=wk0 fun x=>Tz179 x.1
def Kz179:=aP 139 Tryz.func139 [] noZ ⟨30,noL,noL,noL⟩ 128 bqG (Cod.tup (Row.cons (Cod.agg rMv) (Row.cons cB Row.nil))) akn wz179 (fun _=>0)
def Az124:=(Row.cons (Cod.ptr rTn) Row.nil)
def Tz124 (s:Tn):Tr Bool Empty noS cB.v:=(.c bqG akn (s,()) fun r3=>(.c ajJ s4 (s,()) fun r4=>(.r (r3.2.1==r4))))
def Ez124 (s:Tn):=(Tz124 s).d noE
def awA (x:Tn×Unit):=Ez124 x.1
def wz124:Wk (Tn×Unit) Bool Empty cB.v:=wk0 fun x=>Tz124 x.1
def Kz124:=aP 107 Tryz.func107 [ayv,Kz179] noZ ⟨14,noL,noL,noL⟩ 128 Az124 cB awA wz124 (fun _=>0)
def Az125:=(Row.cons (Cod.ptr rTn) Row.nil)
inductive ajE where
 | k200002 (x1:Int)
def uz125:ajE→Nat
 | .k200002 _=>200002
noncomputable def azy (s:Tn):ajE→D
 | .k200002 x1=>mE [(0,.raw (.yieldf 4)),(6,(Cod.list mv0 rMv).v s.p_m),(7,.int .i64 ((s.p_m.length:Nat):Int)),(8,.int .i64 x1)] [] none [[(1,.ptr 0 0),(2,.ptr 1 0),(8,.fn 161 [.ptr 2 0])]] 5 [(0,.row ⟨[.lptr (rTn.v s) 0],62,false⟩),(1,.row ⟨[.bool false],4,false⟩),(2,.row ⟨[.str s.p_p,.str s.p_e,.bool s.p_l,(Cod.list mv0 rMv).v s.p_m],29,false⟩),(3,.dfr false),(4,.loop .ready none 20 [(1,.ptr 0 0),(2,.ptr 1 0),(8,.fn 161 [.ptr 2 0])] [9] (subC (pA Tryz.f108) [1,0,1,0,0]) (subC (pA Tryz.f108) [1,0,1,0,1]))] 128 []
noncomputable def zJ (s:Tn):(l_:ajE)→Tr Bool ajE (azy s) cB.v
 | .k200002 x1=>(.i (decide (x1<((s.p_m.length:Nat):Int))) (.i (inR x1 s.p_m.length) (.i (decide (0<(s.p_m.getD x1.toNat mv0).f)) (.i ((w6 ((s.p_m.getD x1.toNat mv0).f-1))==0) (.i (s.s_b1==0) (.r true) (.g (.k200002 (w6 (x1+1))))) (.i ((w6 ((s.p_m.getD x1.toNat mv0).f-1))==1) (.i (s.s_b2==0) (.r true) (.g (.k200002 (w6 (x1+1))))) (.i ((w6 ((s.p_m.getD x1.toNat mv0).f-1))==2) (.i (s.s_b3==0) (.r true) (.g (.k200002 (w6 (x1+1))))) .n))) (.g (.k200002 (w6 (x1+1))))) .n) (.r false))
def Tz125 (s:Tn):Tr Bool ajE (azy s) cB.v:=(.g (.k200002 0))
def axS (s:Tn):=Tr.lp (zJ s)
theorem axR {s:Tn}{n:Nat}{l_:ajE}:axS s (n+1) l_=(zJ s l_).d (axS s n):=rfl
def Ez125 (n:Nat) (s:Tn):=(Tz125 s).d (axS s n)
def akz (x:Tn×Unit):=Ez125 (x.1.p_m.length+64) x.1
def wz125:Wk (Tn×Unit) Bool ajE cB.v:=⟨fun x=>azy x.1,uz125,fun x=>Tz125 x.1,fun x=>zJ x.1⟩
def Kz125:=aP 108 Tryz.func108 [] noZ ⟨20,(lookA [(100001,⟨[0,6,7,8],[0,1,2,3,4],5,[],[],[],[]⟩)]),noL,(lookA [(2,⟨161,100000,3,22,[],[1,2,8]⟩)])⟩ 128 Az125 cB akz wz125 (fun x=>x.1.p_m.length+64)
def Az126:=(Row.cons (Cod.ptr rTn) Row.nil)
noncomputable def Tz126 (s:Tn):Tr Bool Empty noS cB.v:=(.c bqG akn (s,()) fun r10=>(.i (!r10.2.1) (.r false) (.i (decide (s.p_e=[75])) (.c axT wT ([107,102,103,112,116],r10.1.h,()) fun r11=>(.i (!r11) (.r true) (.i (decide (r10.1.h=[97])) (.r (!(r10.1.t==1))) (.r false)))) (.i (decide (s.p_e=[87])) (.c axT wT ([97],r10.1.h,()) fun r12=>(.i (!r12) (.r true) (.i (decide (r10.1.h=[97])) (.r (!(r10.1.t==1))) (.r false)))) (.i (decide (s.p_e=[72])) (.c axT wT ([97],r10.1.h,()) fun r13=>(.i (!r13) (.r true) (.i (decide (r10.1.h=[97])) (.r (!(r10.1.t==1))) (.r false)))) (.i (decide (s.p_e=[73])) (.c axT wT ([97],r10.1.h,()) fun r14=>(.i (!r14) (.r true) (.i (decide (r10.1.h=[97])) (.r (!(r10.1.t==1))) (.r false)))) (.i (decide (s.p_e=[88])) (.c axT wT ([98,116,111,102,99,103],r10.1.h,()) fun r15=>(.i (!r15) (.r true) (.i (decide (r10.1.h=[97])) (.r (!(r10.1.t==1))) (.r false)))) (.i (decide (s.p_e=[78])) (.c axT wT ([110],r10.1.h,()) fun r16=>(.i (!r16) (.r true) (.i (decide (r10.1.h=[97])) (.r (!(r10.1.t==1))) (.r false)))) (.i (decide (s.p_e=[89])) (.c axT wT ([121],r10.1.h,()) fun r17=>(.i (!r17) (.r true) (.i (decide (r10.1.h=[97])) (.r (!(r10.1.t==1))) (.r false)))) (.c axT wT ([],r10.1.h,()) fun r18=>(.i (!r18) (.r true) (.i (decide (r10.1.h=[97])) (.r (!(r10.1.t==1))) (.r false)))))))))))))
def Ez126 (s:Tn):=(Tz126 s).d noE
def aky (x:Tn×Unit):=Ez126 x.1
def wz126:Wk (Tn×Unit) Bool Empty cB.v:=wk0 fun x=>Tz126 x.1
def Kz126:=aP 109 Tryz.func109 [Kz179,K181] noZ ⟨36,noL,noL,noL⟩ 128 Az126 cB aky wz126 (fun _=>0)
def ajI:=(Row.cons (Cod.ptr rTn) (Row.cons cS Row.nil))
def Tz182 (s:Tn) (t:List Nat):Tr Bool Empty noS cB.v:=(.c bqG akn (s,()) fun r3=>(.i r3.2.1 (.i r3.1.o (.c axT wT (t,r3.1.h,()) fun r4=>(.r r4)) (.r false)) (.r false)))
def Ez182 (s:Tn) (t:List Nat):=(Tz182 s t).d noE
def zP (x:Tn×(List Nat)×Unit):=Ez182 x.1 x.2.1
def wz182:Wk (Tn×(List Nat)×Unit) Bool Empty cB.v:=wk0 fun x=>Tz182 x.1 x.2.1
def Kz182:=aP 141 Tryz.func141 [Kz179,K181] noZ ⟨23,noL,noL,noL⟩ 128 ajI cB zP wz182 (fun _=>0)
def Az127:=(Row.cons (Cod.ptr rTn) Row.nil)
def Tz127 (s:Tn):Tr Bool Empty noS cB.v:=(.c jR iZ (s,[75],()) fun r3=>(.i r3 (.c ajI zP (s,[107],()) fun r4=>(.i (!r4) (.i (!(s.s_b1==0)) (.r (decide (s.s_outs<2))) (.r false)) (.r false))) (.r false)))
def Ez127 (s:Tn):=(Tz127 s).d noE
def akx (x:Tn×Unit):=Ez127 x.1
def wz127:Wk (Tn×Unit) Bool Empty cB.v:=wk0 fun x=>Tz127 x.1
def Kz127:=aP 110 Tryz.func110 [azH,Kz182] noZ ⟨27,noL,noL,noL⟩ 128 Az127 cB akx wz127 (fun _=>0)
def Az128:=(Row.cons (Cod.ptr rTn) Row.nil)
def Tz128 (s:Tn):Tr Bool Empty noS cB.v:=(.c jR iZ (s,[89],()) fun r2=>(.i r2 (.i (s.s_outs==2) (.r true) (.i (s.s_b1==0) (.r true) (.r (s.s_b2==0)))) (.r false)))
def Ez128 (s:Tn):=(Tz128 s).d noE
def akw (x:Tn×Unit):=Ez128 x.1
def wz128:Wk (Tn×Unit) Bool Empty cB.v:=wk0 fun x=>Tz128 x.1
def Kz128:=aP 111 Tryz.func111 [azH] noZ ⟨31,noL,noL,noL⟩ 128 Az128 cB akw wz128 (fun _=>0)
def Az183:=(Row.cons (Cod.ptr rTn) (Row.cons (Cod.agg rMv) Row.nil))
noncomputable def Tz183 (s:Tn) (t:Mv):Tr Bool Empty noS cB.v:=(.i (decide (t.h=[102])) (.i (t.f==0) (.i s.f0 (.c jR iZ (s,[88,75],()) fun r18=>(.i r18 (.c ajI zP (s,[99,107],()) fun r19=>(.r (!r19))) (.r false))) (.r false)) (.i (t.f==1) (.i s.f1 (.c jR iZ (s,[88,75],()) fun r16=>(.i r16 (.c ajI zP (s,[99,107],()) fun r17=>(.r (!r17))) (.r false))) (.r false)) (.i (t.f==2) (.i s.f2 (.c jR iZ (s,[88,75],()) fun r14=>(.i r14 (.c ajI zP (s,[99,107],()) fun r15=>(.r (!r15))) (.r false))) (.r false)) (.i (t.f==3) (.i s.f3 (.c jR iZ (s,[88,75],()) fun r12=>(.i r12 (.c ajI zP (s,[99,107],()) fun r13=>(.r (!r13))) (.r false))) (.r false)) .n)))) (.i (decide (t.h=[100])) (.c jR iZ (s,[89],()) fun r20=>(.i r20 (.r true) (.c ajI zP (s,[99],()) fun r21=>(.r r21)))) (.c jR iZ (s,[72,73,78],()) fun r22=>(.r (!r22)))))
def Ez183 (s:Tn) (t:Mv):=(Tz183 s t).d noE
def Sz183 (x:Tn×Mv×Unit):=Ez183 x.1 x.2.1
def wz183:Wk (Tn×Mv×Unit) Bool Empty cB.v:=wk0 fun x=>Tz183 x.1 x.2.1
def Kz183:=aP 142 Tryz.func142 [azH,Kz182] noZ ⟨36,noL,noL,noL⟩ 128 Az183 cB Sz183 wz183 (fun _=>0)
def Az184:=(Row.cons (Cod.ptr rTn) (Row.cons (Cod.agg rMv) Row.nil))
noncomputable def Tz184 (s:Tn) (t:Mv):Tr Bool Empty noS cB.v:=(.i (decide (t.h=[98])) (.c jR iZ (s,[88,89],()) fun r9=>(.r r9)) (.i (decide (t.h=[97])) (.c jR iZ (s,[87,72,73],()) fun r10=>(.i r10 (.i (t.f==0) (.i s.f0 (.r (t.t==(w6 (t.f+1)))) (.r false)) (.i (t.f==1) (.i s.f1 (.r (t.t==(w6 (t.f+1)))) (.r false)) (.i (t.f==2) (.i s.f2 (.r (t.t==(w6 (t.f+1)))) (.r false)) (.i (t.f==3) (.i s.f3 (.r (t.t==(w6 (t.f+1)))) (.r false)) .n)))) (.r false))) (.i (decide (t.h=[115])) (.c ajJ s4 (s,()) fun r11=>(.i r11 (.r true) (.c jR iZ (s,[75,87],()) fun r12=>(.r r12)))) (.i (decide (t.h=[112])) (.c ajJ s4 (s,()) fun r13=>(.i r13 (.r (!decide (s.p_p=[]))) (.c jR iZ (s,[75,87],()) fun r14=>(.i r14 (.r (!decide (s.p_p=[]))) (.r false))))) (.i (decide (t.h=[107])) (.c ajJ s4 (s,()) fun r15=>(.r r15)) (.c jR iZ (s,[72,73,78],()) fun r16=>(.r (!r16))))))))
def Ez184 (s:Tn) (t:Mv):=(Tz184 s t).d noE
def ayf (x:Tn×Mv×Unit):=Ez184 x.1 x.2.1
def wz184:Wk (Tn×Mv×Unit) Bool Empty cB.v:=wk0 fun x=>Tz184 x.1 x.2.1
def Kz184:=aP 143 Tryz.func143 [ayv,azH] noZ ⟨63,noL,noL,noL⟩ 128 Az184 cB ayf wz184 (fun _=>0)
def Az129:=(Row.cons (Cod.ptr rTn) Row.nil)
inductive ajD where
 | k200002 (x3:Int)
def uz129:ajD→Nat
 | .k200002 _=>200002
noncomputable def azx (s:Tn):ajD→D
 | .k200002 x3=>mE [(0,.raw (.yieldf 4)),(6,(Cod.list mv0 rMv).v s.p_m),(7,.int .i64 ((s.p_m.length:Nat):Int)),(8,.int .i64 x3)] [] none [[(1,.ptr 0 0),(2,.ptr 1 0),(8,.fn 161 [.ptr 2 0])]] 5 [(0,.row ⟨[.lptr (rTn.v s) 0],62,false⟩),(1,.row ⟨[.bool false],4,false⟩),(2,.row ⟨[.str s.p_p,.str s.p_e,.bool s.p_l,(Cod.list mv0 rMv).v s.p_m],29,false⟩),(3,.dfr false),(4,.loop .ready none 29 [(1,.ptr 0 0),(2,.ptr 1 0),(8,.fn 161 [.ptr 2 0])] [9] (subC (pA Tryz.f112) [1,0,1,0,0]) (subC (pA Tryz.f112) [1,0,1,0,1]))] 128 []
noncomputable def zI (s:Tn):(l_:ajD)→Tr Bool ajD (azx s) cB.v
 | .k200002 x3=>(.i (decide (x3<((s.p_m.length:Nat):Int))) (.i (inR x3 s.p_m.length) (.i (decide (0<(s.p_m.getD x3.toNat mv0).f)) (.i ((s.p_m.getD x3.toNat mv0).o) (.c Az183 Sz183 (s,(s.p_m.getD x3.toNat mv0),()) fun r8=>(.i (!r8) (.r true) (.i (!(s.p_m.getD x3.toNat mv0).o) (.c Az184 ayf (s,(s.p_m.getD x3.toNat mv0),()) fun r9=>(.i (!r9) (.r true) (.g (.k200002 (w6 (x3+1)))))) (.g (.k200002 (w6 (x3+1))))))) (.i (!(s.p_m.getD x3.toNat mv0).o) (.c Az184 ayf (s,(s.p_m.getD x3.toNat mv0),()) fun r10=>(.i (!r10) (.r true) (.g (.k200002 (w6 (x3+1)))))) (.g (.k200002 (w6 (x3+1)))))) (.g (.k200002 (w6 (x3+1))))) .n) (.r false))
def Tz129 (s:Tn):Tr Bool ajD (azx s) cB.v:=(.g (.k200002 0))
def axQ (s:Tn):=Tr.lp (zI s)
theorem axP {s:Tn}{n:Nat}{l_:ajD}:axQ s (n+1) l_=(zI s l_).d (axQ s n):=rfl
def Ez129 (n:Nat) (s:Tn):=(Tz129 s).d (axQ s n)
def akv (x:Tn×Unit):=Ez129 (x.1.p_m.length+64) x.1
def wz129:Wk (Tn×Unit) Bool ajD cB.v:=⟨fun x=>azx x.1,uz129,fun x=>Tz129 x.1,fun x=>zI x.1⟩
def Kz129:=aP 112 Tryz.func112 [Kz183,Kz184] noZ ⟨29,(lookA [(100001,⟨[0,6,7,8],[0,1,2,3,4],5,[],[],[],[]⟩)]),noL,(lookA [(2,⟨161,100000,3,22,[],[1,2,8]⟩)])⟩ 128 Az129 cB akv wz129 (fun x=>x.1.p_m.length+64)
def Az186:=(Row.cons cI Row.nil)
def Tz186 (s:Int):Tr Bool Empty noS cB.v:=(.r (!(s==0)))
def Ez186 (s:Int):=(Tz186 s).d noE
def Sz186 (x:Int×Unit):=Ez186 x.1
def wz186:Wk (Int×Unit) Bool Empty cB.v:=wk0 fun x=>Tz186 x.1
def Kz186:=aP 145 Tryz.func145 [] noZ ⟨5,noL,noL,noL⟩ 128 Az186 cB Sz186 wz186 (fun _=>0)
def zW:=(Row.cons (Cod.list 0 nB) (Row.cons (Cod.fn0 145) Row.nil))
inductive fO where
 | k6 (x2:Int) (x3:Int)
def az3:fO→Nat
 | .k6 _ _=>6
def m9 (s:List (Int)) (t:Unit):fO→D
 | .k6 x2 x3=>mD [(1,.raw (.func 145 [])),(5,.int .i64 x2),(8,(Cod.list 0 nB).v s),(9,.int .i64 ((s.length:Nat):Int)),(10,.int .i64 x3)] 0 [] 128 []
noncomputable def kC (s:List (Int)) (t:Unit):(l_:fO)→Tr Int fO (m9 s t) cI.v
 | .k6 x2 x3=>(.i (decide (x3<((s.length:Nat):Int))) (.i (inR x3 s.length) (.c Az186 Sz186 ((s.getD x3.toNat 0),()) fun r5=>(.i r5 (.g (.k6 (w6 (x2+1)) (w6 (x3+1)))) (.g (.k6 x2 (w6 (x3+1)))))) .n) (.r x2))
def sC (s:List (Int)) (t:Unit):Tr Int fO (m9 s t) cI.v:=(.g (.k6 0 0))
def kD (s:List (Int)) (t:Unit):=Tr.lp (kC s t)
theorem zS {s:List (Int)}{t:Unit}{n:Nat}{l_:fO}:kD s t (n+1) l_=(kC s t l_).d (kD s t n):=rfl
def sJ (n:Nat) (s:List (Int)) (t:Unit):=(sC s t).d (kD s t n)
def sF (x:(List (Int))×Unit×Unit):=sJ (x.1.length+64) x.1 x.2.1
def azW:Wk ((List (Int))×Unit×Unit) Int fO cI.v:=⟨fun x=>m9 x.1 x.2.1,az3,fun x=>sC x.1 x.2.1,fun x=>kC x.1 x.2.1⟩
def awI:=aP 144 Tryz.func144 [Kz186] noZ ⟨21,(lookA [(3,⟨[1,5,8,9,10],[],0,[],[],[],[]⟩)]),noL,noL⟩ 128 zW cI sF azW (fun x=>x.1.length+64)
def Az130:=(Row.cons (Cod.ptr rTn) Row.nil)
inductive ajC where
 | k200002 (x1:Int) (x2:Bool) (x3:Int)
def uz130:ajC→Nat
 | .k200002 _ _ _=>200002
noncomputable def azw (s:Tn):ajC→D
 | .k200002 x1 x2 x3=>mE [(0,.raw (.yieldf 4)),(6,(Cod.list mv0 rMv).v s.p_m),(7,.int .i64 ((s.p_m.length:Nat):Int)),(8,.int .i64 x1)] [] none [[(0,.lptr (rTn.v s) 0),(2,.bool false),(3,.ptr 0 0),(4,.ptr 1 0),(10,.fn 161 [.ptr 2 0])]] 5 [(0,.row ⟨[.bool x2],4,false⟩),(1,.row ⟨[.int .i64 x3],3,false⟩),(2,.row ⟨[.str s.p_p,.str s.p_e,.bool s.p_l,(Cod.list mv0 rMv).v s.p_m],29,false⟩),(3,.dfr false),(4,.loop .ready none 34 [(0,.lptr (rTn.v s) 0),(2,.bool false),(3,.ptr 0 0),(4,.ptr 1 0),(10,.fn 161 [.ptr 2 0])] [11] (subC (pA Tryz.f113) [1,1,0,1,0,0]) (subC (pA Tryz.f113) [1,1,0,1,0,1]))] 128 []
noncomputable def zH (s:Tn):(l_:ajC)→Tr Bool ajC (azw s) cB.v
 | .k200002 x1 x2 x3=>(.i (decide (x1<((s.p_m.length:Nat):Int))) (.i (inR x1 s.p_m.length) (.i (decide (0<(s.p_m.getD x1.toNat mv0).f)) (.i (decide (((s.p_m.getD x1.toNat mv0).h)=[107])) (.i ((s.p_m.getD x1.toNat mv0).t==(w6 ((s.p_m.getD x1.toNat mv0).f+1))) (.g (.k200002 (w6 (x1+1)) true (w6 (x3+1)))) (.g (.k200002 (w6 (x1+1)) true x3))) (.g (.k200002 (w6 (x1+1)) x2 x3))) (.g (.k200002 (w6 (x1+1)) x2 x3))) .n) (.i x2 (.c zW sF ([s.s_b1,s.s_b2,s.s_b3],(),()) fun r5=>(.r (decide (x3<r5)))) (.r false)))
def Tz130 (s:Tn):Tr Bool ajC (azw s) cB.v:=(.g (.k200002 0 false 0))
def axO (s:Tn):=Tr.lp (zH s)
theorem axN {s:Tn}{n:Nat}{l_:ajC}:axO s (n+1) l_=(zH s l_).d (axO s n):=rfl
def Ez130 (n:Nat) (s:Tn):=(Tz130 s).d (axO s n)
def aku (x:Tn×Unit):=Ez130 (x.1.p_m.length+64) x.1
def wz130:Wk (Tn×Unit) Bool ajC cB.v:=⟨fun x=>azw x.1,uz130,fun x=>Tz130 x.1,fun x=>zH x.1⟩
def Kz130:=aP 113 Tryz.func113 [awI] noZ ⟨34,(lookA [(100001,⟨[0,6,7,8],[0,1,2,3,4],5,[],[],[],[]⟩)]),noL,(lookA [(3,⟨161,100000,3,22,[],[0,2,3,4,10]⟩)])⟩ 128 Az130 cB aku wz130 (fun x=>x.1.p_m.length+64)
def Az131:=(Row.cons (Cod.ptr rTn) Row.nil)
inductive ajB where
 | k10 (x2:Int) (x3:Bool) (x4:Bool) (x5:Bool) (x6:Bool)
def uz131:ajB→Nat
 | .k10 _ _ _ _ _=>10
noncomputable def azv (s:Tn):ajB→D
 | .k10 x2 x3 x4 x5 x6=>mD [(3,.ptr 0 0),(17,(Cod.list mv0 rMv).v s.p_m),(18,.int .i64 ((s.p_m.length:Nat):Int)),(19,.int .i64 x2)] 1 [(0,.row ⟨[.bool x6,.bool x5,.bool x4,.bool x3],93,false⟩)] 128 []
noncomputable def zG (s:Tn):(l_:ajB)→Tr Bool ajB (azv s) cB.v
 | .k10 x2 x3 x4 x5 x6=>(.i (decide (x2<((s.p_m.length:Nat):Int))) (.i (inR x2 s.p_m.length) (.i (!(s.p_m.getD x2.toNat mv0).o) (.i ((s.p_m.getD x2.toNat mv0).f==0) (.g (.k10 (w6 (x2+1)) x3 x4 x5 false)) (.i ((s.p_m.getD x2.toNat mv0).f==1) (.g (.k10 (w6 (x2+1)) x3 x4 false x6)) (.i ((s.p_m.getD x2.toNat mv0).f==2) (.g (.k10 (w6 (x2+1)) x3 false x5 x6)) (.i ((s.p_m.getD x2.toNat mv0).f==3) (.g (.k10 (w6 (x2+1)) false x4 x5 x6)) .n)))) (.g (.k10 (w6 (x2+1)) x3 x4 x5 x6))) .n) (.r (!((x6==false)&&((x5==false)&&((x4==false)&&((x3==false)&&true)))))))
def Tz131 (s:Tn):Tr Bool ajB (azv s) cB.v:=(.c jR iZ (s,[87,72,73],()) fun r8=>(.i (!r8) (.r false) (.g (.k10 0 s.f3 s.f2 s.f1 s.f0))))
def zT (s:Tn):=Tr.lp (zG s)
theorem axM {s:Tn}{n:Nat}{l_:ajB}:zT s (n+1) l_=(zG s l_).d (zT s n):=rfl
def Ez131 (n:Nat) (s:Tn):=(Tz131 s).d (zT s n)
def akt (x:Tn×Unit):=Ez131 (x.1.p_m.length+64) x.1
def wz131:Wk (Tn×Unit) Bool ajB cB.v:=⟨fun x=>azv x.1,uz131,fun x=>Tz131 x.1,fun x=>zG x.1⟩
def Kz131:=aP 114 Tryz.func114 [azH] noZ ⟨33,(lookA [(5,⟨[3,17,18,19],[0],1,[],[],[],[]⟩)]),noL,noL⟩ 128 Az131 cB akt wz131 (fun x=>x.1.p_m.length+64)
def Az152:=(Row.cons (Cod.ptr rTn) Row.nil)
inductive aqy where
 | k6 (x1:Int) (x2:Int) (x3:Int) (x4:Int) (x5:Int)
 | k18 (x6:Int) (x7:Int) (x8:Int) (x9:Int) (x10:Int)
def uz152:aqy→Nat
 | .k6 _ _ _ _ _=>6
 | .k18 _ _ _ _ _=>18
noncomputable def azp (s:Tn):aqy→D
 | .k6 x1 x2 x3 x4 x5=>mD [(0,.lptr (rTn.v s) 0),(2,.ptr 0 0),(3,.ptr 1 0),(12,.agg [.int .i64 s.s_b1,.int .i64 s.s_b2,.int .i64 s.s_b3]),(13,.int .i64 x1)] 2 [(0,.row ⟨[.int .i64 0,.int .i64 0,.int .i64 0,.int .i64 0],165,false⟩),(1,.row ⟨[.int .i64 x5,.int .i64 x2,.int .i64 x4,.int .i64 x3],165,false⟩)] 128 []
 | .k18 x6 x7 x8 x9 x10=>mD [(2,.ptr 0 0),(3,.ptr 1 0),(29,(Cod.list mv0 rMv).v s.p_m),(30,.int .i64 ((s.p_m.length:Nat):Int)),(31,.int .i64 x10)] 2 [(0,.row ⟨[.int .i64 0,.int .i64 0,.int .i64 0,.int .i64 0],165,false⟩),(1,.row ⟨[.int .i64 x7,.int .i64 x6,.int .i64 x8,.int .i64 x9],165,false⟩)] 128 []
noncomputable def uJ (s:Tn):(l_:aqy)→Tr ((Int)×(Int)×(Int)×(Int)×Unit) aqy (azp s) (Cod.agg (Row.cons cI (Row.cons cI (Row.cons cI (Row.cons cI Row.nil))))).v
 | .k6 x1 x2 x3 x4 x5=>(.i (decide (x1<3)) (.i (x1==0) (.i (!(s.s_b1==0)) (.i ((w6 (x1+1))==0) (.g (.k6 (w6 (x1+1)) x2 x3 x4 (w6 (x1+1)))) (.i ((w6 (x1+1))==1) (.g (.k6 (w6 (x1+1)) (w6 (x1+1)) x3 x4 x5)) (.i ((w6 (x1+1))==2) (.g (.k6 (w6 (x1+1)) x2 x3 (w6 (x1+1)) x5)) (.i ((w6 (x1+1))==3) (.g (.k6 (w6 (x1+1)) x2 (w6 (x1+1)) x4 x5)) .n)))) (.g (.k6 (w6 (x1+1)) x2 x3 x4 x5))) (.i (x1==1) (.i (!(s.s_b2==0)) (.i ((w6 (x1+1))==0) (.g (.k6 (w6 (x1+1)) x2 x3 x4 (w6 (x1+1)))) (.i ((w6 (x1+1))==1) (.g (.k6 (w6 (x1+1)) (w6 (x1+1)) x3 x4 x5)) (.i ((w6 (x1+1))==2) (.g (.k6 (w6 (x1+1)) x2 x3 (w6 (x1+1)) x5)) (.i ((w6 (x1+1))==3) (.g (.k6 (w6 (x1+1)) x2 (w6 (x1+1)) x4 x5)) .n)))) (.g (.k6 (w6 (x1+1)) x2 x3 x4 x5))) (.i (x1==2) (.i (!(s.s_b3==0)) (.i ((w6 (x1+1))==0) (.g (.k6 (w6 (x1+1)) x2 x3 x4 (w6 (x1+1)))) (.i ((w6 (x1+1))==1) (.g (.k6 (w6 (x1+1)) (w6 (x1+1)) x3 x4 x5)) (.i ((w6 (x1+1))==2) (.g (.k6 (w6 (x1+1)) x2 x3 (w6 (x1+1)) x5)) (.i ((w6 (x1+1))==3) (.g (.k6 (w6 (x1+1)) x2 (w6 (x1+1)) x4 x5)) .n)))) (.g (.k6 (w6 (x1+1)) x2 x3 x4 x5))) .n))) (.g (.k18 x2 x5 x4 x3 0)))
 | .k18 x6 x7 x8 x9 x10=>(.i (decide (x10<((s.p_m.length:Nat):Int))) (.i (inR x10 s.p_m.length) (.i ((s.p_m.getD x10.toNat mv0).f==0) (.i ((s.p_m.getD x10.toNat mv0).o) (.i ((s.p_m.getD x10.toNat mv0).f==0) (.g (.k18 x6 0 x8 x9 (w6 (x10+1)))) (.i ((s.p_m.getD x10.toNat mv0).f==1) (.g (.k18 0 (s.p_m.getD x10.toNat mv0).t x8 x9 (w6 (x10+1)))) (.i ((s.p_m.getD x10.toNat mv0).f==2) (.g (.k18 x6 (s.p_m.getD x10.toNat mv0).t 0 x9 (w6 (x10+1)))) (.i ((s.p_m.getD x10.toNat mv0).f==3) (.g (.k18 x6 (s.p_m.getD x10.toNat mv0).t x8 0 (w6 (x10+1)))) .n)))) (.g (.k18 x6 (s.p_m.getD x10.toNat mv0).t x8 x9 (w6 (x10+1))))) (.i ((s.p_m.getD x10.toNat mv0).f==1) (.i ((s.p_m.getD x10.toNat mv0).o) (.i ((s.p_m.getD x10.toNat mv0).f==0) (.g (.k18 (s.p_m.getD x10.toNat mv0).t 0 x8 x9 (w6 (x10+1)))) (.i ((s.p_m.getD x10.toNat mv0).f==1) (.g (.k18 0 x7 x8 x9 (w6 (x10+1)))) (.i ((s.p_m.getD x10.toNat mv0).f==2) (.g (.k18 (s.p_m.getD x10.toNat mv0).t x7 0 x9 (w6 (x10+1)))) (.i ((s.p_m.getD x10.toNat mv0).f==3) (.g (.k18 (s.p_m.getD x10.toNat mv0).t x7 x8 0 (w6 (x10+1)))) .n)))) (.g (.k18 (s.p_m.getD x10.toNat mv0).t x7 x8 x9 (w6 (x10+1))))) (.i ((s.p_m.getD x10.toNat mv0).f==2) (.i ((s.p_m.getD x10.toNat mv0).o) (.i ((s.p_m.getD x10.toNat mv0).f==0) (.g (.k18 x6 0 (s.p_m.getD x10.toNat mv0).t x9 (w6 (x10+1)))) (.i ((s.p_m.getD x10.toNat mv0).f==1) (.g (.k18 0 x7 (s.p_m.getD x10.toNat mv0).t x9 (w6 (x10+1)))) (.i ((s.p_m.getD x10.toNat mv0).f==2) (.g (.k18 x6 x7 0 x9 (w6 (x10+1)))) (.i ((s.p_m.getD x10.toNat mv0).f==3) (.g (.k18 x6 x7 (s.p_m.getD x10.toNat mv0).t 0 (w6 (x10+1)))) .n)))) (.g (.k18 x6 x7 (s.p_m.getD x10.toNat mv0).t x9 (w6 (x10+1))))) (.i ((s.p_m.getD x10.toNat mv0).f==3) (.i ((s.p_m.getD x10.toNat mv0).o) (.i ((s.p_m.getD x10.toNat mv0).f==0) (.g (.k18 x6 0 x8 (s.p_m.getD x10.toNat mv0).t (w6 (x10+1)))) (.i ((s.p_m.getD x10.toNat mv0).f==1) (.g (.k18 0 x7 x8 (s.p_m.getD x10.toNat mv0).t (w6 (x10+1)))) (.i ((s.p_m.getD x10.toNat mv0).f==2) (.g (.k18 x6 x7 0 (s.p_m.getD x10.toNat mv0).t (w6 (x10+1)))) (.i ((s.p_m.getD x10.toNat mv0).f==3) (.g (.k18 x6 x7 x8 0 (w6 (x10+1)))) .n)))) (.g (.k18 x6 x7 x8 (s.p_m.getD x10.toNat mv0).t (w6 (x10+1))))) .n)))) .n) (.r (x7,x6,x8,x9,())))
def Tz152 (s:Tn):Tr ((Int)×(Int)×(Int)×(Int)×Unit) aqy (azp s) (Cod.agg (Row.cons cI (Row.cons cI (Row.cons cI (Row.cons cI Row.nil))))).v:=(.g (.k6 0 0 0 0 0))
def uL (s:Tn):=Tr.lp (uJ s)
theorem wV {s:Tn}{n:Nat}{l_:aqy}:uL s (n+1) l_=(uJ s l_).d (uL s n):=rfl
def Ez152 (n:Nat) (s:Tn):=(Tz152 s).d (uL s n)
def Sz152 (x:Tn×Unit):=Ez152 (x.1.p_m.length+64) x.1
def wz152:Wk (Tn×Unit) ((Int)×(Int)×(Int)×(Int)×Unit) aqy (Cod.agg (Row.cons cI (Row.cons cI (Row.cons cI (Row.cons cI Row.nil))))).v:=⟨fun x=>azp x.1,uz152,fun x=>Tz152 x.1,fun x=>uJ x.1⟩
noncomputable def Kz152:=aP 146 Tryz.func146 [] noZ ⟨47,(lookA [(3,⟨[0,2,3,12,13],[0,1],2,[],[],[],[]⟩),(9,⟨[2,3,29,30,31],[0,1],2,[],[],[],[]⟩)]),noL,noL⟩ 128 Az152 (Cod.agg (Row.cons cI (Row.cons cI (Row.cons cI (Row.cons cI Row.nil))))) Sz152 wz152 (fun x=>x.1.p_m.length+64)
def Az132:=(Row.cons (Cod.ptr rTn) Row.nil)
inductive azA where
 | k6_0 (x2:Int) (x3:Int) (x4:Int) (x5:Int) (x6:Int) (x7:Int) (x8:Int) (x9:Int)
 | k12_0 (x10:Int) (x11:Int) (x12:Int) (x13:Int) (x14:Int) (x15:Int) (x16:Int) (x17:Int) (x18:Int)
 | k6_1 (x19:Int) (x20:Int) (x21:Int) (x22:Int) (x23:Int) (x24:Int) (x25:Int) (x26:Int)
 | k12_1 (x27:Int) (x28:Int) (x29:Int) (x30:Int) (x31:Int) (x32:Int) (x33:Int) (x34:Int) (x35:Int)
 | k12_2 (x36:Int) (x37:Int) (x38:Int) (x39:Int) (x40:Int) (x41:Int) (x42:Int) (x43:Int) (x44:Int)
 | k6_2 (x45:Int) (x46:Int) (x47:Int) (x48:Int) (x49:Int) (x50:Int) (x51:Int) (x52:Int)
 | k12_3 (x53:Int) (x54:Int) (x55:Int) (x56:Int) (x57:Int) (x58:Int) (x59:Int) (x60:Int) (x61:Int)
 | k12_4 (x62:Int) (x63:Int) (x64:Int) (x65:Int) (x66:Int) (x67:Int) (x68:Int) (x69:Int) (x70:Int)
 | k12_5 (x71:Int) (x72:Int) (x73:Int) (x74:Int) (x75:Int) (x76:Int) (x77:Int) (x78:Int) (x79:Int)
 | k6_3 (x80:Int) (x81:Int) (x82:Int) (x83:Int) (x84:Int) (x85:Int) (x86:Int) (x87:Int)
 | k12_6 (x88:Int) (x89:Int) (x90:Int) (x91:Int) (x92:Int) (x93:Int) (x94:Int) (x95:Int) (x96:Int)
 | k12_7 (x97:Int) (x98:Int) (x99:Int) (x100:Int) (x101:Int) (x102:Int) (x103:Int) (x104:Int) (x105:Int)
 | k12_8 (x106:Int) (x107:Int) (x108:Int) (x109:Int) (x110:Int) (x111:Int) (x112:Int) (x113:Int) (x114:Int)
 | k12_9 (x115:Int) (x116:Int) (x117:Int) (x118:Int) (x119:Int) (x120:Int) (x121:Int) (x122:Int) (x123:Int)
 | k6_4 (x124:Int) (x125:Int) (x126:Int) (x127:Int) (x128:Int) (x129:Int) (x130:Int) (x131:Int)
noncomputable def uz132:azA→Nat
 | .k6_0 _ _ _ _ _ _ _ _=>6
 | .k12_0 _ _ _ _ _ _ _ _ _=>12
 | .k6_1 _ _ _ _ _ _ _ _=>6
 | .k12_1 _ _ _ _ _ _ _ _ _=>12
 | .k12_2 _ _ _ _ _ _ _ _ _=>12
 | .k6_2 _ _ _ _ _ _ _ _=>6
 | .k12_3 _ _ _ _ _ _ _ _ _=>12
 | .k12_4 _ _ _ _ _ _ _ _ _=>12
 | .k12_5 _ _ _ _ _ _ _ _ _=>12
 | .k6_3 _ _ _ _ _ _ _ _=>6
 | .k12_6 _ _ _ _ _ _ _ _ _=>12
 | .k12_7 _ _ _ _ _ _ _ _ _=>12
 | .k12_8 _ _ _ _ _ _ _ _ _=>12
 | .k12_9 _ _ _ _ _ _ _ _ _=>12
 | .k6_4 _ _ _ _ _ _ _ _=>6
noncomputable def azu (s:Tn):azA→D
 | .k6_0 x2 x3 x4 x5 x6 x7 x8 x9=>mD [(3,.ptr 0 0),(10,.agg [.int .i64 x2,.int .i64 x3,.int .i64 x4,.int .i64 x5]),(11,.int .i64 0)] 1 [(0,.row ⟨[.int .i64 x6,.int .i64 x7,.int .i64 x8,.int .i64 x9],165,false⟩)] 128 []
 | .k12_0 x10 x11 x12 x13 x14 x15 x16 x17 x18=>mD [(3,.ptr 0 0),(5,.int .i64 x10),(10,.agg [.int .i64 x11,.int .i64 x12,.int .i64 x13,.int .i64 x14]),(11,.int .i64 0),(16,.sl 0 0 0 (.exact 4)),(17,.int .i64 0),(18,.int .i64 0)] 1 [(0,.row ⟨[.int .i64 x15,.int .i64 x16,.int .i64 x17,.int .i64 x18],165,false⟩)] 128 []
 | .k6_1 x19 x20 x21 x22 x23 x24 x25 x26=>mD [(3,.ptr 0 0),(10,.agg [.int .i64 x19,.int .i64 x20,.int .i64 x21,.int .i64 x22]),(11,.int .i64 1)] 1 [(0,.row ⟨[.int .i64 x23,.int .i64 x24,.int .i64 x25,.int .i64 x26],165,false⟩)] 128 []
 | .k12_1 x27 x28 x29 x30 x31 x32 x33 x34 x35=>mD [(3,.ptr 0 0),(5,.int .i64 x27),(10,.agg [.int .i64 x28,.int .i64 x29,.int .i64 x30,.int .i64 x31]),(11,.int .i64 1),(16,.sl 0 0 1 (.exact 4)),(17,.int .i64 1),(18,.int .i64 0)] 1 [(0,.row ⟨[.int .i64 x32,.int .i64 x33,.int .i64 x34,.int .i64 x35],165,false⟩)] 128 []
 | .k12_2 x36 x37 x38 x39 x40 x41 x42 x43 x44=>mD [(3,.ptr 0 0),(5,.int .i64 x36),(10,.agg [.int .i64 x37,.int .i64 x38,.int .i64 x39,.int .i64 x40]),(11,.int .i64 1),(16,.sl 0 0 1 (.exact 4)),(17,.int .i64 1),(18,.int .i64 1)] 1 [(0,.row ⟨[.int .i64 x41,.int .i64 x42,.int .i64 x43,.int .i64 x44],165,false⟩)] 128 []
 | .k6_2 x45 x46 x47 x48 x49 x50 x51 x52=>mD [(3,.ptr 0 0),(10,.agg [.int .i64 x45,.int .i64 x46,.int .i64 x47,.int .i64 x48]),(11,.int .i64 2)] 1 [(0,.row ⟨[.int .i64 x49,.int .i64 x50,.int .i64 x51,.int .i64 x52],165,false⟩)] 128 []
 | .k12_3 x53 x54 x55 x56 x57 x58 x59 x60 x61=>mD [(3,.ptr 0 0),(5,.int .i64 x53),(10,.agg [.int .i64 x54,.int .i64 x55,.int .i64 x56,.int .i64 x57]),(11,.int .i64 2),(16,.sl 0 0 2 (.exact 4)),(17,.int .i64 2),(18,.int .i64 0)] 1 [(0,.row ⟨[.int .i64 x58,.int .i64 x59,.int .i64 x60,.int .i64 x61],165,false⟩)] 128 []
 | .k12_4 x62 x63 x64 x65 x66 x67 x68 x69 x70=>mD [(3,.ptr 0 0),(5,.int .i64 x62),(10,.agg [.int .i64 x63,.int .i64 x64,.int .i64 x65,.int .i64 x66]),(11,.int .i64 2),(16,.sl 0 0 2 (.exact 4)),(17,.int .i64 2),(18,.int .i64 1)] 1 [(0,.row ⟨[.int .i64 x67,.int .i64 x68,.int .i64 x69,.int .i64 x70],165,false⟩)] 128 []
 | .k12_5 x71 x72 x73 x74 x75 x76 x77 x78 x79=>mD [(3,.ptr 0 0),(5,.int .i64 x71),(10,.agg [.int .i64 x72,.int .i64 x73,.int .i64 x74,.int .i64 x75]),(11,.int .i64 2),(16,.sl 0 0 2 (.exact 4)),(17,.int .i64 2),(18,.int .i64 2)] 1 [(0,.row ⟨[.int .i64 x76,.int .i64 x77,.int .i64 x78,.int .i64 x79],165,false⟩)] 128 []
 | .k6_3 x80 x81 x82 x83 x84 x85 x86 x87=>mD [(3,.ptr 0 0),(10,.agg [.int .i64 x80,.int .i64 x81,.int .i64 x82,.int .i64 x83]),(11,.int .i64 3)] 1 [(0,.row ⟨[.int .i64 x84,.int .i64 x85,.int .i64 x86,.int .i64 x87],165,false⟩)] 128 []
 | .k12_6 x88 x89 x90 x91 x92 x93 x94 x95 x96=>mD [(3,.ptr 0 0),(5,.int .i64 x88),(10,.agg [.int .i64 x89,.int .i64 x90,.int .i64 x91,.int .i64 x92]),(11,.int .i64 3),(16,.sl 0 0 3 (.exact 4)),(17,.int .i64 3),(18,.int .i64 0)] 1 [(0,.row ⟨[.int .i64 x93,.int .i64 x94,.int .i64 x95,.int .i64 x96],165,false⟩)] 128 []
 | .k12_7 x97 x98 x99 x100 x101 x102 x103 x104 x105=>mD [(3,.ptr 0 0),(5,.int .i64 x97),(10,.agg [.int .i64 x98,.int .i64 x99,.int .i64 x100,.int .i64 x101]),(11,.int .i64 3),(16,.sl 0 0 3 (.exact 4)),(17,.int .i64 3),(18,.int .i64 1)] 1 [(0,.row ⟨[.int .i64 x102,.int .i64 x103,.int .i64 x104,.int .i64 x105],165,false⟩)] 128 []
 | .k12_8 x106 x107 x108 x109 x110 x111 x112 x113 x114=>mD [(3,.ptr 0 0),(5,.int .i64 x106),(10,.agg [.int .i64 x107,.int .i64 x108,.int .i64 x109,.int .i64 x110]),(11,.int .i64 3),(16,.sl 0 0 3 (.exact 4)),(17,.int .i64 3),(18,.int .i64 2)] 1 [(0,.row ⟨[.int .i64 x111,.int .i64 x112,.int .i64 x113,.int .i64 x114],165,false⟩)] 128 []
 | .k12_9 x115 x116 x117 x118 x119 x120 x121 x122 x123=>mD [(3,.ptr 0 0),(5,.int .i64 x115),(10,.agg [.int .i64 x116,.int .i64 x117,.int .i64 x118,.int .i64 x119]),(11,.int .i64 3),(16,.sl 0 0 3 (.exact 4)),(17,.int .i64 3),(18,.int .i64 3)] 1 [(0,.row ⟨[.int .i64 x120,.int .i64 x121,.int .i64 x122,.int .i64 x123],165,false⟩)] 128 []
 | .k6_4 x124 x125 x126 x127 x128 x129 x130 x131=>mD [(3,.ptr 0 0),(10,.agg [.int .i64 x124,.int .i64 x125,.int .i64 x126,.int .i64 x127]),(11,.int .i64 4)] 1 [(0,.row ⟨[.int .i64 x128,.int .i64 x129,.int .i64 x130,.int .i64 x131],165,false⟩)] 128 []
noncomputable def bqb (s:Tn):(l_:azA)→Tr Bool azA (azu s) cB.v
 | .k6_0 x2 x3 x4 x5 x6 x7 x8 x9=>(.g (.k12_0 x2 x2 x3 x4 x5 x6 x7 x8 x9))
 | .k12_0 x10 x11 x12 x13 x14 x15 x16 x17 x18=>(.g (.k6_1 x11 x12 x13 x14 x15 x16 x17 x18))
 | .k6_1 x19 x20 x21 x22 x23 x24 x25 x26=>(.g (.k12_1 x20 x19 x20 x21 x22 x23 x24 x25 x26))
 | .k12_1 x27 x28 x29 x30 x31 x32 x33 x34 x35=>(.i (!(x32==0)) (.i (!(x27==0)) (.i (decide (x27≤x32)) (.i (!(x32==4)) (.r true) (.i (!(x27==4)) (.r true) (.g (.k12_2 x27 x28 x29 x30 x31 x32 x33 x34 x35)))) (.g (.k12_2 x27 x28 x29 x30 x31 x32 x33 x34 x35))) (.g (.k12_2 x27 x28 x29 x30 x31 x32 x33 x34 x35))) (.g (.k12_2 x27 x28 x29 x30 x31 x32 x33 x34 x35)))
 | .k12_2 x36 x37 x38 x39 x40 x41 x42 x43 x44=>(.g (.k6_2 x37 x38 x39 x40 x41 x42 x43 x44))
 | .k6_2 x45 x46 x47 x48 x49 x50 x51 x52=>(.g (.k12_3 x47 x45 x46 x47 x48 x49 x50 x51 x52))
 | .k12_3 x53 x54 x55 x56 x57 x58 x59 x60 x61=>(.i (!(x58==0)) (.i (!(x53==0)) (.i (decide (x53≤x58)) (.i (!(x58==4)) (.r true) (.i (!(x53==4)) (.r true) (.g (.k12_4 x53 x54 x55 x56 x57 x58 x59 x60 x61)))) (.g (.k12_4 x53 x54 x55 x56 x57 x58 x59 x60 x61))) (.g (.k12_4 x53 x54 x55 x56 x57 x58 x59 x60 x61))) (.g (.k12_4 x53 x54 x55 x56 x57 x58 x59 x60 x61)))
 | .k12_4 x62 x63 x64 x65 x66 x67 x68 x69 x70=>(.i (!(x68==0)) (.i (!(x62==0)) (.i (decide (x62≤x68)) (.i (!(x68==4)) (.r true) (.i (!(x62==4)) (.r true) (.g (.k12_5 x62 x63 x64 x65 x66 x67 x68 x69 x70)))) (.g (.k12_5 x62 x63 x64 x65 x66 x67 x68 x69 x70))) (.g (.k12_5 x62 x63 x64 x65 x66 x67 x68 x69 x70))) (.g (.k12_5 x62 x63 x64 x65 x66 x67 x68 x69 x70)))
 | .k12_5 x71 x72 x73 x74 x75 x76 x77 x78 x79=>(.g (.k6_3 x72 x73 x74 x75 x76 x77 x78 x79))
 | .k6_3 x80 x81 x82 x83 x84 x85 x86 x87=>(.g (.k12_6 x83 x80 x81 x82 x83 x84 x85 x86 x87))
 | .k12_6 x88 x89 x90 x91 x92 x93 x94 x95 x96=>(.i (!(x93==0)) (.i (!(x88==0)) (.i (decide (x88≤x93)) (.i (!(x93==4)) (.r true) (.i (!(x88==4)) (.r true) (.g (.k12_7 x88 x89 x90 x91 x92 x93 x94 x95 x96)))) (.g (.k12_7 x88 x89 x90 x91 x92 x93 x94 x95 x96))) (.g (.k12_7 x88 x89 x90 x91 x92 x93 x94 x95 x96))) (.g (.k12_7 x88 x89 x90 x91 x92 x93 x94 x95 x96)))
 | .k12_7 x97 x98 x99 x100 x101 x102 x103 x104 x105=>(.i (!(x103==0)) (.i (!(x97==0)) (.i (decide (x97≤x103)) (.i (!(x103==4)) (.r true) (.i (!(x97==4)) (.r true) (.g (.k12_8 x97 x98 x99 x100 x101 x102 x103 x104 x105)))) (.g (.k12_8 x97 x98 x99 x100 x101 x102 x103 x104 x105))) (.g (.k12_8 x97 x98 x99 x100 x101 x102 x103 x104 x105))) (.g (.k12_8 x97 x98 x99 x100 x101 x102 x103 x104 x105)))
 | .k12_8 x106 x107 x108 x109 x110 x111 x112 x113 x114=>(.i (!(x113==0)) (.i (!(x106==0)) (.i (decide (x106≤x113)) (.i (!(x113==4)) (.r true) (.i (!(x106==4)) (.r true) (.g (.k12_9 x106 x107 x108 x109 x110 x111 x112 x113 x114)))) (.g (.k12_9 x106 x107 x108 x109 x110 x111 x112 x113 x114))) (.g (.k12_9 x106 x107 x108 x109 x110 x111 x112 x113 x114))) (.g (.k12_9 x106 x107 x108 x109 x110 x111 x112 x113 x114)))
 | .k12_9 x115 x116 x117 x118 x119 x120 x121 x122 x123=>(.g (.k6_4 x116 x117 x118 x119 x120 x121 x122 x123))
 | .k6_4 x124 x125 x126 x127 x128 x129 x130 x131=>(.r false)
def Tz132 (s:Tn):Tr Bool azA (azu s) cB.v:=(.c Az152 Sz152 (s,()) fun r133=>(.g (.k6_0 r133.1 r133.2.1 r133.2.2.1 r133.2.2.2.1 r133.1 r133.2.1 r133.2.2.1 r133.2.2.2.1)))
def cP (s:Tn):=Tr.lp (bqb s)
def Ez132 (n:Nat) (s:Tn):=(Tz132 s).d (cP s n)
def aks (x:Tn×Unit):=Ez132 (x.1.p_m.length+64) x.1
def wz132:Wk (Tn×Unit) Bool azA cB.v:=⟨fun x=>azu x.1,uz132,fun x=>Tz132 x.1,fun x=>bqb x.1⟩
def Kz132:=aP 115 Tryz.func115 [Kz152] noZ ⟨43,(lookA [(3,⟨[3,10,11],[0],1,[],[],[],[]⟩),(6,⟨[3,5,10,11,16,17,18],[0],1,[],[],[],[]⟩)]),noL,noL⟩ 128 Az132 cB aks wz132 (fun x=>x.1.p_m.length+64)
def Az133:=(Row.cons (Cod.ptr rTn) Row.nil)
def Tz133 (s:Tn):Tr Bool Empty noS cB.v:=(.r (decide (3<s.outs)))
def Ez133 (s:Tn):=(Tz133 s).d noE
def akr (x:Tn×Unit):=Ez133 x.1
def wz133:Wk (Tn×Unit) Bool Empty cB.v:=wk0 fun x=>Tz133 x.1
def Kz133:=aP 116 Tryz.func116 [] noZ ⟨8,noL,noL,noL⟩ 128 Az133 cB akr wz133 (fun _=>0)
def Az151:=(Row.cons (Cod.agg rMv) Row.nil)
def Tz151 (s:Mv):Tr Bool Empty noS cB.v:=(.i (!s.o) (.r (s.t==4)) (.r false))
def Ez151 (s:Mv):=(Tz151 s).d noE
def ayi (x:Mv×Unit):=Ez151 x.1
def wz151:Wk (Mv×Unit) Bool Empty cB.v:=wk0 fun x=>Tz151 x.1
def Kz151:=aP 57 Tryz.func57 [] noZ ⟨11,noL,noL,noL⟩ 128 Az151 cB ayi wz151 (fun _=>0)
def zV:=(Row.cons (Cod.list mv0 rMv) (Row.cons (Cod.fn0 57) Row.nil))
inductive fN where
 | k6 (x2:Int) (x3:Int)
def az2:fN→Nat
 | .k6 _ _=>6
def m8 (s:List (Mv)) (t:Unit):fN→D
 | .k6 x2 x3=>mD [(1,.raw (.func 57 [])),(5,.int .i64 x2),(8,(Cod.list mv0 rMv).v s),(9,.int .i64 ((s.length:Nat):Int)),(10,.int .i64 x3)] 0 [] 128 []
noncomputable def dD (s:List (Mv)) (t:Unit):(l_:fN)→Tr Int fN (m8 s t) cI.v
 | .k6 x2 x3=>(.i (decide (x3<((s.length:Nat):Int))) (.i (inR x3 s.length) (.c Az151 ayi ((s.getD x3.toNat mv0),()) fun r5=>(.i r5 (.g (.k6 (w6 (x2+1)) (w6 (x3+1)))) (.g (.k6 x2 (w6 (x3+1)))))) .n) (.r x2))
def sB (s:List (Mv)) (t:Unit):Tr Int fN (m8 s t) cI.v:=(.g (.k6 0 0))
def hD (s:List (Mv)) (t:Unit):=Tr.lp (dD s t)
theorem eD {s:List (Mv)}{t:Unit}{n:Nat}{l_:fN}:hD s t (n+1) l_=(dD s t l_).d (hD s t n):=rfl
def sI (n:Nat) (s:List (Mv)) (t:Unit):=(sB s t).d (hD s t n)
def sE (x:(List (Mv))×Unit×Unit):=sI (x.1.length+64) x.1 x.2.1
def azV:Wk ((List (Mv))×Unit×Unit) Int fN cI.v:=⟨fun x=>m8 x.1 x.2.1,az2,fun x=>sB x.1 x.2.1,fun x=>dD x.1 x.2.1⟩
def awH:=aP 82 Tryz.func82 [Kz151] noZ ⟨21,(lookA [(3,⟨[1,5,8,9,10],[],0,[],[],[],[]⟩)]),noL,noL⟩ 128 zV cI sE azV (fun x=>x.1.length+64)
def Az134:=(Row.cons (Cod.ptr rTn) Row.nil)
def Tz134 (s:Tn):Tr Bool Empty noS cB.v:=(.i s.p_l (.i (decide (s.outs<3)) (.r true) (.c zV sE (s.p_m,(),()) fun r2=>(.r (r2==0)))) (.r false))
def Ez134 (s:Tn):=(Tz134 s).d noE
def akq (x:Tn×Unit):=Ez134 x.1
def wz134:Wk (Tn×Unit) Bool Empty cB.v:=wk0 fun x=>Tz134 x.1
def Kz134:=aP 117 Tryz.func117 [awH] noZ ⟨24,noL,noL,noL⟩ 128 Az134 cB akq wz134 (fun _=>0)
def Az144:=(Row.cons (Cod.ptr rTn) Row.nil)
inductive axy where
 | k6_0 (x2:List Nat) (x3:List Nat) (x4:List Nat) (x5:List Nat) (x6:List Nat) (x7:List Nat) (x8:List Nat) (x9:List Nat) (x10:List Nat) (x11:List Nat) (x12:List Nat) (x13:List Nat) (x14:List Nat)
 | k6_1 (x16:List Nat) (x17:List Nat) (x18:List Nat) (x19:List Nat) (x20:List Nat) (x21:List Nat) (x22:List Nat) (x23:List Nat) (x24:List Nat) (x25:List Nat) (x26:List Nat) (x27:List Nat) (x28:List Nat)
 | k6_2 (x30:List Nat) (x31:List Nat) (x32:List Nat) (x33:List Nat) (x34:List Nat) (x35:List Nat) (x36:List Nat) (x37:List Nat) (x38:List Nat) (x39:List Nat) (x40:List Nat) (x41:List Nat) (x42:List Nat)
 | k6_3 (x44:List Nat) (x45:List Nat) (x46:List Nat) (x47:List Nat) (x48:List Nat) (x49:List Nat) (x50:List Nat) (x51:List Nat) (x52:List Nat) (x53:List Nat) (x54:List Nat) (x55:List Nat) (x56:List Nat)
 | k6_4 (x58:List Nat) (x59:List Nat) (x60:List Nat) (x61:List Nat) (x62:List Nat) (x63:List Nat) (x64:List Nat) (x65:List Nat) (x66:List Nat) (x67:List Nat) (x68:List Nat) (x69:List Nat) (x70:List Nat)
 | k6_5 (x72:List Nat) (x73:List Nat) (x74:List Nat) (x75:List Nat) (x76:List Nat) (x77:List Nat) (x78:List Nat) (x79:List Nat) (x80:List Nat) (x81:List Nat) (x82:List Nat) (x83:List Nat) (x84:List Nat)
 | k6_6 (x86:List Nat) (x87:List Nat) (x88:List Nat) (x89:List Nat) (x90:List Nat) (x91:List Nat) (x92:List Nat) (x93:List Nat) (x94:List Nat) (x95:List Nat) (x96:List Nat) (x97:List Nat) (x98:List Nat)
 | k6_7 (x100:List Nat) (x101:List Nat) (x102:List Nat) (x103:List Nat) (x104:List Nat) (x105:List Nat) (x106:List Nat) (x107:List Nat) (x108:List Nat) (x109:List Nat) (x110:List Nat) (x111:List Nat) (x112:List Nat)
 | k6_8 (x114:List Nat) (x115:List Nat) (x116:List Nat) (x117:List Nat) (x118:List Nat) (x119:List Nat) (x120:List Nat) (x121:List Nat) (x122:List Nat) (x123:List Nat) (x124:List Nat) (x125:List Nat) (x126:List Nat)
 | k6_9 (x128:List Nat) (x129:List Nat) (x130:List Nat) (x131:List Nat) (x132:List Nat) (x133:List Nat) (x134:List Nat) (x135:List Nat) (x136:List Nat) (x137:List Nat) (x138:List Nat) (x139:List Nat) (x140:List Nat)
 | k6_10 (x142:List Nat) (x143:List Nat) (x144:List Nat) (x145:List Nat) (x146:List Nat) (x147:List Nat) (x148:List Nat) (x149:List Nat) (x150:List Nat) (x151:List Nat) (x152:List Nat) (x153:List Nat) (x154:List Nat)
 | k6_11 (x156:List Nat) (x157:List Nat) (x158:List Nat) (x159:List Nat) (x160:List Nat) (x161:List Nat) (x162:List Nat) (x163:List Nat) (x164:List Nat) (x165:List Nat) (x166:List Nat) (x167:List Nat) (x168:List Nat)
 | k6_12 (x170:List Nat) (x171:List Nat) (x172:List Nat) (x173:List Nat) (x174:List Nat) (x175:List Nat) (x176:List Nat) (x177:List Nat) (x178:List Nat) (x179:List Nat) (x180:List Nat) (x181:List Nat) (x182:List Nat)
 | k6_13 (x184:List Nat) (x185:List Nat) (x186:List Nat) (x187:List Nat) (x188:List Nat) (x189:List Nat) (x190:List Nat) (x191:List Nat) (x192:List Nat) (x193:List Nat) (x194:List Nat) (x195:List Nat) (x196:List Nat)
noncomputable def uz144:axy→Nat
 | .k6_0 _ _ _ _ _ _ _ _ _ _ _ _ _=>6
 | .k6_1 _ _ _ _ _ _ _ _ _ _ _ _ _=>6
 | .k6_2 _ _ _ _ _ _ _ _ _ _ _ _ _=>6
 | .k6_3 _ _ _ _ _ _ _ _ _ _ _ _ _=>6
 | .k6_4 _ _ _ _ _ _ _ _ _ _ _ _ _=>6
 | .k6_5 _ _ _ _ _ _ _ _ _ _ _ _ _=>6
 | .k6_6 _ _ _ _ _ _ _ _ _ _ _ _ _=>6
 | .k6_7 _ _ _ _ _ _ _ _ _ _ _ _ _=>6
 | .k6_8 _ _ _ _ _ _ _ _ _ _ _ _ _=>6
 | .k6_9 _ _ _ _ _ _ _ _ _ _ _ _ _=>6
 | .k6_10 _ _ _ _ _ _ _ _ _ _ _ _ _=>6
 | .k6_11 _ _ _ _ _ _ _ _ _ _ _ _ _=>6
 | .k6_12 _ _ _ _ _ _ _ _ _ _ _ _ _=>6
 | .k6_13 _ _ _ _ _ _ _ _ _ _ _ _ _=>6
noncomputable def azs (s:Tn):axy→D
 | .k6_0 x2 x3 x4 x5 x6 x7 x8 x9 x10 x11 x12 x13 x14=>mD [(0,.lptr (rTn.v s) 0),(3,.int .i64 0),(6,.agg [.str x2,.raw (.func 105 []),.str x3,.raw (.func 106 []),.str x4,.raw (.func 107 []),.str x5,.raw (.func 108 []),.str x6,.raw (.func 109 []),.str x7,.raw (.func 110 []),.str x8,.raw (.func 111 []),.str x9,.raw (.func 112 []),.str x10,.raw (.func 113 []),.str x11,.raw (.func 114 []),.str x12,.raw (.func 115 []),.str x13,.raw (.func 116 []),.str x14,.raw (.func 117 [])]),(7,.int .i64 0)] 0 [] 128 []
 | .k6_1 x16 x17 x18 x19 x20 x21 x22 x23 x24 x25 x26 x27 x28=>mD [(0,.lptr (rTn.v s) 0),(3,.int .i64 0),(6,.agg [.str x16,.raw (.func 105 []),.str x17,.raw (.func 106 []),.str x18,.raw (.func 107 []),.str x19,.raw (.func 108 []),.str x20,.raw (.func 109 []),.str x21,.raw (.func 110 []),.str x22,.raw (.func 111 []),.str x23,.raw (.func 112 []),.str x24,.raw (.func 113 []),.str x25,.raw (.func 114 []),.str x26,.raw (.func 115 []),.str x27,.raw (.func 116 []),.str x28,.raw (.func 117 [])]),(7,.int .i64 1)] 0 [] 128 []
 | .k6_2 x30 x31 x32 x33 x34 x35 x36 x37 x38 x39 x40 x41 x42=>mD [(0,.lptr (rTn.v s) 0),(3,.int .i64 0),(6,.agg [.str x30,.raw (.func 105 []),.str x31,.raw (.func 106 []),.str x32,.raw (.func 107 []),.str x33,.raw (.func 108 []),.str x34,.raw (.func 109 []),.str x35,.raw (.func 110 []),.str x36,.raw (.func 111 []),.str x37,.raw (.func 112 []),.str x38,.raw (.func 113 []),.str x39,.raw (.func 114 []),.str x40,.raw (.func 115 []),.str x41,.raw (.func 116 []),.str x42,.raw (.func 117 [])]),(7,.int .i64 2)] 0 [] 128 []
 | .k6_3 x44 x45 x46 x47 x48 x49 x50 x51 x52 x53 x54 x55 x56=>mD [(0,.lptr (rTn.v s) 0),(3,.int .i64 0),(6,.agg [.str x44,.raw (.func 105 []),.str x45,.raw (.func 106 []),.str x46,.raw (.func 107 []),.str x47,.raw (.func 108 []),.str x48,.raw (.func 109 []),.str x49,.raw (.func 110 []),.str x50,.raw (.func 111 []),.str x51,.raw (.func 112 []),.str x52,.raw (.func 113 []),.str x53,.raw (.func 114 []),.str x54,.raw (.func 115 []),.str x55,.raw (.func 116 []),.str x56,.raw (.func 117 [])]),(7,.int .i64 3)] 0 [] 128 []
 | .k6_4 x58 x59 x60 x61 x62 x63 x64 x65 x66 x67 x68 x69 x70=>mD [(0,.lptr (rTn.v s) 0),(3,.int .i64 0),(6,.agg [.str x58,.raw (.func 105 []),.str x59,.raw (.func 106 []),.str x60,.raw (.func 107 []),.str x61,.raw (.func 108 []),.str x62,.raw (.func 109 []),.str x63,.raw (.func 110 []),.str x64,.raw (.func 111 []),.str x65,.raw (.func 112 []),.str x66,.raw (.func 113 []),.str x67,.raw (.func 114 []),.str x68,.raw (.func 115 []),.str x69,.raw (.func 116 []),.str x70,.raw (.func 117 [])]),(7,.int .i64 4)] 0 [] 128 []
 | .k6_5 x72 x73 x74 x75 x76 x77 x78 x79 x80 x81 x82 x83 x84=>mD [(0,.lptr (rTn.v s) 0),(3,.int .i64 0),(6,.agg [.str x72,.raw (.func 105 []),.str x73,.raw (.func 106 []),.str x74,.raw (.func 107 []),.str x75,.raw (.func 108 []),.str x76,.raw (.func 109 []),.str x77,.raw (.func 110 []),.str x78,.raw (.func 111 []),.str x79,.raw (.func 112 []),.str x80,.raw (.func 113 []),.str x81,.raw (.func 114 []),.str x82,.raw (.func 115 []),.str x83,.raw (.func 116 []),.str x84,.raw (.func 117 [])]),(7,.int .i64 5)] 0 [] 128 []
 | .k6_6 x86 x87 x88 x89 x90 x91 x92 x93 x94 x95 x96 x97 x98=>mD [(0,.lptr (rTn.v s) 0),(3,.int .i64 0),(6,.agg [.str x86,.raw (.func 105 []),.str x87,.raw (.func 106 []),.str x88,.raw (.func 107 []),.str x89,.raw (.func 108 []),.str x90,.raw (.func 109 []),.str x91,.raw (.func 110 []),.str x92,.raw (.func 111 []),.str x93,.raw (.func 112 []),.str x94,.raw (.func 113 []),.str x95,.raw (.func 114 []),.str x96,.raw (.func 115 []),.str x97,.raw (.func 116 []),.str x98,.raw (.func 117 [])]),(7,.int .i64 6)] 0 [] 128 []
 | .k6_7 x100 x101 x102 x103 x104 x105 x106 x107 x108 x109 x110 x111 x112=>mD [(0,.lptr (rTn.v s) 0),(3,.int .i64 0),(6,.agg [.str x100,.raw (.func 105 []),.str x101,.raw (.func 106 []),.str x102,.raw (.func 107 []),.str x103,.raw (.func 108 []),.str x104,.raw (.func 109 []),.str x105,.raw (.func 110 []),.str x106,.raw (.func 111 []),.str x107,.raw (.func 112 []),.str x108,.raw (.func 113 []),.str x109,.raw (.func 114 []),.str x110,.raw (.func 115 []),.str x111,.raw (.func 116 []),.str x112,.raw (.func 117 [])]),(7,.int .i64 7)] 0 [] 128 []
 | .k6_8 x114 x115 x116 x117 x118 x119 x120 x121 x122 x123 x124 x125 x126=>mD [(0,.lptr (rTn.v s) 0),(3,.int .i64 0),(6,.agg [.str x114,.raw (.func 105 []),.str x115,.raw (.func 106 []),.str x116,.raw (.func 107 []),.str x117,.raw (.func 108 []),.str x118,.raw (.func 109 []),.str x119,.raw (.func 110 []),.str x120,.raw (.func 111 []),.str x121,.raw (.func 112 []),.str x122,.raw (.func 113 []),.str x123,.raw (.func 114 []),.str x124,.raw (.func 115 []),.str x125,.raw (.func 116 []),.str x126,.raw (.func 117 [])]),(7,.int .i64 8)] 0 [] 128 []
 | .k6_9 x128 x129 x130 x131 x132 x133 x134 x135 x136 x137 x138 x139 x140=>mD [(0,.lptr (rTn.v s) 0),(3,.int .i64 0),(6,.agg [.str x128,.raw (.func 105 []),.str x129,.raw (.func 106 []),.str x130,.raw (.func 107 []),.str x131,.raw (.func 108 []),.str x132,.raw (.func 109 []),.str x133,.raw (.func 110 []),.str x134,.raw (.func 111 []),.str x135,.raw (.func 112 []),.str x136,.raw (.func 113 []),.str x137,.raw (.func 114 []),.str x138,.raw (.func 115 []),.str x139,.raw (.func 116 []),.str x140,.raw (.func 117 [])]),(7,.int .i64 9)] 0 [] 128 []
 | .k6_10 x142 x143 x144 x145 x146 x147 x148 x149 x150 x151 x152 x153 x154=>mD [(0,.lptr (rTn.v s) 0),(3,.int .i64 0),(6,.agg [.str x142,.raw (.func 105 []),.str x143,.raw (.func 106 []),.str x144,.raw (.func 107 []),.str x145,.raw (.func 108 []),.str x146,.raw (.func 109 []),.str x147,.raw (.func 110 []),.str x148,.raw (.func 111 []),.str x149,.raw (.func 112 []),.str x150,.raw (.func 113 []),.str x151,.raw (.func 114 []),.str x152,.raw (.func 115 []),.str x153,.raw (.func 116 []),.str x154,.raw (.func 117 [])]),(7,.int .i64 10)] 0 [] 128 []
 | .k6_11 x156 x157 x158 x159 x160 x161 x162 x163 x164 x165 x166 x167 x168=>mD [(0,.lptr (rTn.v s) 0),(3,.int .i64 0),(6,.agg [.str x156,.raw (.func 105 []),.str x157,.raw (.func 106 []),.str x158,.raw (.func 107 []),.str x159,.raw (.func 108 []),.str x160,.raw (.func 109 []),.str x161,.raw (.func 110 []),.str x162,.raw (.func 111 []),.str x163,.raw (.func 112 []),.str x164,.raw (.func 113 []),.str x165,.raw (.func 114 []),.str x166,.raw (.func 115 []),.str x167,.raw (.func 116 []),.str x168,.raw (.func 117 [])]),(7,.int .i64 11)] 0 [] 128 []
 | .k6_12 x170 x171 x172 x173 x174 x175 x176 x177 x178 x179 x180 x181 x182=>mD [(0,.lptr (rTn.v s) 0),(3,.int .i64 0),(6,.agg [.str x170,.raw (.func 105 []),.str x171,.raw (.func 106 []),.str x172,.raw (.func 107 []),.str x173,.raw (.func 108 []),.str x174,.raw (.func 109 []),.str x175,.raw (.func 110 []),.str x176,.raw (.func 111 []),.str x177,.raw (.func 112 []),.str x178,.raw (.func 113 []),.str x179,.raw (.func 114 []),.str x180,.raw (.func 115 []),.str x181,.raw (.func 116 []),.str x182,.raw (.func 117 [])]),(7,.int .i64 12)] 0 [] 128 []
 | .k6_13 x184 x185 x186 x187 x188 x189 x190 x191 x192 x193 x194 x195 x196=>mD [(0,.lptr (rTn.v s) 0),(3,.int .i64 0),(6,.agg [.str x184,.raw (.func 105 []),.str x185,.raw (.func 106 []),.str x186,.raw (.func 107 []),.str x187,.raw (.func 108 []),.str x188,.raw (.func 109 []),.str x189,.raw (.func 110 []),.str x190,.raw (.func 111 []),.str x191,.raw (.func 112 []),.str x192,.raw (.func 113 []),.str x193,.raw (.func 114 []),.str x194,.raw (.func 115 []),.str x195,.raw (.func 116 []),.str x196,.raw (.func 117 [])]),(7,.int .i64 13)] 0 [] 128 []
noncomputable def bq9 (s:Tn):(l_:axy)→Tr Int axy (azs s) cI.v
 | .k6_0 x2 x3 x4 x5 x6 x7 x8 x9 x10 x11 x12 x13 x14=>(.c Az122 aym (s,()) fun r199=>(.i r199 (.r 1) (.g (.k6_1 x2 x3 x4 x5 x6 x7 x8 x9 x10 x11 x12 x13 x14))))
 | .k6_1 x16 x17 x18 x19 x20 x21 x22 x23 x24 x25 x26 x27 x28=>(.c Az123 awB (s,()) fun r200=>(.i r200 (.r 2) (.g (.k6_2 x16 x17 x18 x19 x20 x21 x22 x23 x24 x25 x26 x27 x28))))
 | .k6_2 x30 x31 x32 x33 x34 x35 x36 x37 x38 x39 x40 x41 x42=>(.c Az124 awA (s,()) fun r201=>(.i r201 (.r 3) (.g (.k6_3 x30 x31 x32 x33 x34 x35 x36 x37 x38 x39 x40 x41 x42))))
 | .k6_3 x44 x45 x46 x47 x48 x49 x50 x51 x52 x53 x54 x55 x56=>(.c Az125 akz (s,()) fun r202=>(.i r202 (.r 4) (.g (.k6_4 x44 x45 x46 x47 x48 x49 x50 x51 x52 x53 x54 x55 x56))))
 | .k6_4 x58 x59 x60 x61 x62 x63 x64 x65 x66 x67 x68 x69 x70=>(.c Az126 aky (s,()) fun r203=>(.i r203 (.r 5) (.g (.k6_5 x58 x59 x60 x61 x62 x63 x64 x65 x66 x67 x68 x69 x70))))
 | .k6_5 x72 x73 x74 x75 x76 x77 x78 x79 x80 x81 x82 x83 x84=>(.c Az127 akx (s,()) fun r204=>(.i r204 (.r 6) (.g (.k6_6 x72 x73 x74 x75 x76 x77 x78 x79 x80 x81 x82 x83 x84))))
 | .k6_6 x86 x87 x88 x89 x90 x91 x92 x93 x94 x95 x96 x97 x98=>(.c Az128 akw (s,()) fun r205=>(.i r205 (.r 7) (.g (.k6_7 x86 x87 x88 x89 x90 x91 x92 x93 x94 x95 x96 x97 x98))))
 | .k6_7 x100 x101 x102 x103 x104 x105 x106 x107 x108 x109 x110 x111 x112=>(.c Az129 akv (s,()) fun r206=>(.i r206 (.r 8) (.g (.k6_8 x100 x101 x102 x103 x104 x105 x106 x107 x108 x109 x110 x111 x112))))
 | .k6_8 x114 x115 x116 x117 x118 x119 x120 x121 x122 x123 x124 x125 x126=>(.c Az130 aku (s,()) fun r207=>(.i r207 (.r 9) (.g (.k6_9 x114 x115 x116 x117 x118 x119 x120 x121 x122 x123 x124 x125 x126))))
 | .k6_9 x128 x129 x130 x131 x132 x133 x134 x135 x136 x137 x138 x139 x140=>(.c Az131 akt (s,()) fun r208=>(.i r208 (.r 10) (.g (.k6_10 x128 x129 x130 x131 x132 x133 x134 x135 x136 x137 x138 x139 x140))))
 | .k6_10 x142 x143 x144 x145 x146 x147 x148 x149 x150 x151 x152 x153 x154=>(.c Az132 aks (s,()) fun r209=>(.i r209 (.r 11) (.g (.k6_11 x142 x143 x144 x145 x146 x147 x148 x149 x150 x151 x152 x153 x154))))
 | .k6_11 x156 x157 x158 x159 x160 x161 x162 x163 x164 x165 x166 x167 x168=>(.c Az133 akr (s,()) fun r210=>(.i r210 (.r 12) (.g (.k6_12 x156 x157 x158 x159 x160 x161 x162 x163 x164 x165 x166 x167 x168))))
 | .k6_12 x170 x171 x172 x173 x174 x175 x176 x177 x178 x179 x180 x181 x182=>(.c Az134 akq (s,()) fun r211=>(.i r211 (.r 13) (.g (.k6_13 x170 x171 x172 x173 x174 x175 x176 x177 x178 x179 x180 x181 x182))))
 | .k6_13 x184 x185 x186 x187 x188 x189 x190 x191 x192 x193 x194 x195 x196=>(.r 0)
noncomputable def Tz144 (s:Tn):Tr Int axy (azs s) cI.v:=(.c Az74 Sz74 (()) fun r198=>(.g (.k6_0 r198.1 r198.2.2.1 r198.2.2.2.2.1 r198.2.2.2.2.2.2.1 r198.2.2.2.2.2.2.2.2.1 r198.2.2.2.2.2.2.2.2.2.2.1 r198.2.2.2.2.2.2.2.2.2.2.2.2.1 r198.2.2.2.2.2.2.2.2.2.2.2.2.2.2.1 r198.2.2.2.2.2.2.2.2.2.2.2.2.2.2.2.2.1 r198.2.2.2.2.2.2.2.2.2.2.2.2.2.2.2.2.2.2.1 r198.2.2.2.2.2.2.2.2.2.2.2.2.2.2.2.2.2.2.2.2.1 r198.2.2.2.2.2.2.2.2.2.2.2.2.2.2.2.2.2.2.2.2.2.2.1 r198.2.2.2.2.2.2.2.2.2.2.2.2.2.2.2.2.2.2.2.2.2.2.2.2.1)))
def bA (s:Tn):=Tr.lp (bq9 s)
def Ez144 (n:Nat) (s:Tn):=(Tz144 s).d (bA s n)
def s5 (x:Tn×Unit):=Ez144 (x.1.p_m.length+64) x.1
def wz144:Wk (Tn×Unit) Int axy cI.v:=⟨fun x=>azs x.1,uz144,fun x=>Tz144 x.1,fun x=>bq9 x.1⟩
noncomputable def Kz144:=aP 55 Tryz.func55 [Kz74,Kz122,Kz123,Kz124,Kz125,Kz126,Kz127,Kz128,Kz129,Kz130,Kz131,Kz132,Kz133,Kz134] noZ ⟨19,(lookA [(3,⟨[0,3,6,7],[],0,[],[],[],[]⟩)]),noL,noL⟩ 128 Az144 cI s5 wz144 (fun x=>x.1.p_m.length+64)
def Az150:=(Row.cons (Cod.ptr rTn) Row.nil)
inductive aqz where
 | k4 (x2:Int)
def uz150:aqz→Nat
 | .k4 _=>4
def azq (s:Tn):aqz→D
 | .k4 x2=>mD [(10,(Cod.list mv0 rMv).v s.p_m),(11,.int .i64 ((s.p_m.length:Nat):Int)),(12,.int .i64 x2)] 0 [] 128 []
noncomputable def zE (s:Tn):(l_:aqz)→Tr Bool aqz (azq s) cB.v
 | .k4 x2=>(.i (decide (x2<((s.p_m.length:Nat):Int))) (.i (inR x2 s.p_m.length) (.i ((s.p_m.getD x2.toNat mv0).f==0) (.c axT wT ([99,107,110,121],(s.p_m.getD x2.toNat mv0).h,()) fun r4=>(.i r4 (.i ((s.p_m.getD x2.toNat mv0).o) (.i (decide (((s.p_m.getD x2.toNat mv0).h)=[102])) (.r true) (.r true)) (.g (.k4 (w6 (x2+1))))) (.i (decide (((s.p_m.getD x2.toNat mv0).h)=[103])) (.i ((s.p_m.getD x2.toNat mv0).o) (.i (decide (((s.p_m.getD x2.toNat mv0).h)=[102])) (.r true) (.i ((s.p_m.getD x2.toNat mv0).t==1) (.r true) (.g (.k4 (w6 (x2+1)))))) (.g (.k4 (w6 (x2+1))))) (.i ((s.p_m.getD x2.toNat mv0).o) (.i (decide (((s.p_m.getD x2.toNat mv0).h)=[102])) (.r true) (.g (.k4 (w6 (x2+1))))) (.g (.k4 (w6 (x2+1)))))))) (.i ((s.p_m.getD x2.toNat mv0).o) (.i (decide (((s.p_m.getD x2.toNat mv0).h)=[102])) (.r true) (.g (.k4 (w6 (x2+1))))) (.g (.k4 (w6 (x2+1)))))) .n) (.r false))
def Tz150 (s:Tn):Tr Bool aqz (azq s) cB.v:=(.g (.k4 0))
def axJ (s:Tn):=Tr.lp (zE s)
theorem axI {s:Tn}{n:Nat}{l_:aqz}:axJ s (n+1) l_=(zE s l_).d (axJ s n):=rfl
def Ez150 (n:Nat) (s:Tn):=(Tz150 s).d (axJ s n)
def Sz150 (x:Tn×Unit):=Ez150 (x.1.p_m.length+64) x.1
def wz150:Wk (Tn×Unit) Bool aqz cB.v:=⟨fun x=>azq x.1,uz150,fun x=>Tz150 x.1,fun x=>zE x.1⟩
def Kz150:=aP 56 Tryz.func56 [K181] noZ ⟨45,(lookA [(2,⟨[10,11,12],[],0,[],[],[],[]⟩)]),noL,noL⟩ 128 Az150 cB Sz150 wz150 (fun x=>x.1.p_m.length+64)
def Az89:=(Row.cons (Cod.ptr rTn) Row.nil)
def Wz89 (r:(List (Mv))):V:=.el (r.map rMv.v)
theorem hWz89 (r:(List (Mv))):(Wz89 r).c=((Cod.list mv0 rMv).v r).c:=by
 first|rfl|exact aR|(show EVal.tup (V.cs _)=EVal.tup (V.cs _);simp only [V.cs_map,List.map_cons,List.map_nil,aR];rfl)
inductive Lz89 where
 | k10 (x3:Int) (x4:List (Mv))
def uz89:Lz89→Nat
 | .k10 _ _=>10
def ajM (s:Tn) (x3:Int) (x4:List (List V)):D:=mD [(3,.gl 128),(26,(Cod.list mv0 rMv).v s.p_m),(27,.int .i64 ((s.p_m.length:Nat):Int)),(28,.int .i64 x3)] 0 [] 129 [(128,(x4,45))]
def aw8 (s:Tn):Lz89→D
 | .k10 x3 x4=>ajM s x3 (x4.map rMv.v)
noncomputable def akh (s:Tn):(l_:Lz89)→Tr (List (Mv)) Lz89 (aw8 s) Wz89
 | .k10 x3 x4=>(.i (decide (x3<((s.p_m.length:Nat):Int))) (.i (inR x3 s.p_m.length) (.c Az151 ayi ((s.p_m.getD x3.toNat mv0),()) fun r8=>(.i r8 (.i (Nat.ble (64*(((x4.map rMv.v)).length+1)) 1000000) (.j (.k10 (w6 (x3+1)) (x4++[(s.p_m.getD x3.toNat mv0)])) (ajM s (w6 (x3+1)) ((x4.map rMv.v)++[[.int .i64 (s.p_m.getD x3.toNat mv0).f,.int .i64 (s.p_m.getD x3.toNat mv0).t,.bool ((s.p_m.getD x3.toNat mv0).o),.str ((s.p_m.getD x3.toNat mv0).h),(Cod.list 0 nB).v ((s.p_m.getD x3.toNat mv0).b)]])) ⟨by simp only [aw8,List.map_append,List.map_cons,List.map_nil];rfl⟩) .n) (.g (.k10 (w6 (x3+1)) x4)))) .n) (.r x4))
def Tz89 (s:Tn):Tr (List (Mv)) Lz89 (aw8 s) Wz89:=(.i (s.outs==3) (.i s.p_l (.r []) (.c Az150 Sz150 (s,()) fun r7=>(.i r7 (.r []) (.g (.k10 0 []))))) (.g (.k10 0 [])))
def awK (s:Tn):=Tr.lp (akh s)
theorem awJ {s:Tn}{n:Nat}{l_:Lz89}:awK s (n+1) l_=(akh s l_).d (awK s n):=rfl
def Ez89 (n:Nat) (s:Tn):=(Tz89 s).d (awK s n)
def axH (x:Tn×Unit):=Ez89 (x.1.p_m.length+64) x.1
def wz89:Wk (Tn×Unit) (List (Mv)) Lz89 Wz89:=⟨fun x=>aw8 x.1,uz89,fun x=>Tz89 x.1,fun x=>akh x.1⟩
def Kz89:=aP 27 Tryz.func27 [Kz150,Kz151] noZ ⟨40,(lookA [(5,⟨[3,26,27,28],[],0,[(3,45)],[128],[],[]⟩)]),noL,noL⟩ 128 Az89 (Cod.list mv0 rMv) axH wz89 (fun x=>x.1.p_m.length+64) hWz89
def Az85:=(Row.cons (Cod.agg rSt) (Row.cons (Cod.agg rPl) Row.nil))
inductive Lz85 where
 | k3
def uz85:Lz85→Nat
 | .k3=>3
def sLz85 (s:St) (t:Pl):Lz85→D
 | .k3=>mD [(2,.ptr 0 0),(3,.lptr (rPl.v t) 0)] 1 [(0,.row ⟨(rSt.v s),33,false⟩)] 128 []
noncomputable def Tz85J (s:St) (t:Pl):(l_:Lz85)→Tr ((Option (Tn))×(Int)×(Int)×Unit) Lz85 (sLz85 s t) (Cod.tup (Row.cons (Cod.opt rTn) (Row.cons cI (Row.cons cI Row.nil)))).v
 | .k3=>(.c jQ dV (s,(((),()),((t,()),()),((),()),()),()) fun r6=>(.i (!(r6==0)) (.r (none,0,r6,())) (.c Az143 ayk (s,t,()) fun r7=>(.c Az144 s5 (r7,()) fun r8=>(.i (!(r8==0)) (.r (none,r8,18,())) (.i (s.half==0) (.c Az89 axH (r7,()) fun r10=>(.i (decide (9999<(w6 (s.c0+((r10.length:Nat):Int))))) (.r (none,0,4,())) (.r ((some r7),0,0,())))) (.i (s.half==1) (.c Az89 axH (r7,()) fun r9=>(.i (decide (9999<(w6 (s.c1+((r9.length:Nat):Int))))) (.r (none,0,4,())) (.r ((some r7),0,0,())))) .n)))))))
def Tz85 (s:St) (t:Pl):Tr ((Option (Tn))×(Int)×(Int)×Unit) Lz85 (sLz85 s t) (Cod.tup (Row.cons (Cod.opt rTn) (Row.cons cI (Row.cons cI Row.nil)))).v:=(.g .k3)
def Ez85J (s:St) (t:Pl):=Tr.lp (Tz85J s t)
def Ez85 (n:Nat) (s:St) (t:Pl):=(Tz85 s t).d (Ez85J s t n)
def Sz85 (x:St×Pl×Unit):=Ez85 (x.2.1.m.length+64) x.1 x.2.1
def wz85:Wk (St×Pl×Unit) ((Option (Tn))×(Int)×(Int)×Unit) Lz85 (Cod.tup (Row.cons (Cod.opt rTn) (Row.cons cI (Row.cons cI Row.nil)))).v:=⟨fun x=>sLz85 x.1 x.2.1,uz85,fun x=>Tz85 x.1 x.2.1,fun x=>Tz85J x.1 x.2.1⟩
noncomputable def Kz85:=aP 25 Tryz.func25 [sG,Kz89,Kz143,Kz144] noZ ⟨38,noL,(lookA [(1,⟨[2,3],[0],1,[],[],[(1,1)],[]⟩)]),noL⟩ 128 Az85 (Cod.tup (Row.cons (Cod.opt rTn) (Row.cons cI (Row.cons cI Row.nil)))) Sz85 wz85 (fun x=>x.2.1.m.length+64)
def Az62:=(Row.cons (Cod.agg rSt) Row.nil)
def Tz62 (s:St):Tr Int Empty noS cI.v:=(.i (s.half==0) (.r s.n0) (.i (s.half==1) (.r s.n1) .n))
def Ez62 (s:St):=(Tz62 s).d noE
def Sz62 (x:St×Unit):=Ez62 x.1
def wz62:Wk (St×Unit) Int Empty cI.v:=wk0 fun x=>Tz62 x.1
def Kz62:=aP 58 Tryz.func58 [] noZ ⟨8,noL,noL,noL⟩ 128 Az62 cI Sz62 wz62 (fun _=>0)
def Az146:=(Row.cons cI Row.nil)
def Tz146 (s:Int):Tr Int Empty noS cI.v:=(.r (w6 ((s.tmod 9)+1)))
def Ez146 (s:Int):=(Tz146 s).d noE
def ayj (x:Int×Unit):=Ez146 x.1
def wz146:Wk (Int×Unit) Int Empty cI.v:=wk0 fun x=>Tz146 x.1
def Kz146:=aP 61 Tryz.func61 [] noZ ⟨6,noL,noL,noL⟩ 128 Az146 cI ayj wz146 (fun _=>0)
def Az91:=(Row.cons (Cod.ptr rTn) (Row.cons cI Row.nil))
noncomputable def Tz91 (s:Tn) (t:Int):Tr Int Empty noS cI.v:=(.i (t==0) (.c Az62 Sz62 ((⟨s.s_inn,s.s_half,s.s_outs,s.s_balls,s.s_strikes,s.s_b1,s.s_b2,s.s_b3,s.s_n0,s.s_n1,s.s_c0,s.s_c1,s.s_over⟩:St),()) fun r2=>(.r r2)) (.i ((w6 (t-1))==0) (.r s.s_b1) (.i ((w6 (t-1))==1) (.r s.s_b2) (.i ((w6 (t-1))==2) (.r s.s_b3) .n))))
def Ez91 (s:Tn) (t:Int):=(Tz91 s t).d noE
def bqe (x:Tn×Int×Unit):=Ez91 x.1 x.2.1
def wz91:Wk (Tn×Int×Unit) Int Empty cI.v:=wk0 fun x=>Tz91 x.1 x.2.1
def Kz91:=aP 29 Tryz.func29 [Kz62] noZ ⟨20,noL,noL,noL⟩ 128 Az91 cI bqe wz91 (fun _=>0)
def Az147:=(Row.cons (Cod.ptr rTn) Row.nil)
inductive ajA where
 | k8 (x2:Int) (x3:Int) (x4:Int) (x5:Int)
def uz147:ajA→Nat
 | .k8 _ _ _ _=>8
noncomputable def azr (s:Tn):ajA→D
 | .k8 x2 x3 x4 x5=>mD [(0,.lptr (rTn.v s) 0),(2,.ptr 0 0),(3,.ptr 1 0),(17,(Cod.list mv0 rMv).v s.p_m),(18,.int .i64 ((s.p_m.length:Nat):Int)),(19,.int .i64 x2)] 2 [(0,.row ⟨[.int .i64 0,.int .i64 0,.int .i64 0],30,false⟩),(1,.row ⟨[.int .i64 x5,.int .i64 x4,.int .i64 x3],30,false⟩)] 128 []
noncomputable def zF (s:Tn):(l_:ajA)→Tr ((Int)×(Int)×(Int)×Unit) ajA (azr s) (Cod.agg (Row.cons cI (Row.cons cI (Row.cons cI Row.nil)))).v
 | .k8 x2 x3 x4 x5=>(.i (decide (x2<((s.p_m.length:Nat):Int))) (.i (inR x2 s.p_m.length) (.i (decide (0<(s.p_m.getD x2.toNat mv0).f)) (.i ((w6 ((s.p_m.getD x2.toNat mv0).f-1))==0) (.i (!(s.p_m.getD x2.toNat mv0).o) (.i (decide ((s.p_m.getD x2.toNat mv0).t<4)) (.c Az91 bqe (s,(s.p_m.getD x2.toNat mv0).f,()) fun r15=>(.i ((w6 ((s.p_m.getD x2.toNat mv0).t-1))==0) (.g (.k8 (w6 (x2+1)) x3 x4 r15)) (.i ((w6 ((s.p_m.getD x2.toNat mv0).t-1))==1) (.g (.k8 (w6 (x2+1)) x3 r15 0)) (.i ((w6 ((s.p_m.getD x2.toNat mv0).t-1))==2) (.g (.k8 (w6 (x2+1)) r15 x4 0)) .n)))) (.g (.k8 (w6 (x2+1)) x3 x4 0))) (.g (.k8 (w6 (x2+1)) x3 x4 0))) (.i ((w6 ((s.p_m.getD x2.toNat mv0).f-1))==1) (.i (!(s.p_m.getD x2.toNat mv0).o) (.i (decide ((s.p_m.getD x2.toNat mv0).t<4)) (.c Az91 bqe (s,(s.p_m.getD x2.toNat mv0).f,()) fun r14=>(.i ((w6 ((s.p_m.getD x2.toNat mv0).t-1))==0) (.g (.k8 (w6 (x2+1)) x3 0 r14)) (.i ((w6 ((s.p_m.getD x2.toNat mv0).t-1))==1) (.g (.k8 (w6 (x2+1)) x3 r14 x5)) (.i ((w6 ((s.p_m.getD x2.toNat mv0).t-1))==2) (.g (.k8 (w6 (x2+1)) r14 0 x5)) .n)))) (.g (.k8 (w6 (x2+1)) x3 0 x5))) (.g (.k8 (w6 (x2+1)) x3 0 x5))) (.i ((w6 ((s.p_m.getD x2.toNat mv0).f-1))==2) (.i (!(s.p_m.getD x2.toNat mv0).o) (.i (decide ((s.p_m.getD x2.toNat mv0).t<4)) (.c Az91 bqe (s,(s.p_m.getD x2.toNat mv0).f,()) fun r13=>(.i ((w6 ((s.p_m.getD x2.toNat mv0).t-1))==0) (.g (.k8 (w6 (x2+1)) 0 x4 r13)) (.i ((w6 ((s.p_m.getD x2.toNat mv0).t-1))==1) (.g (.k8 (w6 (x2+1)) 0 r13 x5)) (.i ((w6 ((s.p_m.getD x2.toNat mv0).t-1))==2) (.g (.k8 (w6 (x2+1)) r13 x4 x5)) .n)))) (.g (.k8 (w6 (x2+1)) 0 x4 x5))) (.g (.k8 (w6 (x2+1)) 0 x4 x5))) .n))) (.i (!(s.p_m.getD x2.toNat mv0).o) (.i (decide ((s.p_m.getD x2.toNat mv0).t<4)) (.c Az91 bqe (s,(s.p_m.getD x2.toNat mv0).f,()) fun r16=>(.i ((w6 ((s.p_m.getD x2.toNat mv0).t-1))==0) (.g (.k8 (w6 (x2+1)) x3 x4 r16)) (.i ((w6 ((s.p_m.getD x2.toNat mv0).t-1))==1) (.g (.k8 (w6 (x2+1)) x3 r16 x5)) (.i ((w6 ((s.p_m.getD x2.toNat mv0).t-1))==2) (.g (.k8 (w6 (x2+1)) r16 x4 x5)) .n)))) (.g (.k8 (w6 (x2+1)) x3 x4 x5))) (.g (.k8 (w6 (x2+1)) x3 x4 x5)))) .n) (.r (x5,x4,x3,())))
def Tz147 (s:Tn):Tr ((Int)×(Int)×(Int)×Unit) ajA (azr s) (Cod.agg (Row.cons cI (Row.cons cI (Row.cons cI Row.nil)))).v:=(.g (.k8 0 s.s_b3 s.s_b2 s.s_b1))
def axL (s:Tn):=Tr.lp (zF s)
theorem axK {s:Tn}{n:Nat}{l_:ajA}:axL s (n+1) l_=(zF s l_).d (axL s n):=rfl
def Ez147 (n:Nat) (s:Tn):=(Tz147 s).d (axL s n)
def akp (x:Tn×Unit):=Ez147 (x.1.p_m.length+64) x.1
def wz147:Wk (Tn×Unit) ((Int)×(Int)×(Int)×Unit) ajA (Cod.agg (Row.cons cI (Row.cons cI (Row.cons cI Row.nil)))).v:=⟨fun x=>azr x.1,uz147,fun x=>Tz147 x.1,fun x=>zF x.1⟩
def Kz147:=aP 62 Tryz.func62 [Kz91] noZ ⟨48,(lookA [(4,⟨[0,2,3,17,18,19],[0,1],2,[],[],[],[]⟩)]),noL,noL⟩ 128 Az147 (Cod.agg (Row.cons cI (Row.cons cI (Row.cons cI Row.nil)))) akp wz147 (fun x=>x.1.p_m.length+64)
def Az177:=(Row.cons (Cod.agg rSt) Row.nil)
def Tz177 (s:St):Tr Bool Empty noS cB.v:=(.r (decide (s.c0<s.c1)))
def Ez177 (s:St):=(Tz177 s).d noE
def ayg (x:St×Unit):=Ez177 x.1
def wz177:Wk (St×Unit) Bool Empty cB.v:=wk0 fun x=>Tz177 x.1
def Kz177:=aP 88 Tryz.func88 [] noZ ⟨10,noL,noL,noL⟩ 128 Az177 cB ayg wz177 (fun _=>0)
def Az120:=(Row.cons (Cod.agg rSt) Row.nil)
def Tz120 (s:St):Tr Bool Empty noS cB.v:=(.i (decide (9≤s.inn)) (.i (s.half==1) (.c Az177 ayg (s,()) fun r2=>(.r r2)) (.r false)) (.r false))
def Ez120 (s:St):=(Tz120 s).d noE
def awC (x:St×Unit):=Ez120 x.1
def wz120:Wk (St×Unit) Bool Empty cB.v:=wk0 fun x=>Tz120 x.1
def Kz120:=aP 63 Tryz.func63 [Kz177] noZ ⟨15,noL,noL,noL⟩ 128 Az120 cB awC wz120 (fun _=>0)
def Az175:=(Row.cons (Cod.agg rSt) Row.nil)
def Tz175 (s:St):Tr St Empty noS (Cod.agg rSt).v:=(.r (⟨s.inn,s.half,0,0,0,0,0,0,s.n0,s.n1,s.c0,s.c1,s.over⟩:St))
def Ez175 (s:St):=(Tz175 s).d noE
def ayh (x:St×Unit):=Ez175 x.1
def wz175:Wk (St×Unit) St Empty (Cod.agg rSt).v:=wk0 fun x=>Tz175 x.1
def Kz175:=aP 89 Tryz.func89 [] noZ ⟨9,noL,noL,noL⟩ 128 Az175 (Cod.agg rSt) ayh wz175 (fun _=>0)
def Az148:=(Row.cons (Cod.agg rSt) Row.nil)
def Tz148 (s:St):Tr St Empty noS (Cod.agg rSt).v:=(.c Az175 ayh (s,()) fun r2=>(.r (⟨r2.inn,r2.half,r2.outs,r2.balls,r2.strikes,r2.b1,r2.b2,r2.b3,r2.n0,r2.n1,r2.c0,r2.c1,true⟩:St)))
def Ez148 (s:St):=(Tz148 s).d noE
def axw (x:St×Unit):=Ez148 x.1
def wz148:Wk (St×Unit) St Empty (Cod.agg rSt).v:=wk0 fun x=>Tz148 x.1
def Kz148:=aP 64 Tryz.func64 [Kz175] noZ ⟨7,noL,noL,noL⟩ 128 Az148 (Cod.agg rSt) axw wz148 (fun _=>0)
def Az176:=(Row.cons (Cod.agg rSt) Row.nil)
def Tz176 (s:St):Tr Bool Empty noS cB.v:=(.i (decide (s.inn<9)) (.r false) (.c Az177 ayg (s,()) fun r2=>(.i r2 (.r true) (.i (s.half==1) (.i (!(s.c0==s.c1)) (.r true) (.r (s.inn==30))) (.r false)))))
def Ez176 (s:St):=(Tz176 s).d noE
def Sz176 (x:St×Unit):=Ez176 x.1
def wz176:Wk (St×Unit) Bool Empty cB.v:=wk0 fun x=>Tz176 x.1
def Kz176:=aP 90 Tryz.func90 [Kz177] noZ ⟨27,noL,noL,noL⟩ 128 Az176 cB Sz176 wz176 (fun _=>0)
def Az149:=(Row.cons (Cod.agg rSt) Row.nil)
noncomputable def Tz149 (s:St):Tr St Empty noS (Cod.agg rSt).v:=(.c Az176 Sz176 (s,()) fun r4=>(.i r4 (.c Az148 axw (s,()) fun r5=>(.r r5)) (.c Az175 ayh (s,()) fun r6=>(.i (r6.half==1) (.r (⟨(w6 (r6.inn+1)),(w6 (1-r6.half)),r6.outs,r6.balls,r6.strikes,r6.b1,r6.b2,r6.b3,r6.n0,r6.n1,r6.c0,r6.c1,r6.over⟩:St)) (.r (⟨r6.inn,(w6 (1-r6.half)),r6.outs,r6.balls,r6.strikes,r6.b1,r6.b2,r6.b3,r6.n0,r6.n1,r6.c0,r6.c1,r6.over⟩:St))))))
def Ez149 (s:St):=(Tz149 s).d noE
def ako (x:St×Unit):=Ez149 x.1
def wz149:Wk (St×Unit) St Empty (Cod.agg rSt).v:=wk0 fun x=>Tz149 x.1
def Kz149:=aP 65 Tryz.func65 [Kz148,Kz175,Kz176] noZ ⟨21,noL,noL,noL⟩ 128 Az149 (Cod.agg rSt) ako wz149 (fun _=>0)
def Az86:=(Row.cons (Cod.ptr rTn) Row.nil)
inductive Lz86 where
 | k9 (x2:Int) (x3:Int)
 | k11 (x5:Int) (x6:Int)
 | k17 (x10:Int) (x11:Int) (x12:Int) (x13:Int) (x14:Int) (x15:Int)
def uz86:Lz86→Nat
 | .k9 _ _=>9
 | .k11 _ _=>11
 | .k17 _ _ _ _ _ _=>17
noncomputable def sLz86 (s:Tn):Lz86→D
 | .k9 x2 x3=>mD [(0,.lptr (rTn.v s) 0),(2,.ptr 0 0),(3,.ptr 1 0)] 2 [(0,.row ⟨[.int .i64 0,.int .i64 0,.int .i64 0,.int .i64 0,.int .i64 0,.int .i64 0,.int .i64 0,.int .i64 0,.int .i64 0,.int .i64 0,.int .i64 0,.int .i64 0,.bool false],33,false⟩),(1,.row ⟨[.int .i64 s.s_inn,.int .i64 s.s_half,.int .i64 s.outs,.int .i64 s.s_balls,.int .i64 s.s_strikes,.int .i64 s.s_b1,.int .i64 s.s_b2,.int .i64 s.s_b3,.int .i64 s.s_n0,.int .i64 s.s_n1,.int .i64 x3,.int .i64 x2,.bool s.s_over],33,false⟩)] 128 []
 | .k11 x5 x6=>mD [(0,.lptr (rTn.v s) 0),(2,.ptr 0 0),(3,.ptr 1 0)] 2 [(0,.row ⟨[.int .i64 0,.int .i64 0,.int .i64 0,.int .i64 0,.int .i64 0,.int .i64 0,.int .i64 0,.int .i64 0,.int .i64 0,.int .i64 0,.int .i64 0,.int .i64 0,.bool false],33,false⟩),(1,.row ⟨[.int .i64 s.s_inn,.int .i64 s.s_half,.int .i64 s.outs,.int .i64 s.k0,.int .i64 s.k1,.int .i64 s.s_b1,.int .i64 s.s_b2,.int .i64 s.s_b3,.int .i64 s.s_n0,.int .i64 s.s_n1,.int .i64 x5,.int .i64 x6,.bool s.s_over],33,false⟩)] 128 []
 | .k17 x10 x11 x12 x13 x14 x15=>mD [(0,.lptr (rTn.v s) 0),(2,.ptr 0 0),(3,.ptr 1 0)] 2 [(0,.row ⟨[.int .i64 0,.int .i64 0,.int .i64 0,.int .i64 0,.int .i64 0,.int .i64 0,.int .i64 0,.int .i64 0,.int .i64 0,.int .i64 0,.int .i64 0,.int .i64 0,.bool false],33,false⟩),(1,.row ⟨[.int .i64 s.s_inn,.int .i64 s.s_half,.int .i64 s.outs,.int .i64 x14,.int .i64 x15,.int .i64 s.s_b1,.int .i64 s.s_b2,.int .i64 s.s_b3,.int .i64 x13,.int .i64 x10,.int .i64 x11,.int .i64 x12,.bool s.s_over],33,false⟩)] 128 []
noncomputable def Tz86J (s:Tn):(l_:Lz86)→Tr St Lz86 (sLz86 s) (Cod.agg rSt).v
 | .k9 x2 x3=>(.g (.k11 x3 x2))
 | .k11 x5 x6=>(.c ajJ s4 (s,()) fun r24=>(.i (!r24) (.c Az62 Sz62 ((⟨s.s_inn,s.s_half,s.outs,0,0,s.s_b1,s.s_b2,s.s_b3,s.s_n0,s.s_n1,x5,x6,s.s_over⟩:St),()) fun r25=>(.c Az146 ayj (r25,()) fun r26=>(.i (s.s_half==0) (.g (.k17 s.s_n1 x5 x6 r26 0 0)) (.i (s.s_half==1) (.g (.k17 r26 x5 x6 s.s_n0 0 0)) .n)))) (.g (.k17 s.s_n1 x5 x6 s.s_n0 s.k0 s.k1))))
 | .k17 x10 x11 x12 x13 x14 x15=>(.c Az147 akp (s,()) fun r27=>(.c Az120 awC ((⟨s.s_inn,s.s_half,s.outs,x14,x15,r27.1,r27.2.1,r27.2.2.1,x13,x10,x11,x12,s.s_over⟩:St),()) fun r28=>(.i r28 (.c Az148 axw ((⟨s.s_inn,s.s_half,s.outs,x14,x15,r27.1,r27.2.1,r27.2.2.1,x13,x10,x11,x12,s.s_over⟩:St),()) fun r29=>(.r r29)) (.i (s.outs==3) (.c Az149 ako ((⟨s.s_inn,s.s_half,s.outs,x14,x15,r27.1,r27.2.1,r27.2.2.1,x13,x10,x11,x12,s.s_over⟩:St),()) fun r30=>(.r r30)) (.r (⟨s.s_inn,s.s_half,s.outs,x14,x15,r27.1,r27.2.1,r27.2.2.1,x13,x10,x11,x12,s.s_over⟩:St))))))
noncomputable def Tz86 (s:Tn):Tr St Lz86 (sLz86 s) (Cod.agg rSt).v:=(.i (s.s_half==0) (.c Az89 axH (s,()) fun r23=>(.i (s.s_half==0) (.g (.k9 s.s_c1 (w6 (s.s_c0+((r23.length:Nat):Int))))) (.i (s.s_half==1) (.g (.k9 (w6 (s.s_c0+((r23.length:Nat):Int))) s.s_c0)) .n))) (.i (s.s_half==1) (.c Az89 axH (s,()) fun r22=>(.i (s.s_half==0) (.g (.k9 s.s_c1 (w6 (s.s_c1+((r22.length:Nat):Int))))) (.i (s.s_half==1) (.g (.k9 (w6 (s.s_c1+((r22.length:Nat):Int))) s.s_c0)) .n))) .n))
def wU (s:Tn):=Tr.lp (Tz86J s)
def Ez86 (n:Nat) (s:Tn):=(Tz86 s).d (wU s n)
def Sz86 (x:Tn×Unit):=Ez86 (x.1.p_m.length+64) x.1
def wz86:Wk (Tn×Unit) St Lz86 (Cod.agg rSt).v:=⟨fun x=>sLz86 x.1,uz86,fun x=>Tz86 x.1,fun x=>Tz86J x.1⟩
noncomputable def Kz86:=aP 39 Tryz.func39 [Kz62,Kz89,Kz120,ayv,Kz146,Kz147,Kz148,Kz149] noZ ⟨63,noL,(lookA [(4,⟨[0,2,3],[0,1],2,[],[],[],[]⟩),(5,⟨[0,2,3],[0,1],2,[],[],[],[]⟩),(8,⟨[0,2,3],[0,1],2,[],[],[],[]⟩)]),noL⟩ 128 Az86 (Cod.agg rSt) Sz86 wz86 (fun x=>x.1.p_m.length+64)
def Az90:=(Row.cons (Cod.agg rMv) (Row.cons (Cod.ptr (Row.cons (Cod.ptr rTn) Row.nil)) Row.nil))
def Tz90 (m:Mv) (t:Tn×Unit):Tr Int Empty noS cI.v:=(.c Az91 bqe (t.1,m.f,()) fun r2=>(.r r2))
def Ez90 (m:Mv) (t:Tn×Unit):=(Tz90 m t).d noE
def Sz90 (x:Mv×(Tn×Unit)×Unit):=Ez90 x.1 x.2.1
def wz90:Wk (Mv×(Tn×Unit)×Unit) Int Empty cI.v:=wk0 fun x=>Tz90 x.1 x.2.1
def Kz90:=aP 28 Tryz.func28 [Kz91] noZ ⟨8,noL,noL,noL⟩ 128 Az90 cI Sz90 wz90 (fun _=>0)
def Az88:=(Row.cons (Cod.list mv0 rMv) (Row.cons (Cod.fn 28 (Row.cons (Cod.ptr (Row.cons (Cod.ptr rTn) Row.nil)) Row.nil)) Row.nil))
def Wz88 (r:(List (Int))):V:=.el (r.map nB.v)
theorem hWz88 (r:(List (Int))):(Wz88 r).c=((Cod.list 0 nB).v r).c:=by
 first|rfl|exact aR|(show EVal.tup (V.cs _)=EVal.tup (V.cs _);simp only [V.cs_map,List.map_cons,List.map_nil,aR];rfl)
inductive Lz88 where
 | k6 (x2:Int) (x3:List (Int))
def uz88:Lz88→Nat
 | .k6 _ _=>6
noncomputable def az7 (l:List (Mv)) (f:(Tn×Unit)×Unit) (x2:Int) (x3:List (List V)):D:=mD [(1,.fn 28 [.lptr [.lptr (rTn.v f.1.1) 0] 0]),(5,.gl 128),(8,(Cod.list mv0 rMv).v l),(9,.int .i64 ((l.length:Nat):Int)),(10,.int .i64 x2)] 0 [] 129 [(128,(x3,3))]
def aw9 (l:List (Mv)) (f:(Tn×Unit)×Unit):Lz88→D
 | .k6 x2 x3=>az7 l f x2 (x3.map nB.v)
noncomputable def aki (l:List (Mv)) (f:(Tn×Unit)×Unit):(l_:Lz88)→Tr (List (Int)) Lz88 (aw9 l f) Wz88
 | .k6 x2 x3=>(.i (decide (x2<((l.length:Nat):Int))) (.i (inR x2 l.length) (.c Az90 Sz90 ((l.getD x2.toNat mv0),(f.1.1,()),()) fun r5=>(.i (Nat.ble (8*(((x3.map nB.v)).length+1)) 1000000) (.j (.k6 (w6 (x2+1)) (x3++[r5])) (az7 l f (w6 (x2+1)) ((x3.map nB.v)++[[.int .i64 r5]])) ⟨by simp only [aw9,List.map_append,List.map_cons,List.map_nil];rfl⟩) .n)) .n) (.r x3))
def Tz88 (l:List (Mv)) (f:(Tn×Unit)×Unit):Tr (List (Int)) Lz88 (aw9 l f) Wz88:=(.g (.k6 0 []))
def ayy (l:List (Mv)) (f:(Tn×Unit)×Unit):=Tr.lp (aki l f)
theorem awL {l:List (Mv)}{f:(Tn×Unit)×Unit}{n:Nat}{l_:Lz88}:ayy l f (n+1) l_=(aki l f l_).d (ayy l f n):=rfl
def Ez88 (n:Nat) (l:List (Mv)) (f:(Tn×Unit)×Unit):=(Tz88 l f).d (ayy l f n)
def Sz88 (x:(List (Mv))×((Tn×Unit)×Unit)×Unit):=Ez88 (x.1.length+64) x.1 x.2.1
def wz88:Wk ((List (Mv))×((Tn×Unit)×Unit)×Unit) (List (Int)) Lz88 Wz88:=⟨fun x=>aw9 x.1 x.2.1,uz88,fun x=>Tz88 x.1 x.2.1,fun x=>aki x.1 x.2.1⟩
def Kz88:=aP 26 Tryz.func26 [Kz90] noZ ⟨22,(lookA [(3,⟨[1,5,8,9,10],[],0,[(5,3)],[128],[],[]⟩)]),noL,noL⟩ 128 Az88 (Cod.list 0 nB) Sz88 wz88 (fun x=>x.1.length+64) hWz88
def Az34:=(Row.cons (Cod.agg rSt) (Row.cons (Cod.agg rPl) Row.nil))
inductive Lz34 where
 | k9_0
 | k9_1 (x3:Int) (x4:Int) (x5:Int) (x6:Int) (x7:Int) (x8:Int) (x9:Int) (x10:Int) (x11:Int) (x12:Int) (x13:Int) (x14:Int) (x15:Bool) (x16:List Nat) (x17:List Nat) (x18:Bool) (x19:List (Mv)) (x20:Int) (x21:Int) (x22:Bool) (x23:Int) (x24:Bool) (x25:Bool) (x26:Bool) (x27:Bool)
def uz34:Lz34→Nat
 | .k9_0=>9
 | .k9_1 _ _ _ _ _ _ _ _ _ _ _ _ _ _ _ _ _ _ _ _ _ _ _ _ _=>9
noncomputable def sLz34 (s:St) (t:Pl):Lz34→D
 | .k9_0=>mD [(6,.lptr [.raw .nilp] 0)] 0 [] 128 []
 | .k9_1 x3 x4 x5 x6 x7 x8 x9 x10 x11 x12 x13 x14 x15 x16 x17 x18 x19 x20 x21 x22 x23 x24 x25 x26 x27=>mD [(6,.lptr [.lptr [.int .i64 x3,.int .i64 x4,.int .i64 x5,.int .i64 x6,.int .i64 x7,.int .i64 x8,.int .i64 x9,.int .i64 x10,.int .i64 x11,.int .i64 x12,.int .i64 x13,.int .i64 x14,.bool x15,.str x16,.str x17,.bool x18,(Cod.list mv0 rMv).v x19,.int .i64 x20,.int .i64 x21,.bool x22,.int .i64 x23,.bool x24,.bool x25,.bool x26,.bool x27] 0] 0)] 0 [] 128 []
noncomputable def Tz34J (s:St) (t:Pl):(l_:Lz34)→Tr ((List (Int))×(Int)×Unit) Lz34 (sLz34 s t) (Cod.tup (Row.cons (Cod.list 0 nB) (Row.cons cI Row.nil))).v
 | .k9_0=>(.v Az89 axH [.raw .nilp] fun r36=>(.v Az88 Sz88 [(Cod.list mv0 rMv).v r36,.fn 28 [.lptr [.raw .nilp] 0]] fun r37=>(.r (r37,0,()))))
 | .k9_1 x3 x4 x5 x6 x7 x8 x9 x10 x11 x12 x13 x14 x15 x16 x17 x18 x19 x20 x21 x22 x23 x24 x25 x26 x27=>(.c Az89 axH ((⟨x3,x4,x5,x6,x7,x8,x9,x10,x11,x12,x13,x14,x15,x16,x17,x18,x19,x20,x21,x22,x23,x24,x25,x26,x27⟩:Tn),()) fun r38=>(.c Az88 Sz88 (r38,(((⟨x3,x4,x5,x6,x7,x8,x9,x10,x11,x12,x13,x14,x15,x16,x17,x18,x19,x20,x21,x22,x23,x24,x25,x26,x27⟩:Tn),()),()),()) fun r39=>(.r (r39,0,()))))
noncomputable def Tz34 (s:St) (t:Pl):Tr ((List (Int))×(Int)×Unit) Lz34 (sLz34 s t) (Cod.tup (Row.cons (Cod.list 0 nB) (Row.cons cI Row.nil))).v:=(.c Az85 Sz85 (s,t,()) fun r34=>(.s r34.1 (.i (!(r34.2.2.1==0)) (.w ([],r34.2.2.1,()) (.tup [.el [],.int .i64 r34.2.2.1]) ⟨by kernel_rfl⟩) (.g .k9_0)) fun r35=>(.i (!(r34.2.2.1==0)) (.w ([],r34.2.2.1,()) (.tup [.el [],.int .i64 r34.2.2.1]) ⟨by kernel_rfl⟩) (.g (.k9_1 r35.s_inn r35.s_half r35.s_outs r35.s_balls r35.s_strikes r35.s_b1 r35.s_b2 r35.s_b3 r35.s_n0 r35.s_n1 r35.s_c0 r35.s_c1 r35.s_over r35.p_p r35.p_e r35.p_l r35.p_m r35.k0 r35.k1 r35.counted r35.outs r35.f0 r35.f1 r35.f2 r35.f3)))))
def Ez34J (s:St) (t:Pl):=Tr.lp (Tz34J s t)
def Ez34 (n:Nat) (s:St) (t:Pl):=(Tz34 s t).d (Ez34J s t n)
def Sz34 (x:St×Pl×Unit):=Ez34 (x.2.1.m.length+64) x.1 x.2.1
def wz34:Wk (St×Pl×Unit) ((List (Int))×(Int)×Unit) Lz34 (Cod.tup (Row.cons (Cod.list 0 nB) (Row.cons cI Row.nil))).v:=⟨fun x=>sLz34 x.1 x.2.1,uz34,fun x=>Tz34 x.1 x.2.1,fun x=>Tz34J x.1 x.2.1⟩
def Kz34:=aP 10 Tryz.func10 [Kz85,Kz88,Kz89] noZ ⟨23,noL,(lookA [(4,⟨[6],[],0,[],[],[(2,1)],[]⟩)]),noL⟩ 128 Az34 (Cod.tup (Row.cons (Cod.list 0 nB) (Row.cons cI Row.nil))) Sz34 wz34 (fun x=>x.2.1.m.length+64)
def Az92:=(Row.cons (Cod.ptr rTn) Row.nil)
def Tz92 (s:Tn):Tr Int Empty noS cI.v:=(.c Az86 Sz86 (s,()) fun r2=>(.i r2.over (.r 2) (.i (!(r2.half==s.s_half)) (.r 1) (.r 0))))
def Ez92 (s:Tn):=(Tz92 s).d noE
def Sz92 (x:Tn×Unit):=Ez92 x.1
def wz92:Wk (Tn×Unit) Int Empty cI.v:=wk0 fun x=>Tz92 x.1
def Kz92:=aP 30 Tryz.func30 [Kz86] noZ ⟨18,noL,noL,noL⟩ 128 Az92 cI Sz92 wz92 (fun _=>0)
def Az36:=(Row.cons (Cod.agg rSt) (Row.cons (Cod.agg rPl) Row.nil))
noncomputable def Tz36 (s:St) (t:Pl):Tr ((Int)×(Int)×Unit) Empty noS (Cod.tup (Row.cons cI (Row.cons cI Row.nil))).v:=(.c Az85 Sz85 (s,t,()) fun r5=>(.s r5.1 (.i (!(r5.2.2.1==0)) (.r (0,r5.2.2.1,())) (.v Az92 Sz92 [.raw .nilp] fun r7=>(.r (r7,0,())))) fun r6=>(.i (!(r5.2.2.1==0)) (.r (0,r5.2.2.1,())) (.c Az92 Sz92 (r6,()) fun r8=>(.r (r8,0,()))))))
def Ez36 (s:St) (t:Pl):=(Tz36 s t).d noE
def Sz36 (x:St×Pl×Unit):=Ez36 x.1 x.2.1
def wz36:Wk (St×Pl×Unit) ((Int)×(Int)×Unit) Empty (Cod.tup (Row.cons cI (Row.cons cI Row.nil))).v:=wk0 fun x=>Tz36 x.1 x.2.1
def Kz36:=aP 11 Tryz.func11 [Kz85,Kz92] noZ ⟨21,noL,noL,noL⟩ 128 Az36 (Cod.tup (Row.cons cI (Row.cons cI Row.nil))) Sz36 wz36 (fun _=>0)
