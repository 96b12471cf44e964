import Derived.Test.YtknnagbemkdlgaaGreatDoorDHand
set_option linter.unusedSimpArgs false
set_option linter.unusedVariables false
namespace Go.Ev
open Go.RowKit Go.Proofs
set_option maxRecDepth 100000
set_option maxHeartbeats 4000000
set_option linter.unusedVariables false
noncomputable section
structure Tn where
 s_inn:Int
 s_half:Int
 s_outs:Int
 s_balls:Int
 s_strikes:Int
 s_b1:Int
 s_b2:Int
 s_b3:Int
 s_n0:Int
 s_n1:Int
 s_c0:Int
 s_c1:Int
 s_over:Bool
 p_p:List Nat
 p_e:List Nat
 p_l:Bool
 p_m:List (Mv)
 k0:Int
 k1:Int
 counted:Bool
 outs:Int
 f0:Bool
 f1:Bool
 f2:Bool
 f3:Bool
noncomputable def rTn:Row Tn:=Row.iso (Row.cons cI (Row.cons cI (Row.cons cI (Row.cons cI (Row.cons cI (Row.cons cI (Row.cons cI (Row.cons cI (Row.cons cI (Row.cons cI (Row.cons cI (Row.cons cI (Row.cons cB (Row.cons cS (Row.cons cS (Row.cons cB (Row.cons (Cod.list mv0 rMv) (Row.cons cI (Row.cons cI (Row.cons cB (Row.cons cI (Row.cons cB (Row.cons cB (Row.cons cB (Row.cons cB Row.nil))))))))))))))))))))))))) (fun x=>⟨x.1,x.2.1,x.2.2.1,x.2.2.2.1,x.2.2.2.2.1,x.2.2.2.2.2.1,x.2.2.2.2.2.2.1,x.2.2.2.2.2.2.2.1,x.2.2.2.2.2.2.2.2.1,x.2.2.2.2.2.2.2.2.2.1,x.2.2.2.2.2.2.2.2.2.2.1,x.2.2.2.2.2.2.2.2.2.2.2.1,x.2.2.2.2.2.2.2.2.2.2.2.2.1,x.2.2.2.2.2.2.2.2.2.2.2.2.2.1,x.2.2.2.2.2.2.2.2.2.2.2.2.2.2.1,x.2.2.2.2.2.2.2.2.2.2.2.2.2.2.2.1,x.2.2.2.2.2.2.2.2.2.2.2.2.2.2.2.2.1,x.2.2.2.2.2.2.2.2.2.2.2.2.2.2.2.2.2.1,x.2.2.2.2.2.2.2.2.2.2.2.2.2.2.2.2.2.2.1,x.2.2.2.2.2.2.2.2.2.2.2.2.2.2.2.2.2.2.2.1,x.2.2.2.2.2.2.2.2.2.2.2.2.2.2.2.2.2.2.2.2.1,x.2.2.2.2.2.2.2.2.2.2.2.2.2.2.2.2.2.2.2.2.2.1,x.2.2.2.2.2.2.2.2.2.2.2.2.2.2.2.2.2.2.2.2.2.2.1,x.2.2.2.2.2.2.2.2.2.2.2.2.2.2.2.2.2.2.2.2.2.2.2.1,x.2.2.2.2.2.2.2.2.2.2.2.2.2.2.2.2.2.2.2.2.2.2.2.2.1⟩) (fun y=>(y.s_inn,y.s_half,y.s_outs,y.s_balls,y.s_strikes,y.s_b1,y.s_b2,y.s_b3,y.s_n0,y.s_n1,y.s_c0,y.s_c1,y.s_over,y.p_p,y.p_e,y.p_l,y.p_m,y.k0,y.k1,y.counted,y.outs,y.f0,y.f1,y.f2,y.f3,())) (fun _=>rfl) (fun _=>rfl)
def Az84:=(Row.cons (Cod.agg rPl) Row.nil)
inductive Lz84 where
 | k8 (x1:Int)
def uz84:Lz84→Nat
 | .k8 _=>8
def sLz84 (s:Pl):Lz84→D
 | .k8 x1=>mD [(1,.ptr 0 0),(3,.int .i64 x1)] 1 [(0,.row ⟨(rPl.v s),25,false⟩)] 128 []
noncomputable def akG (s:Pl):(l_:Lz84)→Tr Bool Lz84 (sLz84 s) cB.v
 | .k8 x1=>(.i (decide (x1<((s.m.length:Nat):Int))) (.i (inR x1 s.m.length) (.i (decide (20<((((s.m.getD x1.toNat mv0).h).length:Nat):Int))) (.r false) (.i (inR x1 s.m.length) (.i (decide (40<((((s.m.getD x1.toNat mv0).b).length:Nat):Int))) (.r false) (.g (.k8 (w6 (x1+1))))) .n)) .n) (.r true))
def Tz84 (s:Pl):Tr Bool Lz84 (sLz84 s) cB.v:=(.i (decide (26<((s.p.length:Nat):Int))) (.r false) (.i (decide (20<((s.e.length:Nat):Int))) (.r false) (.i (decide (6<((s.m.length:Nat):Int))) (.r false) (.g (.k8 0)))))
def ak9 (s:Pl):=Tr.lp (akG s)
theorem ak8 {s:Pl}{n:Nat}{l_:Lz84}:ak9 s (n+1) l_=(akG s l_).d (ak9 s n):=rfl
def Ez84 (n:Nat) (s:Pl):=(Tz84 s).d (ak9 s n)
def Sz84 (x:Pl×Unit):=Ez84 (x.1.m.length+64) x.1
def wz84:Wk (Pl×Unit) Bool Lz84 cB.v:=⟨fun x=>sLz84 x.1,uz84,fun x=>Tz84 x.1,fun x=>akG x.1⟩
def Kz84:=a4 12 Tryz.func12 [] noZ ⟨45,(lookA [(4,⟨[1,3],[0],1,[],[],[],[]⟩)]),noL,noL⟩ 128 Az84 cB Sz84 wz84 (fun x=>x.1.m.length+64)
def Az31:=(Row.cons (Cod.agg rPl) Row.nil)
def Tz31 (s:Pl):Tr Bool Empty noS cB.v:=(.c Az84 Sz84 (s,()) fun r2=>(.r r2))
def Ez31 (s:Pl):=(Tz31 s).d noE
def Sz31 (x:Pl×Unit):=Ez31 x.1
def wz31:Wk (Pl×Unit) Bool Empty cB.v:=wk0 fun x=>Tz31 x.1
def Kz31:=a4 5 Tryz.func5 [Kz84] noZ ⟨5,noL,noL,noL⟩ 128 Az31 cB Sz31 wz31 (fun _=>0)
def Az61:=(Row.cons (Cod.agg rSt) Row.nil)
def Tz61 (s:St):Tr Int Empty noS cI.v:=(.i s.over (.r 20) (.r 0))
def Ez61 (s:St):=(Tz61 s).d noE
def Sz61 (x:St×Unit):=Ez61 x.1
def wz61:Wk (St×Unit) Int Empty cI.v:=wk0 fun x=>Tz61 x.1
def Kz61:=a4 61 Tryz.func61 [] noZ ⟨5,noL,noL,noL⟩ 128 Az61 cI Sz61 wz61 (fun _=>0)
def Az141:=(Row.cons (Cod.agg rSt) (Row.cons (Cod.ptr rPl) Row.nil))
def Tz141 (s:St) (t:Pl):Tr Int Empty noS cI.v:=(.c A142 S142 (t,()) fun r2=>(.r r2))
def Ez141 (s:St) (t:Pl):=(Tz141 s t).d noE
def Sz141 (x:St×Pl×Unit):=Ez141 x.1 x.2.1
def wz141:Wk (St×Pl×Unit) Int Empty cI.v:=wk0 fun x=>Tz141 x.1 x.2.1
def Kz141:=a4 59 Tryz.func59 [K142] noZ ⟨6,noL,noL,noL⟩ 128 Az141 cI Sz141 wz141 (fun _=>0)
def jN:=(Row.cons (Cod.agg rSt) (Row.cons (Cod.lit (Els.cons (Row.cons (Cod.fn0 16) Row.nil) (Els.cons (Row.cons (Cod.fn 59 (Row.cons (Cod.ptr rPl) Row.nil)) Row.nil) (Els.cons (Row.cons (Cod.fn0 61) Row.nil) Els.nil)))) Row.nil))
inductive a6 where
 | k4 (x2:Int)
def pJ:a6→Nat
 | .k4 _=>4
noncomputable def eD (s:St) (t:((Unit)×Unit)×(((Pl)×Unit)×Unit)×((Unit)×Unit)×Unit):a6→D
 | .k4 x2=>mD [(2,.ptr 0 0),(8,.el [[.raw (.func 16 [])],[.fn 59 [.lptr (rPl.v t.2.1.1.1) 0]],[.raw (.func 61 [])]]),(9,.int .i64 3),(10,.int .i64 x2)] 1 [(0,.row ⟨(rSt.v s),37,false⟩)] 128 []
noncomputable def cV (s:St) (t:((Unit)×Unit)×(((Pl)×Unit)×Unit)×((Unit)×Unit)×Unit):(l_:a6)→Tr Int a6 (eD s t) cI.v
 | .k4 x2=>(.i (decide (x2<3)) (.i (x2==0) (.c A18 S18 (s,()) fun r8=>(.i (!(r8==0)) (.r r8) (.g (.k4 (w6 (x2+1)))))) (.i (x2==1) (.c Az141 Sz141 (s,t.2.1.1.1,()) fun r7=>(.i (!(r7==0)) (.r r7) (.g (.k4 (w6 (x2+1)))))) (.i (x2==2) (.c Az61 Sz61 (s,()) fun r6=>(.i (!(r6==0)) (.r r6) (.g (.k4 (w6 (x2+1)))))) .n))) (.r 0))
def fF (s:St) (t:((Unit)×Unit)×(((Pl)×Unit)×Unit)×((Unit)×Unit)×Unit):Tr Int a6 (eD s t) cI.v:=(.g (.k4 0))
def cW (s:St) (t:((Unit)×Unit)×(((Pl)×Unit)×Unit)×((Unit)×Unit)×Unit):=Tr.lp (cV s t)
theorem mA {s:St}{t:((Unit)×Unit)×(((Pl)×Unit)×Unit)×((Unit)×Unit)×Unit}{n:Nat}{l_:a6}:cW s t (n+1) l_=(cV s t l_).d (cW s t n):=rfl
def fJ (n:Nat) (s:St) (t:((Unit)×Unit)×(((Pl)×Unit)×Unit)×((Unit)×Unit)×Unit):=(fF s t).d (cW s t n)
def dV (x:St×(((Unit)×Unit)×(((Pl)×Unit)×Unit)×((Unit)×Unit)×Unit)×Unit):=fJ 64 x.1 x.2.1
def pE:Wk (St×(((Unit)×Unit)×(((Pl)×Unit)×Unit)×((Unit)×Unit)×Unit)×Unit) Int a6 cI.v:=⟨fun x=>eD x.1 x.2.1,pJ,fun x=>fF x.1 x.2.1,fun x=>cV x.1 x.2.1⟩
def rQ:=a4 34 Tryz.func34 [K18,Kz61,Kz141] noZ ⟨21,(lookA [(2,⟨[2,8,9,10],[0],1,[],[],[],[]⟩)]),noL,noL⟩ 128 jN cI dV pE (fun x=>64)
def Az196:=(Row.cons (Cod.agg rMv) Row.nil)
def Tz196 (s:Mv):Tr Bool Empty noS cB.v:=(.r s.o)
def Ez196 (s:Mv):=(Tz196 s).d noE
def Sz196 (x:Mv×Unit):=Ez196 x.1
def wz196:Wk (Mv×Unit) Bool Empty cB.v:=wk0 fun x=>Tz196 x.1
def Kz196:=a4 106 Tryz.func106 [] noZ ⟨5,noL,noL,noL⟩ 128 Az196 cB Sz196 wz196 (fun _=>0)
def yT:=(Row.cons (Cod.list mv0 rMv) (Row.cons (Cod.fn0 106) Row.nil))
inductive fG where
 | k6 (x2:Int) (x3:Int)
def axx:fG→Nat
 | .k6 _ _=>6
def mK (s:List (Mv)) (t:Unit):fG→D
 | .k6 x2 x3=>mD [(1,.raw (.func 106 [])),(5,.int .i64 x2),(8,(Cod.list mv0 rMv).v s),(9,.int .i64 ((s.length:Nat):Int)),(10,.int .i64 x3)] 0 [] 128 []
noncomputable def dD (s:List (Mv)) (t:Unit):(l_:fG)→Tr Int fG (mK s t) cI.v
 | .k6 x2 x3=>(.i (decide (x3<((s.length:Nat):Int))) (.i (inR x3 s.length) (.c Az196 Sz196 ((s.getD x3.toNat mv0),()) fun r5=>(.i r5 (.g (.k6 (w6 (x2+1)) (w6 (x3+1)))) (.g (.k6 x2 (w6 (x3+1)))))) .n) (.r x2))
def rK (s:List (Mv)) (t:Unit):Tr Int fG (mK s t) cI.v:=(.g (.k6 0 0))
def gP (s:List (Mv)) (t:Unit):=Tr.lp (dD s t)
theorem d8 {s:List (Mv)}{t:Unit}{n:Nat}{l_:fG}:gP s t (n+1) l_=(dD s t l_).d (gP s t n):=rfl
def rR (n:Nat) (s:List (Mv)) (t:Unit):=(rK s t).d (gP s t n)
def rN (x:(List (Mv))×Unit×Unit):=rR (x.1.length+64) x.1 x.2.1
def axn:Wk ((List (Mv))×Unit×Unit) Int fG cI.v:=⟨fun x=>mK x.1 x.2.1,axx,fun x=>rK x.1 x.2.1,fun x=>dD x.1 x.2.1⟩
def ak2:=a4 105 Tryz.func105 [Kz196] noZ ⟨21,(lookA [(3,⟨[1,5,8,9,10],[],0,[],[],[],[]⟩)]),noL,noL⟩ 128 yT cI rN axn (fun x=>x.1.length+64)
def Az63:=(Row.cons (Cod.agg rSt) Row.nil)
inductive Lz63 where
 | k6 (x1:Int) (x2:Bool) (x3:Bool) (x4:Bool)
def uz63:Lz63→Nat
 | .k6 _ _ _ _=>6
noncomputable def sLz63 (s:St):Lz63→D
 | .k6 x1 x2 x3 x4=>mD [(2,.ptr 1 0),(3,.ptr 2 0),(8,.agg [.int .i64 s.b1,.int .i64 s.b2,.int .i64 s.b3]),(9,.int .i64 x1)] 3 [(1,.row ⟨[.bool false,.bool false,.bool false,.bool false],87,false⟩),(2,.row ⟨[.bool true,.bool x2,.bool x4,.bool x3],87,false⟩)] 128 []
noncomputable def aws (s:St):(l_:Lz63)→Tr ((Bool)×(Bool)×(Bool)×(Bool)×Unit) Lz63 (sLz63 s) (Cod.agg (Row.cons cB (Row.cons cB (Row.cons cB (Row.cons cB Row.nil))))).v
 | .k6 x1 x2 x3 x4=>(.i (decide (x1<3)) (.i (x1==0) (.i (s.b1==0) (.r (true,x2,x4,x3,())) (.i ((w6 (x1+1))==0) (.g (.k6 (w6 (x1+1)) x2 x3 x4)) (.i ((w6 (x1+1))==1) (.g (.k6 (w6 (x1+1)) true x3 x4)) (.i ((w6 (x1+1))==2) (.g (.k6 (w6 (x1+1)) x2 x3 true)) (.i ((w6 (x1+1))==3) (.g (.k6 (w6 (x1+1)) x2 true x4)) .n))))) (.i (x1==1) (.i (s.b2==0) (.r (true,x2,x4,x3,())) (.i ((w6 (x1+1))==0) (.g (.k6 (w6 (x1+1)) x2 x3 x4)) (.i ((w6 (x1+1))==1) (.g (.k6 (w6 (x1+1)) true x3 x4)) (.i ((w6 (x1+1))==2) (.g (.k6 (w6 (x1+1)) x2 x3 true)) (.i ((w6 (x1+1))==3) (.g (.k6 (w6 (x1+1)) x2 true x4)) .n))))) (.i (x1==2) (.i (s.b3==0) (.r (true,x2,x4,x3,())) (.i ((w6 (x1+1))==0) (.g (.k6 (w6 (x1+1)) x2 x3 x4)) (.i ((w6 (x1+1))==1) (.g (.k6 (w6 (x1+1)) true x3 x4)) (.i ((w6 (x1+1))==2) (.g (.k6 (w6 (x1+1)) x2 x3 true)) (.i ((w6 (x1+1))==3) (.g (.k6 (w6 (x1+1)) x2 true x4)) .n))))) .n))) (.r (true,x2,x4,x3,())))
def Tz63 (s:St):Tr ((Bool)×(Bool)×(Bool)×(Bool)×Unit) Lz63 (sLz63 s) (Cod.agg (Row.cons cB (Row.cons cB (Row.cons cB (Row.cons cB Row.nil))))).v:=(.g (.k6 0 false false false))
def ayQ (s:St):=Tr.lp (aws s)
theorem Ez63J_s {s:St}{n:Nat}{l_:Lz63}:ayQ s (n+1) l_=(aws s l_).d (ayQ s n):=rfl
def Ez63 (n:Nat) (s:St):=(Tz63 s).d (ayQ s n)
def Sz63 (x:St×Unit):=Ez63 64 x.1
def wz63:Wk (St×Unit) ((Bool)×(Bool)×(Bool)×(Bool)×Unit) Lz63 (Cod.agg (Row.cons cB (Row.cons cB (Row.cons cB (Row.cons cB Row.nil))))).v:=⟨fun x=>sLz63 x.1,uz63,fun x=>Tz63 x.1,fun x=>aws x.1⟩
def Kz63:=a4 107 Tryz.func107 [] noZ ⟨20,(lookA [(3,⟨[2,3,8,9],[1,2],3,[],[],[],[]⟩)]),noL,noL⟩ 128 Az63 (Cod.agg (Row.cons cB (Row.cons cB (Row.cons cB (Row.cons cB Row.nil))))) Sz63 wz63 (fun x=>64)
def Az143:=(Row.cons (Cod.agg rSt) (Row.cons (Cod.agg rPl) Row.nil))
inductive ax4 where
 | k2000001 (x4:Int) (x5:Int) (x6:Bool) (x7:Int) (x8:Bool) (x9:Bool) (x10:Bool) (x11:Bool)
def uz143:ax4→Nat
 | .k2000001 _ _ _ _ _ _ _ _=>2000001
noncomputable def azX (s:St) (t:Pl):ax4→D
 | .k2000001 x4 x5 x6 x7 x8 x9 x10 x11=>mD [(4,.lptr [.int .i64 s.inn,.int .i64 s.half,.int .i64 s.outs,.int .i64 s.balls,.int .i64 s.strikes,.int .i64 s.b1,.int .i64 s.b2,.int .i64 s.b3,.int .i64 s.n0,.int .i64 s.n1,.int .i64 s.c0,.int .i64 s.c1,.bool s.over,.str t.p,.str t.e,.bool t.l,(Cod.list mv0 rMv).v t.m,.int .i64 x4,.int .i64 x5,.bool x6,.int .i64 x7,.bool x8,.bool x9,.bool x10,.bool x11] 0)] 0 [] 128 []
noncomputable def ayr (s:St) (t:Pl):(l_:ax4)→Tr Tn ax4 (azX s t) (Cod.ptr rTn).v
 | .k2000001 x4 x5 x6 x7 x8 x9 x10 x11=>(.r (⟨s.inn,s.half,s.outs,s.balls,s.strikes,s.b1,s.b2,s.b3,s.n0,s.n1,s.c0,s.c1,s.over,t.p,t.e,t.l,t.m,x4,x5,x6,x7,x8,x9,x10,x11⟩:Tn))
noncomputable def Tz143 (s:St) (t:Pl):Tr Tn ax4 (azX s t) (Cod.ptr rTn).v:=(.c A81 S81 (s.balls,s.strikes,t.p,()) fun r15=>(.c yT rN (t.m,(),()) fun r16=>(.c Az63 Sz63 (s,()) fun r17=>(.g (.k2000001 r15.1.1 r15.1.2.1 (r15.2.2.1==0) (w6 (s.outs+r16)) r17.1 r17.2.1 r17.2.2.1 r17.2.2.2.1)))))
def Ez143J (s:St) (t:Pl):=Tr.lp (ayr s t)
def Ez143 (n:Nat) (s:St) (t:Pl):=(Tz143 s t).d (Ez143J s t n)
def ayC (x:St×Pl×Unit):=Ez143 (x.2.1.m.length+64) x.1 x.2.1
def wz143:Wk (St×Pl×Unit) Tn ax4 (Cod.ptr rTn).v:=⟨fun x=>azX x.1 x.2.1,uz143,fun x=>Tz143 x.1 x.2.1,fun x=>ayr x.1 x.2.1⟩
def Kz143:=a4 62 Tryz.func62 [Kz63,K81,ak2] noZ ⟨34,noL,(lookA [(1000000,⟨[4],[],0,[],[],[(3,1)],[]⟩)]),noL⟩ 128 Az143 (Cod.ptr rTn) ayC wz143 (fun x=>x.2.1.m.length+64)
def Az74:=Row.nil
noncomputable def Tz74:Tr ((List Nat)×Unit×(List Nat)×Unit×(List Nat)×Unit×(List Nat)×Unit×(List Nat)×Unit×(List Nat)×Unit×(List Nat)×Unit×(List Nat)×Unit×(List Nat)×Unit×(List Nat)×Unit×(List Nat)×Unit×(List Nat)×Unit×(List Nat)×Unit×Unit) Empty noS (Cod.agg (Row.cons cS (Row.cons (Cod.fn0 84) (Row.cons cS (Row.cons (Cod.fn0 85) (Row.cons cS (Row.cons (Cod.fn0 86) (Row.cons cS (Row.cons (Cod.fn0 87) (Row.cons cS (Row.cons (Cod.fn0 88) (Row.cons cS (Row.cons (Cod.fn0 89) (Row.cons cS (Row.cons (Cod.fn0 90) (Row.cons cS (Row.cons (Cod.fn0 91) (Row.cons cS (Row.cons (Cod.fn0 92) (Row.cons cS (Row.cons (Cod.fn0 93) (Row.cons cS (Row.cons (Cod.fn0 94) (Row.cons cS (Row.cons (Cod.fn0 95) (Row.cons cS (Row.cons (Cod.fn0 96) Row.nil))))))))))))))))))))))))))).v:=(.r ([112,105,116,99,104,101,115],(),[101,118,101,110,116],(),[98,97,116,116,101,114],(),[114,117,110,110,101,114,115],(),[98,97,116,116,101,114,39,115,32,119,97,121],(),[116,104,105,114,100,32,115,116,114,105,107,101],(),[105,110,102,105,101,108,100,32,102,108,121],(),[119,97,121,115],(),[98,97,108,107],(),[97,119,97,114,100,115],(),[111,114,100,101,114],(),[111,117,116,115],(),[108,97,116,101,32,114,117,110,115],(),()))
def Ez74:=(Tz74).d noE
def Sz74 (x:Unit):=Ez74
noncomputable def wz74:Wk (Unit) ((List Nat)×Unit×(List Nat)×Unit×(List Nat)×Unit×(List Nat)×Unit×(List Nat)×Unit×(List Nat)×Unit×(List Nat)×Unit×(List Nat)×Unit×(List Nat)×Unit×(List Nat)×Unit×(List Nat)×Unit×(List Nat)×Unit×(List Nat)×Unit×Unit) Empty (Cod.agg (Row.cons cS (Row.cons (Cod.fn0 84) (Row.cons cS (Row.cons (Cod.fn0 85) (Row.cons cS (Row.cons (Cod.fn0 86) (Row.cons cS (Row.cons (Cod.fn0 87) (Row.cons cS (Row.cons (Cod.fn0 88) (Row.cons cS (Row.cons (Cod.fn0 89) (Row.cons cS (Row.cons (Cod.fn0 90) (Row.cons cS (Row.cons (Cod.fn0 91) (Row.cons cS (Row.cons (Cod.fn0 92) (Row.cons cS (Row.cons (Cod.fn0 93) (Row.cons cS (Row.cons (Cod.fn0 94) (Row.cons cS (Row.cons (Cod.fn0 95) (Row.cons cS (Row.cons (Cod.fn0 96) Row.nil))))))))))))))))))))))))))).v:=wk0 fun x=>Tz74
noncomputable def Kz74:=a4 49 Tryz.func49 [] noZ ⟨15,noL,noL,noL⟩ 128 Az74 (Cod.agg (Row.cons cS (Row.cons (Cod.fn0 84) (Row.cons cS (Row.cons (Cod.fn0 85) (Row.cons cS (Row.cons (Cod.fn0 86) (Row.cons cS (Row.cons (Cod.fn0 87) (Row.cons cS (Row.cons (Cod.fn0 88) (Row.cons cS (Row.cons (Cod.fn0 89) (Row.cons cS (Row.cons (Cod.fn0 90) (Row.cons cS (Row.cons (Cod.fn0 91) (Row.cons cS (Row.cons (Cod.fn0 92) (Row.cons cS (Row.cons (Cod.fn0 93) (Row.cons cS (Row.cons (Cod.fn0 94) (Row.cons cS (Row.cons (Cod.fn0 95) (Row.cons cS (Row.cons (Cod.fn0 96) Row.nil))))))))))))))))))))))))))) Sz74 wz74 (fun _=>0)
def Az122:=(Row.cons (Cod.ptr rTn) Row.nil)
def Tz122 (s:Tn):Tr Bool Empty noS cB.v:=(.r (!s.counted))
def Ez122 (s:Tn):=(Tz122 s).d noE
def ayE (x:Tn×Unit):=Ez122 x.1
def wz122:Wk (Tn×Unit) Bool Empty cB.v:=wk0 fun x=>Tz122 x.1
def Kz122:=a4 84 Tryz.func84 [] noZ ⟨8,noL,noL,noL⟩ 128 Az122 cB ayE wz122 (fun _=>0)
def Az191:=(Row.cons cS (Row.cons cS Row.nil))
noncomputable def Tz191 (s:List Nat) (t:List Nat):Tr Bool Empty noS cB.v:=(.i (decide (((t.length:Nat):Int)≤((s.length:Nat):Int))) (.i (decide ((0:Int)≤(w6 (((s.length:Nat):Int)-((t.length:Nat):Int))))&&decide ((w6 (((s.length:Nat):Int)-((t.length:Nat):Int)))≤((s.length:Nat):Int))) (.r (decide (((s.take s.length).drop ((w6 (((s.length:Nat):Int)-((t.length:Nat):Int))).toNat))=t))) .n) (.r false))
def Ez191 (s:List Nat) (t:List Nat):=(Tz191 s t).d noE
def Sz191 (x:(List Nat)×(List Nat)×Unit):=Ez191 x.1 x.2.1
def wz191:Wk ((List Nat)×(List Nat)×Unit) Bool Empty cB.v:=wk0 fun x=>Tz191 x.1 x.2.1
def Kz191:=a4 161 Tryz.func161 [] noZ ⟨21,noL,noL,noL⟩ 128 Az191 cB Sz191 wz191 (fun _=>0)
def Az140:=(Row.cons cS (Row.cons cS Row.nil))
def Tz140 (s:List Nat) (t:List Nat):Tr Bool Empty noS cB.v:=(.c Az191 Sz191 (s,t,()) fun r2=>(.r r2))
def Ez140 (s:List Nat) (t:List Nat):=(Tz140 s t).d noE
def ayD (x:(List Nat)×(List Nat)×Unit):=Ez140 x.1 x.2.1
def wz140:Wk ((List Nat)×(List Nat)×Unit) Bool Empty cB.v:=wk0 fun x=>Tz140 x.1 x.2.1
def Kz140:=a4 147 Tryz.func147 [Kz191] noZ ⟨8,noL,noL,noL⟩ 128 Az140 cB ayD wz140 (fun _=>0)
def Az82:=(Row.cons (Cod.agg (Row.cons cI (Row.cons cI Row.nil))) (Row.cons cS Row.nil))
noncomputable def Tz82 (s:(Int)×(Int)×Unit) (t:List Nat):Tr (List Nat) Empty noS cS.v:=(.i (decide (2<s.2.1)) (.r [75]) (.i (decide (3<s.1)) (.r [87]) (.c Az140 ayD (t,[72],()) fun r3=>(.i r3 (.r [72]) (.c Az140 ayD (t,[88],()) fun r4=>(.i r4 (.r [88]) (.r [])))))))
def Ez82 (s:(Int)×(Int)×Unit) (t:List Nat):=(Tz82 s t).d noE
def Sz82 (x:((Int)×(Int)×Unit)×(List Nat)×Unit):=Ez82 x.1 x.2.1
def wz82:Wk (((Int)×(Int)×Unit)×(List Nat)×Unit) (List Nat) Empty cS.v:=wk0 fun x=>Tz82 x.1 x.2.1
def Kz82:=a4 121 Tryz.func121 [Kz140] noZ ⟨19,noL,noL,noL⟩ 128 Az82 cS Sz82 wz82 (fun _=>0)
def aqb:=(Row.cons (Cod.ptr rTn) Row.nil)
def Tz145 (s:Tn):Tr Bool Empty noS cB.v:=(.r (decide (s.p_e=[])))
def Ez145 (s:Tn):=(Tz145 s).d noE
def sL (x:Tn×Unit):=Ez145 x.1
def wz145:Wk (Tn×Unit) Bool Empty cB.v:=wk0 fun x=>Tz145 x.1
def ayN:=a4 52 Tryz.func52 [] noZ ⟨9,noL,noL,noL⟩ 128 aqb cB sL wz145 (fun _=>0)
def jO:=(Row.cons (Cod.ptr rTn) (Row.cons cS Row.nil))
def Tz178 (s:Tn) (t:List Nat):Tr Bool Empty noS cB.v:=(.i (!decide (s.p_e=[])) (.c ajl vV (t,s.p_e,()) fun r2=>(.r r2)) (.r false))
def Ez178 (s:Tn) (t:List Nat):=(Tz178 s t).d noE
def iL (x:Tn×(List Nat)×Unit):=Ez178 x.1 x.2.1
def wz178:Wk (Tn×(List Nat)×Unit) Bool Empty cB.v:=wk0 fun x=>Tz178 x.1 x.2.1
def axc:=a4 122 Tryz.func122 [K181] noZ ⟨20,noL,noL,noL⟩ 128 jO cB iL wz178 (fun _=>0)
def Az123:=(Row.cons (Cod.ptr rTn) Row.nil)
noncomputable def Tz123 (s:Tn):Tr Bool Empty noS cB.v:=(.c Az82 Sz82 ((s.k0,s.k1,()),s.p_p,()) fun r5=>(.i (decide (r5=[])) (.c aqb sL (s,()) fun r6=>(.i (!r6) (.c jO iL (s,[73,78],()) fun r7=>(.r (!r7))) (.r false))) (.i (decide (r5=[88])) (.c jO iL (s,[88,89],()) fun r8=>(.r (!r8))) (.r (!decide (s.p_e=r5))))))
def Ez123 (s:Tn):=(Tz123 s).d noE
def akY (x:Tn×Unit):=Ez123 x.1
def wz123:Wk (Tn×Unit) Bool Empty cB.v:=wk0 fun x=>Tz123 x.1
def Kz123:=a4 85 Tryz.func85 [Kz82,ayN,axc] noZ ⟨37,noL,noL,noL⟩ 128 Az123 cB akY wz123 (fun _=>0)
def ayV:=(Row.cons (Cod.ptr rTn) Row.nil)
noncomputable def Tz179 (s:Tn):Tr ((Mv)×(Bool)×Unit) Empty noS (Cod.tup (Row.cons (Cod.agg rMv) (Row.cons cB Row.nil))).v:=(.i (((s.p_m.length:Nat):Int)==0) (.w ((⟨0,0,false,[],[]⟩:Mv),false,()) (.tup [.agg [.int .i64 0,.int .i64 0,.bool false,.str [],.el []],.bool false]) ⟨by kernel_rfl⟩) (.i (inR (w6 (((s.p_m.length:Nat):Int)-1)) s.p_m.length) (.i (!((s.p_m.getD (w6 (((s.p_m.length:Nat):Int)-1)).toNat mv0).f==0)) (.w ((⟨0,0,false,[],[]⟩:Mv),false,()) (.tup [.agg [.int .i64 0,.int .i64 0,.bool false,.str [],.el []],.bool false]) ⟨by kernel_rfl⟩) (.i (inR (w6 (((s.p_m.length:Nat):Int)-1)) s.p_m.length) (.r ((s.p_m.getD (w6 (((s.p_m.length:Nat):Int)-1)).toNat mv0),true,())) .n)) .n))
def Ez179 (s:Tn):=(Tz179 s).d noE
def akK (x:Tn×Unit):=Ez179 x.1
def wz179:Wk (Tn×Unit) ((Mv)×(Bool)×Unit) Empty (Cod.tup (Row.cons (Cod.agg rMv) (Row.cons cB Row.nil))).v:=wk0 fun x=>Tz179 x.1
def Kz179:=a4 123 Tryz.func123 [] noZ ⟨30,noL,noL,noL⟩ 128 ayV (Cod.tup (Row.cons (Cod.agg rMv) (Row.cons cB Row.nil))) akK wz179 (fun _=>0)
def Az124:=(Row.cons (Cod.ptr rTn) Row.nil)
def Tz124 (s:Tn):Tr Bool Empty noS cB.v:=(.c ayV akK (s,()) fun r3=>(.c aqb sL (s,()) fun r4=>(.r (r3.2.1==r4))))
def Ez124 (s:Tn):=(Tz124 s).d noE
def akX (x:Tn×Unit):=Ez124 x.1
def wz124:Wk (Tn×Unit) Bool Empty cB.v:=wk0 fun x=>Tz124 x.1
def Kz124:=a4 86 Tryz.func86 [ayN,Kz179] noZ ⟨14,noL,noL,noL⟩ 128 Az124 cB akX wz124 (fun _=>0)
def Az125:=(Row.cons (Cod.ptr rTn) Row.nil)
inductive aq8 where
 | k200002 (x1:Int)
def uz125:aq8→Nat
 | .k200002 _=>200002
noncomputable def az2 (s:Tn):aq8→D
 | .k200002 x1=>mE [(0,.raw (.yieldf 4)),(6,(Cod.list mv0 rMv).v s.p_m),(7,.int .i64 ((s.p_m.length:Nat):Int)),(8,.int .i64 x1)] [] none [[(1,.ptr 0 0),(2,.ptr 1 0),(8,.fn 148 [.ptr 2 0])]] 5 [(0,.row ⟨[.lptr (rTn.v s) 0],65,false⟩),(1,.row ⟨[.bool false],4,false⟩),(2,.row ⟨[.str s.p_p,.str s.p_e,.bool s.p_l,(Cod.list mv0 rMv).v s.p_m],25,false⟩),(3,.dfr false),(4,.loop .ready none 20 [(1,.ptr 0 0),(2,.ptr 1 0),(8,.fn 148 [.ptr 2 0])] [9] (subC (oM Tryz.f87) [1,0,1,0,0]) (subC (oM Tryz.f87) [1,0,1,0,1]))] 128 []
noncomputable def yK (s:Tn):(l_:aq8)→Tr Bool aq8 (az2 s) cB.v
 | .k200002 x1=>(.i (decide (x1<((s.p_m.length:Nat):Int))) (.i (inR x1 s.p_m.length) (.i (decide (0<(s.p_m.getD x1.toNat mv0).f)) (.i ((w6 ((s.p_m.getD x1.toNat mv0).f-1))==0) (.i (s.s_b1==0) (.r true) (.g (.k200002 (w6 (x1+1))))) (.i ((w6 ((s.p_m.getD x1.toNat mv0).f-1))==1) (.i (s.s_b2==0) (.r true) (.g (.k200002 (w6 (x1+1))))) (.i ((w6 ((s.p_m.getD x1.toNat mv0).f-1))==2) (.i (s.s_b3==0) (.r true) (.g (.k200002 (w6 (x1+1))))) .n))) (.g (.k200002 (w6 (x1+1))))) .n) (.r false))
def Tz125 (s:Tn):Tr Bool aq8 (az2 s) cB.v:=(.g (.k200002 0))
def ajk (s:Tn):=Tr.lp (yK s)
theorem ajj {s:Tn}{n:Nat}{l_:aq8}:ajk s (n+1) l_=(yK s l_).d (ajk s n):=rfl
def Ez125 (n:Nat) (s:Tn):=(Tz125 s).d (ajk s n)
def akW (x:Tn×Unit):=Ez125 (x.1.p_m.length+64) x.1
def wz125:Wk (Tn×Unit) Bool aq8 cB.v:=⟨fun x=>az2 x.1,uz125,fun x=>Tz125 x.1,fun x=>yK x.1⟩
def Kz125:=a4 87 Tryz.func87 [] noZ ⟨20,(lookA [(100001,⟨[0,6,7,8],[0,1,2,3,4],5,[],[],[],[]⟩)]),noL,(lookA [(2,⟨148,100000,3,22,[],[1,2,8]⟩)])⟩ 128 Az125 cB akW wz125 (fun x=>x.1.p_m.length+64)
def Az126:=(Row.cons (Cod.ptr rTn) Row.nil)
noncomputable def Tz126 (s:Tn):Tr Bool Empty noS cB.v:=(.c ayV akK (s,()) fun r10=>(.i (!r10.2.1) (.r false) (.i (decide (s.p_e=[75])) (.c ajl vV ([107,102,103,112,116],r10.1.h,()) fun r11=>(.i (!r11) (.r true) (.i (decide (r10.1.h=[97])) (.r (!(r10.1.t==1))) (.r false)))) (.i (decide (s.p_e=[87])) (.c ajl vV ([97],r10.1.h,()) fun r12=>(.i (!r12) (.r true) (.i (decide (r10.1.h=[97])) (.r (!(r10.1.t==1))) (.r false)))) (.i (decide (s.p_e=[72])) (.c ajl vV ([97],r10.1.h,()) fun r13=>(.i (!r13) (.r true) (.i (decide (r10.1.h=[97])) (.r (!(r10.1.t==1))) (.r false)))) (.i (decide (s.p_e=[73])) (.c ajl vV ([97],r10.1.h,()) fun r14=>(.i (!r14) (.r true) (.i (decide (r10.1.h=[97])) (.r (!(r10.1.t==1))) (.r false)))) (.i (decide (s.p_e=[88])) (.c ajl vV ([98,116,111,102,99,103],r10.1.h,()) fun r15=>(.i (!r15) (.r true) (.i (decide (r10.1.h=[97])) (.r (!(r10.1.t==1))) (.r false)))) (.i (decide (s.p_e=[78])) (.c ajl vV ([110],r10.1.h,()) fun r16=>(.i (!r16) (.r true) (.i (decide (r10.1.h=[97])) (.r (!(r10.1.t==1))) (.r false)))) (.i (decide (s.p_e=[89])) (.c ajl vV ([121],r10.1.h,()) fun r17=>(.i (!r17) (.r true) (.i (decide (r10.1.h=[97])) (.r (!(r10.1.t==1))) (.r false)))) (.c ajl vV ([],r10.1.h,()) fun r18=>(.i (!r18) (.r true) (.i (decide (r10.1.h=[97])) (.r (!(r10.1.t==1))) (.r false)))))))))))))
def Ez126 (s:Tn):=(Tz126 s).d noE
def akV (x:Tn×Unit):=Ez126 x.1
def wz126:Wk (Tn×Unit) Bool Empty cB.v:=wk0 fun x=>Tz126 x.1
def Kz126:=a4 88 Tryz.func88 [Kz179,K181] noZ ⟨36,noL,noL,noL⟩ 128 Az126 cB akV wz126 (fun _=>0)
def aqa:=(Row.cons (Cod.ptr rTn) (Row.cons cS Row.nil))
def Tz182 (s:Tn) (t:List Nat):Tr Bool Empty noS cB.v:=(.c ayV akK (s,()) fun r3=>(.i r3.2.1 (.i r3.1.o (.c ajl vV (t,r3.1.h,()) fun r4=>(.r r4)) (.r false)) (.r false)))
def Ez182 (s:Tn) (t:List Nat):=(Tz182 s t).d noE
def yP (x:Tn×(List Nat)×Unit):=Ez182 x.1 x.2.1
def wz182:Wk (Tn×(List Nat)×Unit) Bool Empty cB.v:=wk0 fun x=>Tz182 x.1 x.2.1
def Kz182:=a4 125 Tryz.func125 [Kz179,K181] noZ ⟨23,noL,noL,noL⟩ 128 aqa cB yP wz182 (fun _=>0)
def Az127:=(Row.cons (Cod.ptr rTn) Row.nil)
def Tz127 (s:Tn):Tr Bool Empty noS cB.v:=(.c jO iL (s,[75],()) fun r3=>(.i r3 (.c aqa yP (s,[107],()) fun r4=>(.i (!r4) (.i (!(s.s_b1==0)) (.r (decide (s.s_outs<2))) (.r false)) (.r false))) (.r false)))
def Ez127 (s:Tn):=(Tz127 s).d noE
def akU (x:Tn×Unit):=Ez127 x.1
def wz127:Wk (Tn×Unit) Bool Empty cB.v:=wk0 fun x=>Tz127 x.1
def Kz127:=a4 89 Tryz.func89 [axc,Kz182] noZ ⟨27,noL,noL,noL⟩ 128 Az127 cB akU wz127 (fun _=>0)
def Az128:=(Row.cons (Cod.ptr rTn) Row.nil)
def Tz128 (s:Tn):Tr Bool Empty noS cB.v:=(.c jO iL (s,[89],()) fun r2=>(.i r2 (.i (s.s_outs==2) (.r true) (.i (s.s_b1==0) (.r true) (.r (s.s_b2==0)))) (.r false)))
def Ez128 (s:Tn):=(Tz128 s).d noE
def akT (x:Tn×Unit):=Ez128 x.1
def wz128:Wk (Tn×Unit) Bool Empty cB.v:=wk0 fun x=>Tz128 x.1
def Kz128:=a4 90 Tryz.func90 [axc] noZ ⟨31,noL,noL,noL⟩ 128 Az128 cB akT wz128 (fun _=>0)
def Az183:=(Row.cons (Cod.ptr rTn) (Row.cons (Cod.agg rMv) Row.nil))
noncomputable def Tz183 (s:Tn) (t:Mv):Tr Bool Empty noS cB.v:=(.i (decide (t.h=[102])) (.i (t.f==0) (.i s.f0 (.c jO iL (s,[88,75],()) fun r18=>(.i r18 (.c aqa yP (s,[99,107],()) fun r19=>(.r (!r19))) (.r false))) (.r false)) (.i (t.f==1) (.i s.f1 (.c jO iL (s,[88,75],()) fun r16=>(.i r16 (.c aqa yP (s,[99,107],()) fun r17=>(.r (!r17))) (.r false))) (.r false)) (.i (t.f==2) (.i s.f2 (.c jO iL (s,[88,75],()) fun r14=>(.i r14 (.c aqa yP (s,[99,107],()) fun r15=>(.r (!r15))) (.r false))) (.r false)) (.i (t.f==3) (.i s.f3 (.c jO iL (s,[88,75],()) fun r12=>(.i r12 (.c aqa yP (s,[99,107],()) fun r13=>(.r (!r13))) (.r false))) (.r false)) .n)))) (.i (decide (t.h=[100])) (.c jO iL (s,[89],()) fun r20=>(.i r20 (.r true) (.c aqa yP (s,[99],()) fun r21=>(.r r21)))) (.c jO iL (s,[72,73,78],()) fun r22=>(.r (!r22)))))
def Ez183 (s:Tn) (t:Mv):=(Tz183 s t).d noE
def Sz183 (x:Tn×Mv×Unit):=Ez183 x.1 x.2.1
def wz183:Wk (Tn×Mv×Unit) Bool Empty cB.v:=wk0 fun x=>Tz183 x.1 x.2.1
def Kz183:=a4 126 Tryz.func126 [axc,Kz182] noZ ⟨36,noL,noL,noL⟩ 128 Az183 cB Sz183 wz183 (fun _=>0)
def Az184:=(Row.cons (Cod.ptr rTn) (Row.cons (Cod.agg rMv) Row.nil))
noncomputable def Tz184 (s:Tn) (t:Mv):Tr Bool Empty noS cB.v:=(.i (decide (t.h=[98])) (.c jO iL (s,[88,89],()) fun r9=>(.r r9)) (.i (decide (t.h=[97])) (.c jO iL (s,[87,72,73],()) fun r10=>(.i r10 (.i (t.f==0) (.i s.f0 (.r (t.t==(w6 (t.f+1)))) (.r false)) (.i (t.f==1) (.i s.f1 (.r (t.t==(w6 (t.f+1)))) (.r false)) (.i (t.f==2) (.i s.f2 (.r (t.t==(w6 (t.f+1)))) (.r false)) (.i (t.f==3) (.i s.f3 (.r (t.t==(w6 (t.f+1)))) (.r false)) .n)))) (.r false))) (.i (decide (t.h=[115])) (.c aqb sL (s,()) fun r11=>(.i r11 (.r true) (.c jO iL (s,[75,87],()) fun r12=>(.r r12)))) (.i (decide (t.h=[112])) (.c aqb sL (s,()) fun r13=>(.i r13 (.r (!decide (s.p_p=[]))) (.c jO iL (s,[75,87],()) fun r14=>(.i r14 (.r (!decide (s.p_p=[]))) (.r false))))) (.i (decide (t.h=[107])) (.c aqb sL (s,()) fun r15=>(.r r15)) (.c jO iL (s,[72,73,78],()) fun r16=>(.r (!r16))))))))
def Ez184 (s:Tn) (t:Mv):=(Tz184 s t).d noE
def awx (x:Tn×Mv×Unit):=Ez184 x.1 x.2.1
def wz184:Wk (Tn×Mv×Unit) Bool Empty cB.v:=wk0 fun x=>Tz184 x.1 x.2.1
def Kz184:=a4 127 Tryz.func127 [ayN,axc] noZ ⟨63,noL,noL,noL⟩ 128 Az184 cB awx wz184 (fun _=>0)
def Az129:=(Row.cons (Cod.ptr rTn) Row.nil)
inductive aq7 where
 | k200002 (x3:Int)
def uz129:aq7→Nat
 | .k200002 _=>200002
noncomputable def az1 (s:Tn):aq7→D
 | .k200002 x3=>mE [(0,.raw (.yieldf 4)),(6,(Cod.list mv0 rMv).v s.p_m),(7,.int .i64 ((s.p_m.length:Nat):Int)),(8,.int .i64 x3)] [] none [[(1,.ptr 0 0),(2,.ptr 1 0),(8,.fn 148 [.ptr 2 0])]] 5 [(0,.row ⟨[.lptr (rTn.v s) 0],65,false⟩),(1,.row ⟨[.bool false],4,false⟩),(2,.row ⟨[.str s.p_p,.str s.p_e,.bool s.p_l,(Cod.list mv0 rMv).v s.p_m],25,false⟩),(3,.dfr false),(4,.loop .ready none 29 [(1,.ptr 0 0),(2,.ptr 1 0),(8,.fn 148 [.ptr 2 0])] [9] (subC (oM Tryz.f91) [1,0,1,0,0]) (subC (oM Tryz.f91) [1,0,1,0,1]))] 128 []
noncomputable def yJ (s:Tn):(l_:aq7)→Tr Bool aq7 (az1 s) cB.v
 | .k200002 x3=>(.i (decide (x3<((s.p_m.length:Nat):Int))) (.i (inR x3 s.p_m.length) (.i (decide (0<(s.p_m.getD x3.toNat mv0).f)) (.i ((s.p_m.getD x3.toNat mv0).o) (.c Az183 Sz183 (s,(s.p_m.getD x3.toNat mv0),()) fun r8=>(.i (!r8) (.r true) (.i (!(s.p_m.getD x3.toNat mv0).o) (.c Az184 awx (s,(s.p_m.getD x3.toNat mv0),()) fun r9=>(.i (!r9) (.r true) (.g (.k200002 (w6 (x3+1)))))) (.g (.k200002 (w6 (x3+1))))))) (.i (!(s.p_m.getD x3.toNat mv0).o) (.c Az184 awx (s,(s.p_m.getD x3.toNat mv0),()) fun r10=>(.i (!r10) (.r true) (.g (.k200002 (w6 (x3+1)))))) (.g (.k200002 (w6 (x3+1)))))) (.g (.k200002 (w6 (x3+1))))) .n) (.r false))
def Tz129 (s:Tn):Tr Bool aq7 (az1 s) cB.v:=(.g (.k200002 0))
def aji (s:Tn):=Tr.lp (yJ s)
theorem ajh {s:Tn}{n:Nat}{l_:aq7}:aji s (n+1) l_=(yJ s l_).d (aji s n):=rfl
def Ez129 (n:Nat) (s:Tn):=(Tz129 s).d (aji s n)
def akS (x:Tn×Unit):=Ez129 (x.1.p_m.length+64) x.1
def wz129:Wk (Tn×Unit) Bool aq7 cB.v:=⟨fun x=>az1 x.1,uz129,fun x=>Tz129 x.1,fun x=>yJ x.1⟩
def Kz129:=a4 91 Tryz.func91 [Kz183,Kz184] noZ ⟨29,(lookA [(100001,⟨[0,6,7,8],[0,1,2,3,4],5,[],[],[],[]⟩)]),noL,(lookA [(2,⟨148,100000,3,22,[],[1,2,8]⟩)])⟩ 128 Az129 cB akS wz129 (fun x=>x.1.p_m.length+64)
def Az186:=(Row.cons cI Row.nil)
def Tz186 (s:Int):Tr Bool Empty noS cB.v:=(.r (!(s==0)))
def Ez186 (s:Int):=(Tz186 s).d noE
def Sz186 (x:Int×Unit):=Ez186 x.1
def wz186:Wk (Int×Unit) Bool Empty cB.v:=wk0 fun x=>Tz186 x.1
def Kz186:=a4 129 Tryz.func129 [] noZ ⟨5,noL,noL,noL⟩ 128 Az186 cB Sz186 wz186 (fun _=>0)
def yV:=(Row.cons (Cod.list 0 vZ) (Row.cons (Cod.fn0 129) Row.nil))
inductive fI where
 | k6 (x2:Int) (x3:Int)
def axz:fI→Nat
 | .k6 _ _=>6
def mM (s:List (Int)) (t:Unit):fI→D
 | .k6 x2 x3=>mD [(1,.raw (.func 129 [])),(5,.int .i64 x2),(8,(Cod.list 0 vZ).v s),(9,.int .i64 ((s.length:Nat):Int)),(10,.int .i64 x3)] 0 [] 128 []
noncomputable def j8 (s:List (Int)) (t:Unit):(l_:fI)→Tr Int fI (mM s t) cI.v
 | .k6 x2 x3=>(.i (decide (x3<((s.length:Nat):Int))) (.i (inR x3 s.length) (.c Az186 Sz186 ((s.getD x3.toNat 0),()) fun r5=>(.i r5 (.g (.k6 (w6 (x2+1)) (w6 (x3+1)))) (.g (.k6 x2 (w6 (x3+1)))))) .n) (.r x2))
def rM (s:List (Int)) (t:Unit):Tr Int fI (mM s t) cI.v:=(.g (.k6 0 0))
def j9 (s:List (Int)) (t:Unit):=Tr.lp (j8 s t)
theorem yR {s:List (Int)}{t:Unit}{n:Nat}{l_:fI}:j9 s t (n+1) l_=(j8 s t l_).d (j9 s t n):=rfl
def rT (n:Nat) (s:List (Int)) (t:Unit):=(rM s t).d (j9 s t n)
def rP (x:(List (Int))×Unit×Unit):=rT (x.1.length+64) x.1 x.2.1
def axp:Wk ((List (Int))×Unit×Unit) Int fI cI.v:=⟨fun x=>mM x.1 x.2.1,axz,fun x=>rM x.1 x.2.1,fun x=>j8 x.1 x.2.1⟩
def ak4:=a4 128 Tryz.func128 [Kz186] noZ ⟨21,(lookA [(3,⟨[1,5,8,9,10],[],0,[],[],[],[]⟩)]),noL,noL⟩ 128 yV cI rP axp (fun x=>x.1.length+64)
def Az130:=(Row.cons (Cod.ptr rTn) Row.nil)
inductive aq6 where
 | k200002 (x1:Int) (x2:Bool) (x3:Int)
def uz130:aq6→Nat
 | .k200002 _ _ _=>200002
noncomputable def az0 (s:Tn):aq6→D
 | .k200002 x1 x2 x3=>mE [(0,.raw (.yieldf 4)),(6,(Cod.list mv0 rMv).v s.p_m),(7,.int .i64 ((s.p_m.length:Nat):Int)),(8,.int .i64 x1)] [] none [[(0,.lptr (rTn.v s) 0),(2,.bool false),(3,.ptr 0 0),(4,.ptr 1 0),(10,.fn 148 [.ptr 2 0])]] 5 [(0,.row ⟨[.bool x2],4,false⟩),(1,.row ⟨[.int .i64 x3],3,false⟩),(2,.row ⟨[.str s.p_p,.str s.p_e,.bool s.p_l,(Cod.list mv0 rMv).v s.p_m],25,false⟩),(3,.dfr false),(4,.loop .ready none 34 [(0,.lptr (rTn.v s) 0),(2,.bool false),(3,.ptr 0 0),(4,.ptr 1 0),(10,.fn 148 [.ptr 2 0])] [11] (subC (oM Tryz.f92) [1,1,0,1,0,0]) (subC (oM Tryz.f92) [1,1,0,1,0,1]))] 128 []
noncomputable def yI (s:Tn):(l_:aq6)→Tr Bool aq6 (az0 s) cB.v
 | .k200002 x1 x2 x3=>(.i (decide (x1<((s.p_m.length:Nat):Int))) (.i (inR x1 s.p_m.length) (.i (decide (0<(s.p_m.getD x1.toNat mv0).f)) (.i (decide (((s.p_m.getD x1.toNat mv0).h)=[107])) (.i ((s.p_m.getD x1.toNat mv0).t==(w6 ((s.p_m.getD x1.toNat mv0).f+1))) (.g (.k200002 (w6 (x1+1)) true (w6 (x3+1)))) (.g (.k200002 (w6 (x1+1)) true x3))) (.g (.k200002 (w6 (x1+1)) x2 x3))) (.g (.k200002 (w6 (x1+1)) x2 x3))) .n) (.i x2 (.c yV rP ([s.s_b1,s.s_b2,s.s_b3],(),()) fun r5=>(.r (decide (x3<r5)))) (.r false)))
def Tz130 (s:Tn):Tr Bool aq6 (az0 s) cB.v:=(.g (.k200002 0 false 0))
def ajg (s:Tn):=Tr.lp (yI s)
theorem ajf {s:Tn}{n:Nat}{l_:aq6}:ajg s (n+1) l_=(yI s l_).d (ajg s n):=rfl
def Ez130 (n:Nat) (s:Tn):=(Tz130 s).d (ajg s n)
def akR (x:Tn×Unit):=Ez130 (x.1.p_m.length+64) x.1
def wz130:Wk (Tn×Unit) Bool aq6 cB.v:=⟨fun x=>az0 x.1,uz130,fun x=>Tz130 x.1,fun x=>yI x.1⟩
def Kz130:=a4 92 Tryz.func92 [ak4] noZ ⟨34,(lookA [(100001,⟨[0,6,7,8],[0,1,2,3,4],5,[],[],[],[]⟩)]),noL,(lookA [(3,⟨148,100000,3,22,[],[0,2,3,4,10]⟩)])⟩ 128 Az130 cB akR wz130 (fun x=>x.1.p_m.length+64)
def Az131:=(Row.cons (Cod.ptr rTn) Row.nil)
inductive aq5 where
 | k10 (x2:Int) (x3:Bool) (x4:Bool) (x5:Bool) (x6:Bool)
def uz131:aq5→Nat
 | .k10 _ _ _ _ _=>10
noncomputable def azZ (s:Tn):aq5→D
 | .k10 x2 x3 x4 x5 x6=>mD [(3,.ptr 0 0),(17,(Cod.list mv0 rMv).v s.p_m),(18,.int .i64 ((s.p_m.length:Nat):Int)),(19,.int .i64 x2)] 1 [(0,.row ⟨[.bool x6,.bool x5,.bool x4,.bool x3],87,false⟩)] 128 []
noncomputable def yH (s:Tn):(l_:aq5)→Tr Bool aq5 (azZ s) cB.v
 | .k10 x2 x3 x4 x5 x6=>(.i (decide (x2<((s.p_m.length:Nat):Int))) (.i (inR x2 s.p_m.length) (.i (!(s.p_m.getD x2.toNat mv0).o) (.i ((s.p_m.getD x2.toNat mv0).f==0) (.g (.k10 (w6 (x2+1)) x3 x4 x5 false)) (.i ((s.p_m.getD x2.toNat mv0).f==1) (.g (.k10 (w6 (x2+1)) x3 x4 false x6)) (.i ((s.p_m.getD x2.toNat mv0).f==2) (.g (.k10 (w6 (x2+1)) x3 false x5 x6)) (.i ((s.p_m.getD x2.toNat mv0).f==3) (.g (.k10 (w6 (x2+1)) false x4 x5 x6)) .n)))) (.g (.k10 (w6 (x2+1)) x3 x4 x5 x6))) .n) (.r (!((x6==false)&&((x5==false)&&((x4==false)&&((x3==false)&&true)))))))
def Tz131 (s:Tn):Tr Bool aq5 (azZ s) cB.v:=(.c jO iL (s,[87,72,73],()) fun r8=>(.i (!r8) (.r false) (.g (.k10 0 s.f3 s.f2 s.f1 s.f0))))
def yS (s:Tn):=Tr.lp (yH s)
theorem aje {s:Tn}{n:Nat}{l_:aq5}:yS s (n+1) l_=(yH s l_).d (yS s n):=rfl
def Ez131 (n:Nat) (s:Tn):=(Tz131 s).d (yS s n)
def akQ (x:Tn×Unit):=Ez131 (x.1.p_m.length+64) x.1
def wz131:Wk (Tn×Unit) Bool aq5 cB.v:=⟨fun x=>azZ x.1,uz131,fun x=>Tz131 x.1,fun x=>yH x.1⟩
def Kz131:=a4 93 Tryz.func93 [axc] noZ ⟨33,(lookA [(5,⟨[3,17,18,19],[0],1,[],[],[],[]⟩)]),noL,noL⟩ 128 Az131 cB akQ wz131 (fun x=>x.1.p_m.length+64)
def Az152:=(Row.cons (Cod.ptr rTn) Row.nil)
inductive aq1 where
 | k6 (x1:Int) (x2:Int) (x3:Int) (x4:Int) (x5:Int)
 | k18 (x6:Int) (x7:Int) (x8:Int) (x9:Int) (x10:Int)
def uz152:aq1→Nat
 | .k6 _ _ _ _ _=>6
 | .k18 _ _ _ _ _=>18
noncomputable def azT (s:Tn):aq1→D
 | .k6 x1 x2 x3 x4 x5=>mD [(0,.lptr (rTn.v s) 0),(2,.ptr 0 0),(3,.ptr 1 0),(12,.agg [.int .i64 s.s_b1,.int .i64 s.s_b2,.int .i64 s.s_b3]),(13,.int .i64 x1)] 2 [(0,.row ⟨[.int .i64 0,.int .i64 0,.int .i64 0,.int .i64 0],131,false⟩),(1,.row ⟨[.int .i64 x5,.int .i64 x2,.int .i64 x4,.int .i64 x3],131,false⟩)] 128 []
 | .k18 x6 x7 x8 x9 x10=>mD [(2,.ptr 0 0),(3,.ptr 1 0),(29,(Cod.list mv0 rMv).v s.p_m),(30,.int .i64 ((s.p_m.length:Nat):Int)),(31,.int .i64 x10)] 2 [(0,.row ⟨[.int .i64 0,.int .i64 0,.int .i64 0,.int .i64 0],131,false⟩),(1,.row ⟨[.int .i64 x7,.int .i64 x6,.int .i64 x8,.int .i64 x9],131,false⟩)] 128 []
noncomputable def tW (s:Tn):(l_:aq1)→Tr ((Int)×(Int)×(Int)×(Int)×Unit) aq1 (azT s) (Cod.agg (Row.cons cI (Row.cons cI (Row.cons cI (Row.cons cI Row.nil))))).v
 | .k6 x1 x2 x3 x4 x5=>(.i (decide (x1<3)) (.i (x1==0) (.i (!(s.s_b1==0)) (.i ((w6 (x1+1))==0) (.g (.k6 (w6 (x1+1)) x2 x3 x4 (w6 (x1+1)))) (.i ((w6 (x1+1))==1) (.g (.k6 (w6 (x1+1)) (w6 (x1+1)) x3 x4 x5)) (.i ((w6 (x1+1))==2) (.g (.k6 (w6 (x1+1)) x2 x3 (w6 (x1+1)) x5)) (.i ((w6 (x1+1))==3) (.g (.k6 (w6 (x1+1)) x2 (w6 (x1+1)) x4 x5)) .n)))) (.g (.k6 (w6 (x1+1)) x2 x3 x4 x5))) (.i (x1==1) (.i (!(s.s_b2==0)) (.i ((w6 (x1+1))==0) (.g (.k6 (w6 (x1+1)) x2 x3 x4 (w6 (x1+1)))) (.i ((w6 (x1+1))==1) (.g (.k6 (w6 (x1+1)) (w6 (x1+1)) x3 x4 x5)) (.i ((w6 (x1+1))==2) (.g (.k6 (w6 (x1+1)) x2 x3 (w6 (x1+1)) x5)) (.i ((w6 (x1+1))==3) (.g (.k6 (w6 (x1+1)) x2 (w6 (x1+1)) x4 x5)) .n)))) (.g (.k6 (w6 (x1+1)) x2 x3 x4 x5))) (.i (x1==2) (.i (!(s.s_b3==0)) (.i ((w6 (x1+1))==0) (.g (.k6 (w6 (x1+1)) x2 x3 x4 (w6 (x1+1)))) (.i ((w6 (x1+1))==1) (.g (.k6 (w6 (x1+1)) (w6 (x1+1)) x3 x4 x5)) (.i ((w6 (x1+1))==2) (.g (.k6 (w6 (x1+1)) x2 x3 (w6 (x1+1)) x5)) (.i ((w6 (x1+1))==3) (.g (.k6 (w6 (x1+1)) x2 (w6 (x1+1)) x4 x5)) .n)))) (.g (.k6 (w6 (x1+1)) x2 x3 x4 x5))) .n))) (.g (.k18 x2 x5 x4 x3 0)))
 | .k18 x6 x7 x8 x9 x10=>(.i (decide (x10<((s.p_m.length:Nat):Int))) (.i (inR x10 s.p_m.length) (.i ((s.p_m.getD x10.toNat mv0).f==0) (.i ((s.p_m.getD x10.toNat mv0).o) (.i ((s.p_m.getD x10.toNat mv0).f==0) (.g (.k18 x6 0 x8 x9 (w6 (x10+1)))) (.i ((s.p_m.getD x10.toNat mv0).f==1) (.g (.k18 0 (s.p_m.getD x10.toNat mv0).t x8 x9 (w6 (x10+1)))) (.i ((s.p_m.getD x10.toNat mv0).f==2) (.g (.k18 x6 (s.p_m.getD x10.toNat mv0).t 0 x9 (w6 (x10+1)))) (.i ((s.p_m.getD x10.toNat mv0).f==3) (.g (.k18 x6 (s.p_m.getD x10.toNat mv0).t x8 0 (w6 (x10+1)))) .n)))) (.g (.k18 x6 (s.p_m.getD x10.toNat mv0).t x8 x9 (w6 (x10+1))))) (.i ((s.p_m.getD x10.toNat mv0).f==1) (.i ((s.p_m.getD x10.toNat mv0).o) (.i ((s.p_m.getD x10.toNat mv0).f==0) (.g (.k18 (s.p_m.getD x10.toNat mv0).t 0 x8 x9 (w6 (x10+1)))) (.i ((s.p_m.getD x10.toNat mv0).f==1) (.g (.k18 0 x7 x8 x9 (w6 (x10+1)))) (.i ((s.p_m.getD x10.toNat mv0).f==2) (.g (.k18 (s.p_m.getD x10.toNat mv0).t x7 0 x9 (w6 (x10+1)))) (.i ((s.p_m.getD x10.toNat mv0).f==3) (.g (.k18 (s.p_m.getD x10.toNat mv0).t x7 x8 0 (w6 (x10+1)))) .n)))) (.g (.k18 (s.p_m.getD x10.toNat mv0).t x7 x8 x9 (w6 (x10+1))))) (.i ((s.p_m.getD x10.toNat mv0).f==2) (.i ((s.p_m.getD x10.toNat mv0).o) (.i ((s.p_m.getD x10.toNat mv0).f==0) (.g (.k18 x6 0 (s.p_m.getD x10.toNat mv0).t x9 (w6 (x10+1)))) (.i ((s.p_m.getD x10.toNat mv0).f==1) (.g (.k18 0 x7 (s.p_m.getD x10.toNat mv0).t x9 (w6 (x10+1)))) (.i ((s.p_m.getD x10.toNat mv0).f==2) (.g (.k18 x6 x7 0 x9 (w6 (x10+1)))) (.i ((s.p_m.getD x10.toNat mv0).f==3) (.g (.k18 x6 x7 (s.p_m.getD x10.toNat mv0).t 0 (w6 (x10+1)))) .n)))) (.g (.k18 x6 x7 (s.p_m.getD x10.toNat mv0).t x9 (w6 (x10+1))))) (.i ((s.p_m.getD x10.toNat mv0).f==3) (.i ((s.p_m.getD x10.toNat mv0).o) (.i ((s.p_m.getD x10.toNat mv0).f==0) (.g (.k18 x6 0 x8 (s.p_m.getD x10.toNat mv0).t (w6 (x10+1)))) (.i ((s.p_m.getD x10.toNat mv0).f==1) (.g (.k18 0 x7 x8 (s.p_m.getD x10.toNat mv0).t (w6 (x10+1)))) (.i ((s.p_m.getD x10.toNat mv0).f==2) (.g (.k18 x6 x7 0 (s.p_m.getD x10.toNat mv0).t (w6 (x10+1)))) (.i ((s.p_m.getD x10.toNat mv0).f==3) (.g (.k18 x6 x7 x8 0 (w6 (x10+1)))) .n)))) (.g (.k18 x6 x7 x8 (s.p_m.getD x10.toNat mv0).t (w6 (x10+1))))) .n)))) .n) (.r (x7,x6,x8,x9,())))
def Tz152 (s:Tn):Tr ((Int)×(Int)×(Int)×(Int)×Unit) aq1 (azT s) (Cod.agg (Row.cons cI (Row.cons cI (Row.cons cI (Row.cons cI Row.nil))))).v:=(.g (.k6 0 0 0 0 0))
def tY (s:Tn):=Tr.lp (tW s)
theorem vX {s:Tn}{n:Nat}{l_:aq1}:tY s (n+1) l_=(tW s l_).d (tY s n):=rfl
def Ez152 (n:Nat) (s:Tn):=(Tz152 s).d (tY s n)
def Sz152 (x:Tn×Unit):=Ez152 (x.1.p_m.length+64) x.1
def wz152:Wk (Tn×Unit) ((Int)×(Int)×(Int)×(Int)×Unit) aq1 (Cod.agg (Row.cons cI (Row.cons cI (Row.cons cI (Row.cons cI Row.nil))))).v:=⟨fun x=>azT x.1,uz152,fun x=>Tz152 x.1,fun x=>tW x.1⟩
noncomputable def Kz152:=a4 83 Tryz.func83 [] noZ ⟨47,(lookA [(3,⟨[0,2,3,12,13],[0,1],2,[],[],[],[]⟩),(9,⟨[2,3,29,30,31],[0,1],2,[],[],[],[]⟩)]),noL,noL⟩ 128 Az152 (Cod.agg (Row.cons cI (Row.cons cI (Row.cons cI (Row.cons cI Row.nil))))) Sz152 wz152 (fun x=>x.1.p_m.length+64)
def Az132:=(Row.cons (Cod.ptr rTn) Row.nil)
inductive ax5 where
 | k6_0 (x2:Int) (x3:Int) (x4:Int) (x5:Int) (x6:Int) (x7:Int) (x8:Int) (x9:Int)
 | k12_0 (x10:Int) (x11:Int) (x12:Int) (x13:Int) (x14:Int) (x15:Int) (x16:Int) (x17:Int) (x18:Int)
 | k6_1 (x19:Int) (x20:Int) (x21:Int) (x22:Int) (x23:Int) (x24:Int) (x25:Int) (x26:Int)
 | k12_1 (x27:Int) (x28:Int) (x29:Int) (x30:Int) (x31:Int) (x32:Int) (x33:Int) (x34:Int) (x35:Int)
 | k12_2 (x36:Int) (x37:Int) (x38:Int) (x39:Int) (x40:Int) (x41:Int) (x42:Int) (x43:Int) (x44:Int)
 | k6_2 (x45:Int) (x46:Int) (x47:Int) (x48:Int) (x49:Int) (x50:Int) (x51:Int) (x52:Int)
 | k12_3 (x53:Int) (x54:Int) (x55:Int) (x56:Int) (x57:Int) (x58:Int) (x59:Int) (x60:Int) (x61:Int)
 | k12_4 (x62:Int) (x63:Int) (x64:Int) (x65:Int) (x66:Int) (x67:Int) (x68:Int) (x69:Int) (x70:Int)
 | k12_5 (x71:Int) (x72:Int) (x73:Int) (x74:Int) (x75:Int) (x76:Int) (x77:Int) (x78:Int) (x79:Int)
 | k6_3 (x80:Int) (x81:Int) (x82:Int) (x83:Int) (x84:Int) (x85:Int) (x86:Int) (x87:Int)
 | k12_6 (x88:Int) (x89:Int) (x90:Int) (x91:Int) (x92:Int) (x93:Int) (x94:Int) (x95:Int) (x96:Int)
 | k12_7 (x97:Int) (x98:Int) (x99:Int) (x100:Int) (x101:Int) (x102:Int) (x103:Int) (x104:Int) (x105:Int)
 | k12_8 (x106:Int) (x107:Int) (x108:Int) (x109:Int) (x110:Int) (x111:Int) (x112:Int) (x113:Int) (x114:Int)
 | k12_9 (x115:Int) (x116:Int) (x117:Int) (x118:Int) (x119:Int) (x120:Int) (x121:Int) (x122:Int) (x123:Int)
 | k6_4 (x124:Int) (x125:Int) (x126:Int) (x127:Int) (x128:Int) (x129:Int) (x130:Int) (x131:Int)
noncomputable def uz132:ax5→Nat
 | .k6_0 _ _ _ _ _ _ _ _=>6
 | .k12_0 _ _ _ _ _ _ _ _ _=>12
 | .k6_1 _ _ _ _ _ _ _ _=>6
 | .k12_1 _ _ _ _ _ _ _ _ _=>12
 | .k12_2 _ _ _ _ _ _ _ _ _=>12
 | .k6_2 _ _ _ _ _ _ _ _=>6
 | .k12_3 _ _ _ _ _ _ _ _ _=>12
 | .k12_4 _ _ _ _ _ _ _ _ _=>12
 | .k12_5 _ _ _ _ _ _ _ _ _=>12
 | .k6_3 _ _ _ _ _ _ _ _=>6
 | .k12_6 _ _ _ _ _ _ _ _ _=>12
 | .k12_7 _ _ _ _ _ _ _ _ _=>12
 | .k12_8 _ _ _ _ _ _ _ _ _=>12
 | .k12_9 _ _ _ _ _ _ _ _ _=>12
 | .k6_4 _ _ _ _ _ _ _ _=>6
noncomputable def azY (s:Tn):ax5→D
 | .k6_0 x2 x3 x4 x5 x6 x7 x8 x9=>mD [(3,.ptr 0 0),(10,.agg [.int .i64 x2,.int .i64 x3,.int .i64 x4,.int .i64 x5]),(11,.int .i64 0)] 1 [(0,.row ⟨[.int .i64 x6,.int .i64 x7,.int .i64 x8,.int .i64 x9],131,false⟩)] 128 []
 | .k12_0 x10 x11 x12 x13 x14 x15 x16 x17 x18=>mD [(3,.ptr 0 0),(5,.int .i64 x10),(10,.agg [.int .i64 x11,.int .i64 x12,.int .i64 x13,.int .i64 x14]),(11,.int .i64 0),(16,.sl 0 0 0 (.exact 4)),(17,.int .i64 0),(18,.int .i64 0)] 1 [(0,.row ⟨[.int .i64 x15,.int .i64 x16,.int .i64 x17,.int .i64 x18],131,false⟩)] 128 []
 | .k6_1 x19 x20 x21 x22 x23 x24 x25 x26=>mD [(3,.ptr 0 0),(10,.agg [.int .i64 x19,.int .i64 x20,.int .i64 x21,.int .i64 x22]),(11,.int .i64 1)] 1 [(0,.row ⟨[.int .i64 x23,.int .i64 x24,.int .i64 x25,.int .i64 x26],131,false⟩)] 128 []
 | .k12_1 x27 x28 x29 x30 x31 x32 x33 x34 x35=>mD [(3,.ptr 0 0),(5,.int .i64 x27),(10,.agg [.int .i64 x28,.int .i64 x29,.int .i64 x30,.int .i64 x31]),(11,.int .i64 1),(16,.sl 0 0 1 (.exact 4)),(17,.int .i64 1),(18,.int .i64 0)] 1 [(0,.row ⟨[.int .i64 x32,.int .i64 x33,.int .i64 x34,.int .i64 x35],131,false⟩)] 128 []
 | .k12_2 x36 x37 x38 x39 x40 x41 x42 x43 x44=>mD [(3,.ptr 0 0),(5,.int .i64 x36),(10,.agg [.int .i64 x37,.int .i64 x38,.int .i64 x39,.int .i64 x40]),(11,.int .i64 1),(16,.sl 0 0 1 (.exact 4)),(17,.int .i64 1),(18,.int .i64 1)] 1 [(0,.row ⟨[.int .i64 x41,.int .i64 x42,.int .i64 x43,.int .i64 x44],131,false⟩)] 128 []
 | .k6_2 x45 x46 x47 x48 x49 x50 x51 x52=>mD [(3,.ptr 0 0),(10,.agg [.int .i64 x45,.int .i64 x46,.int .i64 x47,.int .i64 x48]),(11,.int .i64 2)] 1 [(0,.row ⟨[.int .i64 x49,.int .i64 x50,.int .i64 x51,.int .i64 x52],131,false⟩)] 128 []
 | .k12_3 x53 x54 x55 x56 x57 x58 x59 x60 x61=>mD [(3,.ptr 0 0),(5,.int .i64 x53),(10,.agg [.int .i64 x54,.int .i64 x55,.int .i64 x56,.int .i64 x57]),(11,.int .i64 2),(16,.sl 0 0 2 (.exact 4)),(17,.int .i64 2),(18,.int .i64 0)] 1 [(0,.row ⟨[.int .i64 x58,.int .i64 x59,.int .i64 x60,.int .i64 x61],131,false⟩)] 128 []
 | .k12_4 x62 x63 x64 x65 x66 x67 x68 x69 x70=>mD [(3,.ptr 0 0),(5,.int .i64 x62),(10,.agg [.int .i64 x63,.int .i64 x64,.int .i64 x65,.int .i64 x66]),(11,.int .i64 2),(16,.sl 0 0 2 (.exact 4)),(17,.int .i64 2),(18,.int .i64 1)] 1 [(0,.row ⟨[.int .i64 x67,.int .i64 x68,.int .i64 x69,.int .i64 x70],131,false⟩)] 128 []
 | .k12_5 x71 x72 x73 x74 x75 x76 x77 x78 x79=>mD [(3,.ptr 0 0),(5,.int .i64 x71),(10,.agg [.int .i64 x72,.int .i64 x73,.int .i64 x74,.int .i64 x75]),(11,.int .i64 2),(16,.sl 0 0 2 (.exact 4)),(17,.int .i64 2),(18,.int .i64 2)] 1 [(0,.row ⟨[.int .i64 x76,.int .i64 x77,.int .i64 x78,.int .i64 x79],131,false⟩)] 128 []
 | .k6_3 x80 x81 x82 x83 x84 x85 x86 x87=>mD [(3,.ptr 0 0),(10,.agg [.int .i64 x80,.int .i64 x81,.int .i64 x82,.int .i64 x83]),(11,.int .i64 3)] 1 [(0,.row ⟨[.int .i64 x84,.int .i64 x85,.int .i64 x86,.int .i64 x87],131,false⟩)] 128 []
 | .k12_6 x88 x89 x90 x91 x92 x93 x94 x95 x96=>mD [(3,.ptr 0 0),(5,.int .i64 x88),(10,.agg [.int .i64 x89,.int .i64 x90,.int .i64 x91,.int .i64 x92]),(11,.int .i64 3),(16,.sl 0 0 3 (.exact 4)),(17,.int .i64 3),(18,.int .i64 0)] 1 [(0,.row ⟨[.int .i64 x93,.int .i64 x94,.int .i64 x95,.int .i64 x96],131,false⟩)] 128 []
 | .k12_7 x97 x98 x99 x100 x101 x102 x103 x104 x105=>mD [(3,.ptr 0 0),(5,.int .i64 x97),(10,.agg [.int .i64 x98,.int .i64 x99,.int .i64 x100,.int .i64 x101]),(11,.int .i64 3),(16,.sl 0 0 3 (.exact 4)),(17,.int .i64 3),(18,.int .i64 1)] 1 [(0,.row ⟨[.int .i64 x102,.int .i64 x103,.int .i64 x104,.int .i64 x105],131,false⟩)] 128 []
 | .k12_8 x106 x107 x108 x109 x110 x111 x112 x113 x114=>mD [(3,.ptr 0 0),(5,.int .i64 x106),(10,.agg [.int .i64 x107,.int .i64 x108,.int .i64 x109,.int .i64 x110]),(11,.int .i64 3),(16,.sl 0 0 3 (.exact 4)),(17,.int .i64 3),(18,.int .i64 2)] 1 [(0,.row ⟨[.int .i64 x111,.int .i64 x112,.int .i64 x113,.int .i64 x114],131,false⟩)] 128 []
 | .k12_9 x115 x116 x117 x118 x119 x120 x121 x122 x123=>mD [(3,.ptr 0 0),(5,.int .i64 x115),(10,.agg [.int .i64 x116,.int .i64 x117,.int .i64 x118,.int .i64 x119]),(11,.int .i64 3),(16,.sl 0 0 3 (.exact 4)),(17,.int .i64 3),(18,.int .i64 3)] 1 [(0,.row ⟨[.int .i64 x120,.int .i64 x121,.int .i64 x122,.int .i64 x123],131,false⟩)] 128 []
 | .k6_4 x124 x125 x126 x127 x128 x129 x130 x131=>mD [(3,.ptr 0 0),(10,.agg [.int .i64 x124,.int .i64 x125,.int .i64 x126,.int .i64 x127]),(11,.int .i64 4)] 1 [(0,.row ⟨[.int .i64 x128,.int .i64 x129,.int .i64 x130,.int .i64 x131],131,false⟩)] 128 []
noncomputable def ays (s:Tn):(l_:ax5)→Tr Bool ax5 (azY s) cB.v
 | .k6_0 x2 x3 x4 x5 x6 x7 x8 x9=>(.g (.k12_0 x2 x2 x3 x4 x5 x6 x7 x8 x9))
 | .k12_0 x10 x11 x12 x13 x14 x15 x16 x17 x18=>(.g (.k6_1 x11 x12 x13 x14 x15 x16 x17 x18))
 | .k6_1 x19 x20 x21 x22 x23 x24 x25 x26=>(.g (.k12_1 x20 x19 x20 x21 x22 x23 x24 x25 x26))
 | .k12_1 x27 x28 x29 x30 x31 x32 x33 x34 x35=>(.i (!(x32==0)) (.i (!(x27==0)) (.i (decide (x27≤x32)) (.i (!(x32==4)) (.r true) (.i (!(x27==4)) (.r true) (.g (.k12_2 x27 x28 x29 x30 x31 x32 x33 x34 x35)))) (.g (.k12_2 x27 x28 x29 x30 x31 x32 x33 x34 x35))) (.g (.k12_2 x27 x28 x29 x30 x31 x32 x33 x34 x35))) (.g (.k12_2 x27 x28 x29 x30 x31 x32 x33 x34 x35)))
 | .k12_2 x36 x37 x38 x39 x40 x41 x42 x43 x44=>(.g (.k6_2 x37 x38 x39 x40 x41 x42 x43 x44))
 | .k6_2 x45 x46 x47 x48 x49 x50 x51 x52=>(.g (.k12_3 x47 x45 x46 x47 x48 x49 x50 x51 x52))
 | .k12_3 x53 x54 x55 x56 x57 x58 x59 x60 x61=>(.i (!(x58==0)) (.i (!(x53==0)) (.i (decide (x53≤x58)) (.i (!(x58==4)) (.r true) (.i (!(x53==4)) (.r true) (.g (.k12_4 x53 x54 x55 x56 x57 x58 x59 x60 x61)))) (.g (.k12_4 x53 x54 x55 x56 x57 x58 x59 x60 x61))) (.g (.k12_4 x53 x54 x55 x56 x57 x58 x59 x60 x61))) (.g (.k12_4 x53 x54 x55 x56 x57 x58 x59 x60 x61)))
 | .k12_4 x62 x63 x64 x65 x66 x67 x68 x69 x70=>(.i (!(x68==0)) (.i (!(x62==0)) (.i (decide (x62≤x68)) (.i (!(x68==4)) (.r true) (.i (!(x62==4)) (.r true) (.g (.k12_5 x62 x63 x64 x65 x66 x67 x68 x69 x70)))) (.g (.k12_5 x62 x63 x64 x65 x66 x67 x68 x69 x70))) (.g (.k12_5 x62 x63 x64 x65 x66 x67 x68 x69 x70))) (.g (.k12_5 x62 x63 x64 x65 x66 x67 x68 x69 x70)))
 | .k12_5 x71 x72 x73 x74 x75 x76 x77 x78 x79=>(.g (.k6_3 x72 x73 x74 x75 x76 x77 x78 x79))
 | .k6_3 x80 x81 x82 x83 x84 x85 x86 x87=>(.g (.k12_6 x83 x80 x81 x82 x83 x84 x85 x86 x87))
 | .k12_6 x88 x89 x90 x91 x92 x93 x94 x95 x96=>(.i (!(x93==0)) (.i (!(x88==0)) (.i (decide (x88≤x93)) (.i (!(x93==4)) (.r true) (.i (!(x88==4)) (.r true) (.g (.k12_7 x88 x89 x90 x91 x92 x93 x94 x95 x96)))) (.g (.k12_7 x88 x89 x90 x91 x92 x93 x94 x95 x96))) (.g (.k12_7 x88 x89 x90 x91 x92 x93 x94 x95 x96))) (.g (.k12_7 x88 x89 x90 x91 x92 x93 x94 x95 x96)))
 | .k12_7 x97 x98 x99 x100 x101 x102 x103 x104 x105=>(.i (!(x103==0)) (.i (!(x97==0)) (.i (decide (x97≤x103)) (.i (!(x103==4)) (.r true) (.i (!(x97==4)) (.r true) (.g (.k12_8 x97 x98 x99 x100 x101 x102 x103 x104 x105)))) (.g (.k12_8 x97 x98 x99 x100 x101 x102 x103 x104 x105))) (.g (.k12_8 x97 x98 x99 x100 x101 x102 x103 x104 x105))) (.g (.k12_8 x97 x98 x99 x100 x101 x102 x103 x104 x105)))
 | .k12_8 x106 x107 x108 x109 x110 x111 x112 x113 x114=>(.i (!(x113==0)) (.i (!(x106==0)) (.i (decide (x106≤x113)) (.i (!(x113==4)) (.r true) (.i (!(x106==4)) (.r true) (.g (.k12_9 x106 x107 x108 x109 x110 x111 x112 x113 x114)))) (.g (.k12_9 x106 x107 x108 x109 x110 x111 x112 x113 x114))) (.g (.k12_9 x106 x107 x108 x109 x110 x111 x112 x113 x114))) (.g (.k12_9 x106 x107 x108 x109 x110 x111 x112 x113 x114)))
 | .k12_9 x115 x116 x117 x118 x119 x120 x121 x122 x123=>(.g (.k6_4 x116 x117 x118 x119 x120 x121 x122 x123))
 | .k6_4 x124 x125 x126 x127 x128 x129 x130 x131=>(.r false)
def Tz132 (s:Tn):Tr Bool ax5 (azY s) cB.v:=(.c Az152 Sz152 (s,()) fun r133=>(.g (.k6_0 r133.1 r133.2.1 r133.2.2.1 r133.2.2.2.1 r133.1 r133.2.1 r133.2.2.1 r133.2.2.2.1)))
def cR (s:Tn):=Tr.lp (ays s)
def Ez132 (n:Nat) (s:Tn):=(Tz132 s).d (cR s n)
def akP (x:Tn×Unit):=Ez132 (x.1.p_m.length+64) x.1
def wz132:Wk (Tn×Unit) Bool ax5 cB.v:=⟨fun x=>azY x.1,uz132,fun x=>Tz132 x.1,fun x=>ays x.1⟩
def Kz132:=a4 94 Tryz.func94 [Kz152] noZ ⟨43,(lookA [(3,⟨[3,10,11],[0],1,[],[],[],[]⟩),(6,⟨[3,5,10,11,16,17,18],[0],1,[],[],[],[]⟩)]),noL,noL⟩ 128 Az132 cB akP wz132 (fun x=>x.1.p_m.length+64)
def Az133:=(Row.cons (Cod.ptr rTn) Row.nil)
def Tz133 (s:Tn):Tr Bool Empty noS cB.v:=(.r (decide (3<s.outs)))
def Ez133 (s:Tn):=(Tz133 s).d noE
def akO (x:Tn×Unit):=Ez133 x.1
def wz133:Wk (Tn×Unit) Bool Empty cB.v:=wk0 fun x=>Tz133 x.1
def Kz133:=a4 95 Tryz.func95 [] noZ ⟨8,noL,noL,noL⟩ 128 Az133 cB akO wz133 (fun _=>0)
def Az151:=(Row.cons (Cod.agg rMv) Row.nil)
def Tz151 (s:Mv):Tr Bool Empty noS cB.v:=(.i (!s.o) (.r (s.t==4)) (.r false))
def Ez151 (s:Mv):=(Tz151 s).d noE
def ayA (x:Mv×Unit):=Ez151 x.1
def wz151:Wk (Mv×Unit) Bool Empty cB.v:=wk0 fun x=>Tz151 x.1
def Kz151:=a4 78 Tryz.func78 [] noZ ⟨11,noL,noL,noL⟩ 128 Az151 cB ayA wz151 (fun _=>0)
def yU:=(Row.cons (Cod.list mv0 rMv) (Row.cons (Cod.fn0 78) Row.nil))
inductive fH where
 | k6 (x2:Int) (x3:Int)
def axy:fH→Nat
 | .k6 _ _=>6
def mL (s:List (Mv)) (t:Unit):fH→D
 | .k6 x2 x3=>mD [(1,.raw (.func 78 [])),(5,.int .i64 x2),(8,(Cod.list mv0 rMv).v s),(9,.int .i64 ((s.length:Nat):Int)),(10,.int .i64 x3)] 0 [] 128 []
noncomputable def dE (s:List (Mv)) (t:Unit):(l_:fH)→Tr Int fH (mL s t) cI.v
 | .k6 x2 x3=>(.i (decide (x3<((s.length:Nat):Int))) (.i (inR x3 s.length) (.c Az151 ayA ((s.getD x3.toNat mv0),()) fun r5=>(.i r5 (.g (.k6 (w6 (x2+1)) (w6 (x3+1)))) (.g (.k6 x2 (w6 (x3+1)))))) .n) (.r x2))
def rL (s:List (Mv)) (t:Unit):Tr Int fH (mL s t) cI.v:=(.g (.k6 0 0))
def gQ (s:List (Mv)) (t:Unit):=Tr.lp (dE s t)
theorem d9 {s:List (Mv)}{t:Unit}{n:Nat}{l_:fH}:gQ s t (n+1) l_=(dE s t l_).d (gQ s t n):=rfl
def rS (n:Nat) (s:List (Mv)) (t:Unit):=(rL s t).d (gQ s t n)
def rO (x:(List (Mv))×Unit×Unit):=rS (x.1.length+64) x.1 x.2.1
def axo:Wk ((List (Mv))×Unit×Unit) Int fH cI.v:=⟨fun x=>mL x.1 x.2.1,axy,fun x=>rL x.1 x.2.1,fun x=>dE x.1 x.2.1⟩
def ak3:=a4 105 Tryz.func105 [Kz151] noZ ⟨21,(lookA [(3,⟨[1,5,8,9,10],[],0,[],[],[],[]⟩)]),noL,noL⟩ 128 yU cI rO axo (fun x=>x.1.length+64)
def Az134:=(Row.cons (Cod.ptr rTn) Row.nil)
def Tz134 (s:Tn):Tr Bool Empty noS cB.v:=(.i s.p_l (.i (decide (s.outs<3)) (.r true) (.c yU rO (s.p_m,(),()) fun r2=>(.r (r2==0)))) (.r false))
def Ez134 (s:Tn):=(Tz134 s).d noE
def akN (x:Tn×Unit):=Ez134 x.1
def wz134:Wk (Tn×Unit) Bool Empty cB.v:=wk0 fun x=>Tz134 x.1
def Kz134:=a4 96 Tryz.func96 [ak3] noZ ⟨24,noL,noL,noL⟩ 128 Az134 cB akN wz134 (fun _=>0)
def Az144:=(Row.cons (Cod.ptr rTn) Row.nil)
inductive ax3 where
 | k6_0 (x2:List Nat) (x3:List Nat) (x4:List Nat) (x5:List Nat) (x6:List Nat) (x7:List Nat) (x8:List Nat) (x9:List Nat) (x10:List Nat) (x11:List Nat) (x12:List Nat) (x13:List Nat) (x14:List Nat)
 | k6_1 (x16:List Nat) (x17:List Nat) (x18:List Nat) (x19:List Nat) (x20:List Nat) (x21:List Nat) (x22:List Nat) (x23:List Nat) (x24:List Nat) (x25:List Nat) (x26:List Nat) (x27:List Nat) (x28:List Nat)
 | k6_2 (x30:List Nat) (x31:List Nat) (x32:List Nat) (x33:List Nat) (x34:List Nat) (x35:List Nat) (x36:List Nat) (x37:List Nat) (x38:List Nat) (x39:List Nat) (x40:List Nat) (x41:List Nat) (x42:List Nat)
 | k6_3 (x44:List Nat) (x45:List Nat) (x46:List Nat) (x47:List Nat) (x48:List Nat) (x49:List Nat) (x50:List Nat) (x51:List Nat) (x52:List Nat) (x53:List Nat) (x54:List Nat) (x55:List Nat) (x56:List Nat)
 | k6_4 (x58:List Nat) (x59:List Nat) (x60:List Nat) (x61:List Nat) (x62:List Nat) (x63:List Nat) (x64:List Nat) (x65:List Nat) (x66:List Nat) (x67:List Nat) (x68:List Nat) (x69:List Nat) (x70:List Nat)
 | k6_5 (x72:List Nat) (x73:List Nat) (x74:List Nat) (x75:List Nat) (x76:List Nat) (x77:List Nat) (x78:List Nat) (x79:List Nat) (x80:List Nat) (x81:List Nat) (x82:List Nat) (x83:List Nat) (x84:List Nat)
 | k6_6 (x86:List Nat) (x87:List Nat) (x88:List Nat) (x89:List Nat) (x90:List Nat) (x91:List Nat) (x92:List Nat) (x93:List Nat) (x94:List Nat) (x95:List Nat) (x96:List Nat) (x97:List Nat) (x98:List Nat)
 | k6_7 (x100:List Nat) (x101:List Nat) (x102:List Nat) (x103:List Nat) (x104:List Nat) (x105:List Nat) (x106:List Nat) (x107:List Nat) (x108:List Nat) (x109:List Nat) (x110:List Nat) (x111:List Nat) (x112:List Nat)
 | k6_8 (x114:List Nat) (x115:List Nat) (x116:List Nat) (x117:List Nat) (x118:List Nat) (x119:List Nat) (x120:List Nat) (x121:List Nat) (x122:List Nat) (x123:List Nat) (x124:List Nat) (x125:List Nat) (x126:List Nat)
 | k6_9 (x128:List Nat) (x129:List Nat) (x130:List Nat) (x131:List Nat) (x132:List Nat) (x133:List Nat) (x134:List Nat) (x135:List Nat) (x136:List Nat) (x137:List Nat) (x138:List Nat) (x139:List Nat) (x140:List Nat)
 | k6_10 (x142:List Nat) (x143:List Nat) (x144:List Nat) (x145:List Nat) (x146:List Nat) (x147:List Nat) (x148:List Nat) (x149:List Nat) (x150:List Nat) (x151:List Nat) (x152:List Nat) (x153:List Nat) (x154:List Nat)
 | k6_11 (x156:List Nat) (x157:List Nat) (x158:List Nat) (x159:List Nat) (x160:List Nat) (x161:List Nat) (x162:List Nat) (x163:List Nat) (x164:List Nat) (x165:List Nat) (x166:List Nat) (x167:List Nat) (x168:List Nat)
 | k6_12 (x170:List Nat) (x171:List Nat) (x172:List Nat) (x173:List Nat) (x174:List Nat) (x175:List Nat) (x176:List Nat) (x177:List Nat) (x178:List Nat) (x179:List Nat) (x180:List Nat) (x181:List Nat) (x182:List Nat)
 | k6_13 (x184:List Nat) (x185:List Nat) (x186:List Nat) (x187:List Nat) (x188:List Nat) (x189:List Nat) (x190:List Nat) (x191:List Nat) (x192:List Nat) (x193:List Nat) (x194:List Nat) (x195:List Nat) (x196:List Nat)
noncomputable def uz144:ax3→Nat
 | .k6_0 _ _ _ _ _ _ _ _ _ _ _ _ _=>6
 | .k6_1 _ _ _ _ _ _ _ _ _ _ _ _ _=>6
 | .k6_2 _ _ _ _ _ _ _ _ _ _ _ _ _=>6
 | .k6_3 _ _ _ _ _ _ _ _ _ _ _ _ _=>6
 | .k6_4 _ _ _ _ _ _ _ _ _ _ _ _ _=>6
 | .k6_5 _ _ _ _ _ _ _ _ _ _ _ _ _=>6
 | .k6_6 _ _ _ _ _ _ _ _ _ _ _ _ _=>6
 | .k6_7 _ _ _ _ _ _ _ _ _ _ _ _ _=>6
 | .k6_8 _ _ _ _ _ _ _ _ _ _ _ _ _=>6
 | .k6_9 _ _ _ _ _ _ _ _ _ _ _ _ _=>6
 | .k6_10 _ _ _ _ _ _ _ _ _ _ _ _ _=>6
 | .k6_11 _ _ _ _ _ _ _ _ _ _ _ _ _=>6
 | .k6_12 _ _ _ _ _ _ _ _ _ _ _ _ _=>6
 | .k6_13 _ _ _ _ _ _ _ _ _ _ _ _ _=>6
noncomputable def azW (s:Tn):ax3→D
 | .k6_0 x2 x3 x4 x5 x6 x7 x8 x9 x10 x11 x12 x13 x14=>mD [(0,.lptr (rTn.v s) 0),(3,.int .i64 0),(6,.agg [.str x2,.raw (.func 84 []),.str x3,.raw (.func 85 []),.str x4,.raw (.func 86 []),.str x5,.raw (.func 87 []),.str x6,.raw (.func 88 []),.str x7,.raw (.func 89 []),.str x8,.raw (.func 90 []),.str x9,.raw (.func 91 []),.str x10,.raw (.func 92 []),.str x11,.raw (.func 93 []),.str x12,.raw (.func 94 []),.str x13,.raw (.func 95 []),.str x14,.raw (.func 96 [])]),(7,.int .i64 0)] 0 [] 128 []
 | .k6_1 x16 x17 x18 x19 x20 x21 x22 x23 x24 x25 x26 x27 x28=>mD [(0,.lptr (rTn.v s) 0),(3,.int .i64 0),(6,.agg [.str x16,.raw (.func 84 []),.str x17,.raw (.func 85 []),.str x18,.raw (.func 86 []),.str x19,.raw (.func 87 []),.str x20,.raw (.func 88 []),.str x21,.raw (.func 89 []),.str x22,.raw (.func 90 []),.str x23,.raw (.func 91 []),.str x24,.raw (.func 92 []),.str x25,.raw (.func 93 []),.str x26,.raw (.func 94 []),.str x27,.raw (.func 95 []),.str x28,.raw (.func 96 [])]),(7,.int .i64 1)] 0 [] 128 []
 | .k6_2 x30 x31 x32 x33 x34 x35 x36 x37 x38 x39 x40 x41 x42=>mD [(0,.lptr (rTn.v s) 0),(3,.int .i64 0),(6,.agg [.str x30,.raw (.func 84 []),.str x31,.raw (.func 85 []),.str x32,.raw (.func 86 []),.str x33,.raw (.func 87 []),.str x34,.raw (.func 88 []),.str x35,.raw (.func 89 []),.str x36,.raw (.func 90 []),.str x37,.raw (.func 91 []),.str x38,.raw (.func 92 []),.str x39,.raw (.func 93 []),.str x40,.raw (.func 94 []),.str x41,.raw (.func 95 []),.str x42,.raw (.func 96 [])]),(7,.int .i64 2)] 0 [] 128 []
 | .k6_3 x44 x45 x46 x47 x48 x49 x50 x51 x52 x53 x54 x55 x56=>mD [(0,.lptr (rTn.v s) 0),(3,.int .i64 0),(6,.agg [.str x44,.raw (.func 84 []),.str x45,.raw (.func 85 []),.str x46,.raw (.func 86 []),.str x47,.raw (.func 87 []),.str x48,.raw (.func 88 []),.str x49,.raw (.func 89 []),.str x50,.raw (.func 90 []),.str x51,.raw (.func 91 []),.str x52,.raw (.func 92 []),.str x53,.raw (.func 93 []),.str x54,.raw (.func 94 []),.str x55,.raw (.func 95 []),.str x56,.raw (.func 96 [])]),(7,.int .i64 3)] 0 [] 128 []
 | .k6_4 x58 x59 x60 x61 x62 x63 x64 x65 x66 x67 x68 x69 x70=>mD [(0,.lptr (rTn.v s) 0),(3,.int .i64 0),(6,.agg [.str x58,.raw (.func 84 []),.str x59,.raw (.func 85 []),.str x60,.raw (.func 86 []),.str x61,.raw (.func 87 []),.str x62,.raw (.func 88 []),.str x63,.raw (.func 89 []),.str x64,.raw (.func 90 []),.str x65,.raw (.func 91 []),.str x66,.raw (.func 92 []),.str x67,.raw (.func 93 []),.str x68,.raw (.func 94 []),.str x69,.raw (.func 95 []),.str x70,.raw (.func 96 [])]),(7,.int .i64 4)] 0 [] 128 []
 | .k6_5 x72 x73 x74 x75 x76 x77 x78 x79 x80 x81 x82 x83 x84=>mD [(0,.lptr (rTn.v s) 0),(3,.int .i64 0),(6,.agg [.str x72,.raw (.func 84 []),.str x73,.raw (.func 85 []),.str x74,.raw (.func 86 []),.str x75,.raw (.func 87 []),.str x76,.raw (.func 88 []),.str x77,.raw (.func 89 []),.str x78,.raw (.func 90 []),.str x79,.raw (.func 91 []),.str x80,.raw (.func 92 []),.str x81,.raw (.func 93 []),.str x82,.raw (.func 94 []),.str x83,.raw (.func 95 []),.str x84,.raw (.func 96 [])]),(7,.int .i64 5)] 0 [] 128 []
 | .k6_6 x86 x87 x88 x89 x90 x91 x92 x93 x94 x95 x96 x97 x98=>mD [(0,.lptr (rTn.v s) 0),(3,.int .i64 0),(6,.agg [.str x86,.raw (.func 84 []),.str x87,.raw (.func 85 []),.str x88,.raw (.func 86 []),.str x89,.raw (.func 87 []),.str x90,.raw (.func 88 []),.str x91,.raw (.func 89 []),.str x92,.raw (.func 90 []),.str x93,.raw (.func 91 []),.str x94,.raw (.func 92 []),.str x95,.raw (.func 93 []),.str x96,.raw (.func 94 []),.str x97,.raw (.func 95 []),.str x98,.raw (.func 96 [])]),(7,.int .i64 6)] 0 [] 128 []
 | .k6_7 x100 x101 x102 x103 x104 x105 x106 x107 x108 x109 x110 x111 x112=>mD [(0,.lptr (rTn.v s) 0),(3,.int .i64 0),(6,.agg [.str x100,.raw (.func 84 []),.str x101,.raw (.func 85 []),.str x102,.raw (.func 86 []),.str x103,.raw (.func 87 []),.str x104,.raw (.func 88 []),.str x105,.raw (.func 89 []),.str x106,.raw (.func 90 []),.str x107,.raw (.func 91 []),.str x108,.raw (.func 92 []),.str x109,.raw (.func 93 []),.str x110,.raw (.func 94 []),.str x111,.raw (.func 95 []),.str x112,.raw (.func 96 [])]),(7,.int .i64 7)] 0 [] 128 []
 | .k6_8 x114 x115 x116 x117 x118 x119 x120 x121 x122 x123 x124 x125 x126=>mD [(0,.lptr (rTn.v s) 0),(3,.int .i64 0),(6,.agg [.str x114,.raw (.func 84 []),.str x115,.raw (.func 85 []),.str x116,.raw (.func 86 []),.str x117,.raw (.func 87 []),.str x118,.raw (.func 88 []),.str x119,.raw (.func 89 []),.str x120,.raw (.func 90 []),.str x121,.raw (.func 91 []),.str x122,.raw (.func 92 []),.str x123,.raw (.func 93 []),.str x124,.raw (.func 94 []),.str x125,.raw (.func 95 []),.str x126,.raw (.func 96 [])]),(7,.int .i64 8)] 0 [] 128 []
 | .k6_9 x128 x129 x130 x131 x132 x133 x134 x135 x136 x137 x138 x139 x140=>mD [(0,.lptr (rTn.v s) 0),(3,.int .i64 0),(6,.agg [.str x128,.raw (.func 84 []),.str x129,.raw (.func 85 []),.str x130,.raw (.func 86 []),.str x131,.raw (.func 87 []),.str x132,.raw (.func 88 []),.str x133,.raw (.func 89 []),.str x134,.raw (.func 90 []),.str x135,.raw (.func 91 []),.str x136,.raw (.func 92 []),.str x137,.raw (.func 93 []),.str x138,.raw (.func 94 []),.str x139,.raw (.func 95 []),.str x140,.raw (.func 96 [])]),(7,.int .i64 9)] 0 [] 128 []
 | .k6_10 x142 x143 x144 x145 x146 x147 x148 x149 x150 x151 x152 x153 x154=>mD [(0,.lptr (rTn.v s) 0),(3,.int .i64 0),(6,.agg [.str x142,.raw (.func 84 []),.str x143,.raw (.func 85 []),.str x144,.raw (.func 86 []),.str x145,.raw (.func 87 []),.str x146,.raw (.func 88 []),.str x147,.raw (.func 89 []),.str x148,.raw (.func 90 []),.str x149,.raw (.func 91 []),.str x150,.raw (.func 92 []),.str x151,.raw (.func 93 []),.str x152,.raw (.func 94 []),.str x153,.raw (.func 95 []),.str x154,.raw (.func 96 [])]),(7,.int .i64 10)] 0 [] 128 []
 | .k6_11 x156 x157 x158 x159 x160 x161 x162 x163 x164 x165 x166 x167 x168=>mD [(0,.lptr (rTn.v s) 0),(3,.int .i64 0),(6,.agg [.str x156,.raw (.func 84 []),.str x157,.raw (.func 85 []),.str x158,.raw (.func 86 []),.str x159,.raw (.func 87 []),.str x160,.raw (.func 88 []),.str x161,.raw (.func 89 []),.str x162,.raw (.func 90 []),.str x163,.raw (.func 91 []),.str x164,.raw (.func 92 []),.str x165,.raw (.func 93 []),.str x166,.raw (.func 94 []),.str x167,.raw (.func 95 []),.str x168,.raw (.func 96 [])]),(7,.int .i64 11)] 0 [] 128 []
 | .k6_12 x170 x171 x172 x173 x174 x175 x176 x177 x178 x179 x180 x181 x182=>mD [(0,.lptr (rTn.v s) 0),(3,.int .i64 0),(6,.agg [.str x170,.raw (.func 84 []),.str x171,.raw (.func 85 []),.str x172,.raw (.func 86 []),.str x173,.raw (.func 87 []),.str x174,.raw (.func 88 []),.str x175,.raw (.func 89 []),.str x176,.raw (.func 90 []),.str x177,.raw (.func 91 []),.str x178,.raw (.func 92 []),.str x179,.raw (.func 93 []),.str x180,.raw (.func 94 []),.str x181,.raw (.func 95 []),.str x182,.raw (.func 96 [])]),(7,.int .i64 12)] 0 [] 128 []
 | .k6_13 x184 x185 x186 x187 x188 x189 x190 x191 x192 x193 x194 x195 x196=>mD [(0,.lptr (rTn.v s) 0),(3,.int .i64 0),(6,.agg [.str x184,.raw (.func 84 []),.str x185,.raw (.func 85 []),.str x186,.raw (.func 86 []),.str x187,.raw (.func 87 []),.str x188,.raw (.func 88 []),.str x189,.raw (.func 89 []),.str x190,.raw (.func 90 []),.str x191,.raw (.func 91 []),.str x192,.raw (.func 92 []),.str x193,.raw (.func 93 []),.str x194,.raw (.func 94 []),.str x195,.raw (.func 95 []),.str x196,.raw (.func 96 [])]),(7,.int .i64 13)] 0 [] 128 []
noncomputable def ayq (s:Tn):(l_:ax3)→Tr Int ax3 (azW s) cI.v
 | .k6_0 x2 x3 x4 x5 x6 x7 x8 x9 x10 x11 x12 x13 x14=>(.c Az122 ayE (s,()) fun r199=>(.i r199 (.r 1) (.g (.k6_1 x2 x3 x4 x5 x6 x7 x8 x9 x10 x11 x12 x13 x14))))
 | .k6_1 x16 x17 x18 x19 x20 x21 x22 x23 x24 x25 x26 x27 x28=>(.c Az123 akY (s,()) fun r200=>(.i r200 (.r 2) (.g (.k6_2 x16 x17 x18 x19 x20 x21 x22 x23 x24 x25 x26 x27 x28))))
 | .k6_2 x30 x31 x32 x33 x34 x35 x36 x37 x38 x39 x40 x41 x42=>(.c Az124 akX (s,()) fun r201=>(.i r201 (.r 3) (.g (.k6_3 x30 x31 x32 x33 x34 x35 x36 x37 x38 x39 x40 x41 x42))))
 | .k6_3 x44 x45 x46 x47 x48 x49 x50 x51 x52 x53 x54 x55 x56=>(.c Az125 akW (s,()) fun r202=>(.i r202 (.r 4) (.g (.k6_4 x44 x45 x46 x47 x48 x49 x50 x51 x52 x53 x54 x55 x56))))
 | .k6_4 x58 x59 x60 x61 x62 x63 x64 x65 x66 x67 x68 x69 x70=>(.c Az126 akV (s,()) fun r203=>(.i r203 (.r 5) (.g (.k6_5 x58 x59 x60 x61 x62 x63 x64 x65 x66 x67 x68 x69 x70))))
 | .k6_5 x72 x73 x74 x75 x76 x77 x78 x79 x80 x81 x82 x83 x84=>(.c Az127 akU (s,()) fun r204=>(.i r204 (.r 6) (.g (.k6_6 x72 x73 x74 x75 x76 x77 x78 x79 x80 x81 x82 x83 x84))))
 | .k6_6 x86 x87 x88 x89 x90 x91 x92 x93 x94 x95 x96 x97 x98=>(.c Az128 akT (s,()) fun r205=>(.i r205 (.r 7) (.g (.k6_7 x86 x87 x88 x89 x90 x91 x92 x93 x94 x95 x96 x97 x98))))
 | .k6_7 x100 x101 x102 x103 x104 x105 x106 x107 x108 x109 x110 x111 x112=>(.c Az129 akS (s,()) fun r206=>(.i r206 (.r 8) (.g (.k6_8 x100 x101 x102 x103 x104 x105 x106 x107 x108 x109 x110 x111 x112))))
 | .k6_8 x114 x115 x116 x117 x118 x119 x120 x121 x122 x123 x124 x125 x126=>(.c Az130 akR (s,()) fun r207=>(.i r207 (.r 9) (.g (.k6_9 x114 x115 x116 x117 x118 x119 x120 x121 x122 x123 x124 x125 x126))))
 | .k6_9 x128 x129 x130 x131 x132 x133 x134 x135 x136 x137 x138 x139 x140=>(.c Az131 akQ (s,()) fun r208=>(.i r208 (.r 10) (.g (.k6_10 x128 x129 x130 x131 x132 x133 x134 x135 x136 x137 x138 x139 x140))))
 | .k6_10 x142 x143 x144 x145 x146 x147 x148 x149 x150 x151 x152 x153 x154=>(.c Az132 akP (s,()) fun r209=>(.i r209 (.r 11) (.g (.k6_11 x142 x143 x144 x145 x146 x147 x148 x149 x150 x151 x152 x153 x154))))
 | .k6_11 x156 x157 x158 x159 x160 x161 x162 x163 x164 x165 x166 x167 x168=>(.c Az133 akO (s,()) fun r210=>(.i r210 (.r 12) (.g (.k6_12 x156 x157 x158 x159 x160 x161 x162 x163 x164 x165 x166 x167 x168))))
 | .k6_12 x170 x171 x172 x173 x174 x175 x176 x177 x178 x179 x180 x181 x182=>(.c Az134 akN (s,()) fun r211=>(.i r211 (.r 13) (.g (.k6_13 x170 x171 x172 x173 x174 x175 x176 x177 x178 x179 x180 x181 x182))))
 | .k6_13 x184 x185 x186 x187 x188 x189 x190 x191 x192 x193 x194 x195 x196=>(.r 0)
noncomputable def Tz144 (s:Tn):Tr Int ax3 (azW s) cI.v:=(.c Az74 Sz74 (()) fun r198=>(.g (.k6_0 r198.1 r198.2.2.1 r198.2.2.2.2.1 r198.2.2.2.2.2.2.1 r198.2.2.2.2.2.2.2.2.1 r198.2.2.2.2.2.2.2.2.2.2.1 r198.2.2.2.2.2.2.2.2.2.2.2.2.1 r198.2.2.2.2.2.2.2.2.2.2.2.2.2.2.1 r198.2.2.2.2.2.2.2.2.2.2.2.2.2.2.2.2.1 r198.2.2.2.2.2.2.2.2.2.2.2.2.2.2.2.2.2.2.1 r198.2.2.2.2.2.2.2.2.2.2.2.2.2.2.2.2.2.2.2.2.1 r198.2.2.2.2.2.2.2.2.2.2.2.2.2.2.2.2.2.2.2.2.2.2.1 r198.2.2.2.2.2.2.2.2.2.2.2.2.2.2.2.2.2.2.2.2.2.2.2.2.1)))
def bE (s:Tn):=Tr.lp (ayq s)
def Ez144 (n:Nat) (s:Tn):=(Tz144 s).d (bE s n)
def vU (x:Tn×Unit):=Ez144 (x.1.p_m.length+64) x.1
def wz144:Wk (Tn×Unit) Int ax3 cI.v:=⟨fun x=>azW x.1,uz144,fun x=>Tz144 x.1,fun x=>ayq x.1⟩
noncomputable def Kz144:=a4 63 Tryz.func63 [Kz74,Kz122,Kz123,Kz124,Kz125,Kz126,Kz127,Kz128,Kz129,Kz130,Kz131,Kz132,Kz133,Kz134] noZ ⟨19,(lookA [(3,⟨[0,3,6,7],[],0,[],[],[],[]⟩)]),noL,noL⟩ 128 Az144 cI vU wz144 (fun x=>x.1.p_m.length+64)
def Az150:=(Row.cons (Cod.ptr rTn) Row.nil)
inductive aq2 where
 | k4 (x2:Int)
def uz150:aq2→Nat
 | .k4 _=>4
def azU (s:Tn):aq2→D
 | .k4 x2=>mD [(10,(Cod.list mv0 rMv).v s.p_m),(11,.int .i64 ((s.p_m.length:Nat):Int)),(12,.int .i64 x2)] 0 [] 128 []
noncomputable def yF (s:Tn):(l_:aq2)→Tr Bool aq2 (azU s) cB.v
 | .k4 x2=>(.i (decide (x2<((s.p_m.length:Nat):Int))) (.i (inR x2 s.p_m.length) (.i ((s.p_m.getD x2.toNat mv0).f==0) (.c ajl vV ([99,107,110,121],(s.p_m.getD x2.toNat mv0).h,()) fun r4=>(.i r4 (.i ((s.p_m.getD x2.toNat mv0).o) (.i (decide (((s.p_m.getD x2.toNat mv0).h)=[102])) (.r true) (.r true)) (.g (.k4 (w6 (x2+1))))) (.i (decide (((s.p_m.getD x2.toNat mv0).h)=[103])) (.i ((s.p_m.getD x2.toNat mv0).o) (.i (decide (((s.p_m.getD x2.toNat mv0).h)=[102])) (.r true) (.i ((s.p_m.getD x2.toNat mv0).t==1) (.r true) (.g (.k4 (w6 (x2+1)))))) (.g (.k4 (w6 (x2+1))))) (.i ((s.p_m.getD x2.toNat mv0).o) (.i (decide (((s.p_m.getD x2.toNat mv0).h)=[102])) (.r true) (.g (.k4 (w6 (x2+1))))) (.g (.k4 (w6 (x2+1)))))))) (.i ((s.p_m.getD x2.toNat mv0).o) (.i (decide (((s.p_m.getD x2.toNat mv0).h)=[102])) (.r true) (.g (.k4 (w6 (x2+1))))) (.g (.k4 (w6 (x2+1)))))) .n) (.r false))
def Tz150 (s:Tn):Tr Bool aq2 (azU s) cB.v:=(.g (.k4 0))
def ajb (s:Tn):=Tr.lp (yF s)
theorem aja {s:Tn}{n:Nat}{l_:aq2}:ajb s (n+1) l_=(yF s l_).d (ajb s n):=rfl
def Ez150 (n:Nat) (s:Tn):=(Tz150 s).d (ajb s n)
def Sz150 (x:Tn×Unit):=Ez150 (x.1.p_m.length+64) x.1
def wz150:Wk (Tn×Unit) Bool aq2 cB.v:=⟨fun x=>azU x.1,uz150,fun x=>Tz150 x.1,fun x=>yF x.1⟩
def Kz150:=a4 77 Tryz.func77 [K181] noZ ⟨45,(lookA [(2,⟨[10,11,12],[],0,[],[],[],[]⟩)]),noL,noL⟩ 128 Az150 cB Sz150 wz150 (fun x=>x.1.p_m.length+64)
def Az89:=(Row.cons (Cod.ptr rTn) Row.nil)
def Wz89 (r:(List (Mv))):V:=.el (r.map rMv.v)
theorem hWz89 (r:(List (Mv))):(Wz89 r).c=((Cod.list mv0 rMv).v r).c:=by
 first|rfl|exact b5|(show EVal.tup (V.cs _)=EVal.tup (V.cs _);simp only [V.cs_map,List.map_cons,List.map_nil,b5];rfl)
inductive Lz89 where
 | k10 (x3:Int) (x4:List (Mv))
def uz89:Lz89→Nat
 | .k10 _ _=>10
def aqf (s:Tn) (x3:Int) (x4:List (List V)):D:=mD [(3,.gl 128),(26,(Cod.list mv0 rMv).v s.p_m),(27,.int .i64 ((s.p_m.length:Nat):Int)),(28,.int .i64 x3)] 0 [] 129 [(128,(x4,71))]
def akv (s:Tn):Lz89→D
 | .k10 x3 x4=>aqf s x3 (x4.map rMv.v)
noncomputable def akF (s:Tn):(l_:Lz89)→Tr (List (Mv)) Lz89 (akv s) Wz89
 | .k10 x3 x4=>(.i (decide (x3<((s.p_m.length:Nat):Int))) (.i (inR x3 s.p_m.length) (.c Az151 ayA ((s.p_m.getD x3.toNat mv0),()) fun r8=>(.i r8 (.i (Nat.ble (64*(((x4.map rMv.v)).length+1)) 1000000) (.j (.k10 (w6 (x3+1)) (x4++[(s.p_m.getD x3.toNat mv0)])) (aqf s (w6 (x3+1)) ((x4.map rMv.v)++[[.int .i64 (s.p_m.getD x3.toNat mv0).f,.int .i64 (s.p_m.getD x3.toNat mv0).t,.bool ((s.p_m.getD x3.toNat mv0).o),.str ((s.p_m.getD x3.toNat mv0).h),(Cod.list 0 vZ).v ((s.p_m.getD x3.toNat mv0).b)]])) ⟨by simp only [akv,List.map_append,List.map_cons,List.map_nil];rfl⟩) .n) (.g (.k10 (w6 (x3+1)) x4)))) .n) (.r x4))
def Tz89 (s:Tn):Tr (List (Mv)) Lz89 (akv s) Wz89:=(.i (s.outs==3) (.i s.p_l (.r []) (.c Az150 Sz150 (s,()) fun r7=>(.i r7 (.r []) (.g (.k10 0 []))))) (.g (.k10 0 [])))
def ak6 (s:Tn):=Tr.lp (akF s)
theorem ak5 {s:Tn}{n:Nat}{l_:Lz89}:ak6 s (n+1) l_=(akF s l_).d (ak6 s n):=rfl
def Ez89 (n:Nat) (s:Tn):=(Tz89 s).d (ak6 s n)
def aki (x:Tn×Unit):=Ez89 (x.1.p_m.length+64) x.1
def wz89:Wk (Tn×Unit) (List (Mv)) Lz89 Wz89:=⟨fun x=>akv x.1,uz89,fun x=>Tz89 x.1,fun x=>akF x.1⟩
def Kz89:=a4 41 Tryz.func41 [Kz150,Kz151] noZ ⟨40,(lookA [(5,⟨[3,26,27,28],[],0,[(3,71)],[128],[],[]⟩)]),noL,noL⟩ 128 Az89 (Cod.list mv0 rMv) aki wz89 (fun x=>x.1.p_m.length+64) hWz89
def Az85:=(Row.cons (Cod.agg rSt) (Row.cons (Cod.agg rPl) Row.nil))
inductive Lz85 where
 | k3
def uz85:Lz85→Nat
 | .k3=>3
def sLz85 (s:St) (t:Pl):Lz85→D
 | .k3=>mD [(2,.ptr 0 0),(3,.lptr (rPl.v t) 0)] 1 [(0,.row ⟨(rSt.v s),37,false⟩)] 128 []
noncomputable def Tz85J (s:St) (t:Pl):(l_:Lz85)→Tr ((Option (Tn))×(Int)×(Int)×Unit) Lz85 (sLz85 s t) (Cod.tup (Row.cons (Cod.opt rTn) (Row.cons cI (Row.cons cI Row.nil)))).v
 | .k3=>(.c jN dV (s,(((),()),((t,()),()),((),()),()),()) fun r6=>(.i (!(r6==0)) (.r (none,0,r6,())) (.c Az143 ayC (s,t,()) fun r7=>(.c Az144 vU (r7,()) fun r8=>(.i (!(r8==0)) (.r (none,r8,18,())) (.i (s.half==0) (.c Az89 aki (r7,()) fun r10=>(.i (decide (9999<(w6 (s.c0+((r10.length:Nat):Int))))) (.r (none,0,4,())) (.r ((some r7),0,0,())))) (.i (s.half==1) (.c Az89 aki (r7,()) fun r9=>(.i (decide (9999<(w6 (s.c1+((r9.length:Nat):Int))))) (.r (none,0,4,())) (.r ((some r7),0,0,())))) .n)))))))
def Tz85 (s:St) (t:Pl):Tr ((Option (Tn))×(Int)×(Int)×Unit) Lz85 (sLz85 s t) (Cod.tup (Row.cons (Cod.opt rTn) (Row.cons cI (Row.cons cI Row.nil)))).v:=(.g .k3)
def Ez85J (s:St) (t:Pl):=Tr.lp (Tz85J s t)
def Ez85 (n:Nat) (s:St) (t:Pl):=(Tz85 s t).d (Ez85J s t n)
def Sz85 (x:St×Pl×Unit):=Ez85 (x.2.1.m.length+64) x.1 x.2.1
def wz85:Wk (St×Pl×Unit) ((Option (Tn))×(Int)×(Int)×Unit) Lz85 (Cod.tup (Row.cons (Cod.opt rTn) (Row.cons cI (Row.cons cI Row.nil)))).v:=⟨fun x=>sLz85 x.1 x.2.1,uz85,fun x=>Tz85 x.1 x.2.1,fun x=>Tz85J x.1 x.2.1⟩
noncomputable def Kz85:=a4 28 Tryz.func28 [rQ,Kz89,Kz143,Kz144] noZ ⟨38,noL,(lookA [(1,⟨[2,3],[0],1,[],[],[(1,1)],[]⟩)]),noL⟩ 128 Az85 (Cod.tup (Row.cons (Cod.opt rTn) (Row.cons cI (Row.cons cI Row.nil)))) Sz85 wz85 (fun x=>x.2.1.m.length+64)
def Az62:=(Row.cons (Cod.agg rSt) Row.nil)
def Tz62 (s:St):Tr Int Empty noS cI.v:=(.i (s.half==0) (.r s.n0) (.i (s.half==1) (.r s.n1) .n))
def Ez62 (s:St):=(Tz62 s).d noE
def Sz62 (x:St×Unit):=Ez62 x.1
def wz62:Wk (St×Unit) Int Empty cI.v:=wk0 fun x=>Tz62 x.1
def Kz62:=a4 54 Tryz.func54 [] noZ ⟨8,noL,noL,noL⟩ 128 Az62 cI Sz62 wz62 (fun _=>0)
def Az146:=(Row.cons cI Row.nil)
def Tz146 (s:Int):Tr Int Empty noS cI.v:=(.r (w6 ((s.tmod 9)+1)))
def Ez146 (s:Int):=(Tz146 s).d noE
def ayB (x:Int×Unit):=Ez146 x.1
def wz146:Wk (Int×Unit) Int Empty cI.v:=wk0 fun x=>Tz146 x.1
def Kz146:=a4 53 Tryz.func53 [] noZ ⟨6,noL,noL,noL⟩ 128 Az146 cI ayB wz146 (fun _=>0)
def Az91:=(Row.cons (Cod.ptr rTn) (Row.cons cI Row.nil))
noncomputable def Tz91 (s:Tn) (t:Int):Tr Int Empty noS cI.v:=(.i (t==0) (.c Az62 Sz62 ((⟨s.s_inn,s.s_half,s.s_outs,s.s_balls,s.s_strikes,s.s_b1,s.s_b2,s.s_b3,s.s_n0,s.s_n1,s.s_c0,s.s_c1,s.s_over⟩:St),()) fun r2=>(.r r2)) (.i ((w6 (t-1))==0) (.r s.s_b1) (.i ((w6 (t-1))==1) (.r s.s_b2) (.i ((w6 (t-1))==2) (.r s.s_b3) .n))))
def Ez91 (s:Tn) (t:Int):=(Tz91 s t).d noE
def ayu (x:Tn×Int×Unit):=Ez91 x.1 x.2.1
def wz91:Wk (Tn×Int×Unit) Int Empty cI.v:=wk0 fun x=>Tz91 x.1 x.2.1
def Kz91:=a4 43 Tryz.func43 [Kz62] noZ ⟨20,noL,noL,noL⟩ 128 Az91 cI ayu wz91 (fun _=>0)
def Az147:=(Row.cons (Cod.ptr rTn) Row.nil)
inductive aq4 where
 | k8 (x2:Int) (x3:Int) (x4:Int) (x5:Int)
def uz147:aq4→Nat
 | .k8 _ _ _ _=>8
noncomputable def azV (s:Tn):aq4→D
 | .k8 x2 x3 x4 x5=>mD [(0,.lptr (rTn.v s) 0),(2,.ptr 0 0),(3,.ptr 1 0),(17,(Cod.list mv0 rMv).v s.p_m),(18,.int .i64 ((s.p_m.length:Nat):Int)),(19,.int .i64 x2)] 2 [(0,.row ⟨[.int .i64 0,.int .i64 0,.int .i64 0],34,false⟩),(1,.row ⟨[.int .i64 x5,.int .i64 x4,.int .i64 x3],34,false⟩)] 128 []
noncomputable def yG (s:Tn):(l_:aq4)→Tr ((Int)×(Int)×(Int)×Unit) aq4 (azV s) (Cod.agg (Row.cons cI (Row.cons cI (Row.cons cI Row.nil)))).v
 | .k8 x2 x3 x4 x5=>(.i (decide (x2<((s.p_m.length:Nat):Int))) (.i (inR x2 s.p_m.length) (.i (decide (0<(s.p_m.getD x2.toNat mv0).f)) (.i ((w6 ((s.p_m.getD x2.toNat mv0).f-1))==0) (.i (!(s.p_m.getD x2.toNat mv0).o) (.i (decide ((s.p_m.getD x2.toNat mv0).t<4)) (.c Az91 ayu (s,(s.p_m.getD x2.toNat mv0).f,()) fun r15=>(.i ((w6 ((s.p_m.getD x2.toNat mv0).t-1))==0) (.g (.k8 (w6 (x2+1)) x3 x4 r15)) (.i ((w6 ((s.p_m.getD x2.toNat mv0).t-1))==1) (.g (.k8 (w6 (x2+1)) x3 r15 0)) (.i ((w6 ((s.p_m.getD x2.toNat mv0).t-1))==2) (.g (.k8 (w6 (x2+1)) r15 x4 0)) .n)))) (.g (.k8 (w6 (x2+1)) x3 x4 0))) (.g (.k8 (w6 (x2+1)) x3 x4 0))) (.i ((w6 ((s.p_m.getD x2.toNat mv0).f-1))==1) (.i (!(s.p_m.getD x2.toNat mv0).o) (.i (decide ((s.p_m.getD x2.toNat mv0).t<4)) (.c Az91 ayu (s,(s.p_m.getD x2.toNat mv0).f,()) fun r14=>(.i ((w6 ((s.p_m.getD x2.toNat mv0).t-1))==0) (.g (.k8 (w6 (x2+1)) x3 0 r14)) (.i ((w6 ((s.p_m.getD x2.toNat mv0).t-1))==1) (.g (.k8 (w6 (x2+1)) x3 r14 x5)) (.i ((w6 ((s.p_m.getD x2.toNat mv0).t-1))==2) (.g (.k8 (w6 (x2+1)) r14 0 x5)) .n)))) (.g (.k8 (w6 (x2+1)) x3 0 x5))) (.g (.k8 (w6 (x2+1)) x3 0 x5))) (.i ((w6 ((s.p_m.getD x2.toNat mv0).f-1))==2) (.i (!(s.p_m.getD x2.toNat mv0).o) (.i (decide ((s.p_m.getD x2.toNat mv0).t<4)) (.c Az91 ayu (s,(s.p_m.getD x2.toNat mv0).f,()) fun r13=>(.i ((w6 ((s.p_m.getD x2.toNat mv0).t-1))==0) (.g (.k8 (w6 (x2+1)) 0 x4 r13)) (.i ((w6 ((s.p_m.getD x2.toNat mv0).t-1))==1) (.g (.k8 (w6 (x2+1)) 0 r13 x5)) (.i ((w6 ((s.p_m.getD x2.toNat mv0).t-1))==2) (.g (.k8 (w6 (x2+1)) r13 x4 x5)) .n)))) (.g (.k8 (w6 (x2+1)) 0 x4 x5))) (.g (.k8 (w6 (x2+1)) 0 x4 x5))) .n))) (.i (!(s.p_m.getD x2.toNat mv0).o) (.i (decide ((s.p_m.getD x2.toNat mv0).t<4)) (.c Az91 ayu (s,(s.p_m.getD x2.toNat mv0).f,()) fun r16=>(.i ((w6 ((s.p_m.getD x2.toNat mv0).t-1))==0) (.g (.k8 (w6 (x2+1)) x3 x4 r16)) (.i ((w6 ((s.p_m.getD x2.toNat mv0).t-1))==1) (.g (.k8 (w6 (x2+1)) x3 r16 x5)) (.i ((w6 ((s.p_m.getD x2.toNat mv0).t-1))==2) (.g (.k8 (w6 (x2+1)) r16 x4 x5)) .n)))) (.g (.k8 (w6 (x2+1)) x3 x4 x5))) (.g (.k8 (w6 (x2+1)) x3 x4 x5)))) .n) (.r (x5,x4,x3,())))
def Tz147 (s:Tn):Tr ((Int)×(Int)×(Int)×Unit) aq4 (azV s) (Cod.agg (Row.cons cI (Row.cons cI (Row.cons cI Row.nil)))).v:=(.g (.k8 0 s.s_b3 s.s_b2 s.s_b1))
def ajd (s:Tn):=Tr.lp (yG s)
theorem ajc {s:Tn}{n:Nat}{l_:aq4}:ajd s (n+1) l_=(yG s l_).d (ajd s n):=rfl
def Ez147 (n:Nat) (s:Tn):=(Tz147 s).d (ajd s n)
def akM (x:Tn×Unit):=Ez147 (x.1.p_m.length+64) x.1
def wz147:Wk (Tn×Unit) ((Int)×(Int)×(Int)×Unit) aq4 (Cod.agg (Row.cons cI (Row.cons cI (Row.cons cI Row.nil)))).v:=⟨fun x=>azV x.1,uz147,fun x=>Tz147 x.1,fun x=>yG x.1⟩
def Kz147:=a4 55 Tryz.func55 [Kz91] noZ ⟨48,(lookA [(4,⟨[0,2,3,17,18,19],[0,1],2,[],[],[],[]⟩)]),noL,noL⟩ 128 Az147 (Cod.agg (Row.cons cI (Row.cons cI (Row.cons cI Row.nil)))) akM wz147 (fun x=>x.1.p_m.length+64)
def Az177:=(Row.cons (Cod.agg rSt) Row.nil)
def Tz177 (s:St):Tr Bool Empty noS cB.v:=(.r (decide (s.c0<s.c1)))
def Ez177 (s:St):=(Tz177 s).d noE
def awy (x:St×Unit):=Ez177 x.1
def wz177:Wk (St×Unit) Bool Empty cB.v:=wk0 fun x=>Tz177 x.1
def Kz177:=a4 97 Tryz.func97 [] noZ ⟨10,noL,noL,noL⟩ 128 Az177 cB awy wz177 (fun _=>0)
def Az120:=(Row.cons (Cod.agg rSt) Row.nil)
def Tz120 (s:St):Tr Bool Empty noS cB.v:=(.i (decide (9≤s.inn)) (.i (s.half==1) (.c Az177 awy (s,()) fun r2=>(.r r2)) (.r false)) (.r false))
def Ez120 (s:St):=(Tz120 s).d noE
def akZ (x:St×Unit):=Ez120 x.1
def wz120:Wk (St×Unit) Bool Empty cB.v:=wk0 fun x=>Tz120 x.1
def Kz120:=a4 56 Tryz.func56 [Kz177] noZ ⟨15,noL,noL,noL⟩ 128 Az120 cB akZ wz120 (fun _=>0)
def Az175:=(Row.cons (Cod.agg rSt) Row.nil)
def Tz175 (s:St):Tr St Empty noS (Cod.agg rSt).v:=(.r (⟨s.inn,s.half,0,0,0,0,0,0,s.n0,s.n1,s.c0,s.c1,s.over⟩:St))
def Ez175 (s:St):=(Tz175 s).d noE
def awz (x:St×Unit):=Ez175 x.1
def wz175:Wk (St×Unit) St Empty (Cod.agg rSt).v:=wk0 fun x=>Tz175 x.1
def Kz175:=a4 98 Tryz.func98 [] noZ ⟨9,noL,noL,noL⟩ 128 Az175 (Cod.agg rSt) awz wz175 (fun _=>0)
def Az148:=(Row.cons (Cod.agg rSt) Row.nil)
def Tz148 (s:St):Tr St Empty noS (Cod.agg rSt).v:=(.c Az175 awz (s,()) fun r2=>(.r (⟨r2.inn,r2.half,r2.outs,r2.balls,r2.strikes,r2.b1,r2.b2,r2.b3,r2.n0,r2.n1,r2.c0,r2.c1,true⟩:St)))
def Ez148 (s:St):=(Tz148 s).d noE
def ax1 (x:St×Unit):=Ez148 x.1
def wz148:Wk (St×Unit) St Empty (Cod.agg rSt).v:=wk0 fun x=>Tz148 x.1
def Kz148:=a4 57 Tryz.func57 [Kz175] noZ ⟨7,noL,noL,noL⟩ 128 Az148 (Cod.agg rSt) ax1 wz148 (fun _=>0)
def Az176:=(Row.cons (Cod.agg rSt) Row.nil)
def Tz176 (s:St):Tr Bool Empty noS cB.v:=(.i (decide (s.inn<9)) (.r false) (.c Az177 awy (s,()) fun r2=>(.i r2 (.r true) (.i (s.half==1) (.i (!(s.c0==s.c1)) (.r true) (.r (s.inn==30))) (.r false)))))
def Ez176 (s:St):=(Tz176 s).d noE
def Sz176 (x:St×Unit):=Ez176 x.1
def wz176:Wk (St×Unit) Bool Empty cB.v:=wk0 fun x=>Tz176 x.1
def Kz176:=a4 99 Tryz.func99 [Kz177] noZ ⟨27,noL,noL,noL⟩ 128 Az176 cB Sz176 wz176 (fun _=>0)
def Az149:=(Row.cons (Cod.agg rSt) Row.nil)
noncomputable def Tz149 (s:St):Tr St Empty noS (Cod.agg rSt).v:=(.c Az176 Sz176 (s,()) fun r4=>(.i r4 (.c Az148 ax1 (s,()) fun r5=>(.r r5)) (.c Az175 awz (s,()) fun r6=>(.i (r6.half==1) (.r (⟨(w6 (r6.inn+1)),(w6 (1-r6.half)),r6.outs,r6.balls,r6.strikes,r6.b1,r6.b2,r6.b3,r6.n0,r6.n1,r6.c0,r6.c1,r6.over⟩:St)) (.r (⟨r6.inn,(w6 (1-r6.half)),r6.outs,r6.balls,r6.strikes,r6.b1,r6.b2,r6.b3,r6.n0,r6.n1,r6.c0,r6.c1,r6.over⟩:St))))))
def Ez149 (s:St):=(Tz149 s).d noE
def akL (x:St×Unit):=Ez149 x.1
def wz149:Wk (St×Unit) St Empty (Cod.agg rSt).v:=wk0 fun x=>Tz149 x.1
def Kz149:=a4 58 Tryz.func58 [Kz148,Kz175,Kz176] noZ ⟨21,noL,noL,noL⟩ 128 Az149 (Cod.agg rSt) akL wz149 (fun _=>0)
def Az86:=(Row.cons (Cod.ptr rTn) Row.nil)
inductive Lz86 where
 | k9 (x2:Int) (x3:Int)
 | k11 (x5:Int) (x6:Int)
 | k17 (x10:Int) (x11:Int) (x12:Int) (x13:Int) (x14:Int) (x15:Int)
def uz86:Lz86→Nat
 | .k9 _ _=>9
 | .k11 _ _=>11
 | .k17 _ _ _ _ _ _=>17
noncomputable def sLz86 (s:Tn):Lz86→D
 | .k9 x2 x3=>mD [(0,.lptr (rTn.v s) 0),(2,.ptr 0 0),(3,.ptr 1 0)] 2 [(0,.row ⟨[.int .i64 0,.int .i64 0,.int .i64 0,.int .i64 0,.int .i64 0,.int .i64 0,.int .i64 0,.int .i64 0,.int .i64 0,.int .i64 0,.int .i64 0,.int .i64 0,.bool false],37,false⟩),(1,.row ⟨[.int .i64 s.s_inn,.int .i64 s.s_half,.int .i64 s.outs,.int .i64 s.s_balls,.int .i64 s.s_strikes,.int .i64 s.s_b1,.int .i64 s.s_b2,.int .i64 s.s_b3,.int .i64 s.s_n0,.int .i64 s.s_n1,.int .i64 x3,.int .i64 x2,.bool s.s_over],37,false⟩)] 128 []
 | .k11 x5 x6=>mD [(0,.lptr (rTn.v s) 0),(2,.ptr 0 0),(3,.ptr 1 0)] 2 [(0,.row ⟨[.int .i64 0,.int .i64 0,.int .i64 0,.int .i64 0,.int .i64 0,.int .i64 0,.int .i64 0,.int .i64 0,.int .i64 0,.int .i64 0,.int .i64 0,.int .i64 0,.bool false],37,false⟩),(1,.row ⟨[.int .i64 s.s_inn,.int .i64 s.s_half,.int .i64 s.outs,.int .i64 s.k0,.int .i64 s.k1,.int .i64 s.s_b1,.int .i64 s.s_b2,.int .i64 s.s_b3,.int .i64 s.s_n0,.int .i64 s.s_n1,.int .i64 x5,.int .i64 x6,.bool s.s_over],37,false⟩)] 128 []
 | .k17 x10 x11 x12 x13 x14 x15=>mD [(0,.lptr (rTn.v s) 0),(2,.ptr 0 0),(3,.ptr 1 0)] 2 [(0,.row ⟨[.int .i64 0,.int .i64 0,.int .i64 0,.int .i64 0,.int .i64 0,.int .i64 0,.int .i64 0,.int .i64 0,.int .i64 0,.int .i64 0,.int .i64 0,.int .i64 0,.bool false],37,false⟩),(1,.row ⟨[.int .i64 s.s_inn,.int .i64 s.s_half,.int .i64 s.outs,.int .i64 x14,.int .i64 x15,.int .i64 s.s_b1,.int .i64 s.s_b2,.int .i64 s.s_b3,.int .i64 x13,.int .i64 x10,.int .i64 x11,.int .i64 x12,.bool s.s_over],37,false⟩)] 128 []
noncomputable def Tz86J (s:Tn):(l_:Lz86)→Tr St Lz86 (sLz86 s) (Cod.agg rSt).v
 | .k9 x2 x3=>(.g (.k11 x3 x2))
 | .k11 x5 x6=>(.c aqb sL (s,()) fun r24=>(.i (!r24) (.c Az62 Sz62 ((⟨s.s_inn,s.s_half,s.outs,0,0,s.s_b1,s.s_b2,s.s_b3,s.s_n0,s.s_n1,x5,x6,s.s_over⟩:St),()) fun r25=>(.c Az146 ayB (r25,()) fun r26=>(.i (s.s_half==0) (.g (.k17 s.s_n1 x5 x6 r26 0 0)) (.i (s.s_half==1) (.g (.k17 r26 x5 x6 s.s_n0 0 0)) .n)))) (.g (.k17 s.s_n1 x5 x6 s.s_n0 s.k0 s.k1))))
 | .k17 x10 x11 x12 x13 x14 x15=>(.c Az147 akM (s,()) fun r27=>(.c Az120 akZ ((⟨s.s_inn,s.s_half,s.outs,x14,x15,r27.1,r27.2.1,r27.2.2.1,x13,x10,x11,x12,s.s_over⟩:St),()) fun r28=>(.i r28 (.c Az148 ax1 ((⟨s.s_inn,s.s_half,s.outs,x14,x15,r27.1,r27.2.1,r27.2.2.1,x13,x10,x11,x12,s.s_over⟩:St),()) fun r29=>(.r r29)) (.i (s.outs==3) (.c Az149 akL ((⟨s.s_inn,s.s_half,s.outs,x14,x15,r27.1,r27.2.1,r27.2.2.1,x13,x10,x11,x12,s.s_over⟩:St),()) fun r30=>(.r r30)) (.r (⟨s.s_inn,s.s_half,s.outs,x14,x15,r27.1,r27.2.1,r27.2.2.1,x13,x10,x11,x12,s.s_over⟩:St))))))
noncomputable def Tz86 (s:Tn):Tr St Lz86 (sLz86 s) (Cod.agg rSt).v:=(.i (s.s_half==0) (.c Az89 aki (s,()) fun r23=>(.i (s.s_half==0) (.g (.k9 s.s_c1 (w6 (s.s_c0+((r23.length:Nat):Int))))) (.i (s.s_half==1) (.g (.k9 (w6 (s.s_c0+((r23.length:Nat):Int))) s.s_c0)) .n))) (.i (s.s_half==1) (.c Az89 aki (s,()) fun r22=>(.i (s.s_half==0) (.g (.k9 s.s_c1 (w6 (s.s_c1+((r22.length:Nat):Int))))) (.i (s.s_half==1) (.g (.k9 (w6 (s.s_c1+((r22.length:Nat):Int))) s.s_c0)) .n))) .n))
def vW (s:Tn):=Tr.lp (Tz86J s)
def Ez86 (n:Nat) (s:Tn):=(Tz86 s).d (vW s n)
def Sz86 (x:Tn×Unit):=Ez86 (x.1.p_m.length+64) x.1
def wz86:Wk (Tn×Unit) St Lz86 (Cod.agg rSt).v:=⟨fun x=>sLz86 x.1,uz86,fun x=>Tz86 x.1,fun x=>Tz86J x.1⟩
noncomputable def Kz86:=a4 27 Tryz.func27 [Kz62,Kz89,Kz120,ayN,Kz146,Kz147,Kz148,Kz149] noZ ⟨63,noL,(lookA [(4,⟨[0,2,3],[0,1],2,[],[],[],[]⟩),(5,⟨[0,2,3],[0,1],2,[],[],[],[]⟩),(8,⟨[0,2,3],[0,1],2,[],[],[],[]⟩)]),noL⟩ 128 Az86 (Cod.agg rSt) Sz86 wz86 (fun x=>x.1.p_m.length+64)
def Az32:=(Row.cons (Cod.agg rSt) (Row.cons (Cod.agg rPl) Row.nil))
noncomputable def Tz32 (s:St) (t:Pl):Tr ((St)×(Int)×(Int)×Unit) Empty noS (Cod.tup (Row.cons (Cod.agg rSt) (Row.cons cI (Row.cons cI Row.nil)))).v:=(.c Az85 Sz85 (s,t,()) fun r5=>(.s r5.1 (.i (!(r5.2.2.1==0)) (.r ((⟨0,0,0,0,0,0,0,0,0,0,0,0,false⟩:St),r5.2.1,r5.2.2.1,())) (.v Az86 Sz86 [.raw .nilp] fun r7=>(.r (r7,0,0,())))) fun r6=>(.i (!(r5.2.2.1==0)) (.r ((⟨0,0,0,0,0,0,0,0,0,0,0,0,false⟩:St),r5.2.1,r5.2.2.1,())) (.c Az86 Sz86 (r6,()) fun r8=>(.r (r8,0,0,()))))))
def Ez32 (s:St) (t:Pl):=(Tz32 s t).d noE
def Sz32 (x:St×Pl×Unit):=Ez32 x.1 x.2.1
def wz32:Wk (St×Pl×Unit) ((St)×(Int)×(Int)×Unit) Empty (Cod.tup (Row.cons (Cod.agg rSt) (Row.cons cI (Row.cons cI Row.nil)))).v:=wk0 fun x=>Tz32 x.1 x.2.1
def Kz32:=a4 10 Tryz.func10 [Kz85,Kz86] noZ ⟨24,noL,noL,noL⟩ 128 Az32 (Cod.tup (Row.cons (Cod.agg rSt) (Row.cons cI (Row.cons cI Row.nil)))) Sz32 wz32 (fun _=>0)
def Az90:=(Row.cons (Cod.agg rMv) (Row.cons (Cod.ptr (Row.cons (Cod.ptr rTn) Row.nil)) Row.nil))
def Tz90 (m:Mv) (t:Tn×Unit):Tr Int Empty noS cI.v:=(.c Az91 ayu (t.1,m.f,()) fun r2=>(.r r2))
def Ez90 (m:Mv) (t:Tn×Unit):=(Tz90 m t).d noE
def Sz90 (x:Mv×(Tn×Unit)×Unit):=Ez90 x.1 x.2.1
def Wz88 (r:(List (Int))):V:=.el (r.map vZ.v)
inductive Lz88 where
 | k6 (x2:Int) (x3:List (Int))
def uz88:Lz88→Nat
 | .k6 _ _=>6
noncomputable def azC (l:List (Mv)) (f:(Tn×Unit)×Unit) (x2:Int) (x3:List (List V)):D:=mD [(1,.fn 42 [.lptr [.lptr (rTn.v f.1.1) 0] 0]),(5,.gl 128),(8,(Cod.list mv0 rMv).v l),(9,.int .i64 ((l.length:Nat):Int)),(10,.int .i64 x2)] 0 [] 129 [(128,(x3,3))]
def sLz88 (l:List (Mv)) (f:(Tn×Unit)×Unit):Lz88→D
 | .k6 x2 x3=>azC l f x2 (x3.map vZ.v)
noncomputable def awr (l:List (Mv)) (f:(Tn×Unit)×Unit):(l_:Lz88)→Tr (List (Int)) Lz88 (sLz88 l f) Wz88
 | .k6 x2 x3=>(.i (decide (x2<((l.length:Nat):Int))) (.i (inR x2 l.length) (.c Az90 Sz90 ((l.getD x2.toNat mv0),(f.1.1,()),()) fun r5=>(.i (Nat.ble (8*(((x3.map vZ.v)).length+1)) 1000000) (.j (.k6 (w6 (x2+1)) (x3++[r5])) (azC l f (w6 (x2+1)) ((x3.map vZ.v)++[[.int .i64 r5]])) ⟨by simp only [sLz88,List.map_append,List.map_cons,List.map_nil];rfl⟩) .n)) .n) (.r x3))
def Ez88J (l:List (Mv)) (f:(Tn×Unit)×Unit):=Tr.lp (awr l f)
theorem ak7 {l:List (Mv)}{f:(Tn×Unit)×Unit}{n:Nat}{l_:Lz88}:Ez88J l f (n+1) l_=(awr l f l_).d (Ez88J l f n):=rfl
end
end Go.Ev
