import Derived.Test.YtmejahdlkaifoaaGreatDoorDHand
set_option linter.unusedSimpArgs false
set_option linter.unusedVariables false
namespace Go.Ev
open Go.RowKit Go.Proofs
set_option maxRecDepth 100000
set_option maxHeartbeats 4000000
set_option linter.unusedVariables false
noncomputable section
structure Tn where
 s_inn:Int
 s_half:Int
 s_outs:Int
 s_balls:Int
 s_strikes:Int
 s_b1:Int
 s_b2:Int
 s_b3:Int
 s_n0:Int
 s_n1:Int
 s_c0:Int
 s_c1:Int
 s_over:Bool
 p_p:List Nat
 p_e:List Nat
 p_l:Bool
 p_m:List (Mv)
 k0:Int
 k1:Int
 counted:Bool
 outs:Int
 f0:Bool
 f1:Bool
 f2:Bool
 f3:Bool
noncomputable def rTn:Row Tn:=Row.iso (Row.cons cI (Row.cons cI (Row.cons cI (Row.cons cI (Row.cons cI (Row.cons cI (Row.cons cI (Row.cons cI (Row.cons cI (Row.cons cI (Row.cons cI (Row.cons cI (Row.cons cB (Row.cons cS (Row.cons cS (Row.cons cB (Row.cons (Cod.list mv0 rMv) (Row.cons cI (Row.cons cI (Row.cons cB (Row.cons cI (Row.cons cB (Row.cons cB (Row.cons cB (Row.cons cB Row.nil))))))))))))))))))))))))) (fun x=>⟨x.1,x.2.1,x.2.2.1,x.2.2.2.1,x.2.2.2.2.1,x.2.2.2.2.2.1,x.2.2.2.2.2.2.1,x.2.2.2.2.2.2.2.1,x.2.2.2.2.2.2.2.2.1,x.2.2.2.2.2.2.2.2.2.1,x.2.2.2.2.2.2.2.2.2.2.1,x.2.2.2.2.2.2.2.2.2.2.2.1,x.2.2.2.2.2.2.2.2.2.2.2.2.1,x.2.2.2.2.2.2.2.2.2.2.2.2.2.1,x.2.2.2.2.2.2.2.2.2.2.2.2.2.2.1,x.2.2.2.2.2.2.2.2.2.2.2.2.2.2.2.1,x.2.2.2.2.2.2.2.2.2.2.2.2.2.2.2.2.1,x.2.2.2.2.2.2.2.2.2.2.2.2.2.2.2.2.2.1,x.2.2.2.2.2.2.2.2.2.2.2.2.2.2.2.2.2.2.1,x.2.2.2.2.2.2.2.2.2.2.2.2.2.2.2.2.2.2.2.1,x.2.2.2.2.2.2.2.2.2.2.2.2.2.2.2.2.2.2.2.2.1,x.2.2.2.2.2.2.2.2.2.2.2.2.2.2.2.2.2.2.2.2.2.1,x.2.2.2.2.2.2.2.2.2.2.2.2.2.2.2.2.2.2.2.2.2.2.1,x.2.2.2.2.2.2.2.2.2.2.2.2.2.2.2.2.2.2.2.2.2.2.2.1,x.2.2.2.2.2.2.2.2.2.2.2.2.2.2.2.2.2.2.2.2.2.2.2.2.1⟩) (fun y=>(y.s_inn,y.s_half,y.s_outs,y.s_balls,y.s_strikes,y.s_b1,y.s_b2,y.s_b3,y.s_n0,y.s_n1,y.s_c0,y.s_c1,y.s_over,y.p_p,y.p_e,y.p_l,y.p_m,y.k0,y.k1,y.counted,y.outs,y.f0,y.f1,y.f2,y.f3,())) (fun _=>rfl) (fun _=>rfl)
noncomputable def Az84:=(Row.cons (Cod.agg rPl) Row.nil)
inductive Lz84 where
 | k8 (x1:Int)
noncomputable def uz84:Lz84→Nat
 | .k8 _=>8
noncomputable def sLz84 (s:Pl):Lz84→D
 | .k8 x1=>mD [(1,.ptr 0 0),(3,.int .i64 x1)] 1 [(0,.row ⟨(rPl.v s),28,false⟩)] 128 []
noncomputable def awd (s:Pl):(l_:Lz84)→Tr Bool Lz84 (sLz84 s) cB.v
 | .k8 x1=>(.i (decide (x1<((s.m.length:Nat):Int))) (.i (inR x1 s.m.length) (.i (decide (20<((((s.m.getD x1.toNat mv0).h).length:Nat):Int))) (.r false) (.i (inR x1 s.m.length) (.i (decide (40<((((s.m.getD x1.toNat mv0).b).length:Nat):Int))) (.r false) (.g (.k8 (w6 (x1+1))))) .n)) .n) (.r true))
noncomputable def Tz84 (s:Pl):Tr Bool Lz84 (sLz84 s) cB.v:=(.i (decide (26<((s.p.length:Nat):Int))) (.r false) (.i (decide (20<((s.e.length:Nat):Int))) (.r false) (.i (decide (6<((s.m.length:Nat):Int))) (.r false) (.g (.k8 0)))))
noncomputable def aww (s:Pl):=Tr.lp (awd s)
theorem awv {s:Pl}{n:Nat}{l_:Lz84}:aww s (n+1) l_=(awd s l_).d (aww s n):=rfl
noncomputable def Ez84 (n:Nat) (s:Pl):=(Tz84 s).d (aww s n)
noncomputable def Sz84 (x:Pl×Unit):=Ez84 (x.1.m.length+64) x.1
noncomputable def wz84:Wk (Pl×Unit) Bool Lz84 cB.v:=⟨fun x=>sLz84 x.1,uz84,fun x=>Tz84 x.1,fun x=>awd x.1⟩
noncomputable def Kz84:=aI 5 Tryz.func5 [] noZ ⟨45,(lookA [(4,⟨[1,3],[0],1,[],[],[],[]⟩)]),noL,noL⟩ 128 Az84 cB Sz84 wz84 (fun x=>x.1.m.length+64)
noncomputable def Az61:=(Row.cons (Cod.agg rSt) Row.nil)
noncomputable def Tz61 (s:St):Tr Int Empty noS cI.v:=(.i s.over (.r 20) (.r 0))
noncomputable def Ez61 (s:St):=(Tz61 s).d noE
noncomputable def Sz61 (x:St×Unit):=Ez61 x.1
noncomputable def wz61:Wk (St×Unit) Int Empty cI.v:=wk0 fun x=>Tz61 x.1
noncomputable def Kz61:=aI 27 Tryz.func27 [] noZ ⟨5,noL,noL,noL⟩ 128 Az61 cI Sz61 wz61 (fun _=>0)
noncomputable def Az141:=(Row.cons (Cod.agg rSt) (Row.cons (Cod.ptr rPl) Row.nil))
noncomputable def Tz141 (s:St) (t:Pl):Tr Int Empty noS cI.v:=(.c A142 S142 (t,()) fun r2=>(.r r2))
noncomputable def Ez141 (s:St) (t:Pl):=(Tz141 s t).d noE
noncomputable def Sz141 (x:St×Pl×Unit):=Ez141 x.1 x.2.1
noncomputable def wz141:Wk (St×Pl×Unit) Int Empty cI.v:=wk0 fun x=>Tz141 x.1 x.2.1
noncomputable def Kz141:=aI 51 Tryz.func51 [K142] noZ ⟨6,noL,noL,noL⟩ 128 Az141 cI Sz141 wz141 (fun _=>0)
noncomputable def jT:=(Row.cons (Cod.agg rSt) (Row.cons (Cod.lit (Els.cons (Row.cons (Cod.fn0 26) Row.nil) (Els.cons (Row.cons (Cod.fn 51 (Row.cons (Cod.ptr rPl) Row.nil)) Row.nil) (Els.cons (Row.cons (Cod.fn0 27) Row.nil) Els.nil)))) Row.nil))
inductive aY where
 | k4 (x2:Int)
noncomputable def qM:aY→Nat
 | .k4 _=>4
noncomputable def eP (s:St) (t:((Unit)×Unit)×(((Pl)×Unit)×Unit)×((Unit)×Unit)×Unit):aY→D
 | .k4 x2=>mD [(2,.ptr 0 0),(8,.el [[.raw (.func 26 [])],[.fn 51 [.lptr (rPl.v t.2.1.1.1) 0]],[.raw (.func 27 [])]]),(9,.int .i64 3),(10,.int .i64 x2)] 1 [(0,.row ⟨(rSt.v s),34,false⟩)] 128 []
noncomputable def cW (s:St) (t:((Unit)×Unit)×(((Pl)×Unit)×Unit)×((Unit)×Unit)×Unit):(l_:aY)→Tr Int aY (eP s t) cI.v
 | .k4 x2=>(.i (decide (x2<3)) (.i (x2==0) (.c A18 S18 (s,()) fun r8=>(.i (!(r8==0)) (.r r8) (.g (.k4 (w6 (x2+1)))))) (.i (x2==1) (.c Az141 Sz141 (s,t.2.1.1.1,()) fun r7=>(.i (!(r7==0)) (.r r7) (.g (.k4 (w6 (x2+1)))))) (.i (x2==2) (.c Az61 Sz61 (s,()) fun r6=>(.i (!(r6==0)) (.r r6) (.g (.k4 (w6 (x2+1)))))) .n))) (.r 0))
noncomputable def fM (s:St) (t:((Unit)×Unit)×(((Pl)×Unit)×Unit)×((Unit)×Unit)×Unit):Tr Int aY (eP s t) cI.v:=(.g (.k4 0))
noncomputable def cY (s:St) (t:((Unit)×Unit)×(((Pl)×Unit)×Unit)×((Unit)×Unit)×Unit):=Tr.lp (cW s t)
theorem nA {s:St}{t:((Unit)×Unit)×(((Pl)×Unit)×Unit)×((Unit)×Unit)×Unit}{n:Nat}{l_:aY}:cY s t (n+1) l_=(cW s t l_).d (cY s t n):=rfl
noncomputable def fR (n:Nat) (s:St) (t:((Unit)×Unit)×(((Pl)×Unit)×Unit)×((Unit)×Unit)×Unit):=(fM s t).d (cY s t n)
noncomputable def dY (x:St×(((Unit)×Unit)×(((Pl)×Unit)×Unit)×((Unit)×Unit)×Unit)×Unit):=fR 64 x.1 x.2.1
noncomputable def qK:Wk (St×(((Unit)×Unit)×(((Pl)×Unit)×Unit)×((Unit)×Unit)×Unit)×Unit) Int aY cI.v:=⟨fun x=>eP x.1 x.2.1,qM,fun x=>fM x.1 x.2.1,fun x=>cW x.1 x.2.1⟩
noncomputable def s3:=aI 25 Tryz.func25 [K18,Kz61,Kz141] noZ ⟨21,(lookA [(2,⟨[2,8,9,10],[0],1,[],[],[],[]⟩)]),noL,noL⟩ 128 jT cI dY qK (fun x=>64)
noncomputable def Az196:=(Row.cons (Cod.agg rMv) Row.nil)
noncomputable def Tz196 (s:Mv):Tr Bool Empty noS cB.v:=(.r s.o)
noncomputable def Ez196 (s:Mv):=(Tz196 s).d noE
noncomputable def Sz196 (x:Mv×Unit):=Ez196 x.1
noncomputable def wz196:Wk (Mv×Unit) Bool Empty cB.v:=wk0 fun x=>Tz196 x.1
noncomputable def Kz196:=aI 92 Tryz.func92 [] noZ ⟨5,noL,noL,noL⟩ 128 Az196 cB Sz196 wz196 (fun _=>0)
noncomputable def aqY:=(Row.cons (Cod.list mv0 rMv) (Row.cons (Cod.fn0 92) Row.nil))
inductive fO where
 | k6 (x2:Int) (x3:Int)
noncomputable def avJ:fO→Nat
 | .k6 _ _=>6
noncomputable def nJ (s:List (Mv)) (t:Unit):fO→D
 | .k6 x2 x3=>mD [(1,.raw (.func 92 [])),(5,.int .i64 x2),(8,(Cod.list mv0 rMv).v s),(9,.int .i64 ((s.length:Nat):Int)),(10,.int .i64 x3)] 0 [] 128 []
noncomputable def dK (s:List (Mv)) (t:Unit):(l_:fO)→Tr Int fO (nJ s t) cI.v
 | .k6 x2 x3=>(.i (decide (x3<((s.length:Nat):Int))) (.i (inR x3 s.length) (.c Az196 Sz196 ((s.getD x3.toNat mv0),()) fun r5=>(.i r5 (.g (.k6 (w6 (x2+1)) (w6 (x3+1)))) (.g (.k6 x2 (w6 (x3+1)))))) .n) (.r x2))
noncomputable def sR (s:List (Mv)) (t:Unit):Tr Int fO (nJ s t) cI.v:=(.g (.k6 0 0))
noncomputable def gU (s:List (Mv)) (t:Unit):=Tr.lp (dK s t)
theorem eN {s:List (Mv)}{t:Unit}{n:Nat}{l_:fO}:gU s t (n+1) l_=(dK s t l_).d (gU s t n):=rfl
noncomputable def s6 (n:Nat) (s:List (Mv)) (t:Unit):=(sR s t).d (gU s t n)
noncomputable def sX (x:(List (Mv))×Unit×Unit):=s6 (x.1.length+64) x.1 x.2.1
noncomputable def avD:Wk ((List (Mv))×Unit×Unit) Int fO cI.v:=⟨fun x=>nJ x.1 x.2.1,avJ,fun x=>sR x.1 x.2.1,fun x=>dK x.1 x.2.1⟩
noncomputable def awn:=aI 91 Tryz.func91 [Kz196] noZ ⟨21,(lookA [(3,⟨[1,5,8,9,10],[],0,[],[],[],[]⟩)]),noL,noL⟩ 128 aqY cI sX avD (fun x=>x.1.length+64)
noncomputable def Az63:=(Row.cons (Cod.agg rSt) Row.nil)
inductive Lz63 where
 | k6 (x1:Int) (x2:Bool) (x3:Bool) (x4:Bool)
noncomputable def uz63:Lz63→Nat
 | .k6 _ _ _ _=>6
noncomputable def sLz63 (s:St):Lz63→D
 | .k6 x1 x2 x3 x4=>mD [(2,.ptr 1 0),(3,.ptr 2 0),(8,.agg [.int .i64 s.b1,.int .i64 s.b2,.int .i64 s.b3]),(9,.int .i64 x1)] 3 [(1,.row ⟨[.bool false,.bool false,.bool false,.bool false],95,false⟩),(2,.row ⟨[.bool true,.bool x2,.bool x4,.bool x3],95,false⟩)] 128 []
noncomputable def bqY (s:St):(l_:Lz63)→Tr ((Bool)×(Bool)×(Bool)×(Bool)×Unit) Lz63 (sLz63 s) (Cod.agg (Row.cons cB (Row.cons cB (Row.cons cB (Row.cons cB Row.nil))))).v
 | .k6 x1 x2 x3 x4=>(.i (decide (x1<3)) (.i (x1==0) (.i (s.b1==0) (.r (true,x2,x4,x3,())) (.i ((w6 (x1+1))==0) (.g (.k6 (w6 (x1+1)) x2 x3 x4)) (.i ((w6 (x1+1))==1) (.g (.k6 (w6 (x1+1)) true x3 x4)) (.i ((w6 (x1+1))==2) (.g (.k6 (w6 (x1+1)) x2 x3 true)) (.i ((w6 (x1+1))==3) (.g (.k6 (w6 (x1+1)) x2 true x4)) .n))))) (.i (x1==1) (.i (s.b2==0) (.r (true,x2,x4,x3,())) (.i ((w6 (x1+1))==0) (.g (.k6 (w6 (x1+1)) x2 x3 x4)) (.i ((w6 (x1+1))==1) (.g (.k6 (w6 (x1+1)) true x3 x4)) (.i ((w6 (x1+1))==2) (.g (.k6 (w6 (x1+1)) x2 x3 true)) (.i ((w6 (x1+1))==3) (.g (.k6 (w6 (x1+1)) x2 true x4)) .n))))) (.i (x1==2) (.i (s.b3==0) (.r (true,x2,x4,x3,())) (.i ((w6 (x1+1))==0) (.g (.k6 (w6 (x1+1)) x2 x3 x4)) (.i ((w6 (x1+1))==1) (.g (.k6 (w6 (x1+1)) true x3 x4)) (.i ((w6 (x1+1))==2) (.g (.k6 (w6 (x1+1)) x2 x3 true)) (.i ((w6 (x1+1))==3) (.g (.k6 (w6 (x1+1)) x2 true x4)) .n))))) .n))) (.r (true,x2,x4,x3,())))
noncomputable def Tz63 (s:St):Tr ((Bool)×(Bool)×(Bool)×(Bool)×Unit) Lz63 (sLz63 s) (Cod.agg (Row.cons cB (Row.cons cB (Row.cons cB (Row.cons cB Row.nil))))).v:=(.g (.k6 0 false false false))
noncomputable def bqt (s:St):=Tr.lp (bqY s)
theorem Ez63J_s {s:St}{n:Nat}{l_:Lz63}:bqt s (n+1) l_=(bqY s l_).d (bqt s n):=rfl
noncomputable def Ez63 (n:Nat) (s:St):=(Tz63 s).d (bqt s n)
noncomputable def Sz63 (x:St×Unit):=Ez63 64 x.1
noncomputable def wz63:Wk (St×Unit) ((Bool)×(Bool)×(Bool)×(Bool)×Unit) Lz63 (Cod.agg (Row.cons cB (Row.cons cB (Row.cons cB (Row.cons cB Row.nil))))).v:=⟨fun x=>sLz63 x.1,uz63,fun x=>Tz63 x.1,fun x=>bqY x.1⟩
noncomputable def Kz63:=aI 93 Tryz.func93 [] noZ ⟨20,(lookA [(3,⟨[2,3,8,9],[1,2],3,[],[],[],[]⟩)]),noL,noL⟩ 128 Az63 (Cod.agg (Row.cons cB (Row.cons cB (Row.cons cB (Row.cons cB Row.nil))))) Sz63 wz63 (fun x=>64)
noncomputable def Az143:=(Row.cons (Cod.agg rSt) (Row.cons (Cod.agg rPl) Row.nil))
inductive azk where
 | k2000001 (x4:Int) (x5:Int) (x6:Bool) (x7:Int) (x8:Bool) (x9:Bool) (x10:Bool) (x11:Bool)
noncomputable def uz143:azk→Nat
 | .k2000001 _ _ _ _ _ _ _ _=>2000001
noncomputable def avk (s:St) (t:Pl):azk→D
 | .k2000001 x4 x5 x6 x7 x8 x9 x10 x11=>mD [(4,.lptr [.int .i64 s.inn,.int .i64 s.half,.int .i64 s.outs,.int .i64 s.balls,.int .i64 s.strikes,.int .i64 s.b1,.int .i64 s.b2,.int .i64 s.b3,.int .i64 s.n0,.int .i64 s.n1,.int .i64 s.c0,.int .i64 s.c1,.bool s.over,.str t.p,.str t.e,.bool t.l,(Cod.list mv0 rMv).v t.m,.int .i64 x4,.int .i64 x5,.bool x6,.int .i64 x7,.bool x8,.bool x9,.bool x10,.bool x11] 0)] 0 [] 128 []
noncomputable def bjg (s:St) (t:Pl):(l_:azk)→Tr Tn azk (avk s t) (Cod.ptr rTn).v
 | .k2000001 x4 x5 x6 x7 x8 x9 x10 x11=>(.r (⟨s.inn,s.half,s.outs,s.balls,s.strikes,s.b1,s.b2,s.b3,s.n0,s.n1,s.c0,s.c1,s.over,t.p,t.e,t.l,t.m,x4,x5,x6,x7,x8,x9,x10,x11⟩:Tn))
noncomputable def Tz143 (s:St) (t:Pl):Tr Tn azk (avk s t) (Cod.ptr rTn).v:=(.c A81 S81 (s.balls,s.strikes,t.p,()) fun r15=>(.c aqY sX (t.m,(),()) fun r16=>(.c Az63 Sz63 (s,()) fun r17=>(.g (.k2000001 r15.1.1 r15.1.2.1 (r15.2.2.1==0) (w6 (s.outs+r16)) r17.1 r17.2.1 r17.2.2.1 r17.2.2.2.1)))))
noncomputable def Ez143J (s:St) (t:Pl):=Tr.lp (bjg s t)
noncomputable def Ez143 (n:Nat) (s:St) (t:Pl):=(Tz143 s t).d (Ez143J s t n)
noncomputable def bqd (x:St×Pl×Unit):=Ez143 (x.2.1.m.length+64) x.1 x.2.1
noncomputable def wz143:Wk (St×Pl×Unit) Tn azk (Cod.ptr rTn).v:=⟨fun x=>avk x.1 x.2.1,uz143,fun x=>Tz143 x.1 x.2.1,fun x=>bjg x.1 x.2.1⟩
noncomputable def Kz143:=aI 53 Tryz.func53 [Kz63,K81,awn] noZ ⟨34,noL,(lookA [(1000000,⟨[4],[],0,[],[],[(3,1)],[]⟩)]),noL⟩ 128 Az143 (Cod.ptr rTn) bqd wz143 (fun x=>x.2.1.m.length+64)
noncomputable def Az74:=Row.nil
noncomputable def Tz74:Tr ((List Nat)×Unit×(List Nat)×Unit×(List Nat)×Unit×(List Nat)×Unit×(List Nat)×Unit×(List Nat)×Unit×(List Nat)×Unit×(List Nat)×Unit×(List Nat)×Unit×(List Nat)×Unit×(List Nat)×Unit×(List Nat)×Unit×(List Nat)×Unit×Unit) Empty noS (Cod.agg (Row.cons cS (Row.cons (Cod.fn0 126) (Row.cons cS (Row.cons (Cod.fn0 127) (Row.cons cS (Row.cons (Cod.fn0 128) (Row.cons cS (Row.cons (Cod.fn0 129) (Row.cons cS (Row.cons (Cod.fn0 130) (Row.cons cS (Row.cons (Cod.fn0 131) (Row.cons cS (Row.cons (Cod.fn0 132) (Row.cons cS (Row.cons (Cod.fn0 133) (Row.cons cS (Row.cons (Cod.fn0 134) (Row.cons cS (Row.cons (Cod.fn0 135) (Row.cons cS (Row.cons (Cod.fn0 136) (Row.cons cS (Row.cons (Cod.fn0 137) (Row.cons cS (Row.cons (Cod.fn0 138) Row.nil))))))))))))))))))))))))))).v:=(.r ([112,105,116,99,104,101,115],(),[101,118,101,110,116],(),[98,97,116,116,101,114],(),[114,117,110,110,101,114,115],(),[98,97,116,116,101,114,39,115,32,119,97,121],(),[116,104,105,114,100,32,115,116,114,105,107,101],(),[105,110,102,105,101,108,100,32,102,108,121],(),[119,97,121,115],(),[98,97,108,107],(),[97,119,97,114,100,115],(),[111,114,100,101,114],(),[111,117,116,115],(),[108,97,116,101,32,114,117,110,115],(),()))
noncomputable def Ez74:=(Tz74).d noE
noncomputable def Sz74 (x:Unit):=Ez74
noncomputable def wz74:Wk (Unit) ((List Nat)×Unit×(List Nat)×Unit×(List Nat)×Unit×(List Nat)×Unit×(List Nat)×Unit×(List Nat)×Unit×(List Nat)×Unit×(List Nat)×Unit×(List Nat)×Unit×(List Nat)×Unit×(List Nat)×Unit×(List Nat)×Unit×(List Nat)×Unit×Unit) Empty (Cod.agg (Row.cons cS (Row.cons (Cod.fn0 126) (Row.cons cS (Row.cons (Cod.fn0 127) (Row.cons cS (Row.cons (Cod.fn0 128) (Row.cons cS (Row.cons (Cod.fn0 129) (Row.cons cS (Row.cons (Cod.fn0 130) (Row.cons cS (Row.cons (Cod.fn0 131) (Row.cons cS (Row.cons (Cod.fn0 132) (Row.cons cS (Row.cons (Cod.fn0 133) (Row.cons cS (Row.cons (Cod.fn0 134) (Row.cons cS (Row.cons (Cod.fn0 135) (Row.cons cS (Row.cons (Cod.fn0 136) (Row.cons cS (Row.cons (Cod.fn0 137) (Row.cons cS (Row.cons (Cod.fn0 138) Row.nil))))))))))))))))))))))))))).v:=wk0 fun x=>Tz74
noncomputable def Kz74:=aI 94 Tryz.func94 [] noZ ⟨15,noL,noL,noL⟩ 128 Az74 (Cod.agg (Row.cons cS (Row.cons (Cod.fn0 126) (Row.cons cS (Row.cons (Cod.fn0 127) (Row.cons cS (Row.cons (Cod.fn0 128) (Row.cons cS (Row.cons (Cod.fn0 129) (Row.cons cS (Row.cons (Cod.fn0 130) (Row.cons cS (Row.cons (Cod.fn0 131) (Row.cons cS (Row.cons (Cod.fn0 132) (Row.cons cS (Row.cons (Cod.fn0 133) (Row.cons cS (Row.cons (Cod.fn0 134) (Row.cons cS (Row.cons (Cod.fn0 135) (Row.cons cS (Row.cons (Cod.fn0 136) (Row.cons cS (Row.cons (Cod.fn0 137) (Row.cons cS (Row.cons (Cod.fn0 138) Row.nil))))))))))))))))))))))))))) Sz74 wz74 (fun _=>0)
noncomputable def Az122:=(Row.cons (Cod.ptr rTn) Row.nil)
noncomputable def Tz122 (s:Tn):Tr Bool Empty noS cB.v:=(.r (!s.counted))
noncomputable def Ez122 (s:Tn):=(Tz122 s).d noE
noncomputable def ajb (x:Tn×Unit):=Ez122 x.1
noncomputable def wz122:Wk (Tn×Unit) Bool Empty cB.v:=wk0 fun x=>Tz122 x.1
noncomputable def Kz122:=aI 126 Tryz.func126 [] noZ ⟨8,noL,noL,noL⟩ 128 Az122 cB ajb wz122 (fun _=>0)
noncomputable def Az191:=(Row.cons cS (Row.cons cS Row.nil))
noncomputable def Tz191 (s:List Nat) (t:List Nat):Tr Bool Empty noS cB.v:=(.i (decide (((t.length:Nat):Int)≤((s.length:Nat):Int))) (.i (decide ((0:Int)≤(w6 (((s.length:Nat):Int)-((t.length:Nat):Int))))&&decide ((w6 (((s.length:Nat):Int)-((t.length:Nat):Int)))≤((s.length:Nat):Int))) (.r (decide (((s.take s.length).drop ((w6 (((s.length:Nat):Int)-((t.length:Nat):Int))).toNat))=t))) .n) (.r false))
noncomputable def Ez191 (s:List Nat) (t:List Nat):=(Tz191 s t).d noE
noncomputable def Sz191 (x:(List Nat)×(List Nat)×Unit):=Ez191 x.1 x.2.1
noncomputable def wz191:Wk ((List Nat)×(List Nat)×Unit) Bool Empty cB.v:=wk0 fun x=>Tz191 x.1 x.2.1
noncomputable def Kz191:=aI 104 Tryz.func104 [] noZ ⟨21,noL,noL,noL⟩ 128 Az191 cB Sz191 wz191 (fun _=>0)
noncomputable def Az140:=(Row.cons cS (Row.cons cS Row.nil))
noncomputable def Tz140 (s:List Nat) (t:List Nat):Tr Bool Empty noS cB.v:=(.c Az191 Sz191 (s,t,()) fun r2=>(.r r2))
noncomputable def Ez140 (s:List Nat) (t:List Nat):=(Tz140 s t).d noE
noncomputable def bqe (x:(List Nat)×(List Nat)×Unit):=Ez140 x.1 x.2.1
noncomputable def wz140:Wk ((List Nat)×(List Nat)×Unit) Bool Empty cB.v:=wk0 fun x=>Tz140 x.1 x.2.1
noncomputable def Kz140:=aI 68 Tryz.func68 [Kz191] noZ ⟨8,noL,noL,noL⟩ 128 Az140 cB bqe wz140 (fun _=>0)
noncomputable def Az82:=(Row.cons (Cod.agg (Row.cons cI (Row.cons cI Row.nil))) (Row.cons cS Row.nil))
noncomputable def Tz82 (s:(Int)×(Int)×Unit) (t:List Nat):Tr (List Nat) Empty noS cS.v:=(.i (decide (2<s.2.1)) (.r [75]) (.i (decide (3<s.1)) (.r [87]) (.c Az140 bqe (t,[72],()) fun r3=>(.i r3 (.r [72]) (.c Az140 bqe (t,[88],()) fun r4=>(.i r4 (.r [88]) (.r [])))))))
noncomputable def Ez82 (s:(Int)×(Int)×Unit) (t:List Nat):=(Tz82 s t).d noE
noncomputable def Sz82 (x:((Int)×(Int)×Unit)×(List Nat)×Unit):=Ez82 x.1 x.2.1
noncomputable def wz82:Wk (((Int)×(Int)×Unit)×(List Nat)×Unit) (List Nat) Empty cS.v:=wk0 fun x=>Tz82 x.1 x.2.1
noncomputable def Kz82:=aI 28 Tryz.func28 [Kz140] noZ ⟨19,noL,noL,noL⟩ 128 Az82 cS Sz82 wz82 (fun _=>0)
noncomputable def ajt:=(Row.cons (Cod.ptr rTn) Row.nil)
noncomputable def Tz145 (s:Tn):Tr Bool Empty noS cB.v:=(.r (decide (s.p_e=[])))
noncomputable def Ez145 (s:Tn):=(Tz145 s).d noE
noncomputable def tR (x:Tn×Unit):=Ez145 x.1
noncomputable def wz145:Wk (Tn×Unit) Bool Empty cB.v:=wk0 fun x=>Tz145 x.1
noncomputable def bqp:=aI 56 Tryz.func56 [] noZ ⟨9,noL,noL,noL⟩ 128 ajt cB tR wz145 (fun _=>0)
noncomputable def jU:=(Row.cons (Cod.ptr rTn) (Row.cons cS Row.nil))
noncomputable def Tz178 (s:Tn) (t:List Nat):Tr Bool Empty noS cB.v:=(.i (!decide (s.p_e=[])) (.c azB xH (t,s.p_e,()) fun r2=>(.r r2)) (.r false))
noncomputable def Ez178 (s:Tn) (t:List Nat):=(Tz178 s t).d noE
noncomputable def iO (x:Tn×(List Nat)×Unit):=Ez178 x.1 x.2.1
noncomputable def wz178:Wk (Tn×(List Nat)×Unit) Bool Empty cB.v:=wk0 fun x=>Tz178 x.1 x.2.1
noncomputable def azu:=aI 160 Tryz.func160 [K181] noZ ⟨20,noL,noL,noL⟩ 128 jU cB iO wz178 (fun _=>0)
noncomputable def Az123:=(Row.cons (Cod.ptr rTn) Row.nil)
noncomputable def Tz123 (s:Tn):Tr Bool Empty noS cB.v:=(.c Az82 Sz82 ((s.k0,s.k1,()),s.p_p,()) fun r5=>(.i (decide (r5=[])) (.c ajt tR (s,()) fun r6=>(.i (!r6) (.c jU iO (s,[73,78],()) fun r7=>(.r (!r7))) (.r false))) (.i (decide (r5=[88])) (.c jU iO (s,[88,89],()) fun r8=>(.r (!r8))) (.r (!decide (s.p_e=r5))))))
noncomputable def Ez123 (s:Tn):=(Tz123 s).d noE
noncomputable def aqQ (x:Tn×Unit):=Ez123 x.1
noncomputable def wz123:Wk (Tn×Unit) Bool Empty cB.v:=wk0 fun x=>Tz123 x.1
noncomputable def Kz123:=aI 127 Tryz.func127 [Kz82,bqp,azu] noZ ⟨37,noL,noL,noL⟩ 128 Az123 cB aqQ wz123 (fun _=>0)
noncomputable def bqz:=(Row.cons (Cod.ptr rTn) Row.nil)
noncomputable def Tz179 (s:Tn):Tr ((Mv)×(Bool)×Unit) Empty noS (Cod.tup (Row.cons (Cod.agg rMv) (Row.cons cB Row.nil))).v:=(.i (((s.p_m.length:Nat):Int)==0) (.w ((⟨0,0,false,[],[]⟩:Mv),false,()) (.tup [.agg [.int .i64 0,.int .i64 0,.bool false,.str [],.el []],.bool false]) ⟨by kernel_rfl⟩) (.i (inR (w6 (((s.p_m.length:Nat):Int)-1)) s.p_m.length) (.i (!((s.p_m.getD (w6 (((s.p_m.length:Nat):Int)-1)).toNat mv0).f==0)) (.w ((⟨0,0,false,[],[]⟩:Mv),false,()) (.tup [.agg [.int .i64 0,.int .i64 0,.bool false,.str [],.el []],.bool false]) ⟨by kernel_rfl⟩) (.i (inR (w6 (((s.p_m.length:Nat):Int)-1)) s.p_m.length) (.r ((s.p_m.getD (w6 (((s.p_m.length:Nat):Int)-1)).toNat mv0),true,())) .n)) .n))
noncomputable def Ez179 (s:Tn):=(Tz179 s).d noE
noncomputable def awi (x:Tn×Unit):=Ez179 x.1
noncomputable def wz179:Wk (Tn×Unit) ((Mv)×(Bool)×Unit) Empty (Cod.tup (Row.cons (Cod.agg rMv) (Row.cons cB Row.nil))).v:=wk0 fun x=>Tz179 x.1
noncomputable def Kz179:=aI 161 Tryz.func161 [] noZ ⟨30,noL,noL,noL⟩ 128 bqz (Cod.tup (Row.cons (Cod.agg rMv) (Row.cons cB Row.nil))) awi wz179 (fun _=>0)
noncomputable def Az124:=(Row.cons (Cod.ptr rTn) Row.nil)
noncomputable def Tz124 (s:Tn):Tr Bool Empty noS cB.v:=(.c bqz awi (s,()) fun r3=>(.c ajt tR (s,()) fun r4=>(.r (r3.2.1==r4))))
noncomputable def Ez124 (s:Tn):=(Tz124 s).d noE
noncomputable def aqP (x:Tn×Unit):=Ez124 x.1
noncomputable def wz124:Wk (Tn×Unit) Bool Empty cB.v:=wk0 fun x=>Tz124 x.1
noncomputable def Kz124:=aI 128 Tryz.func128 [bqp,Kz179] noZ ⟨14,noL,noL,noL⟩ 128 Az124 cB aqP wz124 (fun _=>0)
noncomputable def Az125:=(Row.cons (Cod.ptr rTn) Row.nil)
inductive ajo where
 | k200002 (x1:Int)
noncomputable def uz125:ajo→Nat
 | .k200002 _=>200002
noncomputable def avp (s:Tn):ajo→D
 | .k200002 x1=>mE [(0,.raw (.yieldf 4)),(6,(Cod.list mv0 rMv).v s.p_m),(7,.int .i64 ((s.p_m.length:Nat):Int)),(8,.int .i64 x1)] [] none [[(1,.ptr 0 0),(2,.ptr 1 0),(8,.fn 184 [.ptr 2 0])]] 5 [(0,.row ⟨[.lptr (rTn.v s) 0],62,false⟩),(1,.row ⟨[.bool false],4,false⟩),(2,.row ⟨[.str s.p_p,.str s.p_e,.bool s.p_l,(Cod.list mv0 rMv).v s.p_m],28,false⟩),(3,.dfr false),(4,.loop .ready none 20 [(1,.ptr 0 0),(2,.ptr 1 0),(8,.fn 184 [.ptr 2 0])] [9] (subC (pR Tryz.f129) [1,0,1,0,0]) (subC (pR Tryz.f129) [1,0,1,0,1]))] 128 []
noncomputable def z5 (s:Tn):(l_:ajo)→Tr Bool ajo (avp s) cB.v
 | .k200002 x1=>(.i (decide (x1<((s.p_m.length:Nat):Int))) (.i (inR x1 s.p_m.length) (.i (decide (0<(s.p_m.getD x1.toNat mv0).f)) (.i ((w6 ((s.p_m.getD x1.toNat mv0).f-1))==0) (.i (s.s_b1==0) (.r true) (.g (.k200002 (w6 (x1+1))))) (.i ((w6 ((s.p_m.getD x1.toNat mv0).f-1))==1) (.i (s.s_b2==0) (.r true) (.g (.k200002 (w6 (x1+1))))) (.i ((w6 ((s.p_m.getD x1.toNat mv0).f-1))==2) (.i (s.s_b3==0) (.r true) (.g (.k200002 (w6 (x1+1))))) .n))) (.g (.k200002 (w6 (x1+1))))) .n) (.r false))
noncomputable def Tz125 (s:Tn):Tr Bool ajo (avp s) cB.v:=(.g (.k200002 0))
noncomputable def azA (s:Tn):=Tr.lp (z5 s)
theorem axz {s:Tn}{n:Nat}{l_:ajo}:azA s (n+1) l_=(z5 s l_).d (azA s n):=rfl
noncomputable def Ez125 (n:Nat) (s:Tn):=(Tz125 s).d (azA s n)
noncomputable def aqO (x:Tn×Unit):=Ez125 (x.1.p_m.length+64) x.1
noncomputable def wz125:Wk (Tn×Unit) Bool ajo cB.v:=⟨fun x=>avp x.1,uz125,fun x=>Tz125 x.1,fun x=>z5 x.1⟩
noncomputable def Kz125:=aI 129 Tryz.func129 [] noZ ⟨20,(lookA [(100001,⟨[0,6,7,8],[0,1,2,3,4],5,[],[],[],[]⟩)]),noL,(lookA [(2,⟨184,100000,3,22,[],[1,2,8]⟩)])⟩ 128 Az125 cB aqO wz125 (fun x=>x.1.p_m.length+64)
noncomputable def Az126:=(Row.cons (Cod.ptr rTn) Row.nil)
noncomputable def Tz126 (s:Tn):Tr Bool Empty noS cB.v:=(.c bqz awi (s,()) fun r10=>(.i (!r10.2.1) (.r false) (.i (decide (s.p_e=[75])) (.c azB xH ([107,102,103,112,116],r10.1.h,()) fun r11=>(.i (!r11) (.r true) (.i (decide (r10.1.h=[97])) (.r (!(r10.1.t==1))) (.r false)))) (.i (decide (s.p_e=[87])) (.c azB xH ([97],r10.1.h,()) fun r12=>(.i (!r12) (.r true) (.i (decide (r10.1.h=[97])) (.r (!(r10.1.t==1))) (.r false)))) (.i (decide (s.p_e=[72])) (.c azB xH ([97],r10.1.h,()) fun r13=>(.i (!r13) (.r true) (.i (decide (r10.1.h=[97])) (.r (!(r10.1.t==1))) (.r false)))) (.i (decide (s.p_e=[73])) (.c azB xH ([97],r10.1.h,()) fun r14=>(.i (!r14) (.r true) (.i (decide (r10.1.h=[97])) (.r (!(r10.1.t==1))) (.r false)))) (.i (decide (s.p_e=[88])) (.c azB xH ([98,116,111,102,99,103],r10.1.h,()) fun r15=>(.i (!r15) (.r true) (.i (decide (r10.1.h=[97])) (.r (!(r10.1.t==1))) (.r false)))) (.i (decide (s.p_e=[78])) (.c azB xH ([110],r10.1.h,()) fun r16=>(.i (!r16) (.r true) (.i (decide (r10.1.h=[97])) (.r (!(r10.1.t==1))) (.r false)))) (.i (decide (s.p_e=[89])) (.c azB xH ([121],r10.1.h,()) fun r17=>(.i (!r17) (.r true) (.i (decide (r10.1.h=[97])) (.r (!(r10.1.t==1))) (.r false)))) (.c azB xH ([],r10.1.h,()) fun r18=>(.i (!r18) (.r true) (.i (decide (r10.1.h=[97])) (.r (!(r10.1.t==1))) (.r false)))))))))))))
noncomputable def Ez126 (s:Tn):=(Tz126 s).d noE
noncomputable def aqN (x:Tn×Unit):=Ez126 x.1
noncomputable def wz126:Wk (Tn×Unit) Bool Empty cB.v:=wk0 fun x=>Tz126 x.1
noncomputable def Kz126:=aI 130 Tryz.func130 [Kz179,K181] noZ ⟨36,noL,noL,noL⟩ 128 Az126 cB aqN wz126 (fun _=>0)
noncomputable def ajs:=(Row.cons (Cod.ptr rTn) (Row.cons cS Row.nil))
noncomputable def Tz182 (s:Tn) (t:List Nat):Tr Bool Empty noS cB.v:=(.c bqz awi (s,()) fun r3=>(.i r3.2.1 (.i r3.1.o (.c azB xH (t,r3.1.h,()) fun r4=>(.r r4)) (.r false)) (.r false)))
noncomputable def Ez182 (s:Tn) (t:List Nat):=(Tz182 s t).d noE
noncomputable def aqD (x:Tn×(List Nat)×Unit):=Ez182 x.1 x.2.1
noncomputable def wz182:Wk (Tn×(List Nat)×Unit) Bool Empty cB.v:=wk0 fun x=>Tz182 x.1 x.2.1
noncomputable def Kz182:=aI 163 Tryz.func163 [Kz179,K181] noZ ⟨23,noL,noL,noL⟩ 128 ajs cB aqD wz182 (fun _=>0)
noncomputable def Az127:=(Row.cons (Cod.ptr rTn) Row.nil)
noncomputable def Tz127 (s:Tn):Tr Bool Empty noS cB.v:=(.c jU iO (s,[75],()) fun r3=>(.i r3 (.c ajs aqD (s,[107],()) fun r4=>(.i (!r4) (.i (!(s.s_b1==0)) (.r (decide (s.s_outs<2))) (.r false)) (.r false))) (.r false)))
noncomputable def Ez127 (s:Tn):=(Tz127 s).d noE
noncomputable def aqM (x:Tn×Unit):=Ez127 x.1
noncomputable def wz127:Wk (Tn×Unit) Bool Empty cB.v:=wk0 fun x=>Tz127 x.1
noncomputable def Kz127:=aI 131 Tryz.func131 [azu,Kz182] noZ ⟨27,noL,noL,noL⟩ 128 Az127 cB aqM wz127 (fun _=>0)
noncomputable def Az128:=(Row.cons (Cod.ptr rTn) Row.nil)
noncomputable def Tz128 (s:Tn):Tr Bool Empty noS cB.v:=(.c jU iO (s,[89],()) fun r2=>(.i r2 (.i (s.s_outs==2) (.r true) (.i (s.s_b1==0) (.r true) (.r (s.s_b2==0)))) (.r false)))
noncomputable def Ez128 (s:Tn):=(Tz128 s).d noE
noncomputable def aqL (x:Tn×Unit):=Ez128 x.1
noncomputable def wz128:Wk (Tn×Unit) Bool Empty cB.v:=wk0 fun x=>Tz128 x.1
noncomputable def Kz128:=aI 132 Tryz.func132 [azu] noZ ⟨31,noL,noL,noL⟩ 128 Az128 cB aqL wz128 (fun _=>0)
noncomputable def Az183:=(Row.cons (Cod.ptr rTn) (Row.cons (Cod.agg rMv) Row.nil))
noncomputable def Tz183 (s:Tn) (t:Mv):Tr Bool Empty noS cB.v:=(.i (decide (t.h=[102])) (.i (t.f==0) (.i s.f0 (.c jU iO (s,[88,75],()) fun r18=>(.i r18 (.c ajs aqD (s,[99,107],()) fun r19=>(.r (!r19))) (.r false))) (.r false)) (.i (t.f==1) (.i s.f1 (.c jU iO (s,[88,75],()) fun r16=>(.i r16 (.c ajs aqD (s,[99,107],()) fun r17=>(.r (!r17))) (.r false))) (.r false)) (.i (t.f==2) (.i s.f2 (.c jU iO (s,[88,75],()) fun r14=>(.i r14 (.c ajs aqD (s,[99,107],()) fun r15=>(.r (!r15))) (.r false))) (.r false)) (.i (t.f==3) (.i s.f3 (.c jU iO (s,[88,75],()) fun r12=>(.i r12 (.c ajs aqD (s,[99,107],()) fun r13=>(.r (!r13))) (.r false))) (.r false)) .n)))) (.i (decide (t.h=[100])) (.c jU iO (s,[89],()) fun r20=>(.i r20 (.r true) (.c ajs aqD (s,[99],()) fun r21=>(.r r21)))) (.c jU iO (s,[72,73,78],()) fun r22=>(.r (!r22)))))
noncomputable def Ez183 (s:Tn) (t:Mv):=(Tz183 s t).d noE
noncomputable def Sz183 (x:Tn×Mv×Unit):=Ez183 x.1 x.2.1
noncomputable def wz183:Wk (Tn×Mv×Unit) Bool Empty cB.v:=wk0 fun x=>Tz183 x.1 x.2.1
noncomputable def Kz183:=aI 164 Tryz.func164 [azu,Kz182] noZ ⟨36,noL,noL,noL⟩ 128 Az183 cB Sz183 wz183 (fun _=>0)
noncomputable def Az184:=(Row.cons (Cod.ptr rTn) (Row.cons (Cod.agg rMv) Row.nil))
noncomputable def Tz184 (s:Tn) (t:Mv):Tr Bool Empty noS cB.v:=(.i (decide (t.h=[98])) (.c jU iO (s,[88,89],()) fun r9=>(.r r9)) (.i (decide (t.h=[97])) (.c jU iO (s,[87,72,73],()) fun r10=>(.i r10 (.i (t.f==0) (.i s.f0 (.r (t.t==(w6 (t.f+1)))) (.r false)) (.i (t.f==1) (.i s.f1 (.r (t.t==(w6 (t.f+1)))) (.r false)) (.i (t.f==2) (.i s.f2 (.r (t.t==(w6 (t.f+1)))) (.r false)) (.i (t.f==3) (.i s.f3 (.r (t.t==(w6 (t.f+1)))) (.r false)) .n)))) (.r false))) (.i (decide (t.h=[115])) (.c ajt tR (s,()) fun r11=>(.i r11 (.r true) (.c jU iO (s,[75,87],()) fun r12=>(.r r12)))) (.i (decide (t.h=[112])) (.c ajt tR (s,()) fun r13=>(.i r13 (.r (!decide (s.p_p=[]))) (.c jU iO (s,[75,87],()) fun r14=>(.i r14 (.r (!decide (s.p_p=[]))) (.r false))))) (.i (decide (t.h=[107])) (.c ajt tR (s,()) fun r15=>(.r r15)) (.c jU iO (s,[72,73,78],()) fun r16=>(.r (!r16))))))))
noncomputable def Ez184 (s:Tn) (t:Mv):=(Tz184 s t).d noE
noncomputable def bq7 (x:Tn×Mv×Unit):=Ez184 x.1 x.2.1
noncomputable def wz184:Wk (Tn×Mv×Unit) Bool Empty cB.v:=wk0 fun x=>Tz184 x.1 x.2.1
noncomputable def Kz184:=aI 165 Tryz.func165 [bqp,azu] noZ ⟨63,noL,noL,noL⟩ 128 Az184 cB bq7 wz184 (fun _=>0)
noncomputable def Az129:=(Row.cons (Cod.ptr rTn) Row.nil)
inductive ajn where
 | k200002 (x3:Int)
noncomputable def uz129:ajn→Nat
 | .k200002 _=>200002
noncomputable def avo (s:Tn):ajn→D
 | .k200002 x3=>mE [(0,.raw (.yieldf 4)),(6,(Cod.list mv0 rMv).v s.p_m),(7,.int .i64 ((s.p_m.length:Nat):Int)),(8,.int .i64 x3)] [] none [[(1,.ptr 0 0),(2,.ptr 1 0),(8,.fn 184 [.ptr 2 0])]] 5 [(0,.row ⟨[.lptr (rTn.v s) 0],62,false⟩),(1,.row ⟨[.bool false],4,false⟩),(2,.row ⟨[.str s.p_p,.str s.p_e,.bool s.p_l,(Cod.list mv0 rMv).v s.p_m],28,false⟩),(3,.dfr false),(4,.loop .ready none 29 [(1,.ptr 0 0),(2,.ptr 1 0),(8,.fn 184 [.ptr 2 0])] [9] (subC (pR Tryz.f133) [1,0,1,0,0]) (subC (pR Tryz.f133) [1,0,1,0,1]))] 128 []
noncomputable def z4 (s:Tn):(l_:ajn)→Tr Bool ajn (avo s) cB.v
 | .k200002 x3=>(.i (decide (x3<((s.p_m.length:Nat):Int))) (.i (inR x3 s.p_m.length) (.i (decide (0<(s.p_m.getD x3.toNat mv0).f)) (.i ((s.p_m.getD x3.toNat mv0).o) (.c Az183 Sz183 (s,(s.p_m.getD x3.toNat mv0),()) fun r8=>(.i (!r8) (.r true) (.i (!(s.p_m.getD x3.toNat mv0).o) (.c Az184 bq7 (s,(s.p_m.getD x3.toNat mv0),()) fun r9=>(.i (!r9) (.r true) (.g (.k200002 (w6 (x3+1)))))) (.g (.k200002 (w6 (x3+1))))))) (.i (!(s.p_m.getD x3.toNat mv0).o) (.c Az184 bq7 (s,(s.p_m.getD x3.toNat mv0),()) fun r10=>(.i (!r10) (.r true) (.g (.k200002 (w6 (x3+1)))))) (.g (.k200002 (w6 (x3+1)))))) (.g (.k200002 (w6 (x3+1))))) .n) (.r false))
noncomputable def Tz129 (s:Tn):Tr Bool ajn (avo s) cB.v:=(.g (.k200002 0))
noncomputable def axy (s:Tn):=Tr.lp (z4 s)
theorem axx {s:Tn}{n:Nat}{l_:ajn}:axy s (n+1) l_=(z4 s l_).d (axy s n):=rfl
noncomputable def Ez129 (n:Nat) (s:Tn):=(Tz129 s).d (axy s n)
noncomputable def aqK (x:Tn×Unit):=Ez129 (x.1.p_m.length+64) x.1
noncomputable def wz129:Wk (Tn×Unit) Bool ajn cB.v:=⟨fun x=>avo x.1,uz129,fun x=>Tz129 x.1,fun x=>z4 x.1⟩
noncomputable def Kz129:=aI 133 Tryz.func133 [Kz183,Kz184] noZ ⟨29,(lookA [(100001,⟨[0,6,7,8],[0,1,2,3,4],5,[],[],[],[]⟩)]),noL,(lookA [(2,⟨184,100000,3,22,[],[1,2,8]⟩)])⟩ 128 Az129 cB aqK wz129 (fun x=>x.1.p_m.length+64)
noncomputable def Az186:=(Row.cons cI Row.nil)
noncomputable def Tz186 (s:Int):Tr Bool Empty noS cB.v:=(.r (!(s==0)))
noncomputable def Ez186 (s:Int):=(Tz186 s).d noE
noncomputable def Sz186 (x:Int×Unit):=Ez186 x.1
noncomputable def wz186:Wk (Int×Unit) Bool Empty cB.v:=wk0 fun x=>Tz186 x.1
noncomputable def Kz186:=aI 167 Tryz.func167 [] noZ ⟨5,noL,noL,noL⟩ 128 Az186 cB Sz186 wz186 (fun _=>0)
noncomputable def aq0:=(Row.cons (Cod.list 0 p8) (Row.cons (Cod.fn0 167) Row.nil))
inductive fQ where
 | k6 (x2:Int) (x3:Int)
noncomputable def avL:fQ→Nat
 | .k6 _ _=>6
noncomputable def nL (s:List (Int)) (t:Unit):fQ→D
 | .k6 x2 x3=>mD [(1,.raw (.func 167 [])),(5,.int .i64 x2),(8,(Cod.list 0 p8).v s),(9,.int .i64 ((s.length:Nat):Int)),(10,.int .i64 x3)] 0 [] 128 []
noncomputable def kK (s:List (Int)) (t:Unit):(l_:fQ)→Tr Int fQ (nL s t) cI.v
 | .k6 x2 x3=>(.i (decide (x3<((s.length:Nat):Int))) (.i (inR x3 s.length) (.c Az186 Sz186 ((s.getD x3.toNat 0),()) fun r5=>(.i r5 (.g (.k6 (w6 (x2+1)) (w6 (x3+1)))) (.g (.k6 x2 (w6 (x3+1)))))) .n) (.r x2))
noncomputable def sU (s:List (Int)) (t:Unit):Tr Int fQ (nL s t) cI.v:=(.g (.k6 0 0))
noncomputable def kL (s:List (Int)) (t:Unit):=Tr.lp (kK s t)
theorem aqU {s:List (Int)}{t:Unit}{n:Nat}{l_:fQ}:kL s t (n+1) l_=(kK s t l_).d (kL s t n):=rfl
noncomputable def s8 (n:Nat) (s:List (Int)) (t:Unit):=(sU s t).d (kL s t n)
noncomputable def sZ (x:(List (Int))×Unit×Unit):=s8 (x.1.length+64) x.1 x.2.1
noncomputable def avF:Wk ((List (Int))×Unit×Unit) Int fQ cI.v:=⟨fun x=>nL x.1 x.2.1,avL,fun x=>sU x.1 x.2.1,fun x=>kK x.1 x.2.1⟩
noncomputable def awp:=aI 166 Tryz.func166 [Kz186] noZ ⟨21,(lookA [(3,⟨[1,5,8,9,10],[],0,[],[],[],[]⟩)]),noL,noL⟩ 128 aq0 cI sZ avF (fun x=>x.1.length+64)
noncomputable def Az130:=(Row.cons (Cod.ptr rTn) Row.nil)
inductive ajm where
 | k200002 (x1:Int) (x2:Bool) (x3:Int)
noncomputable def uz130:ajm→Nat
 | .k200002 _ _ _=>200002
noncomputable def avn (s:Tn):ajm→D
 | .k200002 x1 x2 x3=>mE [(0,.raw (.yieldf 4)),(6,(Cod.list mv0 rMv).v s.p_m),(7,.int .i64 ((s.p_m.length:Nat):Int)),(8,.int .i64 x1)] [] none [[(0,.lptr (rTn.v s) 0),(2,.bool false),(3,.ptr 0 0),(4,.ptr 1 0),(10,.fn 184 [.ptr 2 0])]] 5 [(0,.row ⟨[.bool x2],4,false⟩),(1,.row ⟨[.int .i64 x3],3,false⟩),(2,.row ⟨[.str s.p_p,.str s.p_e,.bool s.p_l,(Cod.list mv0 rMv).v s.p_m],28,false⟩),(3,.dfr false),(4,.loop .ready none 34 [(0,.lptr (rTn.v s) 0),(2,.bool false),(3,.ptr 0 0),(4,.ptr 1 0),(10,.fn 184 [.ptr 2 0])] [11] (subC (pR Tryz.f134) [1,1,0,1,0,0]) (subC (pR Tryz.f134) [1,1,0,1,0,1]))] 128 []
noncomputable def zZ (s:Tn):(l_:ajm)→Tr Bool ajm (avn s) cB.v
 | .k200002 x1 x2 x3=>(.i (decide (x1<((s.p_m.length:Nat):Int))) (.i (inR x1 s.p_m.length) (.i (decide (0<(s.p_m.getD x1.toNat mv0).f)) (.i (decide (((s.p_m.getD x1.toNat mv0).h)=[107])) (.i ((s.p_m.getD x1.toNat mv0).t==(w6 ((s.p_m.getD x1.toNat mv0).f+1))) (.g (.k200002 (w6 (x1+1)) true (w6 (x3+1)))) (.g (.k200002 (w6 (x1+1)) true x3))) (.g (.k200002 (w6 (x1+1)) x2 x3))) (.g (.k200002 (w6 (x1+1)) x2 x3))) .n) (.i x2 (.c aq0 sZ ([s.s_b1,s.s_b2,s.s_b3],(),()) fun r5=>(.r (decide (x3<r5)))) (.r false)))
noncomputable def Tz130 (s:Tn):Tr Bool ajm (avn s) cB.v:=(.g (.k200002 0 false 0))
noncomputable def axw (s:Tn):=Tr.lp (zZ s)
theorem axv {s:Tn}{n:Nat}{l_:ajm}:axw s (n+1) l_=(zZ s l_).d (axw s n):=rfl
noncomputable def Ez130 (n:Nat) (s:Tn):=(Tz130 s).d (axw s n)
noncomputable def aqJ (x:Tn×Unit):=Ez130 (x.1.p_m.length+64) x.1
noncomputable def wz130:Wk (Tn×Unit) Bool ajm cB.v:=⟨fun x=>avn x.1,uz130,fun x=>Tz130 x.1,fun x=>zZ x.1⟩
noncomputable def Kz130:=aI 134 Tryz.func134 [awp] noZ ⟨34,(lookA [(100001,⟨[0,6,7,8],[0,1,2,3,4],5,[],[],[],[]⟩)]),noL,(lookA [(3,⟨184,100000,3,22,[],[0,2,3,4,10]⟩)])⟩ 128 Az130 cB aqJ wz130 (fun x=>x.1.p_m.length+64)
noncomputable def Az131:=(Row.cons (Cod.ptr rTn) Row.nil)
inductive ajl where
 | k10 (x2:Int) (x3:Bool) (x4:Bool) (x5:Bool) (x6:Bool)
noncomputable def uz131:ajl→Nat
 | .k10 _ _ _ _ _=>10
noncomputable def avm (s:Tn):ajl→D
 | .k10 x2 x3 x4 x5 x6=>mD [(3,.ptr 0 0),(17,(Cod.list mv0 rMv).v s.p_m),(18,.int .i64 ((s.p_m.length:Nat):Int)),(19,.int .i64 x2)] 1 [(0,.row ⟨[.bool x6,.bool x5,.bool x4,.bool x3],95,false⟩)] 128 []
noncomputable def zY (s:Tn):(l_:ajl)→Tr Bool ajl (avm s) cB.v
 | .k10 x2 x3 x4 x5 x6=>(.i (decide (x2<((s.p_m.length:Nat):Int))) (.i (inR x2 s.p_m.length) (.i (!(s.p_m.getD x2.toNat mv0).o) (.i ((s.p_m.getD x2.toNat mv0).f==0) (.g (.k10 (w6 (x2+1)) x3 x4 x5 false)) (.i ((s.p_m.getD x2.toNat mv0).f==1) (.g (.k10 (w6 (x2+1)) x3 x4 false x6)) (.i ((s.p_m.getD x2.toNat mv0).f==2) (.g (.k10 (w6 (x2+1)) x3 false x5 x6)) (.i ((s.p_m.getD x2.toNat mv0).f==3) (.g (.k10 (w6 (x2+1)) false x4 x5 x6)) .n)))) (.g (.k10 (w6 (x2+1)) x3 x4 x5 x6))) .n) (.r (!((x6==false)&&((x5==false)&&((x4==false)&&((x3==false)&&true)))))))
noncomputable def Tz131 (s:Tn):Tr Bool ajl (avm s) cB.v:=(.c jU iO (s,[87,72,73],()) fun r8=>(.i (!r8) (.r false) (.g (.k10 0 s.f3 s.f2 s.f1 s.f0))))
noncomputable def aqW (s:Tn):=Tr.lp (zY s)
theorem axu {s:Tn}{n:Nat}{l_:ajl}:aqW s (n+1) l_=(zY s l_).d (aqW s n):=rfl
noncomputable def Ez131 (n:Nat) (s:Tn):=(Tz131 s).d (aqW s n)
noncomputable def aqI (x:Tn×Unit):=Ez131 (x.1.p_m.length+64) x.1
noncomputable def wz131:Wk (Tn×Unit) Bool ajl cB.v:=⟨fun x=>avm x.1,uz131,fun x=>Tz131 x.1,fun x=>zY x.1⟩
noncomputable def Kz131:=aI 135 Tryz.func135 [azu] noZ ⟨33,(lookA [(5,⟨[3,17,18,19],[0],1,[],[],[],[]⟩)]),noL,noL⟩ 128 Az131 cB aqI wz131 (fun x=>x.1.p_m.length+64)
noncomputable def Az152:=(Row.cons (Cod.ptr rTn) Row.nil)
inductive aji where
 | k6 (x1:Int) (x2:Int) (x3:Int) (x4:Int) (x5:Int)
 | k18 (x6:Int) (x7:Int) (x8:Int) (x9:Int) (x10:Int)
noncomputable def uz152:aji→Nat
 | .k6 _ _ _ _ _=>6
 | .k18 _ _ _ _ _=>18
noncomputable def avg (s:Tn):aji→D
 | .k6 x1 x2 x3 x4 x5=>mD [(0,.lptr (rTn.v s) 0),(2,.ptr 0 0),(3,.ptr 1 0),(12,.agg [.int .i64 s.s_b1,.int .i64 s.s_b2,.int .i64 s.s_b3]),(13,.int .i64 x1)] 2 [(0,.row ⟨[.int .i64 0,.int .i64 0,.int .i64 0,.int .i64 0],179,false⟩),(1,.row ⟨[.int .i64 x5,.int .i64 x2,.int .i64 x4,.int .i64 x3],179,false⟩)] 128 []
 | .k18 x6 x7 x8 x9 x10=>mD [(2,.ptr 0 0),(3,.ptr 1 0),(29,(Cod.list mv0 rMv).v s.p_m),(30,.int .i64 ((s.p_m.length:Nat):Int)),(31,.int .i64 x10)] 2 [(0,.row ⟨[.int .i64 0,.int .i64 0,.int .i64 0,.int .i64 0],179,false⟩),(1,.row ⟨[.int .i64 x7,.int .i64 x6,.int .i64 x8,.int .i64 x9],179,false⟩)] 128 []
noncomputable def u0 (s:Tn):(l_:aji)→Tr ((Int)×(Int)×(Int)×(Int)×Unit) aji (avg s) (Cod.agg (Row.cons cI (Row.cons cI (Row.cons cI (Row.cons cI Row.nil))))).v
 | .k6 x1 x2 x3 x4 x5=>(.i (decide (x1<3)) (.i (x1==0) (.i (!(s.s_b1==0)) (.i ((w6 (x1+1))==0) (.g (.k6 (w6 (x1+1)) x2 x3 x4 (w6 (x1+1)))) (.i ((w6 (x1+1))==1) (.g (.k6 (w6 (x1+1)) (w6 (x1+1)) x3 x4 x5)) (.i ((w6 (x1+1))==2) (.g (.k6 (w6 (x1+1)) x2 x3 (w6 (x1+1)) x5)) (.i ((w6 (x1+1))==3) (.g (.k6 (w6 (x1+1)) x2 (w6 (x1+1)) x4 x5)) .n)))) (.g (.k6 (w6 (x1+1)) x2 x3 x4 x5))) (.i (x1==1) (.i (!(s.s_b2==0)) (.i ((w6 (x1+1))==0) (.g (.k6 (w6 (x1+1)) x2 x3 x4 (w6 (x1+1)))) (.i ((w6 (x1+1))==1) (.g (.k6 (w6 (x1+1)) (w6 (x1+1)) x3 x4 x5)) (.i ((w6 (x1+1))==2) (.g (.k6 (w6 (x1+1)) x2 x3 (w6 (x1+1)) x5)) (.i ((w6 (x1+1))==3) (.g (.k6 (w6 (x1+1)) x2 (w6 (x1+1)) x4 x5)) .n)))) (.g (.k6 (w6 (x1+1)) x2 x3 x4 x5))) (.i (x1==2) (.i (!(s.s_b3==0)) (.i ((w6 (x1+1))==0) (.g (.k6 (w6 (x1+1)) x2 x3 x4 (w6 (x1+1)))) (.i ((w6 (x1+1))==1) (.g (.k6 (w6 (x1+1)) (w6 (x1+1)) x3 x4 x5)) (.i ((w6 (x1+1))==2) (.g (.k6 (w6 (x1+1)) x2 x3 (w6 (x1+1)) x5)) (.i ((w6 (x1+1))==3) (.g (.k6 (w6 (x1+1)) x2 (w6 (x1+1)) x4 x5)) .n)))) (.g (.k6 (w6 (x1+1)) x2 x3 x4 x5))) .n))) (.g (.k18 x2 x5 x4 x3 0)))
 | .k18 x6 x7 x8 x9 x10=>(.i (decide (x10<((s.p_m.length:Nat):Int))) (.i (inR x10 s.p_m.length) (.i ((s.p_m.getD x10.toNat mv0).f==0) (.i ((s.p_m.getD x10.toNat mv0).o) (.i ((s.p_m.getD x10.toNat mv0).f==0) (.g (.k18 x6 0 x8 x9 (w6 (x10+1)))) (.i ((s.p_m.getD x10.toNat mv0).f==1) (.g (.k18 0 (s.p_m.getD x10.toNat mv0).t x8 x9 (w6 (x10+1)))) (.i ((s.p_m.getD x10.toNat mv0).f==2) (.g (.k18 x6 (s.p_m.getD x10.toNat mv0).t 0 x9 (w6 (x10+1)))) (.i ((s.p_m.getD x10.toNat mv0).f==3) (.g (.k18 x6 (s.p_m.getD x10.toNat mv0).t x8 0 (w6 (x10+1)))) .n)))) (.g (.k18 x6 (s.p_m.getD x10.toNat mv0).t x8 x9 (w6 (x10+1))))) (.i ((s.p_m.getD x10.toNat mv0).f==1) (.i ((s.p_m.getD x10.toNat mv0).o) (.i ((s.p_m.getD x10.toNat mv0).f==0) (.g (.k18 (s.p_m.getD x10.toNat mv0).t 0 x8 x9 (w6 (x10+1)))) (.i ((s.p_m.getD x10.toNat mv0).f==1) (.g (.k18 0 x7 x8 x9 (w6 (x10+1)))) (.i ((s.p_m.getD x10.toNat mv0).f==2) (.g (.k18 (s.p_m.getD x10.toNat mv0).t x7 0 x9 (w6 (x10+1)))) (.i ((s.p_m.getD x10.toNat mv0).f==3) (.g (.k18 (s.p_m.getD x10.toNat mv0).t x7 x8 0 (w6 (x10+1)))) .n)))) (.g (.k18 (s.p_m.getD x10.toNat mv0).t x7 x8 x9 (w6 (x10+1))))) (.i ((s.p_m.getD x10.toNat mv0).f==2) (.i ((s.p_m.getD x10.toNat mv0).o) (.i ((s.p_m.getD x10.toNat mv0).f==0) (.g (.k18 x6 0 (s.p_m.getD x10.toNat mv0).t x9 (w6 (x10+1)))) (.i ((s.p_m.getD x10.toNat mv0).f==1) (.g (.k18 0 x7 (s.p_m.getD x10.toNat mv0).t x9 (w6 (x10+1)))) (.i ((s.p_m.getD x10.toNat mv0).f==2) (.g (.k18 x6 x7 0 x9 (w6 (x10+1)))) (.i ((s.p_m.getD x10.toNat mv0).f==3) (.g (.k18 x6 x7 (s.p_m.getD x10.toNat mv0).t 0 (w6 (x10+1)))) .n)))) (.g (.k18 x6 x7 (s.p_m.getD x10.toNat mv0).t x9 (w6 (x10+1))))) (.i ((s.p_m.getD x10.toNat mv0).f==3) (.i ((s.p_m.getD x10.toNat mv0).o) (.i ((s.p_m.getD x10.toNat mv0).f==0) (.g (.k18 x6 0 x8 (s.p_m.getD x10.toNat mv0).t (w6 (x10+1)))) (.i ((s.p_m.getD x10.toNat mv0).f==1) (.g (.k18 0 x7 x8 (s.p_m.getD x10.toNat mv0).t (w6 (x10+1)))) (.i ((s.p_m.getD x10.toNat mv0).f==2) (.g (.k18 x6 x7 0 (s.p_m.getD x10.toNat mv0).t (w6 (x10+1)))) (.i ((s.p_m.getD x10.toNat mv0).f==3) (.g (.k18 x6 x7 x8 0 (w6 (x10+1)))) .n)))) (.g (.k18 x6 x7 x8 (s.p_m.getD x10.toNat mv0).t (w6 (x10+1))))) .n)))) .n) (.r (x7,x6,x8,x9,())))
noncomputable def Tz152 (s:Tn):Tr ((Int)×(Int)×(Int)×(Int)×Unit) aji (avg s) (Cod.agg (Row.cons cI (Row.cons cI (Row.cons cI (Row.cons cI Row.nil))))).v:=(.g (.k6 0 0 0 0 0))
noncomputable def vB (s:Tn):=Tr.lp (u0 s)
theorem xJ {s:Tn}{n:Nat}{l_:aji}:vB s (n+1) l_=(u0 s l_).d (vB s n):=rfl
noncomputable def Ez152 (n:Nat) (s:Tn):=(Tz152 s).d (vB s n)
noncomputable def Sz152 (x:Tn×Unit):=Ez152 (x.1.p_m.length+64) x.1
noncomputable def wz152:Wk (Tn×Unit) ((Int)×(Int)×(Int)×(Int)×Unit) aji (Cod.agg (Row.cons cI (Row.cons cI (Row.cons cI (Row.cons cI Row.nil))))).v:=⟨fun x=>avg x.1,uz152,fun x=>Tz152 x.1,fun x=>u0 x.1⟩
noncomputable def Kz152:=aI 168 Tryz.func168 [] noZ ⟨47,(lookA [(3,⟨[0,2,3,12,13],[0,1],2,[],[],[],[]⟩),(9,⟨[2,3,29,30,31],[0,1],2,[],[],[],[]⟩)]),noL,noL⟩ 128 Az152 (Cod.agg (Row.cons cI (Row.cons cI (Row.cons cI (Row.cons cI Row.nil))))) Sz152 wz152 (fun x=>x.1.p_m.length+64)
noncomputable def Az132:=(Row.cons (Cod.ptr rTn) Row.nil)
inductive azl where
 | k6_0 (x2:Int) (x3:Int) (x4:Int) (x5:Int) (x6:Int) (x7:Int) (x8:Int) (x9:Int)
 | k12_0 (x10:Int) (x11:Int) (x12:Int) (x13:Int) (x14:Int) (x15:Int) (x16:Int) (x17:Int) (x18:Int)
 | k6_1 (x19:Int) (x20:Int) (x21:Int) (x22:Int) (x23:Int) (x24:Int) (x25:Int) (x26:Int)
 | k12_1 (x27:Int) (x28:Int) (x29:Int) (x30:Int) (x31:Int) (x32:Int) (x33:Int) (x34:Int) (x35:Int)
 | k12_2 (x36:Int) (x37:Int) (x38:Int) (x39:Int) (x40:Int) (x41:Int) (x42:Int) (x43:Int) (x44:Int)
 | k6_2 (x45:Int) (x46:Int) (x47:Int) (x48:Int) (x49:Int) (x50:Int) (x51:Int) (x52:Int)
 | k12_3 (x53:Int) (x54:Int) (x55:Int) (x56:Int) (x57:Int) (x58:Int) (x59:Int) (x60:Int) (x61:Int)
 | k12_4 (x62:Int) (x63:Int) (x64:Int) (x65:Int) (x66:Int) (x67:Int) (x68:Int) (x69:Int) (x70:Int)
 | k12_5 (x71:Int) (x72:Int) (x73:Int) (x74:Int) (x75:Int) (x76:Int) (x77:Int) (x78:Int) (x79:Int)
 | k6_3 (x80:Int) (x81:Int) (x82:Int) (x83:Int) (x84:Int) (x85:Int) (x86:Int) (x87:Int)
 | k12_6 (x88:Int) (x89:Int) (x90:Int) (x91:Int) (x92:Int) (x93:Int) (x94:Int) (x95:Int) (x96:Int)
 | k12_7 (x97:Int) (x98:Int) (x99:Int) (x100:Int) (x101:Int) (x102:Int) (x103:Int) (x104:Int) (x105:Int)
 | k12_8 (x106:Int) (x107:Int) (x108:Int) (x109:Int) (x110:Int) (x111:Int) (x112:Int) (x113:Int) (x114:Int)
 | k12_9 (x115:Int) (x116:Int) (x117:Int) (x118:Int) (x119:Int) (x120:Int) (x121:Int) (x122:Int) (x123:Int)
 | k6_4 (x124:Int) (x125:Int) (x126:Int) (x127:Int) (x128:Int) (x129:Int) (x130:Int) (x131:Int)
noncomputable def uz132:azl→Nat
 | .k6_0 _ _ _ _ _ _ _ _=>6
 | .k12_0 _ _ _ _ _ _ _ _ _=>12
 | .k6_1 _ _ _ _ _ _ _ _=>6
 | .k12_1 _ _ _ _ _ _ _ _ _=>12
 | .k12_2 _ _ _ _ _ _ _ _ _=>12
 | .k6_2 _ _ _ _ _ _ _ _=>6
 | .k12_3 _ _ _ _ _ _ _ _ _=>12
 | .k12_4 _ _ _ _ _ _ _ _ _=>12
 | .k12_5 _ _ _ _ _ _ _ _ _=>12
 | .k6_3 _ _ _ _ _ _ _ _=>6
 | .k12_6 _ _ _ _ _ _ _ _ _=>12
 | .k12_7 _ _ _ _ _ _ _ _ _=>12
 | .k12_8 _ _ _ _ _ _ _ _ _=>12
 | .k12_9 _ _ _ _ _ _ _ _ _=>12
 | .k6_4 _ _ _ _ _ _ _ _=>6
noncomputable def avl (s:Tn):azl→D
 | .k6_0 x2 x3 x4 x5 x6 x7 x8 x9=>mD [(3,.ptr 0 0),(10,.agg [.int .i64 x2,.int .i64 x3,.int .i64 x4,.int .i64 x5]),(11,.int .i64 0)] 1 [(0,.row ⟨[.int .i64 x6,.int .i64 x7,.int .i64 x8,.int .i64 x9],179,false⟩)] 128 []
 | .k12_0 x10 x11 x12 x13 x14 x15 x16 x17 x18=>mD [(3,.ptr 0 0),(5,.int .i64 x10),(10,.agg [.int .i64 x11,.int .i64 x12,.int .i64 x13,.int .i64 x14]),(11,.int .i64 0),(16,.sl 0 0 0 (.exact 4)),(17,.int .i64 0),(18,.int .i64 0)] 1 [(0,.row ⟨[.int .i64 x15,.int .i64 x16,.int .i64 x17,.int .i64 x18],179,false⟩)] 128 []
 | .k6_1 x19 x20 x21 x22 x23 x24 x25 x26=>mD [(3,.ptr 0 0),(10,.agg [.int .i64 x19,.int .i64 x20,.int .i64 x21,.int .i64 x22]),(11,.int .i64 1)] 1 [(0,.row ⟨[.int .i64 x23,.int .i64 x24,.int .i64 x25,.int .i64 x26],179,false⟩)] 128 []
 | .k12_1 x27 x28 x29 x30 x31 x32 x33 x34 x35=>mD [(3,.ptr 0 0),(5,.int .i64 x27),(10,.agg [.int .i64 x28,.int .i64 x29,.int .i64 x30,.int .i64 x31]),(11,.int .i64 1),(16,.sl 0 0 1 (.exact 4)),(17,.int .i64 1),(18,.int .i64 0)] 1 [(0,.row ⟨[.int .i64 x32,.int .i64 x33,.int .i64 x34,.int .i64 x35],179,false⟩)] 128 []
 | .k12_2 x36 x37 x38 x39 x40 x41 x42 x43 x44=>mD [(3,.ptr 0 0),(5,.int .i64 x36),(10,.agg [.int .i64 x37,.int .i64 x38,.int .i64 x39,.int .i64 x40]),(11,.int .i64 1),(16,.sl 0 0 1 (.exact 4)),(17,.int .i64 1),(18,.int .i64 1)] 1 [(0,.row ⟨[.int .i64 x41,.int .i64 x42,.int .i64 x43,.int .i64 x44],179,false⟩)] 128 []
 | .k6_2 x45 x46 x47 x48 x49 x50 x51 x52=>mD [(3,.ptr 0 0),(10,.agg [.int .i64 x45,.int .i64 x46,.int .i64 x47,.int .i64 x48]),(11,.int .i64 2)] 1 [(0,.row ⟨[.int .i64 x49,.int .i64 x50,.int .i64 x51,.int .i64 x52],179,false⟩)] 128 []
 | .k12_3 x53 x54 x55 x56 x57 x58 x59 x60 x61=>mD [(3,.ptr 0 0),(5,.int .i64 x53),(10,.agg [.int .i64 x54,.int .i64 x55,.int .i64 x56,.int .i64 x57]),(11,.int .i64 2),(16,.sl 0 0 2 (.exact 4)),(17,.int .i64 2),(18,.int .i64 0)] 1 [(0,.row ⟨[.int .i64 x58,.int .i64 x59,.int .i64 x60,.int .i64 x61],179,false⟩)] 128 []
 | .k12_4 x62 x63 x64 x65 x66 x67 x68 x69 x70=>mD [(3,.ptr 0 0),(5,.int .i64 x62),(10,.agg [.int .i64 x63,.int .i64 x64,.int .i64 x65,.int .i64 x66]),(11,.int .i64 2),(16,.sl 0 0 2 (.exact 4)),(17,.int .i64 2),(18,.int .i64 1)] 1 [(0,.row ⟨[.int .i64 x67,.int .i64 x68,.int .i64 x69,.int .i64 x70],179,false⟩)] 128 []
 | .k12_5 x71 x72 x73 x74 x75 x76 x77 x78 x79=>mD [(3,.ptr 0 0),(5,.int .i64 x71),(10,.agg [.int .i64 x72,.int .i64 x73,.int .i64 x74,.int .i64 x75]),(11,.int .i64 2),(16,.sl 0 0 2 (.exact 4)),(17,.int .i64 2),(18,.int .i64 2)] 1 [(0,.row ⟨[.int .i64 x76,.int .i64 x77,.int .i64 x78,.int .i64 x79],179,false⟩)] 128 []
 | .k6_3 x80 x81 x82 x83 x84 x85 x86 x87=>mD [(3,.ptr 0 0),(10,.agg [.int .i64 x80,.int .i64 x81,.int .i64 x82,.int .i64 x83]),(11,.int .i64 3)] 1 [(0,.row ⟨[.int .i64 x84,.int .i64 x85,.int .i64 x86,.int .i64 x87],179,false⟩)] 128 []
 | .k12_6 x88 x89 x90 x91 x92 x93 x94 x95 x96=>mD [(3,.ptr 0 0),(5,.int .i64 x88),(10,.agg [.int .i64 x89,.int .i64 x90,.int .i64 x91,.int .i64 x92]),(11,.int .i64 3),(16,.sl 0 0 3 (.exact 4)),(17,.int .i64 3),(18,.int .i64 0)] 1 [(0,.row ⟨[.int .i64 x93,.int .i64 x94,.int .i64 x95,.int .i64 x96],179,false⟩)] 128 []
 | .k12_7 x97 x98 x99 x100 x101 x102 x103 x104 x105=>mD [(3,.ptr 0 0),(5,.int .i64 x97),(10,.agg [.int .i64 x98,.int .i64 x99,.int .i64 x100,.int .i64 x101]),(11,.int .i64 3),(16,.sl 0 0 3 (.exact 4)),(17,.int .i64 3),(18,.int .i64 1)] 1 [(0,.row ⟨[.int .i64 x102,.int .i64 x103,.int .i64 x104,.int .i64 x105],179,false⟩)] 128 []
 | .k12_8 x106 x107 x108 x109 x110 x111 x112 x113 x114=>mD [(3,.ptr 0 0),(5,.int .i64 x106),(10,.agg [.int .i64 x107,.int .i64 x108,.int .i64 x109,.int .i64 x110]),(11,.int .i64 3),(16,.sl 0 0 3 (.exact 4)),(17,.int .i64 3),(18,.int .i64 2)] 1 [(0,.row ⟨[.int .i64 x111,.int .i64 x112,.int .i64 x113,.int .i64 x114],179,false⟩)] 128 []
 | .k12_9 x115 x116 x117 x118 x119 x120 x121 x122 x123=>mD [(3,.ptr 0 0),(5,.int .i64 x115),(10,.agg [.int .i64 x116,.int .i64 x117,.int .i64 x118,.int .i64 x119]),(11,.int .i64 3),(16,.sl 0 0 3 (.exact 4)),(17,.int .i64 3),(18,.int .i64 3)] 1 [(0,.row ⟨[.int .i64 x120,.int .i64 x121,.int .i64 x122,.int .i64 x123],179,false⟩)] 128 []
 | .k6_4 x124 x125 x126 x127 x128 x129 x130 x131=>mD [(3,.ptr 0 0),(10,.agg [.int .i64 x124,.int .i64 x125,.int .i64 x126,.int .i64 x127]),(11,.int .i64 4)] 1 [(0,.row ⟨[.int .i64 x128,.int .i64 x129,.int .i64 x130,.int .i64 x131],179,false⟩)] 128 []
noncomputable def bjh (s:Tn):(l_:azl)→Tr Bool azl (avl s) cB.v
 | .k6_0 x2 x3 x4 x5 x6 x7 x8 x9=>(.g (.k12_0 x2 x2 x3 x4 x5 x6 x7 x8 x9))
 | .k12_0 x10 x11 x12 x13 x14 x15 x16 x17 x18=>(.g (.k6_1 x11 x12 x13 x14 x15 x16 x17 x18))
 | .k6_1 x19 x20 x21 x22 x23 x24 x25 x26=>(.g (.k12_1 x20 x19 x20 x21 x22 x23 x24 x25 x26))
 | .k12_1 x27 x28 x29 x30 x31 x32 x33 x34 x35=>(.i (!(x32==0)) (.i (!(x27==0)) (.i (decide (x27≤x32)) (.i (!(x32==4)) (.r true) (.i (!(x27==4)) (.r true) (.g (.k12_2 x27 x28 x29 x30 x31 x32 x33 x34 x35)))) (.g (.k12_2 x27 x28 x29 x30 x31 x32 x33 x34 x35))) (.g (.k12_2 x27 x28 x29 x30 x31 x32 x33 x34 x35))) (.g (.k12_2 x27 x28 x29 x30 x31 x32 x33 x34 x35)))
 | .k12_2 x36 x37 x38 x39 x40 x41 x42 x43 x44=>(.g (.k6_2 x37 x38 x39 x40 x41 x42 x43 x44))
 | .k6_2 x45 x46 x47 x48 x49 x50 x51 x52=>(.g (.k12_3 x47 x45 x46 x47 x48 x49 x50 x51 x52))
 | .k12_3 x53 x54 x55 x56 x57 x58 x59 x60 x61=>(.i (!(x58==0)) (.i (!(x53==0)) (.i (decide (x53≤x58)) (.i (!(x58==4)) (.r true) (.i (!(x53==4)) (.r true) (.g (.k12_4 x53 x54 x55 x56 x57 x58 x59 x60 x61)))) (.g (.k12_4 x53 x54 x55 x56 x57 x58 x59 x60 x61))) (.g (.k12_4 x53 x54 x55 x56 x57 x58 x59 x60 x61))) (.g (.k12_4 x53 x54 x55 x56 x57 x58 x59 x60 x61)))
 | .k12_4 x62 x63 x64 x65 x66 x67 x68 x69 x70=>(.i (!(x68==0)) (.i (!(x62==0)) (.i (decide (x62≤x68)) (.i (!(x68==4)) (.r true) (.i (!(x62==4)) (.r true) (.g (.k12_5 x62 x63 x64 x65 x66 x67 x68 x69 x70)))) (.g (.k12_5 x62 x63 x64 x65 x66 x67 x68 x69 x70))) (.g (.k12_5 x62 x63 x64 x65 x66 x67 x68 x69 x70))) (.g (.k12_5 x62 x63 x64 x65 x66 x67 x68 x69 x70)))
 | .k12_5 x71 x72 x73 x74 x75 x76 x77 x78 x79=>(.g (.k6_3 x72 x73 x74 x75 x76 x77 x78 x79))
 | .k6_3 x80 x81 x82 x83 x84 x85 x86 x87=>(.g (.k12_6 x83 x80 x81 x82 x83 x84 x85 x86 x87))
 | .k12_6 x88 x89 x90 x91 x92 x93 x94 x95 x96=>(.i (!(x93==0)) (.i (!(x88==0)) (.i (decide (x88≤x93)) (.i (!(x93==4)) (.r true) (.i (!(x88==4)) (.r true) (.g (.k12_7 x88 x89 x90 x91 x92 x93 x94 x95 x96)))) (.g (.k12_7 x88 x89 x90 x91 x92 x93 x94 x95 x96))) (.g (.k12_7 x88 x89 x90 x91 x92 x93 x94 x95 x96))) (.g (.k12_7 x88 x89 x90 x91 x92 x93 x94 x95 x96)))
 | .k12_7 x97 x98 x99 x100 x101 x102 x103 x104 x105=>(.i (!(x103==0)) (.i (!(x97==0)) (.i (decide (x97≤x103)) (.i (!(x103==4)) (.r true) (.i (!(x97==4)) (.r true) (.g (.k12_8 x97 x98 x99 x100 x101 x102 x103 x104 x105)))) (.g (.k12_8 x97 x98 x99 x100 x101 x102 x103 x104 x105))) (.g (.k12_8 x97 x98 x99 x100 x101 x102 x103 x104 x105))) (.g (.k12_8 x97 x98 x99 x100 x101 x102 x103 x104 x105)))
 | .k12_8 x106 x107 x108 x109 x110 x111 x112 x113 x114=>(.i (!(x113==0)) (.i (!(x106==0)) (.i (decide (x106≤x113)) (.i (!(x113==4)) (.r true) (.i (!(x106==4)) (.r true) (.g (.k12_9 x106 x107 x108 x109 x110 x111 x112 x113 x114)))) (.g (.k12_9 x106 x107 x108 x109 x110 x111 x112 x113 x114))) (.g (.k12_9 x106 x107 x108 x109 x110 x111 x112 x113 x114))) (.g (.k12_9 x106 x107 x108 x109 x110 x111 x112 x113 x114)))
 | .k12_9 x115 x116 x117 x118 x119 x120 x121 x122 x123=>(.g (.k6_4 x116 x117 x118 x119 x120 x121 x122 x123))
 | .k6_4 x124 x125 x126 x127 x128 x129 x130 x131=>(.r false)
noncomputable def Tz132 (s:Tn):Tr Bool azl (avl s) cB.v:=(.c Az152 Sz152 (s,()) fun r133=>(.g (.k6_0 r133.1 r133.2.1 r133.2.2.1 r133.2.2.2.1 r133.1 r133.2.1 r133.2.2.1 r133.2.2.2.1)))
noncomputable def cU (s:Tn):=Tr.lp (bjh s)
noncomputable def Ez132 (n:Nat) (s:Tn):=(Tz132 s).d (cU s n)
noncomputable def aqH (x:Tn×Unit):=Ez132 (x.1.p_m.length+64) x.1
noncomputable def wz132:Wk (Tn×Unit) Bool azl cB.v:=⟨fun x=>avl x.1,uz132,fun x=>Tz132 x.1,fun x=>bjh x.1⟩
noncomputable def Kz132:=aI 136 Tryz.func136 [Kz152] noZ ⟨43,(lookA [(3,⟨[3,10,11],[0],1,[],[],[],[]⟩),(6,⟨[3,5,10,11,16,17,18],[0],1,[],[],[],[]⟩)]),noL,noL⟩ 128 Az132 cB aqH wz132 (fun x=>x.1.p_m.length+64)
noncomputable def Az133:=(Row.cons (Cod.ptr rTn) Row.nil)
noncomputable def Tz133 (s:Tn):Tr Bool Empty noS cB.v:=(.r (decide (3<s.outs)))
noncomputable def Ez133 (s:Tn):=(Tz133 s).d noE
noncomputable def aqG (x:Tn×Unit):=Ez133 x.1
noncomputable def wz133:Wk (Tn×Unit) Bool Empty cB.v:=wk0 fun x=>Tz133 x.1
noncomputable def Kz133:=aI 137 Tryz.func137 [] noZ ⟨8,noL,noL,noL⟩ 128 Az133 cB aqG wz133 (fun _=>0)
noncomputable def Az151:=(Row.cons (Cod.agg rMv) Row.nil)
noncomputable def Tz151 (s:Mv):Tr Bool Empty noS cB.v:=(.i (!s.o) (.r (s.t==4)) (.r false))
noncomputable def Ez151 (s:Mv):=(Tz151 s).d noE
noncomputable def bqb (x:Mv×Unit):=Ez151 x.1
noncomputable def wz151:Wk (Mv×Unit) Bool Empty cB.v:=wk0 fun x=>Tz151 x.1
noncomputable def Kz151:=aI 96 Tryz.func96 [] noZ ⟨11,noL,noL,noL⟩ 128 Az151 cB bqb wz151 (fun _=>0)
noncomputable def aqZ:=(Row.cons (Cod.list mv0 rMv) (Row.cons (Cod.fn0 96) Row.nil))
inductive fP where
 | k6 (x2:Int) (x3:Int)
noncomputable def avK:fP→Nat
 | .k6 _ _=>6
noncomputable def nK (s:List (Mv)) (t:Unit):fP→D
 | .k6 x2 x3=>mD [(1,.raw (.func 96 [])),(5,.int .i64 x2),(8,(Cod.list mv0 rMv).v s),(9,.int .i64 ((s.length:Nat):Int)),(10,.int .i64 x3)] 0 [] 128 []
noncomputable def dL (s:List (Mv)) (t:Unit):(l_:fP)→Tr Int fP (nK s t) cI.v
 | .k6 x2 x3=>(.i (decide (x3<((s.length:Nat):Int))) (.i (inR x3 s.length) (.c Az151 bqb ((s.getD x3.toNat mv0),()) fun r5=>(.i r5 (.g (.k6 (w6 (x2+1)) (w6 (x3+1)))) (.g (.k6 x2 (w6 (x3+1)))))) .n) (.r x2))
noncomputable def sS (s:List (Mv)) (t:Unit):Tr Int fP (nK s t) cI.v:=(.g (.k6 0 0))
noncomputable def gV (s:List (Mv)) (t:Unit):=Tr.lp (dL s t)
theorem eO {s:List (Mv)}{t:Unit}{n:Nat}{l_:fP}:gV s t (n+1) l_=(dL s t l_).d (gV s t n):=rfl
noncomputable def s7 (n:Nat) (s:List (Mv)) (t:Unit):=(sS s t).d (gV s t n)
noncomputable def sY (x:(List (Mv))×Unit×Unit):=s7 (x.1.length+64) x.1 x.2.1
noncomputable def avE:Wk ((List (Mv))×Unit×Unit) Int fP cI.v:=⟨fun x=>nK x.1 x.2.1,avK,fun x=>sS x.1 x.2.1,fun x=>dL x.1 x.2.1⟩
noncomputable def awo:=aI 91 Tryz.func91 [Kz151] noZ ⟨21,(lookA [(3,⟨[1,5,8,9,10],[],0,[],[],[],[]⟩)]),noL,noL⟩ 128 aqZ cI sY avE (fun x=>x.1.length+64)
noncomputable def Az134:=(Row.cons (Cod.ptr rTn) Row.nil)
noncomputable def Tz134 (s:Tn):Tr Bool Empty noS cB.v:=(.i s.p_l (.i (decide (s.outs<3)) (.r true) (.c aqZ sY (s.p_m,(),()) fun r2=>(.r (r2==0)))) (.r false))
noncomputable def Ez134 (s:Tn):=(Tz134 s).d noE
noncomputable def aqF (x:Tn×Unit):=Ez134 x.1
noncomputable def wz134:Wk (Tn×Unit) Bool Empty cB.v:=wk0 fun x=>Tz134 x.1
noncomputable def Kz134:=aI 138 Tryz.func138 [awo] noZ ⟨24,noL,noL,noL⟩ 128 Az134 cB aqF wz134 (fun _=>0)
noncomputable def Az144:=(Row.cons (Cod.ptr rTn) Row.nil)
inductive azj where
 | k6_0 (x2:List Nat) (x3:List Nat) (x4:List Nat) (x5:List Nat) (x6:List Nat) (x7:List Nat) (x8:List Nat) (x9:List Nat) (x10:List Nat) (x11:List Nat) (x12:List Nat) (x13:List Nat) (x14:List Nat)
 | k6_1 (x16:List Nat) (x17:List Nat) (x18:List Nat) (x19:List Nat) (x20:List Nat) (x21:List Nat) (x22:List Nat) (x23:List Nat) (x24:List Nat) (x25:List Nat) (x26:List Nat) (x27:List Nat) (x28:List Nat)
 | k6_2 (x30:List Nat) (x31:List Nat) (x32:List Nat) (x33:List Nat) (x34:List Nat) (x35:List Nat) (x36:List Nat) (x37:List Nat) (x38:List Nat) (x39:List Nat) (x40:List Nat) (x41:List Nat) (x42:List Nat)
 | k6_3 (x44:List Nat) (x45:List Nat) (x46:List Nat) (x47:List Nat) (x48:List Nat) (x49:List Nat) (x50:List Nat) (x51:List Nat) (x52:List Nat) (x53:List Nat) (x54:List Nat) (x55:List Nat) (x56:List Nat)
 | k6_4 (x58:List Nat) (x59:List Nat) (x60:List Nat) (x61:List Nat) (x62:List Nat) (x63:List Nat) (x64:List Nat) (x65:List Nat) (x66:List Nat) (x67:List Nat) (x68:List Nat) (x69:List Nat) (x70:List Nat)
 | k6_5 (x72:List Nat) (x73:List Nat) (x74:List Nat) (x75:List Nat) (x76:List Nat) (x77:List Nat) (x78:List Nat) (x79:List Nat) (x80:List Nat) (x81:List Nat) (x82:List Nat) (x83:List Nat) (x84:List Nat)
 | k6_6 (x86:List Nat) (x87:List Nat) (x88:List Nat) (x89:List Nat) (x90:List Nat) (x91:List Nat) (x92:List Nat) (x93:List Nat) (x94:List Nat) (x95:List Nat) (x96:List Nat) (x97:List Nat) (x98:List Nat)
 | k6_7 (x100:List Nat) (x101:List Nat) (x102:List Nat) (x103:List Nat) (x104:List Nat) (x105:List Nat) (x106:List Nat) (x107:List Nat) (x108:List Nat) (x109:List Nat) (x110:List Nat) (x111:List Nat) (x112:List Nat)
 | k6_8 (x114:List Nat) (x115:List Nat) (x116:List Nat) (x117:List Nat) (x118:List Nat) (x119:List Nat) (x120:List Nat) (x121:List Nat) (x122:List Nat) (x123:List Nat) (x124:List Nat) (x125:List Nat) (x126:List Nat)
 | k6_9 (x128:List Nat) (x129:List Nat) (x130:List Nat) (x131:List Nat) (x132:List Nat) (x133:List Nat) (x134:List Nat) (x135:List Nat) (x136:List Nat) (x137:List Nat) (x138:List Nat) (x139:List Nat) (x140:List Nat)
 | k6_10 (x142:List Nat) (x143:List Nat) (x144:List Nat) (x145:List Nat) (x146:List Nat) (x147:List Nat) (x148:List Nat) (x149:List Nat) (x150:List Nat) (x151:List Nat) (x152:List Nat) (x153:List Nat) (x154:List Nat)
 | k6_11 (x156:List Nat) (x157:List Nat) (x158:List Nat) (x159:List Nat) (x160:List Nat) (x161:List Nat) (x162:List Nat) (x163:List Nat) (x164:List Nat) (x165:List Nat) (x166:List Nat) (x167:List Nat) (x168:List Nat)
 | k6_12 (x170:List Nat) (x171:List Nat) (x172:List Nat) (x173:List Nat) (x174:List Nat) (x175:List Nat) (x176:List Nat) (x177:List Nat) (x178:List Nat) (x179:List Nat) (x180:List Nat) (x181:List Nat) (x182:List Nat)
 | k6_13 (x184:List Nat) (x185:List Nat) (x186:List Nat) (x187:List Nat) (x188:List Nat) (x189:List Nat) (x190:List Nat) (x191:List Nat) (x192:List Nat) (x193:List Nat) (x194:List Nat) (x195:List Nat) (x196:List Nat)
noncomputable def uz144:azj→Nat
 | .k6_0 _ _ _ _ _ _ _ _ _ _ _ _ _=>6
 | .k6_1 _ _ _ _ _ _ _ _ _ _ _ _ _=>6
 | .k6_2 _ _ _ _ _ _ _ _ _ _ _ _ _=>6
 | .k6_3 _ _ _ _ _ _ _ _ _ _ _ _ _=>6
 | .k6_4 _ _ _ _ _ _ _ _ _ _ _ _ _=>6
 | .k6_5 _ _ _ _ _ _ _ _ _ _ _ _ _=>6
 | .k6_6 _ _ _ _ _ _ _ _ _ _ _ _ _=>6
 | .k6_7 _ _ _ _ _ _ _ _ _ _ _ _ _=>6
 | .k6_8 _ _ _ _ _ _ _ _ _ _ _ _ _=>6
 | .k6_9 _ _ _ _ _ _ _ _ _ _ _ _ _=>6
 | .k6_10 _ _ _ _ _ _ _ _ _ _ _ _ _=>6
 | .k6_11 _ _ _ _ _ _ _ _ _ _ _ _ _=>6
 | .k6_12 _ _ _ _ _ _ _ _ _ _ _ _ _=>6
 | .k6_13 _ _ _ _ _ _ _ _ _ _ _ _ _=>6
noncomputable def avj (s:Tn):azj→D
 | .k6_0 x2 x3 x4 x5 x6 x7 x8 x9 x10 x11 x12 x13 x14=>mD [(0,.lptr (rTn.v s) 0),(3,.int .i64 0),(6,.agg [.str x2,.raw (.func 126 []),.str x3,.raw (.func 127 []),.str x4,.raw (.func 128 []),.str x5,.raw (.func 129 []),.str x6,.raw (.func 130 []),.str x7,.raw (.func 131 []),.str x8,.raw (.func 132 []),.str x9,.raw (.func 133 []),.str x10,.raw (.func 134 []),.str x11,.raw (.func 135 []),.str x12,.raw (.func 136 []),.str x13,.raw (.func 137 []),.str x14,.raw (.func 138 [])]),(7,.int .i64 0)] 0 [] 128 []
 | .k6_1 x16 x17 x18 x19 x20 x21 x22 x23 x24 x25 x26 x27 x28=>mD [(0,.lptr (rTn.v s) 0),(3,.int .i64 0),(6,.agg [.str x16,.raw (.func 126 []),.str x17,.raw (.func 127 []),.str x18,.raw (.func 128 []),.str x19,.raw (.func 129 []),.str x20,.raw (.func 130 []),.str x21,.raw (.func 131 []),.str x22,.raw (.func 132 []),.str x23,.raw (.func 133 []),.str x24,.raw (.func 134 []),.str x25,.raw (.func 135 []),.str x26,.raw (.func 136 []),.str x27,.raw (.func 137 []),.str x28,.raw (.func 138 [])]),(7,.int .i64 1)] 0 [] 128 []
 | .k6_2 x30 x31 x32 x33 x34 x35 x36 x37 x38 x39 x40 x41 x42=>mD [(0,.lptr (rTn.v s) 0),(3,.int .i64 0),(6,.agg [.str x30,.raw (.func 126 []),.str x31,.raw (.func 127 []),.str x32,.raw (.func 128 []),.str x33,.raw (.func 129 []),.str x34,.raw (.func 130 []),.str x35,.raw (.func 131 []),.str x36,.raw (.func 132 []),.str x37,.raw (.func 133 []),.str x38,.raw (.func 134 []),.str x39,.raw (.func 135 []),.str x40,.raw (.func 136 []),.str x41,.raw (.func 137 []),.str x42,.raw (.func 138 [])]),(7,.int .i64 2)] 0 [] 128 []
 | .k6_3 x44 x45 x46 x47 x48 x49 x50 x51 x52 x53 x54 x55 x56=>mD [(0,.lptr (rTn.v s) 0),(3,.int .i64 0),(6,.agg [.str x44,.raw (.func 126 []),.str x45,.raw (.func 127 []),.str x46,.raw (.func 128 []),.str x47,.raw (.func 129 []),.str x48,.raw (.func 130 []),.str x49,.raw (.func 131 []),.str x50,.raw (.func 132 []),.str x51,.raw (.func 133 []),.str x52,.raw (.func 134 []),.str x53,.raw (.func 135 []),.str x54,.raw (.func 136 []),.str x55,.raw (.func 137 []),.str x56,.raw (.func 138 [])]),(7,.int .i64 3)] 0 [] 128 []
 | .k6_4 x58 x59 x60 x61 x62 x63 x64 x65 x66 x67 x68 x69 x70=>mD [(0,.lptr (rTn.v s) 0),(3,.int .i64 0),(6,.agg [.str x58,.raw (.func 126 []),.str x59,.raw (.func 127 []),.str x60,.raw (.func 128 []),.str x61,.raw (.func 129 []),.str x62,.raw (.func 130 []),.str x63,.raw (.func 131 []),.str x64,.raw (.func 132 []),.str x65,.raw (.func 133 []),.str x66,.raw (.func 134 []),.str x67,.raw (.func 135 []),.str x68,.raw (.func 136 []),.str x69,.raw (.func 137 []),.str x70,.raw (.func 138 [])]),(7,.int .i64 4)] 0 [] 128 []
 | .k6_5 x72 x73 x74 x75 x76 x77 x78 x79 x80 x81 x82 x83 x84=>mD [(0,.lptr (rTn.v s) 0),(3,.int .i64 0),(6,.agg [.str x72,.raw (.func 126 []),.str x73,.raw (.func 127 []),.str x74,.raw (.func 128 []),.str x75,.raw (.func 129 []),.str x76,.raw (.func 130 []),.str x77,.raw (.func 131 []),.str x78,.raw (.func 132 []),.str x79,.raw (.func 133 []),.str x80,.raw (.func 134 []),.str x81,.raw (.func 135 []),.str x82,.raw (.func 136 []),.str x83,.raw (.func 137 []),.str x84,.raw (.func 138 [])]),(7,.int .i64 5)] 0 [] 128 []
 | .k6_6 x86 x87 x88 x89 x90 x91 x92 x93 x94 x95 x96 x97 x98=>mD [(0,.lptr (rTn.v s) 0),(3,.int .i64 0),(6,.agg [.str x86,.raw (.func 126 []),.str x87,.raw (.func 127 []),.str x88,.raw (.func 128 []),.str x89,.raw (.func 129 []),.str x90,.raw (.func 130 []),.str x91,.raw (.func 131 []),.str x92,.raw (.func 132 []),.str x93,.raw (.func 133 []),.str x94,.raw (.func 134 []),.str x95,.raw (.func 135 []),.str x96,.raw (.func 136 []),.str x97,.raw (.func 137 []),.str x98,.raw (.func 138 [])]),(7,.int .i64 6)] 0 [] 128 []
 | .k6_7 x100 x101 x102 x103 x104 x105 x106 x107 x108 x109 x110 x111 x112=>mD [(0,.lptr (rTn.v s) 0),(3,.int .i64 0),(6,.agg [.str x100,.raw (.func 126 []),.str x101,.raw (.func 127 []),.str x102,.raw (.func 128 []),.str x103,.raw (.func 129 []),.str x104,.raw (.func 130 []),.str x105,.raw (.func 131 []),.str x106,.raw (.func 132 []),.str x107,.raw (.func 133 []),.str x108,.raw (.func 134 []),.str x109,.raw (.func 135 []),.str x110,.raw (.func 136 []),.str x111,.raw (.func 137 []),.str x112,.raw (.func 138 [])]),(7,.int .i64 7)] 0 [] 128 []
 | .k6_8 x114 x115 x116 x117 x118 x119 x120 x121 x122 x123 x124 x125 x126=>mD [(0,.lptr (rTn.v s) 0),(3,.int .i64 0),(6,.agg [.str x114,.raw (.func 126 []),.str x115,.raw (.func 127 []),.str x116,.raw (.func 128 []),.str x117,.raw (.func 129 []),.str x118,.raw (.func 130 []),.str x119,.raw (.func 131 []),.str x120,.raw (.func 132 []),.str x121,.raw (.func 133 []),.str x122,.raw (.func 134 []),.str x123,.raw (.func 135 []),.str x124,.raw (.func 136 []),.str x125,.raw (.func 137 []),.str x126,.raw (.func 138 [])]),(7,.int .i64 8)] 0 [] 128 []
 | .k6_9 x128 x129 x130 x131 x132 x133 x134 x135 x136 x137 x138 x139 x140=>mD [(0,.lptr (rTn.v s) 0),(3,.int .i64 0),(6,.agg [.str x128,.raw (.func 126 []),.str x129,.raw (.func 127 []),.str x130,.raw (.func 128 []),.str x131,.raw (.func 129 []),.str x132,.raw (.func 130 []),.str x133,.raw (.func 131 []),.str x134,.raw (.func 132 []),.str x135,.raw (.func 133 []),.str x136,.raw (.func 134 []),.str x137,.raw (.func 135 []),.str x138,.raw (.func 136 []),.str x139,.raw (.func 137 []),.str x140,.raw (.func 138 [])]),(7,.int .i64 9)] 0 [] 128 []
 | .k6_10 x142 x143 x144 x145 x146 x147 x148 x149 x150 x151 x152 x153 x154=>mD [(0,.lptr (rTn.v s) 0),(3,.int .i64 0),(6,.agg [.str x142,.raw (.func 126 []),.str x143,.raw (.func 127 []),.str x144,.raw (.func 128 []),.str x145,.raw (.func 129 []),.str x146,.raw (.func 130 []),.str x147,.raw (.func 131 []),.str x148,.raw (.func 132 []),.str x149,.raw (.func 133 []),.str x150,.raw (.func 134 []),.str x151,.raw (.func 135 []),.str x152,.raw (.func 136 []),.str x153,.raw (.func 137 []),.str x154,.raw (.func 138 [])]),(7,.int .i64 10)] 0 [] 128 []
 | .k6_11 x156 x157 x158 x159 x160 x161 x162 x163 x164 x165 x166 x167 x168=>mD [(0,.lptr (rTn.v s) 0),(3,.int .i64 0),(6,.agg [.str x156,.raw (.func 126 []),.str x157,.raw (.func 127 []),.str x158,.raw (.func 128 []),.str x159,.raw (.func 129 []),.str x160,.raw (.func 130 []),.str x161,.raw (.func 131 []),.str x162,.raw (.func 132 []),.str x163,.raw (.func 133 []),.str x164,.raw (.func 134 []),.str x165,.raw (.func 135 []),.str x166,.raw (.func 136 []),.str x167,.raw (.func 137 []),.str x168,.raw (.func 138 [])]),(7,.int .i64 11)] 0 [] 128 []
 | .k6_12 x170 x171 x172 x173 x174 x175 x176 x177 x178 x179 x180 x181 x182=>mD [(0,.lptr (rTn.v s) 0),(3,.int .i64 0),(6,.agg [.str x170,.raw (.func 126 []),.str x171,.raw (.func 127 []),.str x172,.raw (.func 128 []),.str x173,.raw (.func 129 []),.str x174,.raw (.func 130 []),.str x175,.raw (.func 131 []),.str x176,.raw (.func 132 []),.str x177,.raw (.func 133 []),.str x178,.raw (.func 134 []),.str x179,.raw (.func 135 []),.str x180,.raw (.func 136 []),.str x181,.raw (.func 137 []),.str x182,.raw (.func 138 [])]),(7,.int .i64 12)] 0 [] 128 []
 | .k6_13 x184 x185 x186 x187 x188 x189 x190 x191 x192 x193 x194 x195 x196=>mD [(0,.lptr (rTn.v s) 0),(3,.int .i64 0),(6,.agg [.str x184,.raw (.func 126 []),.str x185,.raw (.func 127 []),.str x186,.raw (.func 128 []),.str x187,.raw (.func 129 []),.str x188,.raw (.func 130 []),.str x189,.raw (.func 131 []),.str x190,.raw (.func 132 []),.str x191,.raw (.func 133 []),.str x192,.raw (.func 134 []),.str x193,.raw (.func 135 []),.str x194,.raw (.func 136 []),.str x195,.raw (.func 137 []),.str x196,.raw (.func 138 [])]),(7,.int .i64 13)] 0 [] 128 []
noncomputable def bjf (s:Tn):(l_:azj)→Tr Int azj (avj s) cI.v
 | .k6_0 x2 x3 x4 x5 x6 x7 x8 x9 x10 x11 x12 x13 x14=>(.c Az122 ajb (s,()) fun r199=>(.i r199 (.r 1) (.g (.k6_1 x2 x3 x4 x5 x6 x7 x8 x9 x10 x11 x12 x13 x14))))
 | .k6_1 x16 x17 x18 x19 x20 x21 x22 x23 x24 x25 x26 x27 x28=>(.c Az123 aqQ (s,()) fun r200=>(.i r200 (.r 2) (.g (.k6_2 x16 x17 x18 x19 x20 x21 x22 x23 x24 x25 x26 x27 x28))))
 | .k6_2 x30 x31 x32 x33 x34 x35 x36 x37 x38 x39 x40 x41 x42=>(.c Az124 aqP (s,()) fun r201=>(.i r201 (.r 3) (.g (.k6_3 x30 x31 x32 x33 x34 x35 x36 x37 x38 x39 x40 x41 x42))))
 | .k6_3 x44 x45 x46 x47 x48 x49 x50 x51 x52 x53 x54 x55 x56=>(.c Az125 aqO (s,()) fun r202=>(.i r202 (.r 4) (.g (.k6_4 x44 x45 x46 x47 x48 x49 x50 x51 x52 x53 x54 x55 x56))))
 | .k6_4 x58 x59 x60 x61 x62 x63 x64 x65 x66 x67 x68 x69 x70=>(.c Az126 aqN (s,()) fun r203=>(.i r203 (.r 5) (.g (.k6_5 x58 x59 x60 x61 x62 x63 x64 x65 x66 x67 x68 x69 x70))))
 | .k6_5 x72 x73 x74 x75 x76 x77 x78 x79 x80 x81 x82 x83 x84=>(.c Az127 aqM (s,()) fun r204=>(.i r204 (.r 6) (.g (.k6_6 x72 x73 x74 x75 x76 x77 x78 x79 x80 x81 x82 x83 x84))))
 | .k6_6 x86 x87 x88 x89 x90 x91 x92 x93 x94 x95 x96 x97 x98=>(.c Az128 aqL (s,()) fun r205=>(.i r205 (.r 7) (.g (.k6_7 x86 x87 x88 x89 x90 x91 x92 x93 x94 x95 x96 x97 x98))))
 | .k6_7 x100 x101 x102 x103 x104 x105 x106 x107 x108 x109 x110 x111 x112=>(.c Az129 aqK (s,()) fun r206=>(.i r206 (.r 8) (.g (.k6_8 x100 x101 x102 x103 x104 x105 x106 x107 x108 x109 x110 x111 x112))))
 | .k6_8 x114 x115 x116 x117 x118 x119 x120 x121 x122 x123 x124 x125 x126=>(.c Az130 aqJ (s,()) fun r207=>(.i r207 (.r 9) (.g (.k6_9 x114 x115 x116 x117 x118 x119 x120 x121 x122 x123 x124 x125 x126))))
 | .k6_9 x128 x129 x130 x131 x132 x133 x134 x135 x136 x137 x138 x139 x140=>(.c Az131 aqI (s,()) fun r208=>(.i r208 (.r 10) (.g (.k6_10 x128 x129 x130 x131 x132 x133 x134 x135 x136 x137 x138 x139 x140))))
 | .k6_10 x142 x143 x144 x145 x146 x147 x148 x149 x150 x151 x152 x153 x154=>(.c Az132 aqH (s,()) fun r209=>(.i r209 (.r 11) (.g (.k6_11 x142 x143 x144 x145 x146 x147 x148 x149 x150 x151 x152 x153 x154))))
 | .k6_11 x156 x157 x158 x159 x160 x161 x162 x163 x164 x165 x166 x167 x168=>(.c Az133 aqG (s,()) fun r210=>(.i r210 (.r 12) (.g (.k6_12 x156 x157 x158 x159 x160 x161 x162 x163 x164 x165 x166 x167 x168))))
 | .k6_12 x170 x171 x172 x173 x174 x175 x176 x177 x178 x179 x180 x181 x182=>(.c Az134 aqF (s,()) fun r211=>(.i r211 (.r 13) (.g (.k6_13 x170 x171 x172 x173 x174 x175 x176 x177 x178 x179 x180 x181 x182))))
 | .k6_13 x184 x185 x186 x187 x188 x189 x190 x191 x192 x193 x194 x195 x196=>(.r 0)
noncomputable def bq0 (s:Tn):Tr Int azj (avj s) cI.v:=(.c Az74 Sz74 (()) fun r198=>(.g (.k6_0 r198.1 r198.2.2.1 r198.2.2.2.2.1 r198.2.2.2.2.2.2.1 r198.2.2.2.2.2.2.2.2.1 r198.2.2.2.2.2.2.2.2.2.2.1 r198.2.2.2.2.2.2.2.2.2.2.2.2.1 r198.2.2.2.2.2.2.2.2.2.2.2.2.2.2.1 r198.2.2.2.2.2.2.2.2.2.2.2.2.2.2.2.2.1 r198.2.2.2.2.2.2.2.2.2.2.2.2.2.2.2.2.2.2.1 r198.2.2.2.2.2.2.2.2.2.2.2.2.2.2.2.2.2.2.2.2.1 r198.2.2.2.2.2.2.2.2.2.2.2.2.2.2.2.2.2.2.2.2.2.2.1 r198.2.2.2.2.2.2.2.2.2.2.2.2.2.2.2.2.2.2.2.2.2.2.2.2.1)))
noncomputable def bC (s:Tn):=Tr.lp (bjf s)
noncomputable def ayA (n:Nat) (s:Tn):=(bq0 s).d (bC s n)
noncomputable def m7 (x:Tn×Unit):=ayA (x.1.p_m.length+64) x.1
noncomputable def wz144:Wk (Tn×Unit) Int azj cI.v:=⟨fun x=>avj x.1,uz144,fun x=>bq0 x.1,fun x=>bjf x.1⟩
noncomputable def Kz144:=aI 54 Tryz.func54 [Kz74,Kz122,Kz123,Kz124,Kz125,Kz126,Kz127,Kz128,Kz129,Kz130,Kz131,Kz132,Kz133,Kz134] noZ ⟨19,(lookA [(3,⟨[0,3,6,7],[],0,[],[],[],[]⟩)]),noL,noL⟩ 128 Az144 cI m7 wz144 (fun x=>x.1.p_m.length+64)
noncomputable def Az150:=(Row.cons (Cod.ptr rTn) Row.nil)
inductive ajj where
 | k4 (x2:Int)
noncomputable def uz150:ajj→Nat
 | .k4 _=>4
noncomputable def avh (s:Tn):ajj→D
 | .k4 x2=>mD [(10,(Cod.list mv0 rMv).v s.p_m),(11,.int .i64 ((s.p_m.length:Nat):Int)),(12,.int .i64 x2)] 0 [] 128 []
noncomputable def zW (s:Tn):(l_:ajj)→Tr Bool ajj (avh s) cB.v
 | .k4 x2=>(.i (decide (x2<((s.p_m.length:Nat):Int))) (.i (inR x2 s.p_m.length) (.i ((s.p_m.getD x2.toNat mv0).f==0) (.c azB xH ([99,107,110,121],(s.p_m.getD x2.toNat mv0).h,()) fun r4=>(.i r4 (.i ((s.p_m.getD x2.toNat mv0).o) (.i (decide (((s.p_m.getD x2.toNat mv0).h)=[102])) (.r true) (.r true)) (.g (.k4 (w6 (x2+1))))) (.i (decide (((s.p_m.getD x2.toNat mv0).h)=[103])) (.i ((s.p_m.getD x2.toNat mv0).o) (.i (decide (((s.p_m.getD x2.toNat mv0).h)=[102])) (.r true) (.i ((s.p_m.getD x2.toNat mv0).t==1) (.r true) (.g (.k4 (w6 (x2+1)))))) (.g (.k4 (w6 (x2+1))))) (.i ((s.p_m.getD x2.toNat mv0).o) (.i (decide (((s.p_m.getD x2.toNat mv0).h)=[102])) (.r true) (.g (.k4 (w6 (x2+1))))) (.g (.k4 (w6 (x2+1)))))))) (.i ((s.p_m.getD x2.toNat mv0).o) (.i (decide (((s.p_m.getD x2.toNat mv0).h)=[102])) (.r true) (.g (.k4 (w6 (x2+1))))) (.g (.k4 (w6 (x2+1)))))) .n) (.r false))
noncomputable def Tz150 (s:Tn):Tr Bool ajj (avh s) cB.v:=(.g (.k4 0))
noncomputable def axr (s:Tn):=Tr.lp (zW s)
theorem axq {s:Tn}{n:Nat}{l_:ajj}:axr s (n+1) l_=(zW s l_).d (axr s n):=rfl
noncomputable def Ez150 (n:Nat) (s:Tn):=(Tz150 s).d (axr s n)
noncomputable def Sz150 (x:Tn×Unit):=Ez150 (x.1.p_m.length+64) x.1
noncomputable def wz150:Wk (Tn×Unit) Bool ajj cB.v:=⟨fun x=>avh x.1,uz150,fun x=>Tz150 x.1,fun x=>zW x.1⟩
noncomputable def Kz150:=aI 95 Tryz.func95 [K181] noZ ⟨45,(lookA [(2,⟨[10,11,12],[],0,[],[],[],[]⟩)]),noL,noL⟩ 128 Az150 cB Sz150 wz150 (fun x=>x.1.p_m.length+64)
noncomputable def Az89:=(Row.cons (Cod.ptr rTn) Row.nil)
noncomputable def Wz89 (r:(List (Mv))):V:=.el (r.map rMv.v)
theorem hWz89 (r:(List (Mv))):(Wz89 r).c=((Cod.list mv0 rMv).v r).c:=by
 first|rfl|exact gJ|(show EVal.tup (V.cs _)=EVal.tup (V.cs _);simp only [V.cs_map,List.map_cons,List.map_nil,gJ];rfl)
inductive Lz89 where
 | k10 (x3:Int) (x4:List (Mv))
noncomputable def uz89:Lz89→Nat
 | .k10 _ _=>10
noncomputable def ajx (s:Tn) (x3:Int) (x4:List (List V)):D:=mD [(3,.gl 128),(26,(Cod.list mv0 rMv).v s.p_m),(27,.int .i64 ((s.p_m.length:Nat):Int)),(28,.int .i64 x3)] 0 [] 129 [(128,(x4,54))]
noncomputable def ayT (s:Tn):Lz89→D
 | .k10 x3 x4=>ajx s x3 (x4.map rMv.v)
noncomputable def awc (s:Tn):(l_:Lz89)→Tr (List (Mv)) Lz89 (ayT s) Wz89
 | .k10 x3 x4=>(.i (decide (x3<((s.p_m.length:Nat):Int))) (.i (inR x3 s.p_m.length) (.c Az151 bqb ((s.p_m.getD x3.toNat mv0),()) fun r8=>(.i r8 (.i (Nat.ble (64*(((x4.map rMv.v)).length+1)) 1000000) (.j (.k10 (w6 (x3+1)) (x4++[(s.p_m.getD x3.toNat mv0)])) (ajx s (w6 (x3+1)) ((x4.map rMv.v)++[[.int .i64 (s.p_m.getD x3.toNat mv0).f,.int .i64 (s.p_m.getD x3.toNat mv0).t,.bool ((s.p_m.getD x3.toNat mv0).o),.str ((s.p_m.getD x3.toNat mv0).h),(Cod.list 0 p8).v ((s.p_m.getD x3.toNat mv0).b)]])) ⟨by simp only [ayT,List.map_append,List.map_cons,List.map_nil];rfl⟩) .n) (.g (.k10 (w6 (x3+1)) x4)))) .n) (.r x4))
noncomputable def Tz89 (s:Tn):Tr (List (Mv)) Lz89 (ayT s) Wz89:=(.i (s.outs==3) (.i s.p_l (.r []) (.c Az150 Sz150 (s,()) fun r7=>(.i r7 (.r []) (.g (.k10 0 []))))) (.g (.k10 0 [])))
noncomputable def awu (s:Tn):=Tr.lp (awc s)
theorem awt {s:Tn}{n:Nat}{l_:Lz89}:awu s (n+1) l_=(awc s l_).d (awu s n):=rfl
noncomputable def Ez89 (n:Nat) (s:Tn):=(Tz89 s).d (awu s n)
noncomputable def ayG (x:Tn×Unit):=Ez89 (x.1.p_m.length+64) x.1
noncomputable def wz89:Wk (Tn×Unit) (List (Mv)) Lz89 Wz89:=⟨fun x=>ayT x.1,uz89,fun x=>Tz89 x.1,fun x=>awc x.1⟩
noncomputable def Kz89:=aI 55 Tryz.func55 [Kz150,Kz151] noZ ⟨40,(lookA [(5,⟨[3,26,27,28],[],0,[(3,54)],[128],[],[]⟩)]),noL,noL⟩ 128 Az89 (Cod.list mv0 rMv) ayG wz89 (fun x=>x.1.p_m.length+64) hWz89
noncomputable def Az85:=(Row.cons (Cod.agg rSt) (Row.cons (Cod.agg rPl) Row.nil))
inductive Lz85 where
 | k3
noncomputable def uz85:Lz85→Nat
 | .k3=>3
noncomputable def sLz85 (s:St) (t:Pl):Lz85→D
 | .k3=>mD [(2,.ptr 0 0),(3,.lptr (rPl.v t) 0)] 1 [(0,.row ⟨(rSt.v s),34,false⟩)] 128 []
noncomputable def Tz85J (s:St) (t:Pl):(l_:Lz85)→Tr ((Option (Tn))×(Int)×(Int)×Unit) Lz85 (sLz85 s t) (Cod.tup (Row.cons (Cod.opt rTn) (Row.cons cI (Row.cons cI Row.nil)))).v
 | .k3=>(.c jT dY (s,(((),()),((t,()),()),((),()),()),()) fun r6=>(.i (!(r6==0)) (.r (none,0,r6,())) (.c Az143 bqd (s,t,()) fun r7=>(.c Az144 m7 (r7,()) fun r8=>(.i (!(r8==0)) (.r (none,r8,18,())) (.i (s.half==0) (.c Az89 ayG (r7,()) fun r10=>(.i (decide (9999<(w6 (s.c0+((r10.length:Nat):Int))))) (.r (none,0,4,())) (.r ((some r7),0,0,())))) (.i (s.half==1) (.c Az89 ayG (r7,()) fun r9=>(.i (decide (9999<(w6 (s.c1+((r9.length:Nat):Int))))) (.r (none,0,4,())) (.r ((some r7),0,0,())))) .n)))))))
noncomputable def Tz85 (s:St) (t:Pl):Tr ((Option (Tn))×(Int)×(Int)×Unit) Lz85 (sLz85 s t) (Cod.tup (Row.cons (Cod.opt rTn) (Row.cons cI (Row.cons cI Row.nil)))).v:=(.g .k3)
noncomputable def Ez85J (s:St) (t:Pl):=Tr.lp (Tz85J s t)
noncomputable def Ez85 (n:Nat) (s:St) (t:Pl):=(Tz85 s t).d (Ez85J s t n)
noncomputable def Sz85 (x:St×Pl×Unit):=Ez85 (x.2.1.m.length+64) x.1 x.2.1
noncomputable def wz85:Wk (St×Pl×Unit) ((Option (Tn))×(Int)×(Int)×Unit) Lz85 (Cod.tup (Row.cons (Cod.opt rTn) (Row.cons cI (Row.cons cI Row.nil)))).v:=⟨fun x=>sLz85 x.1 x.2.1,uz85,fun x=>Tz85 x.1 x.2.1,fun x=>Tz85J x.1 x.2.1⟩
noncomputable def Kz85:=aI 22 Tryz.func22 [s3,Kz89,Kz143,Kz144] noZ ⟨38,noL,(lookA [(1,⟨[2,3],[0],1,[],[],[(1,1)],[]⟩)]),noL⟩ 128 Az85 (Cod.tup (Row.cons (Cod.opt rTn) (Row.cons cI (Row.cons cI Row.nil)))) Sz85 wz85 (fun x=>x.2.1.m.length+64)
noncomputable def Az62:=(Row.cons (Cod.agg rSt) Row.nil)
noncomputable def Tz62 (s:St):Tr Int Empty noS cI.v:=(.i (s.half==0) (.r s.n0) (.i (s.half==1) (.r s.n1) .n))
noncomputable def Ez62 (s:St):=(Tz62 s).d noE
noncomputable def Sz62 (x:St×Unit):=Ez62 x.1
noncomputable def wz62:Wk (St×Unit) Int Empty cI.v:=wk0 fun x=>Tz62 x.1
noncomputable def Kz62:=aI 58 Tryz.func58 [] noZ ⟨8,noL,noL,noL⟩ 128 Az62 cI Sz62 wz62 (fun _=>0)
noncomputable def Az146:=(Row.cons cI Row.nil)
noncomputable def Tz146 (s:Int):Tr Int Empty noS cI.v:=(.r (w6 ((s.tmod 9)+1)))
noncomputable def Ez146 (s:Int):=(Tz146 s).d noE
noncomputable def bqc (x:Int×Unit):=Ez146 x.1
noncomputable def wz146:Wk (Int×Unit) Int Empty cI.v:=wk0 fun x=>Tz146 x.1
noncomputable def Kz146:=aI 57 Tryz.func57 [] noZ ⟨6,noL,noL,noL⟩ 128 Az146 cI bqc wz146 (fun _=>0)
noncomputable def Az91:=(Row.cons (Cod.ptr rTn) (Row.cons cI Row.nil))
noncomputable def Tz91 (s:Tn) (t:Int):Tr Int Empty noS cI.v:=(.i (t==0) (.c Az62 Sz62 ((⟨s.s_inn,s.s_half,s.s_outs,s.s_balls,s.s_strikes,s.s_b1,s.s_b2,s.s_b3,s.s_n0,s.s_n1,s.s_c0,s.s_c1,s.s_over⟩:St),()) fun r2=>(.r r2)) (.i ((w6 (t-1))==0) (.r s.s_b1) (.i ((w6 (t-1))==1) (.r s.s_b2) (.i ((w6 (t-1))==2) (.r s.s_b3) .n))))
noncomputable def Ez91 (s:Tn) (t:Int):=(Tz91 s t).d noE
noncomputable def Sz91 (x:Tn×Int×Unit):=Ez91 x.1 x.2.1
noncomputable def wz91:Wk (Tn×Int×Unit) Int Empty cI.v:=wk0 fun x=>Tz91 x.1 x.2.1
noncomputable def Kz91:=aI 97 Tryz.func97 [Kz62] noZ ⟨20,noL,noL,noL⟩ 128 Az91 cI Sz91 wz91 (fun _=>0)
noncomputable def Az147:=(Row.cons (Cod.ptr rTn) Row.nil)
inductive ajk where
 | k8 (x2:Int) (x3:Int) (x4:Int) (x5:Int)
noncomputable def uz147:ajk→Nat
 | .k8 _ _ _ _=>8
noncomputable def avi (s:Tn):ajk→D
 | .k8 x2 x3 x4 x5=>mD [(0,.lptr (rTn.v s) 0),(2,.ptr 0 0),(3,.ptr 1 0),(17,(Cod.list mv0 rMv).v s.p_m),(18,.int .i64 ((s.p_m.length:Nat):Int)),(19,.int .i64 x2)] 2 [(0,.row ⟨[.int .i64 0,.int .i64 0,.int .i64 0],22,false⟩),(1,.row ⟨[.int .i64 x5,.int .i64 x4,.int .i64 x3],22,false⟩)] 128 []
noncomputable def zX (s:Tn):(l_:ajk)→Tr ((Int)×(Int)×(Int)×Unit) ajk (avi s) (Cod.agg (Row.cons cI (Row.cons cI (Row.cons cI Row.nil)))).v
 | .k8 x2 x3 x4 x5=>(.i (decide (x2<((s.p_m.length:Nat):Int))) (.i (inR x2 s.p_m.length) (.i (decide (0<(s.p_m.getD x2.toNat mv0).f)) (.i ((w6 ((s.p_m.getD x2.toNat mv0).f-1))==0) (.i (!(s.p_m.getD x2.toNat mv0).o) (.i (decide ((s.p_m.getD x2.toNat mv0).t<4)) (.c Az91 Sz91 (s,(s.p_m.getD x2.toNat mv0).f,()) fun r15=>(.i ((w6 ((s.p_m.getD x2.toNat mv0).t-1))==0) (.g (.k8 (w6 (x2+1)) x3 x4 r15)) (.i ((w6 ((s.p_m.getD x2.toNat mv0).t-1))==1) (.g (.k8 (w6 (x2+1)) x3 r15 0)) (.i ((w6 ((s.p_m.getD x2.toNat mv0).t-1))==2) (.g (.k8 (w6 (x2+1)) r15 x4 0)) .n)))) (.g (.k8 (w6 (x2+1)) x3 x4 0))) (.g (.k8 (w6 (x2+1)) x3 x4 0))) (.i ((w6 ((s.p_m.getD x2.toNat mv0).f-1))==1) (.i (!(s.p_m.getD x2.toNat mv0).o) (.i (decide ((s.p_m.getD x2.toNat mv0).t<4)) (.c Az91 Sz91 (s,(s.p_m.getD x2.toNat mv0).f,()) fun r14=>(.i ((w6 ((s.p_m.getD x2.toNat mv0).t-1))==0) (.g (.k8 (w6 (x2+1)) x3 0 r14)) (.i ((w6 ((s.p_m.getD x2.toNat mv0).t-1))==1) (.g (.k8 (w6 (x2+1)) x3 r14 x5)) (.i ((w6 ((s.p_m.getD x2.toNat mv0).t-1))==2) (.g (.k8 (w6 (x2+1)) r14 0 x5)) .n)))) (.g (.k8 (w6 (x2+1)) x3 0 x5))) (.g (.k8 (w6 (x2+1)) x3 0 x5))) (.i ((w6 ((s.p_m.getD x2.toNat mv0).f-1))==2) (.i (!(s.p_m.getD x2.toNat mv0).o) (.i (decide ((s.p_m.getD x2.toNat mv0).t<4)) (.c Az91 Sz91 (s,(s.p_m.getD x2.toNat mv0).f,()) fun r13=>(.i ((w6 ((s.p_m.getD x2.toNat mv0).t-1))==0) (.g (.k8 (w6 (x2+1)) 0 x4 r13)) (.i ((w6 ((s.p_m.getD x2.toNat mv0).t-1))==1) (.g (.k8 (w6 (x2+1)) 0 r13 x5)) (.i ((w6 ((s.p_m.getD x2.toNat mv0).t-1))==2) (.g (.k8 (w6 (x2+1)) r13 x4 x5)) .n)))) (.g (.k8 (w6 (x2+1)) 0 x4 x5))) (.g (.k8 (w6 (x2+1)) 0 x4 x5))) .n))) (.i (!(s.p_m.getD x2.toNat mv0).o) (.i (decide ((s.p_m.getD x2.toNat mv0).t<4)) (.c Az91 Sz91 (s,(s.p_m.getD x2.toNat mv0).f,()) fun r16=>(.i ((w6 ((s.p_m.getD x2.toNat mv0).t-1))==0) (.g (.k8 (w6 (x2+1)) x3 x4 r16)) (.i ((w6 ((s.p_m.getD x2.toNat mv0).t-1))==1) (.g (.k8 (w6 (x2+1)) x3 r16 x5)) (.i ((w6 ((s.p_m.getD x2.toNat mv0).t-1))==2) (.g (.k8 (w6 (x2+1)) r16 x4 x5)) .n)))) (.g (.k8 (w6 (x2+1)) x3 x4 x5))) (.g (.k8 (w6 (x2+1)) x3 x4 x5)))) .n) (.r (x5,x4,x3,())))
noncomputable def Tz147 (s:Tn):Tr ((Int)×(Int)×(Int)×Unit) ajk (avi s) (Cod.agg (Row.cons cI (Row.cons cI (Row.cons cI Row.nil)))).v:=(.g (.k8 0 s.s_b3 s.s_b2 s.s_b1))
noncomputable def axt (s:Tn):=Tr.lp (zX s)
theorem axs {s:Tn}{n:Nat}{l_:ajk}:axt s (n+1) l_=(zX s l_).d (axt s n):=rfl
noncomputable def Ez147 (n:Nat) (s:Tn):=(Tz147 s).d (axt s n)
noncomputable def awk (x:Tn×Unit):=Ez147 (x.1.p_m.length+64) x.1
noncomputable def wz147:Wk (Tn×Unit) ((Int)×(Int)×(Int)×Unit) ajk (Cod.agg (Row.cons cI (Row.cons cI (Row.cons cI Row.nil)))).v:=⟨fun x=>avi x.1,uz147,fun x=>Tz147 x.1,fun x=>zX x.1⟩
noncomputable def Kz147:=aI 59 Tryz.func59 [Kz91] noZ ⟨48,(lookA [(4,⟨[0,2,3,17,18,19],[0,1],2,[],[],[],[]⟩)]),noL,noL⟩ 128 Az147 (Cod.agg (Row.cons cI (Row.cons cI (Row.cons cI Row.nil)))) awk wz147 (fun x=>x.1.p_m.length+64)
noncomputable def Az177:=(Row.cons (Cod.agg rSt) Row.nil)
noncomputable def Tz177 (s:St):Tr Bool Empty noS cB.v:=(.r (decide (s.c0<s.c1)))
noncomputable def Ez177 (s:St):=(Tz177 s).d noE
noncomputable def bq8 (x:St×Unit):=Ez177 x.1
noncomputable def wz177:Wk (St×Unit) Bool Empty cB.v:=wk0 fun x=>Tz177 x.1
noncomputable def Kz177:=aI 98 Tryz.func98 [] noZ ⟨10,noL,noL,noL⟩ 128 Az177 cB bq8 wz177 (fun _=>0)
noncomputable def Az120:=(Row.cons (Cod.agg rSt) Row.nil)
noncomputable def Tz120 (s:St):Tr Bool Empty noS cB.v:=(.i (decide (9≤s.inn)) (.i (s.half==1) (.c Az177 bq8 (s,()) fun r2=>(.r r2)) (.r false)) (.r false))
noncomputable def Ez120 (s:St):=(Tz120 s).d noE
noncomputable def awl (x:St×Unit):=Ez120 x.1
noncomputable def wz120:Wk (St×Unit) Bool Empty cB.v:=wk0 fun x=>Tz120 x.1
noncomputable def Kz120:=aI 60 Tryz.func60 [Kz177] noZ ⟨15,noL,noL,noL⟩ 128 Az120 cB awl wz120 (fun _=>0)
noncomputable def Az175:=(Row.cons (Cod.agg rSt) Row.nil)
noncomputable def Tz175 (s:St):Tr St Empty noS (Cod.agg rSt).v:=(.r (⟨s.inn,s.half,0,0,0,0,0,0,s.n0,s.n1,s.c0,s.c1,s.over⟩:St))
noncomputable def Ez175 (s:St):=(Tz175 s).d noE
noncomputable def bq9 (x:St×Unit):=Ez175 x.1
noncomputable def wz175:Wk (St×Unit) St Empty (Cod.agg rSt).v:=wk0 fun x=>Tz175 x.1
noncomputable def Kz175:=aI 99 Tryz.func99 [] noZ ⟨9,noL,noL,noL⟩ 128 Az175 (Cod.agg rSt) bq9 wz175 (fun _=>0)
noncomputable def Az148:=(Row.cons (Cod.agg rSt) Row.nil)
noncomputable def Tz148 (s:St):Tr St Empty noS (Cod.agg rSt).v:=(.c Az175 bq9 (s,()) fun r2=>(.r (⟨r2.inn,r2.half,r2.outs,r2.balls,r2.strikes,r2.b1,r2.b2,r2.b3,r2.n0,r2.n1,r2.c0,r2.c1,true⟩:St)))
noncomputable def Ez148 (s:St):=(Tz148 s).d noE
noncomputable def azh (x:St×Unit):=Ez148 x.1
noncomputable def wz148:Wk (St×Unit) St Empty (Cod.agg rSt).v:=wk0 fun x=>Tz148 x.1
noncomputable def Kz148:=aI 61 Tryz.func61 [Kz175] noZ ⟨7,noL,noL,noL⟩ 128 Az148 (Cod.agg rSt) azh wz148 (fun _=>0)
noncomputable def Az176:=(Row.cons (Cod.agg rSt) Row.nil)
noncomputable def Tz176 (s:St):Tr Bool Empty noS cB.v:=(.i (decide (s.inn<9)) (.r false) (.c Az177 bq8 (s,()) fun r2=>(.i r2 (.r true) (.i (s.half==1) (.i (!(s.c0==s.c1)) (.r true) (.r (s.inn==30))) (.r false)))))
noncomputable def Ez176 (s:St):=(Tz176 s).d noE
noncomputable def Sz176 (x:St×Unit):=Ez176 x.1
noncomputable def wz176:Wk (St×Unit) Bool Empty cB.v:=wk0 fun x=>Tz176 x.1
noncomputable def Kz176:=aI 100 Tryz.func100 [Kz177] noZ ⟨27,noL,noL,noL⟩ 128 Az176 cB Sz176 wz176 (fun _=>0)
noncomputable def Az149:=(Row.cons (Cod.agg rSt) Row.nil)
noncomputable def Tz149 (s:St):Tr St Empty noS (Cod.agg rSt).v:=(.c Az176 Sz176 (s,()) fun r4=>(.i r4 (.c Az148 azh (s,()) fun r5=>(.r r5)) (.c Az175 bq9 (s,()) fun r6=>(.i (r6.half==1) (.r (⟨(w6 (r6.inn+1)),(w6 (1-r6.half)),r6.outs,r6.balls,r6.strikes,r6.b1,r6.b2,r6.b3,r6.n0,r6.n1,r6.c0,r6.c1,r6.over⟩:St)) (.r (⟨r6.inn,(w6 (1-r6.half)),r6.outs,r6.balls,r6.strikes,r6.b1,r6.b2,r6.b3,r6.n0,r6.n1,r6.c0,r6.c1,r6.over⟩:St))))))
noncomputable def Ez149 (s:St):=(Tz149 s).d noE
noncomputable def awj (x:St×Unit):=Ez149 x.1
noncomputable def wz149:Wk (St×Unit) St Empty (Cod.agg rSt).v:=wk0 fun x=>Tz149 x.1
noncomputable def Kz149:=aI 62 Tryz.func62 [Kz148,Kz175,Kz176] noZ ⟨21,noL,noL,noL⟩ 128 Az149 (Cod.agg rSt) awj wz149 (fun _=>0)
noncomputable def Az86:=(Row.cons (Cod.ptr rTn) Row.nil)
inductive Lz86 where
 | k9 (x2:Int) (x3:Int)
 | k11 (x5:Int) (x6:Int)
 | k17 (x10:Int) (x11:Int) (x12:Int) (x13:Int) (x14:Int) (x15:Int)
noncomputable def uz86:Lz86→Nat
 | .k9 _ _=>9
 | .k11 _ _=>11
 | .k17 _ _ _ _ _ _=>17
noncomputable def sLz86 (s:Tn):Lz86→D
 | .k9 x2 x3=>mD [(0,.lptr (rTn.v s) 0),(2,.ptr 0 0),(3,.ptr 1 0)] 2 [(0,.row ⟨[.int .i64 0,.int .i64 0,.int .i64 0,.int .i64 0,.int .i64 0,.int .i64 0,.int .i64 0,.int .i64 0,.int .i64 0,.int .i64 0,.int .i64 0,.int .i64 0,.bool false],34,false⟩),(1,.row ⟨[.int .i64 s.s_inn,.int .i64 s.s_half,.int .i64 s.outs,.int .i64 s.s_balls,.int .i64 s.s_strikes,.int .i64 s.s_b1,.int .i64 s.s_b2,.int .i64 s.s_b3,.int .i64 s.s_n0,.int .i64 s.s_n1,.int .i64 x3,.int .i64 x2,.bool s.s_over],34,false⟩)] 128 []
 | .k11 x5 x6=>mD [(0,.lptr (rTn.v s) 0),(2,.ptr 0 0),(3,.ptr 1 0)] 2 [(0,.row ⟨[.int .i64 0,.int .i64 0,.int .i64 0,.int .i64 0,.int .i64 0,.int .i64 0,.int .i64 0,.int .i64 0,.int .i64 0,.int .i64 0,.int .i64 0,.int .i64 0,.bool false],34,false⟩),(1,.row ⟨[.int .i64 s.s_inn,.int .i64 s.s_half,.int .i64 s.outs,.int .i64 s.k0,.int .i64 s.k1,.int .i64 s.s_b1,.int .i64 s.s_b2,.int .i64 s.s_b3,.int .i64 s.s_n0,.int .i64 s.s_n1,.int .i64 x5,.int .i64 x6,.bool s.s_over],34,false⟩)] 128 []
 | .k17 x10 x11 x12 x13 x14 x15=>mD [(0,.lptr (rTn.v s) 0),(2,.ptr 0 0),(3,.ptr 1 0)] 2 [(0,.row ⟨[.int .i64 0,.int .i64 0,.int .i64 0,.int .i64 0,.int .i64 0,.int .i64 0,.int .i64 0,.int .i64 0,.int .i64 0,.int .i64 0,.int .i64 0,.int .i64 0,.bool false],34,false⟩),(1,.row ⟨[.int .i64 s.s_inn,.int .i64 s.s_half,.int .i64 s.outs,.int .i64 x14,.int .i64 x15,.int .i64 s.s_b1,.int .i64 s.s_b2,.int .i64 s.s_b3,.int .i64 x13,.int .i64 x10,.int .i64 x11,.int .i64 x12,.bool s.s_over],34,false⟩)] 128 []
noncomputable def Tz86J (s:Tn):(l_:Lz86)→Tr St Lz86 (sLz86 s) (Cod.agg rSt).v
 | .k9 x2 x3=>(.g (.k11 x3 x2))
 | .k11 x5 x6=>(.c ajt tR (s,()) fun r24=>(.i (!r24) (.c Az62 Sz62 ((⟨s.s_inn,s.s_half,s.outs,0,0,s.s_b1,s.s_b2,s.s_b3,s.s_n0,s.s_n1,x5,x6,s.s_over⟩:St),()) fun r25=>(.c Az146 bqc (r25,()) fun r26=>(.i (s.s_half==0) (.g (.k17 s.s_n1 x5 x6 r26 0 0)) (.i (s.s_half==1) (.g (.k17 r26 x5 x6 s.s_n0 0 0)) .n)))) (.g (.k17 s.s_n1 x5 x6 s.s_n0 s.k0 s.k1))))
 | .k17 x10 x11 x12 x13 x14 x15=>(.c Az147 awk (s,()) fun r27=>(.c Az120 awl ((⟨s.s_inn,s.s_half,s.outs,x14,x15,r27.1,r27.2.1,r27.2.2.1,x13,x10,x11,x12,s.s_over⟩:St),()) fun r28=>(.i r28 (.c Az148 azh ((⟨s.s_inn,s.s_half,s.outs,x14,x15,r27.1,r27.2.1,r27.2.2.1,x13,x10,x11,x12,s.s_over⟩:St),()) fun r29=>(.r r29)) (.i (s.outs==3) (.c Az149 awj ((⟨s.s_inn,s.s_half,s.outs,x14,x15,r27.1,r27.2.1,r27.2.2.1,x13,x10,x11,x12,s.s_over⟩:St),()) fun r30=>(.r r30)) (.r (⟨s.s_inn,s.s_half,s.outs,x14,x15,r27.1,r27.2.1,r27.2.2.1,x13,x10,x11,x12,s.s_over⟩:St))))))
noncomputable def Tz86 (s:Tn):Tr St Lz86 (sLz86 s) (Cod.agg rSt).v:=(.i (s.s_half==0) (.c Az89 ayG (s,()) fun r23=>(.i (s.s_half==0) (.g (.k9 s.s_c1 (w6 (s.s_c0+((r23.length:Nat):Int))))) (.i (s.s_half==1) (.g (.k9 (w6 (s.s_c0+((r23.length:Nat):Int))) s.s_c0)) .n))) (.i (s.s_half==1) (.c Az89 ayG (s,()) fun r22=>(.i (s.s_half==0) (.g (.k9 s.s_c1 (w6 (s.s_c1+((r22.length:Nat):Int))))) (.i (s.s_half==1) (.g (.k9 (w6 (s.s_c1+((r22.length:Nat):Int))) s.s_c0)) .n))) .n))
noncomputable def xI (s:Tn):=Tr.lp (Tz86J s)
noncomputable def Ez86 (n:Nat) (s:Tn):=(Tz86 s).d (xI s n)
noncomputable def Sz86 (x:Tn×Unit):=Ez86 (x.1.p_m.length+64) x.1
noncomputable def wz86:Wk (Tn×Unit) St Lz86 (Cod.agg rSt).v:=⟨fun x=>sLz86 x.1,uz86,fun x=>Tz86 x.1,fun x=>Tz86J x.1⟩
noncomputable def Kz86:=aI 23 Tryz.func23 [Kz62,Kz89,Kz120,bqp,Kz146,Kz147,Kz148,Kz149] noZ ⟨63,noL,(lookA [(4,⟨[0,2,3],[0,1],2,[],[],[],[]⟩),(5,⟨[0,2,3],[0,1],2,[],[],[],[]⟩),(8,⟨[0,2,3],[0,1],2,[],[],[],[]⟩)]),noL⟩ 128 Az86 (Cod.agg rSt) Sz86 wz86 (fun x=>x.1.p_m.length+64)
noncomputable def Az32:=(Row.cons (Cod.agg rSt) (Row.cons (Cod.agg rPl) Row.nil))
noncomputable def Tz32 (s:St) (t:Pl):Tr ((St)×(Int)×(Int)×Unit) Empty noS (Cod.tup (Row.cons (Cod.agg rSt) (Row.cons cI (Row.cons cI Row.nil)))).v:=(.c Az85 Sz85 (s,t,()) fun r5=>(.s r5.1 (.i (!(r5.2.2.1==0)) (.r ((⟨0,0,0,0,0,0,0,0,0,0,0,0,false⟩:St),r5.2.1,r5.2.2.1,())) (.v Az86 Sz86 [.raw .nilp] fun r7=>(.r (r7,0,0,())))) fun r6=>(.i (!(r5.2.2.1==0)) (.r ((⟨0,0,0,0,0,0,0,0,0,0,0,0,false⟩:St),r5.2.1,r5.2.2.1,())) (.c Az86 Sz86 (r6,()) fun r8=>(.r (r8,0,0,()))))))
noncomputable def Ez32 (s:St) (t:Pl):=(Tz32 s t).d noE
noncomputable def ayH (x:St×Pl×Unit):=Ez32 x.1 x.2.1
noncomputable def wz32:Wk (St×Pl×Unit) ((St)×(Int)×(Int)×Unit) Empty (Cod.tup (Row.cons (Cod.agg rSt) (Row.cons cI (Row.cons cI Row.nil)))).v:=wk0 fun x=>Tz32 x.1 x.2.1
noncomputable def Kz32:=aI 8 Tryz.func8 [Kz85,Kz86] noZ ⟨24,noL,noL,noL⟩ 128 Az32 (Cod.tup (Row.cons (Cod.agg rSt) (Row.cons cI (Row.cons cI Row.nil)))) ayH wz32 (fun _=>0)
noncomputable def Az65:=(Row.cons (Cod.list 0 p8) Row.nil)
inductive Lz65 where
 | k4 (x1:Int)
noncomputable def uz65:Lz65→Nat
 | .k4 _=>4
noncomputable def sLz65 (s:List (Int)):Lz65→D
 | .k4 x1=>mD [(0,(Cod.list 0 p8).v s),(3,.int .i64 x1)] 0 [] 128 []
noncomputable def bqX (s:List (Int)):(l_:Lz65)→Tr Int Lz65 (sLz65 s) cI.v
 | .k4 x1=>(.i (decide (x1<((s.length:Nat):Int))) (.i (inR x1 s.length) (.i (!((s.getD x1.toNat 0)==0)) (.i (inR x1 s.length) (.r (s.getD x1.toNat 0)) .n) (.g (.k4 (w6 (x1+1))))) .n) (.r 0))
noncomputable def Tz65 (s:List (Int)):Tr Int Lz65 (sLz65 s) cI.v:=(.g (.k4 0))
noncomputable def bqs (s:List (Int)):=Tr.lp (bqX s)
theorem Ez65J_s {s:List (Int)}{n:Nat}{l_:Lz65}:bqs s (n+1) l_=(bqX s l_).d (bqs s n):=rfl
noncomputable def Ez65 (n:Nat) (s:List (Int)):=(Tz65 s).d (bqs s n)
noncomputable def Sz65 (x:(List (Int))×Unit):=Ez65 (x.1.length+64) x.1
noncomputable def wz65:Wk ((List (Int))×Unit) Int Lz65 cI.v:=⟨fun x=>sLz65 x.1,uz65,fun x=>Tz65 x.1,fun x=>bqX x.1⟩
noncomputable def Kz65:=aI 19 Tryz.func19 [] noZ ⟨19,(lookA [(2,⟨[0,3],[],0,[],[],[],[]⟩)]),noL,noL⟩ 128 Az65 cI Sz65 wz65 (fun x=>x.1.length+64)
noncomputable def azw:=(Row.cons (Cod.agg rPl) (Row.cons cI Row.nil))
inductive ajg where
 | k4 (x1:Int)
noncomputable def uz157:ajg→Nat
 | .k4 _=>4
noncomputable def ave (s:Pl) (t:Int):ajg→D
 | .k4 x1=>mD [(1,.int .i64 t),(2,.ptr 0 0),(5,.int .i64 x1)] 1 [(0,.row ⟨(rPl.v s),28,false⟩)] 128 []
noncomputable def pL (s:Pl) (t:Int):(l_:ajg)→Tr Int ajg (ave s t) cI.v
 | .k4 x1=>(.i (decide (x1<((s.m.length:Nat):Int))) (.i (inR x1 s.m.length) (.i ((s.m.getD x1.toNat mv0).f==t) (.r x1) (.g (.k4 (w6 (x1+1))))) .n) (.r (-1)))
noncomputable def Tz157 (s:Pl) (t:Int):Tr Int ajg (ave s t) cI.v:=(.g (.k4 0))
noncomputable def aqV (s:Pl) (t:Int):=Tr.lp (pL s t)
theorem nC {s:Pl}{t:Int}{n:Nat}{l_:ajg}:aqV s t (n+1) l_=(pL s t l_).d (aqV s t n):=rfl
noncomputable def Ez157 (n:Nat) (s:Pl) (t:Int):=(Tz157 s t).d (aqV s t n)
noncomputable def aqE (x:Pl×Int×Unit):=Ez157 (x.1.m.length+64) x.1 x.2.1
noncomputable def wz157:Wk (Pl×Int×Unit) Int ajg cI.v:=⟨fun x=>ave x.1 x.2.1,uz157,fun x=>Tz157 x.1 x.2.1,fun x=>pL x.1 x.2.1⟩
noncomputable def Kz157:=aI 121 Tryz.func121 [] noZ ⟨22,(lookA [(2,⟨[1,2,5],[0],1,[],[],[],[]⟩)]),noL,noL⟩ 128 azw cI aqE wz157 (fun x=>x.1.m.length+64)
noncomputable def Az197:=(Row.cons (Cod.agg rPl) Row.nil)
noncomputable def Tz197 (s:Pl):Tr ((Mv)×(Bool)×Unit) Empty noS (Cod.tup (Row.cons (Cod.agg rMv) (Row.cons cB Row.nil))).v:=(.c azw aqE (s,0,()) fun r2=>(.i (decide (r2<0)) (.w ((⟨0,0,false,[],[]⟩:Mv),false,()) (.tup [.agg [.int .i64 0,.int .i64 0,.bool false,.str [],.el []],.bool false]) ⟨by kernel_rfl⟩) (.i (inR r2 s.m.length) (.r ((s.m.getD r2.toNat mv0),true,())) .n)))
noncomputable def Ez197 (s:Pl):=(Tz197 s).d noE
noncomputable def bq6 (x:Pl×Unit):=Ez197 x.1
noncomputable def wz197:Wk (Pl×Unit) ((Mv)×(Bool)×Unit) Empty (Cod.tup (Row.cons (Cod.agg rMv) (Row.cons cB Row.nil))).v:=wk0 fun x=>Tz197 x.1
noncomputable def Kz197:=aI 113 Tryz.func113 [Kz157] noZ ⟨15,noL,noL,noL⟩ 128 Az197 (Cod.tup (Row.cons (Cod.agg rMv) (Row.cons cB Row.nil))) bq6 wz197 (fun _=>0)
noncomputable def Az30:=(Row.cons (Cod.agg (Row.cons cI (Row.cons cI Row.nil))) (Row.cons cS Row.nil))
noncomputable def Tz30 (s:(Int)×(Int)×Unit) (t:List Nat):Tr (List Nat) Empty noS cS.v:=(.i (s.1==4) (.r [87]) (.i (s.2.1==3) (.r [75]) (.i (!decide (t=[])) (.i (inR (w6 (((t.length:Nat):Int)-1)) t.length) (.i (((t.getD (w6 (((t.length:Nat):Int)-1)).toNat 0:Nat):Int)==88) (.i (decide ((0:Int)≤(w6 (((t.length:Nat):Int)-1)))&&decide ((w6 (((t.length:Nat):Int)-1))≤((t.length:Nat):Int))) (.r ((t.take t.length).drop ((w6 (((t.length:Nat):Int)-1)).toNat))) .n) (.i (inR (w6 (((t.length:Nat):Int)-1)) t.length) (.i (((t.getD (w6 (((t.length:Nat):Int)-1)).toNat 0:Nat):Int)==72) (.i (decide ((0:Int)≤(w6 (((t.length:Nat):Int)-1)))&&decide ((w6 (((t.length:Nat):Int)-1))≤((t.length:Nat):Int))) (.r ((t.take t.length).drop ((w6 (((t.length:Nat):Int)-1)).toNat))) .n) (.r [])) .n)) .n) (.r []))))
noncomputable def Ez30 (s:(Int)×(Int)×Unit) (t:List Nat):=(Tz30 s t).d noE
noncomputable def Sz30 (x:((Int)×(Int)×Unit)×(List Nat)×Unit):=Ez30 x.1 x.2.1
noncomputable def wz30:Wk (((Int)×(Int)×Unit)×(List Nat)×Unit) (List Nat) Empty cS.v:=wk0 fun x=>Tz30 x.1 x.2.1
noncomputable def Kz30:=aI 115 Tryz.func115 [] noZ ⟨34,noL,noL,noL⟩ 128 Az30 cS Sz30 wz30 (fun _=>0)
noncomputable def Az198:=(Row.cons cS (Row.cons cS Row.nil))
noncomputable def Tz198 (s:List Nat) (t:List Nat):Tr Bool Empty noS cB.v:=(.i (decide (s=[88])) (.i (decide (t=[88])) (.r true) (.r (decide (t=[89])))) (.i (decide (s=[])) (.i (decide (t=[])) (.r true) (.i (decide (t=[73])) (.r true) (.r (decide (t=[78]))))) (.r (decide (t=s)))))
noncomputable def Ez198 (s:List Nat) (t:List Nat):=(Tz198 s t).d noE
noncomputable def Sz198 (x:(List Nat)×(List Nat)×Unit):=Ez198 x.1 x.2.1
noncomputable def wz198:Wk ((List Nat)×(List Nat)×Unit) Bool Empty cB.v:=wk0 fun x=>Tz198 x.1 x.2.1
noncomputable def Kz198:=aI 114 Tryz.func114 [] noZ ⟨29,noL,noL,noL⟩ 128 Az198 cB Sz198 wz198 (fun _=>0)
noncomputable def Az83:=(Row.cons cS (Row.cons cU8 Row.nil))
inductive Lz83 where
 | k4 (x1:Int)
noncomputable def uz83:Lz83→Nat
 | .k4 _=>4
noncomputable def sLz83 (s:List Nat) (t:Int):Lz83→D
 | .k4 x1=>mD [(0,.str s),(1,.int .u8 t),(5,.int .i64 x1)] 0 [] 128 []
noncomputable def zU (s:List Nat) (t:Int):(l_:Lz83)→Tr Bool Lz83 (sLz83 s t) cB.v
 | .k4 x1=>(.i (decide (x1<((s.length:Nat):Int))) (.i (inR x1 s.length) (.i (((s.getD x1.toNat 0:Nat):Int)==t) (.r true) (.g (.k4 (w6 (x1+1))))) .n) (.r false))
noncomputable def Tz83 (s:List Nat) (t:Int):Tr Bool Lz83 (sLz83 s t) cB.v:=(.g (.k4 0))
noncomputable def awx (s:List Nat) (t:Int):=Tr.lp (zU s t)
theorem s4 {s:List Nat}{t:Int}{n:Nat}{l_:Lz83}:awx s t (n+1) l_=(zU s t l_).d (awx s t n):=rfl
noncomputable def Ez83 (n:Nat) (s:List Nat) (t:Int):=(Tz83 s t).d (awx s t n)
noncomputable def Sz83 (x:(List Nat)×Int×Unit):=Ez83 (x.1.length+64) x.1 x.2.1
noncomputable def wz83:Wk ((List Nat)×Int×Unit) Bool Lz83 cB.v:=⟨fun x=>sLz83 x.1 x.2.1,uz83,fun x=>Tz83 x.1 x.2.1,fun x=>zU x.1 x.2.1⟩
noncomputable def Kz83:=aI 40 Tryz.func40 [] noZ ⟨17,(lookA [(2,⟨[0,1,5],[],0,[],[],[],[]⟩)]),noL,noL⟩ 128 Az83 cB Sz83 wz83 (fun x=>x.1.length+64)
noncomputable def iR:=(Row.cons (Cod.agg rMv) (Row.cons cB (Row.cons cS Row.nil)))
noncomputable def Tz200 (s:Mv) (t:Bool) (u:List Nat):Tr Bool Empty noS cB.v:=(.i (s.o==t) (.i (inR 0 s.h.length) (.c Az83 Sz83 (u,((s.h.getD 0 0:Nat):Int),()) fun r2=>(.r r2)) .n) (.r false))
noncomputable def Ez200 (s:Mv) (t:Bool) (u:List Nat):=(Tz200 s t u).d noE
noncomputable def fN (x:Mv×Bool×(List Nat)×Unit):=Ez200 x.1 x.2.1 x.2.2.1
noncomputable def wz200:Wk (Mv×Bool×(List Nat)×Unit) Bool Empty cB.v:=wk0 fun x=>Tz200 x.1 x.2.1 x.2.2.1
noncomputable def bqo:=aI 117 Tryz.func117 [Kz83] noZ ⟨18,noL,noL,noL⟩ 128 iR cB fN wz200 (fun _=>0)
noncomputable def Az199:=(Row.cons cS (Row.cons (Cod.agg rMv) Row.nil))
noncomputable def Tz199 (s:List Nat) (t:Mv):Tr Bool Empty noS cB.v:=(.i (decide (s=[75])) (.c iR fN (t,true,[107,102,103],()) fun r10=>(.i r10 (.r true) (.c iR fN (t,false,[112,116],()) fun r11=>(.r r11)))) (.i (decide (s=[87])) (.c iR fN (t,false,[97],()) fun r12=>(.i r12 (.r (t.t==1)) (.r false))) (.i (decide (s=[72])) (.c iR fN (t,false,[97],()) fun r13=>(.i r13 (.r (t.t==1)) (.r false))) (.i (decide (s=[73])) (.c iR fN (t,false,[97],()) fun r14=>(.i r14 (.r (t.t==1)) (.r false))) (.i (decide (s=[88])) (.c iR fN (t,false,[98,116,111],()) fun r15=>(.i r15 (.r true) (.c iR fN (t,true,[102,99,103],()) fun r16=>(.r r16)))) (.i (decide (s=[78])) (.c iR fN (t,true,[110],()) fun r17=>(.r r17)) (.c iR fN (t,true,[121],()) fun r18=>(.r r18))))))))
noncomputable def Ez199 (s:List Nat) (t:Mv):=(Tz199 s t).d noE
noncomputable def Sz199 (x:(List Nat)×Mv×Unit):=Ez199 x.1 x.2.1
noncomputable def wz199:Wk ((List Nat)×Mv×Unit) Bool Empty cB.v:=wk0 fun x=>Tz199 x.1 x.2.1
noncomputable def Kz199:=aI 116 Tryz.func116 [bqo] noZ ⟨39,noL,noL,noL⟩ 128 Az199 cB Sz199 wz199 (fun _=>0)
noncomputable def bjl:=(Row.cons (Cod.agg rPl) Row.nil)
inductive Lz59 where
 | k6 (x1:Int) (x2:Int)
noncomputable def uz59:Lz59→Nat
 | .k6 _ _=>6
noncomputable def sLz59 (s:Pl):Lz59→D
 | .k6 x1 x2=>mD [(1,.ptr 0 0),(3,.int .i64 x1),(4,.int .i64 x2)] 1 [(0,.row ⟨(rPl.v s),28,false⟩)] 128 []
noncomputable def zV (s:Pl):(l_:Lz59)→Tr Int Lz59 (sLz59 s) cI.v
 | .k6 x1 x2=>(.i (decide (x2<((s.m.length:Nat):Int))) (.i (inR x2 s.m.length) (.i ((s.m.getD x2.toNat mv0).o) (.g (.k6 (w6 (x1+1)) (w6 (x2+1)))) (.g (.k6 x1 (w6 (x2+1))))) .n) (.r x1))
noncomputable def Tz59 (s:Pl):Tr Int Lz59 (sLz59 s) cI.v:=(.g (.k6 0 0))
noncomputable def awy (s:Pl):=Tr.lp (zV s)
theorem s5 {s:Pl}{n:Nat}{l_:Lz59}:awy s (n+1) l_=(zV s l_).d (awy s n):=rfl
noncomputable def Ez59 (n:Nat) (s:Pl):=(Tz59 s).d (awy s n)
noncomputable def aja (x:Pl×Unit):=Ez59 (x.1.m.length+64) x.1
noncomputable def wz59:Wk (Pl×Unit) Int Lz59 cI.v:=⟨fun x=>sLz59 x.1,uz59,fun x=>Tz59 x.1,fun x=>zV x.1⟩
noncomputable def Kz59:=aI 83 Tryz.func83 [] noZ ⟨21,(lookA [(3,⟨[1,3,4],[0],1,[],[],[],[]⟩)]),noL,noL⟩ 128 bjl cI aja wz59 (fun x=>x.1.m.length+64)
noncomputable def Az155:=(Row.cons (Cod.agg rSt) (Row.cons (Cod.agg rPl) Row.nil))
noncomputable def Tz155 (s:St) (t:Pl):Tr Bool Empty noS cB.v:=(.c bjl aja (t,()) fun r2=>(.r ((w6 (s.outs+r2))==3)))
noncomputable def Ez155 (s:St) (t:Pl):=(Tz155 s t).d noE
noncomputable def bqa (x:St×Pl×Unit):=Ez155 x.1 x.2.1
noncomputable def wz155:Wk (St×Pl×Unit) Bool Empty cB.v:=wk0 fun x=>Tz155 x.1 x.2.1
noncomputable def Kz155:=aI 118 Tryz.func118 [Kz59] noZ ⟨11,noL,noL,noL⟩ 128 Az155 cB bqa wz155 (fun _=>0)
noncomputable def Az201:=(Row.cons (Cod.agg rPl) Row.nil)
inductive ajf where
 | k6 (x1:Int) (x2:Int)
noncomputable def uz201:ajf→Nat
 | .k6 _ _=>6
noncomputable def avd (s:Pl):ajf→D
 | .k6 x1 x2=>mD [(1,.ptr 0 0),(3,.int .i64 x1),(4,.int .i64 x2)] 1 [(0,.row ⟨(rPl.v s),28,false⟩)] 128 []
noncomputable def pK (s:Pl):(l_:ajf)→Tr Int ajf (avd s) cI.v
 | .k6 x1 x2=>(.i (decide (x2<((s.m.length:Nat):Int))) (.i (inR x2 s.m.length) (.i (!(s.m.getD x2.toNat mv0).o) (.i (inR x2 s.m.length) (.i ((s.m.getD x2.toNat mv0).t==4) (.g (.k6 (w6 (x1+1)) (w6 (x2+1)))) (.g (.k6 x1 (w6 (x2+1))))) .n) (.g (.k6 x1 (w6 (x2+1))))) .n) (.r x1))
noncomputable def Tz201 (s:Pl):Tr Int ajf (avd s) cI.v:=(.g (.k6 0 0))
noncomputable def aqT (s:Pl):=Tr.lp (pK s)
theorem nB {s:Pl}{n:Nat}{l_:ajf}:aqT s (n+1) l_=(pK s l_).d (aqT s n):=rfl
noncomputable def Ez201 (n:Nat) (s:Pl):=(Tz201 s).d (aqT s n)
noncomputable def Sz201 (x:Pl×Unit):=Ez201 (x.1.m.length+64) x.1
noncomputable def wz201:Wk (Pl×Unit) Int ajf cI.v:=⟨fun x=>avd x.1,uz201,fun x=>Tz201 x.1,fun x=>pK x.1⟩
noncomputable def Kz201:=aI 119 Tryz.func119 [] noZ ⟨31,(lookA [(3,⟨[1,3,4],[0],1,[],[],[],[]⟩)]),noL,noL⟩ 128 Az201 cI Sz201 wz201 (fun x=>x.1.m.length+64)
noncomputable def Az25:=(Row.cons (Cod.agg rSt) Row.nil)
inductive Lz25 where
 | k6 (x1:Int) (x2:Bool) (x3:Bool) (x4:Bool) (x5:Bool)
noncomputable def uz25:Lz25→Nat
 | .k6 _ _ _ _ _=>6
noncomputable def sLz25 (s:St):Lz25→D
 | .k6 x1 x2 x3 x4 x5=>mD [(1,.ptr 0 0),(2,.ptr 1 0),(3,.ptr 2 0),(4,.int .i64 x1)] 3 [(0,.row ⟨(rSt.v s),25,false⟩),(1,.row ⟨[.bool false,.bool false,.bool false,.bool false],95,false⟩),(2,.row ⟨[.bool x3,.bool x2,.bool x5,.bool x4],95,false⟩)] 128 []
noncomputable def bqZ (s:St):(l_:Lz25)→Tr ((Bool)×(Bool)×(Bool)×(Bool)×Unit) Lz25 (sLz25 s) (Cod.agg (Row.cons cB (Row.cons cB (Row.cons cB (Row.cons cB Row.nil))))).v
 | .k6 x1 x2 x3 x4 x5=>(.i (decide (x1<4)) (.i ((w6 (x1-1))==0) (.i x3 (.i ((w6 (x1-1))==0) (.i (x1==0) (.g (.k6 (w6 (x1+1)) x2 (!(s.b1==0)) x4 x5)) (.i (x1==1) (.g (.k6 (w6 (x1+1)) (!(s.b1==0)) x3 x4 x5)) (.i (x1==2) (.g (.k6 (w6 (x1+1)) x2 x3 x4 (!(s.b1==0)))) (.i (x1==3) (.g (.k6 (w6 (x1+1)) x2 x3 (!(s.b1==0)) x5)) .n)))) (.i ((w6 (x1-1))==1) (.i (x1==0) (.g (.k6 (w6 (x1+1)) x2 (!(s.b2==0)) x4 x5)) (.i (x1==1) (.g (.k6 (w6 (x1+1)) (!(s.b2==0)) x3 x4 x5)) (.i (x1==2) (.g (.k6 (w6 (x1+1)) x2 x3 x4 (!(s.b2==0)))) (.i (x1==3) (.g (.k6 (w6 (x1+1)) x2 x3 (!(s.b2==0)) x5)) .n)))) (.i ((w6 (x1-1))==2) (.i (x1==0) (.g (.k6 (w6 (x1+1)) x2 (!(s.b3==0)) x4 x5)) (.i (x1==1) (.g (.k6 (w6 (x1+1)) (!(s.b3==0)) x3 x4 x5)) (.i (x1==2) (.g (.k6 (w6 (x1+1)) x2 x3 x4 (!(s.b3==0)))) (.i (x1==3) (.g (.k6 (w6 (x1+1)) x2 x3 (!(s.b3==0)) x5)) .n)))) .n))) (.i (x1==0) (.g (.k6 (w6 (x1+1)) x2 false x4 x5)) (.i (x1==1) (.g (.k6 (w6 (x1+1)) false x3 x4 x5)) (.i (x1==2) (.g (.k6 (w6 (x1+1)) x2 x3 x4 false)) (.i (x1==3) (.g (.k6 (w6 (x1+1)) x2 x3 false x5)) .n))))) (.i ((w6 (x1-1))==1) (.i x2 (.i ((w6 (x1-1))==0) (.i (x1==0) (.g (.k6 (w6 (x1+1)) x2 (!(s.b1==0)) x4 x5)) (.i (x1==1) (.g (.k6 (w6 (x1+1)) (!(s.b1==0)) x3 x4 x5)) (.i (x1==2) (.g (.k6 (w6 (x1+1)) x2 x3 x4 (!(s.b1==0)))) (.i (x1==3) (.g (.k6 (w6 (x1+1)) x2 x3 (!(s.b1==0)) x5)) .n)))) (.i ((w6 (x1-1))==1) (.i (x1==0) (.g (.k6 (w6 (x1+1)) x2 (!(s.b2==0)) x4 x5)) (.i (x1==1) (.g (.k6 (w6 (x1+1)) (!(s.b2==0)) x3 x4 x5)) (.i (x1==2) (.g (.k6 (w6 (x1+1)) x2 x3 x4 (!(s.b2==0)))) (.i (x1==3) (.g (.k6 (w6 (x1+1)) x2 x3 (!(s.b2==0)) x5)) .n)))) (.i ((w6 (x1-1))==2) (.i (x1==0) (.g (.k6 (w6 (x1+1)) x2 (!(s.b3==0)) x4 x5)) (.i (x1==1) (.g (.k6 (w6 (x1+1)) (!(s.b3==0)) x3 x4 x5)) (.i (x1==2) (.g (.k6 (w6 (x1+1)) x2 x3 x4 (!(s.b3==0)))) (.i (x1==3) (.g (.k6 (w6 (x1+1)) x2 x3 (!(s.b3==0)) x5)) .n)))) .n))) (.i (x1==0) (.g (.k6 (w6 (x1+1)) x2 false x4 x5)) (.i (x1==1) (.g (.k6 (w6 (x1+1)) false x3 x4 x5)) (.i (x1==2) (.g (.k6 (w6 (x1+1)) x2 x3 x4 false)) (.i (x1==3) (.g (.k6 (w6 (x1+1)) x2 x3 false x5)) .n))))) (.i ((w6 (x1-1))==2) (.i x5 (.i ((w6 (x1-1))==0) (.i (x1==0) (.g (.k6 (w6 (x1+1)) x2 (!(s.b1==0)) x4 x5)) (.i (x1==1) (.g (.k6 (w6 (x1+1)) (!(s.b1==0)) x3 x4 x5)) (.i (x1==2) (.g (.k6 (w6 (x1+1)) x2 x3 x4 (!(s.b1==0)))) (.i (x1==3) (.g (.k6 (w6 (x1+1)) x2 x3 (!(s.b1==0)) x5)) .n)))) (.i ((w6 (x1-1))==1) (.i (x1==0) (.g (.k6 (w6 (x1+1)) x2 (!(s.b2==0)) x4 x5)) (.i (x1==1) (.g (.k6 (w6 (x1+1)) (!(s.b2==0)) x3 x4 x5)) (.i (x1==2) (.g (.k6 (w6 (x1+1)) x2 x3 x4 (!(s.b2==0)))) (.i (x1==3) (.g (.k6 (w6 (x1+1)) x2 x3 (!(s.b2==0)) x5)) .n)))) (.i ((w6 (x1-1))==2) (.i (x1==0) (.g (.k6 (w6 (x1+1)) x2 (!(s.b3==0)) x4 x5)) (.i (x1==1) (.g (.k6 (w6 (x1+1)) (!(s.b3==0)) x3 x4 x5)) (.i (x1==2) (.g (.k6 (w6 (x1+1)) x2 x3 x4 (!(s.b3==0)))) (.i (x1==3) (.g (.k6 (w6 (x1+1)) x2 x3 (!(s.b3==0)) x5)) .n)))) .n))) (.i (x1==0) (.g (.k6 (w6 (x1+1)) x2 false x4 x5)) (.i (x1==1) (.g (.k6 (w6 (x1+1)) false x3 x4 x5)) (.i (x1==2) (.g (.k6 (w6 (x1+1)) x2 x3 x4 false)) (.i (x1==3) (.g (.k6 (w6 (x1+1)) x2 x3 false x5)) .n))))) (.i ((w6 (x1-1))==3) (.i x4 (.i ((w6 (x1-1))==0) (.i (x1==0) (.g (.k6 (w6 (x1+1)) x2 (!(s.b1==0)) x4 x5)) (.i (x1==1) (.g (.k6 (w6 (x1+1)) (!(s.b1==0)) x3 x4 x5)) (.i (x1==2) (.g (.k6 (w6 (x1+1)) x2 x3 x4 (!(s.b1==0)))) (.i (x1==3) (.g (.k6 (w6 (x1+1)) x2 x3 (!(s.b1==0)) x5)) .n)))) (.i ((w6 (x1-1))==1) (.i (x1==0) (.g (.k6 (w6 (x1+1)) x2 (!(s.b2==0)) x4 x5)) (.i (x1==1) (.g (.k6 (w6 (x1+1)) (!(s.b2==0)) x3 x4 x5)) (.i (x1==2) (.g (.k6 (w6 (x1+1)) x2 x3 x4 (!(s.b2==0)))) (.i (x1==3) (.g (.k6 (w6 (x1+1)) x2 x3 (!(s.b2==0)) x5)) .n)))) (.i ((w6 (x1-1))==2) (.i (x1==0) (.g (.k6 (w6 (x1+1)) x2 (!(s.b3==0)) x4 x5)) (.i (x1==1) (.g (.k6 (w6 (x1+1)) (!(s.b3==0)) x3 x4 x5)) (.i (x1==2) (.g (.k6 (w6 (x1+1)) x2 x3 x4 (!(s.b3==0)))) (.i (x1==3) (.g (.k6 (w6 (x1+1)) x2 x3 (!(s.b3==0)) x5)) .n)))) .n))) (.i (x1==0) (.g (.k6 (w6 (x1+1)) x2 false x4 x5)) (.i (x1==1) (.g (.k6 (w6 (x1+1)) false x3 x4 x5)) (.i (x1==2) (.g (.k6 (w6 (x1+1)) x2 x3 x4 false)) (.i (x1==3) (.g (.k6 (w6 (x1+1)) x2 x3 false x5)) .n))))) .n)))) (.r (x3,x2,x5,x4,())))
noncomputable def Tz25 (s:St):Tr ((Bool)×(Bool)×(Bool)×(Bool)×Unit) Lz25 (sLz25 s) (Cod.agg (Row.cons cB (Row.cons cB (Row.cons cB (Row.cons cB Row.nil))))).v:=(.g (.k6 1 false true false false))
noncomputable def bqv (s:St):=Tr.lp (bqZ s)
theorem Ez25J_s {s:St}{n:Nat}{l_:Lz25}:bqv s (n+1) l_=(bqZ s l_).d (bqv s n):=rfl
noncomputable def Ez25 (n:Nat) (s:St):=(Tz25 s).d (bqv s n)
noncomputable def Sz25 (x:St×Unit):=Ez25 64 x.1
noncomputable def wz25:Wk (St×Unit) ((Bool)×(Bool)×(Bool)×(Bool)×Unit) Lz25 (Cod.agg (Row.cons cB (Row.cons cB (Row.cons cB (Row.cons cB Row.nil))))).v:=⟨fun x=>sLz25 x.1,uz25,fun x=>Tz25 x.1,fun x=>bqZ x.1⟩
noncomputable def Kz25:=aI 122 Tryz.func122 [] noZ ⟨25,(lookA [(3,⟨[1,2,3,4],[0,1,2],3,[],[],[],[]⟩)]),noL,noL⟩ 128 Az25 (Cod.agg (Row.cons cB (Row.cons cB (Row.cons cB (Row.cons cB Row.nil))))) Sz25 wz25 (fun x=>64)
end
end Go.Ev
