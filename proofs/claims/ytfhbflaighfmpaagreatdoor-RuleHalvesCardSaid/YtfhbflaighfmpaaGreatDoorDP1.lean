import Derived.Test.YtfhbflaighfmpaaGreatDoorDHand
set_option linter.unusedSimpArgs false
set_option linter.unusedVariables false
namespace Go.Ev
open Go.RowKit Go.Proofs
set_option maxRecDepth 100000
set_option maxHeartbeats 4000000
set_option linter.unusedVariables false
noncomputable section
structure Tn where
 s_inn:Int
 s_half:Int
 s_outs:Int
 s_balls:Int
 s_strikes:Int
 s_b1:Int
 s_b2:Int
 s_b3:Int
 s_n0:Int
 s_n1:Int
 s_c0:Int
 s_c1:Int
 s_over:Bool
 p_p:List Nat
 p_e:List Nat
 p_l:Bool
 p_m:List (Mv)
 k0:Int
 k1:Int
 counted:Bool
 outs:Int
 f0:Bool
 f1:Bool
 f2:Bool
 f3:Bool
noncomputable def rTn:Row Tn:=Row.iso (Row.cons cI (Row.cons cI (Row.cons cI (Row.cons cI (Row.cons cI (Row.cons cI (Row.cons cI (Row.cons cI (Row.cons cI (Row.cons cI (Row.cons cI (Row.cons cI (Row.cons cB (Row.cons cS (Row.cons cS (Row.cons cB (Row.cons (Cod.list mv0 rMv) (Row.cons cI (Row.cons cI (Row.cons cB (Row.cons cI (Row.cons cB (Row.cons cB (Row.cons cB (Row.cons cB Row.nil))))))))))))))))))))))))) (fun x=>⟨x.1,x.2.1,x.2.2.1,x.2.2.2.1,x.2.2.2.2.1,x.2.2.2.2.2.1,x.2.2.2.2.2.2.1,x.2.2.2.2.2.2.2.1,x.2.2.2.2.2.2.2.2.1,x.2.2.2.2.2.2.2.2.2.1,x.2.2.2.2.2.2.2.2.2.2.1,x.2.2.2.2.2.2.2.2.2.2.2.1,x.2.2.2.2.2.2.2.2.2.2.2.2.1,x.2.2.2.2.2.2.2.2.2.2.2.2.2.1,x.2.2.2.2.2.2.2.2.2.2.2.2.2.2.1,x.2.2.2.2.2.2.2.2.2.2.2.2.2.2.2.1,x.2.2.2.2.2.2.2.2.2.2.2.2.2.2.2.2.1,x.2.2.2.2.2.2.2.2.2.2.2.2.2.2.2.2.2.1,x.2.2.2.2.2.2.2.2.2.2.2.2.2.2.2.2.2.2.1,x.2.2.2.2.2.2.2.2.2.2.2.2.2.2.2.2.2.2.2.1,x.2.2.2.2.2.2.2.2.2.2.2.2.2.2.2.2.2.2.2.2.1,x.2.2.2.2.2.2.2.2.2.2.2.2.2.2.2.2.2.2.2.2.2.1,x.2.2.2.2.2.2.2.2.2.2.2.2.2.2.2.2.2.2.2.2.2.2.1,x.2.2.2.2.2.2.2.2.2.2.2.2.2.2.2.2.2.2.2.2.2.2.2.1,x.2.2.2.2.2.2.2.2.2.2.2.2.2.2.2.2.2.2.2.2.2.2.2.2.1⟩) (fun y=>(y.s_inn,y.s_half,y.s_outs,y.s_balls,y.s_strikes,y.s_b1,y.s_b2,y.s_b3,y.s_n0,y.s_n1,y.s_c0,y.s_c1,y.s_over,y.p_p,y.p_e,y.p_l,y.p_m,y.k0,y.k1,y.counted,y.outs,y.f0,y.f1,y.f2,y.f3,())) (fun _=>rfl) (fun _=>rfl)
def Az84:=(Row.cons (Cod.agg rPl) Row.nil)
inductive Lz84 where
 | k8 (a:Int)
def uz84:Lz84→Nat
 | .k8 _=>8
def sLz84 (s:Pl):Lz84→D
 | .k8 a=>mD [(1,.ptr 0 0),(3,.int .i64 a)] 1 [(0,.row ⟨(rPl.v s),48,false⟩)] 128 []
noncomputable def ayg (s:Pl):(l_:Lz84)→Tr Bool Lz84 (sLz84 s) cB.v
 | .k8 a=>(.i (decide (a<((s.m.length:Nat):Int))) (.i (inR a s.m.length) (.i (decide (20<((((s.m.getD a.toNat mv0).h).length:Nat):Int))) (.r false) (.i (inR a s.m.length) (.i (decide (40<((((s.m.getD a.toNat mv0).b).length:Nat):Int))) (.r false) (.g (.k8 (w6 (a+1))))) .n)) .n) (.r true))
def Tz84 (s:Pl):Tr Bool Lz84 (sLz84 s) cB.v:=(.i (decide (26<((s.p.length:Nat):Int))) (.r false) (.i (decide (20<((s.e.length:Nat):Int))) (.r false) (.i (decide (6<((s.m.length:Nat):Int))) (.r false) (.g (.k8 0)))))
def bqH (s:Pl):=Tr.lp (ayg s)
theorem bqG {s:Pl}{n:Nat}{l_:Lz84}:bqH s (n+1) l_=(ayg s l_).d (bqH s n):=rfl
def Ez84 (n:Nat) (s:Pl):=(Tz84 s).d (bqH s n)
def Sz84 (x:Pl×Unit):=Ez84 (x.1.m.length+64) x.1
def wz84:Wk (Pl×Unit) Bool Lz84 cB.v:=⟨fun x=>sLz84 x.1,uz84,fun x=>Tz84 x.1,fun x=>ayg x.1⟩
def Kz84:=aU 14 Tryz.func14 [] noZ ⟨45,(lookA [(4,⟨[1,3],[0],1,[],[],[],[]⟩)]),noL,noL⟩ 128 Az84 cB Sz84 wz84 (fun x=>x.1.m.length+64)
def Az61:=(Row.cons (Cod.agg rSt) Row.nil)
def Tz61 (s:St):Tr Int Empty noS cI.v:=(.i s.over (.r 20) (.r 0))
def Ez61 (s:St):=(Tz61 s).d noE
def Sz61 (x:St×Unit):=Ez61 x.1
def wz61:Wk (St×Unit) Int Empty cI.v:=wk0 fun x=>Tz61 x.1
def Kz61:=aU 90 Tryz.func90 [] noZ ⟨5,noL,noL,noL⟩ 128 Az61 cI Sz61 wz61 (fun _=>0)
def Az141:=(Row.cons (Cod.agg rSt) (Row.cons (Cod.ptr rPl) Row.nil))
def Tz141 (s:St) (t:Pl):Tr Int Empty noS cI.v:=(.c A142 S142 (t,()) fun a=>(.r a))
def Ez141 (s:St) (t:Pl):=(Tz141 s t).d noE
def Sz141 (x:St×Pl×Unit):=Ez141 x.1 x.2.1
def wz141:Wk (St×Pl×Unit) Int Empty cI.v:=wk0 fun x=>Tz141 x.1 x.2.1
def Kz141:=aU 88 Tryz.func88 [K142] noZ ⟨6,noL,noL,noL⟩ 128 Az141 cI Sz141 wz141 (fun _=>0)
def lK:=(Row.cons (Cod.agg rSt) (Row.cons (Cod.lit (Els.cons (Row.cons (Cod.fn0 19) Row.nil) (Els.cons (Row.cons (Cod.fn 88 (Row.cons (Cod.ptr rPl) Row.nil)) Row.nil) (Els.cons (Row.cons (Cod.fn0 90) Row.nil) Els.nil)))) Row.nil))
inductive bG where
 | k4 (a:Int)
def sO:bG→Nat
 | .k4 _=>4
noncomputable def fJ (s:St) (t:((Unit)×Unit)×(((Pl)×Unit)×Unit)×((Unit)×Unit)×Unit):bG→D
 | .k4 a=>mD [(2,.ptr 0 0),(8,.el [[.raw (.func 19 [])],[.fn 88 [.lptr (rPl.v t.2.1.1.1) 0]],[.raw (.func 90 [])]]),(9,.int .i64 3),(10,.int .i64 a)] 1 [(0,.row ⟨(rSt.v s),54,false⟩)] 128 []
noncomputable def dL (s:St) (t:((Unit)×Unit)×(((Pl)×Unit)×Unit)×((Unit)×Unit)×Unit):(l_:bG)→Tr Int bG (fJ s t) cI.v
 | .k4 a=>(.i (decide (a<3)) (.i (a==0) (.c A18 S18 (s,()) fun b=>(.i (!(b==0)) (.r b) (.g (.k4 (w6 (a+1)))))) (.i (a==1) (.c Az141 Sz141 (s,t.2.1.1.1,()) fun d=>(.i (!(d==0)) (.r d) (.g (.k4 (w6 (a+1)))))) (.i (a==2) (.c Az61 Sz61 (s,()) fun e=>(.i (!(e==0)) (.r e) (.g (.k4 (w6 (a+1)))))) .n))) (.r 0))
def gU (s:St) (t:((Unit)×Unit)×(((Pl)×Unit)×Unit)×((Unit)×Unit)×Unit):Tr Int bG (fJ s t) cI.v:=(.g (.k4 0))
def dN (s:St) (t:((Unit)×Unit)×(((Pl)×Unit)×Unit)×((Unit)×Unit)×Unit):=Tr.lp (dL s t)
theorem oP {s:St}{t:((Unit)×Unit)×(((Pl)×Unit)×Unit)×((Unit)×Unit)×Unit}{n:Nat}{l_:bG}:dN s t (n+1) l_=(dL s t l_).d (dN s t n):=rfl
def g0 (n:Nat) (s:St) (t:((Unit)×Unit)×(((Pl)×Unit)×Unit)×((Unit)×Unit)×Unit):=(gU s t).d (dN s t n)
def eO (x:St×(((Unit)×Unit)×(((Pl)×Unit)×Unit)×((Unit)×Unit)×Unit)×Unit):=g0 64 x.1 x.2.1
def sL:Wk (St×(((Unit)×Unit)×(((Pl)×Unit)×Unit)×((Unit)×Unit)×Unit)×Unit) Int bG cI.v:=⟨fun x=>fJ x.1 x.2.1,sO,fun x=>gU x.1 x.2.1,fun x=>dL x.1 x.2.1⟩
def uY:=aU 44 Tryz.func44 [K18,Kz61,Kz141] noZ ⟨21,(lookA [(2,⟨[2,8,9,10],[0],1,[],[],[],[]⟩)]),noL,noL⟩ 128 lK cI eO sL (fun x=>64)
def Az196:=(Row.cons (Cod.agg rMv) Row.nil)
def Tz196 (s:Mv):Tr Bool Empty noS cB.v:=(.r s.o)
def Ez196 (s:Mv):=(Tz196 s).d noE
def Sz196 (x:Mv×Unit):=Ez196 x.1
def wz196:Wk (Mv×Unit) Bool Empty cB.v:=wk0 fun x=>Tz196 x.1
def Kz196:=aU 142 Tryz.func142 [] noZ ⟨5,noL,noL,noL⟩ 128 Az196 cB Sz196 wz196 (fun _=>0)
def ajY:=(Row.cons (Cod.list mv0 rMv) (Row.cons (Cod.fn0 142) Row.nil))
inductive gX where
 | k6 (a b:Int)
def akS:gX→Nat
 | .k6 _ _=>6
def oZ (s:List (Mv)) (t:Unit):gX→D
 | .k6 a b=>mD [(1,.raw (.func 142 [])),(5,.int .i64 a),(8,(Cod.list mv0 rMv).v s),(9,.int .i64 ((s.length:Nat):Int)),(10,.int .i64 b)] 0 [] 128 []
noncomputable def dX (s:List (Mv)) (t:Unit):(l_:gX)→Tr Int gX (oZ s t) cI.v
 | .k6 a b=>(.i (decide (b<((s.length:Nat):Int))) (.i (inR b s.length) (.c Az196 Sz196 ((s.getD b.toNat mv0),()) fun d=>(.i d (.g (.k6 (w6 (a+1)) (w6 (b+1)))) (.g (.k6 a (w6 (b+1)))))) .n) (.r a))
def uQ (s:List (Mv)) (t:Unit):Tr Int gX (oZ s t) cI.v:=(.g (.k6 0 0))
def iZ (s:List (Mv)) (t:Unit):=Tr.lp (dX s t)
theorem fG {s:List (Mv)}{t:Unit}{n:Nat}{l_:gX}:iZ s t (n+1) l_=(dX s t l_).d (iZ s t n):=rfl
def vA (n:Nat) (s:List (Mv)) (t:Unit):=(uQ s t).d (iZ s t n)
def uV (x:(List (Mv))×Unit×Unit):=vA (x.1.length+64) x.1 x.2.1
def akK:Wk ((List (Mv))×Unit×Unit) Int gX cI.v:=⟨fun x=>oZ x.1 x.2.1,akS,fun x=>uQ x.1 x.2.1,fun x=>dX x.1 x.2.1⟩
def ayx:=aU 141 Tryz.func141 [Kz196] noZ ⟨21,(lookA [(3,⟨[1,5,8,9,10],[],0,[],[],[],[]⟩)]),noL,noL⟩ 128 ajY cI uV akK (fun x=>x.1.length+64)
def Az63:=(Row.cons (Cod.agg rSt) Row.nil)
inductive Lz63 where
 | k6 (a:Int)(b c d:Bool)
def uz63:Lz63→Nat
 | .k6 _ _ _ _=>6
noncomputable def sLz63 (s:St):Lz63→D
 | .k6 a b c d=>mD [(2,.ptr 1 0),(3,.ptr 2 0),(8,.agg [.int .i64 s.b1,.int .i64 s.b2,.int .i64 s.b3]),(9,.int .i64 a)] 3 [(1,.row ⟨[.bool false,.bool false,.bool false,.bool false],72,false⟩),(2,.row ⟨[.bool true,.bool b,.bool d,.bool c],72,false⟩)] 128 []
noncomputable def bjj (s:St):(l_:Lz63)→Tr ((Bool)×(Bool)×(Bool)×(Bool)×Unit) Lz63 (sLz63 s) (Cod.agg (Row.cons cB (Row.cons cB (Row.cons cB (Row.cons cB Row.nil))))).v
 | .k6 a b c d=>(.i (decide (a<3)) (.i (a==0) (.i (s.b1==0) (.r (true,b,d,c,())) (.i ((w6 (a+1))==0) (.g (.k6 (w6 (a+1)) b c d)) (.i ((w6 (a+1))==1) (.g (.k6 (w6 (a+1)) true c d)) (.i ((w6 (a+1))==2) (.g (.k6 (w6 (a+1)) b c true)) (.i ((w6 (a+1))==3) (.g (.k6 (w6 (a+1)) b true d)) .n))))) (.i (a==1) (.i (s.b2==0) (.r (true,b,d,c,())) (.i ((w6 (a+1))==0) (.g (.k6 (w6 (a+1)) b c d)) (.i ((w6 (a+1))==1) (.g (.k6 (w6 (a+1)) true c d)) (.i ((w6 (a+1))==2) (.g (.k6 (w6 (a+1)) b c true)) (.i ((w6 (a+1))==3) (.g (.k6 (w6 (a+1)) b true d)) .n))))) (.i (a==2) (.i (s.b3==0) (.r (true,b,d,c,())) (.i ((w6 (a+1))==0) (.g (.k6 (w6 (a+1)) b c d)) (.i ((w6 (a+1))==1) (.g (.k6 (w6 (a+1)) true c d)) (.i ((w6 (a+1))==2) (.g (.k6 (w6 (a+1)) b c true)) (.i ((w6 (a+1))==3) (.g (.k6 (w6 (a+1)) b true d)) .n))))) .n))) (.r (true,b,d,c,())))
def Tz63 (s:St):Tr ((Bool)×(Bool)×(Bool)×(Bool)×Unit) Lz63 (sLz63 s) (Cod.agg (Row.cons cB (Row.cons cB (Row.cons cB (Row.cons cB Row.nil))))).v:=(.g (.k6 0 false false false))
def bxZ (s:St):=Tr.lp (bjj s)
theorem Ez63J_s {s:St}{n:Nat}{l_:Lz63}:bxZ s (n+1) l_=(bjj s l_).d (bxZ s n):=rfl
def Ez63 (n:Nat) (s:St):=(Tz63 s).d (bxZ s n)
def Sz63 (x:St×Unit):=Ez63 64 x.1
def wz63:Wk (St×Unit) ((Bool)×(Bool)×(Bool)×(Bool)×Unit) Lz63 (Cod.agg (Row.cons cB (Row.cons cB (Row.cons cB (Row.cons cB Row.nil))))).v:=⟨fun x=>sLz63 x.1,uz63,fun x=>Tz63 x.1,fun x=>bjj x.1⟩
def Kz63:=aU 143 Tryz.func143 [] noZ ⟨20,(lookA [(3,⟨[2,3,8,9],[1,2],3,[],[],[],[]⟩)]),noL,noL⟩ 128 Az63 (Cod.agg (Row.cons cB (Row.cons cB (Row.cons cB (Row.cons cB Row.nil))))) Sz63 wz63 (fun x=>64)
def Az143:=(Row.cons (Cod.agg rSt) (Row.cons (Cod.agg rPl) Row.nil))
inductive avm where
 | k2000001 (a b:Int)(c:Bool)(d:Int)(e f g h:Bool)
def uz143:avm→Nat
 | .k2000001 _ _ _ _ _ _ _ _=>2000001
noncomputable def akn (s:St) (t:Pl):avm→D
 | .k2000001 a b c d f g h i=>mD [(4,.lptr [.int .i64 s.inn,.int .i64 s.half,.int .i64 s.outs,.int .i64 s.balls,.int .i64 s.strikes,.int .i64 s.b1,.int .i64 s.b2,.int .i64 s.b3,.int .i64 s.n0,.int .i64 s.n1,.int .i64 s.c0,.int .i64 s.c1,.bool s.over,.str t.p,.str t.e,.bool t.l,(Cod.list mv0 rMv).v t.m,.int .i64 a,.int .i64 b,.bool c,.int .i64 d,.bool f,.bool g,.bool h,.bool i] 0)] 0 [] 128 []
noncomputable def bzK (s:St) (t:Pl):(l_:avm)→Tr Tn avm (akn s t) (Cod.ptr rTn).v
 | .k2000001 a b c d f g h i=>(.r (⟨s.inn,s.half,s.outs,s.balls,s.strikes,s.b1,s.b2,s.b3,s.n0,s.n1,s.c0,s.c1,s.over,t.p,t.e,t.l,t.m,a,b,c,d,f,g,h,i⟩:Tn))
noncomputable def Tz143 (s:St) (t:Pl):Tr Tn avm (akn s t) (Cod.ptr rTn).v:=(.c A81 S81 (s.balls,s.strikes,t.p,()) fun a=>(.c ajY uV (t.m,(),()) fun b=>(.c Az63 Sz63 (s,()) fun d=>(.g (.k2000001 a.1.1 a.1.2.1 (a.2.2.1==0) (w6 (s.outs+b)) d.1 d.2.1 d.2.2.1 d.2.2.2.1)))))
def Ez143J (s:St) (t:Pl):=Tr.lp (bzK s t)
def Ez143 (n:Nat) (s:St) (t:Pl):=(Tz143 s t).d (Ez143J s t n)
def bjz (x:St×Pl×Unit):=Ez143 (x.2.1.m.length+64) x.1 x.2.1
def wz143:Wk (St×Pl×Unit) Tn avm (Cod.ptr rTn).v:=⟨fun x=>akn x.1 x.2.1,uz143,fun x=>Tz143 x.1 x.2.1,fun x=>bzK x.1 x.2.1⟩
def Kz143:=aU 91 Tryz.func91 [Kz63,K81,ayx] noZ ⟨34,noL,(lookA [(1000000,⟨[4],[],0,[],[],[(3,1)],[]⟩)]),noL⟩ 128 Az143 (Cod.ptr rTn) bjz wz143 (fun x=>x.2.1.m.length+64)
def Az74:=Row.nil
noncomputable def Tz74:Tr ((List Nat)×Unit×(List Nat)×Unit×(List Nat)×Unit×(List Nat)×Unit×(List Nat)×Unit×(List Nat)×Unit×(List Nat)×Unit×(List Nat)×Unit×(List Nat)×Unit×(List Nat)×Unit×(List Nat)×Unit×(List Nat)×Unit×(List Nat)×Unit×Unit) Empty noS (Cod.agg (Row.cons cS (Row.cons (Cod.fn0 98) (Row.cons cS (Row.cons (Cod.fn0 99) (Row.cons cS (Row.cons (Cod.fn0 100) (Row.cons cS (Row.cons (Cod.fn0 101) (Row.cons cS (Row.cons (Cod.fn0 102) (Row.cons cS (Row.cons (Cod.fn0 103) (Row.cons cS (Row.cons (Cod.fn0 104) (Row.cons cS (Row.cons (Cod.fn0 105) (Row.cons cS (Row.cons (Cod.fn0 106) (Row.cons cS (Row.cons (Cod.fn0 107) (Row.cons cS (Row.cons (Cod.fn0 108) (Row.cons cS (Row.cons (Cod.fn0 109) (Row.cons cS (Row.cons (Cod.fn0 110) Row.nil))))))))))))))))))))))))))).v:=(.r ([112,105,116,99,104,101,115],(),[101,118,101,110,116],(),[98,97,116,116,101,114],(),[114,117,110,110,101,114,115],(),[98,97,116,116,101,114,39,115,32,119,97,121],(),[116,104,105,114,100,32,115,116,114,105,107,101],(),[105,110,102,105,101,108,100,32,102,108,121],(),[119,97,121,115],(),[98,97,108,107],(),[97,119,97,114,100,115],(),[111,114,100,101,114],(),[111,117,116,115],(),[108,97,116,101,32,114,117,110,115],(),()))
def Ez74:=(Tz74).d noE
def Sz74 (x:Unit):=Ez74
noncomputable def wz74:Wk (Unit) ((List Nat)×Unit×(List Nat)×Unit×(List Nat)×Unit×(List Nat)×Unit×(List Nat)×Unit×(List Nat)×Unit×(List Nat)×Unit×(List Nat)×Unit×(List Nat)×Unit×(List Nat)×Unit×(List Nat)×Unit×(List Nat)×Unit×(List Nat)×Unit×Unit) Empty (Cod.agg (Row.cons cS (Row.cons (Cod.fn0 98) (Row.cons cS (Row.cons (Cod.fn0 99) (Row.cons cS (Row.cons (Cod.fn0 100) (Row.cons cS (Row.cons (Cod.fn0 101) (Row.cons cS (Row.cons (Cod.fn0 102) (Row.cons cS (Row.cons (Cod.fn0 103) (Row.cons cS (Row.cons (Cod.fn0 104) (Row.cons cS (Row.cons (Cod.fn0 105) (Row.cons cS (Row.cons (Cod.fn0 106) (Row.cons cS (Row.cons (Cod.fn0 107) (Row.cons cS (Row.cons (Cod.fn0 108) (Row.cons cS (Row.cons (Cod.fn0 109) (Row.cons cS (Row.cons (Cod.fn0 110) Row.nil))))))))))))))))))))))))))).v:=wk0 fun x=>Tz74
noncomputable def Kz74:=aU 58 Tryz.func58 [] noZ ⟨15,noL,noL,noL⟩ 128 Az74 (Cod.agg (Row.cons cS (Row.cons (Cod.fn0 98) (Row.cons cS (Row.cons (Cod.fn0 99) (Row.cons cS (Row.cons (Cod.fn0 100) (Row.cons cS (Row.cons (Cod.fn0 101) (Row.cons cS (Row.cons (Cod.fn0 102) (Row.cons cS (Row.cons (Cod.fn0 103) (Row.cons cS (Row.cons (Cod.fn0 104) (Row.cons cS (Row.cons (Cod.fn0 105) (Row.cons cS (Row.cons (Cod.fn0 106) (Row.cons cS (Row.cons (Cod.fn0 107) (Row.cons cS (Row.cons (Cod.fn0 108) (Row.cons cS (Row.cons (Cod.fn0 109) (Row.cons cS (Row.cons (Cod.fn0 110) Row.nil))))))))))))))))))))))))))) Sz74 wz74 (fun _=>0)
def Az122:=(Row.cons (Cod.ptr rTn) Row.nil)
def Tz122 (s:Tn):Tr Bool Empty noS cB.v:=(.r (!s.counted))
def Ez122 (s:Tn):=(Tz122 s).d noE
def Sz122 (x:Tn×Unit):=Ez122 x.1
def wz122:Wk (Tn×Unit) Bool Empty cB.v:=wk0 fun x=>Tz122 x.1
def Kz122:=aU 98 Tryz.func98 [] noZ ⟨8,noL,noL,noL⟩ 128 Az122 cB Sz122 wz122 (fun _=>0)
def Az191:=(Row.cons cS (Row.cons cS Row.nil))
noncomputable def Tz191 (s:List Nat) (t:List Nat):Tr Bool Empty noS cB.v:=(.i (decide (((t.length:Nat):Int)≤((s.length:Nat):Int))) (.i (decide ((0:Int)≤(w6 (((s.length:Nat):Int)-((t.length:Nat):Int))))&&decide ((w6 (((s.length:Nat):Int)-((t.length:Nat):Int)))≤((s.length:Nat):Int))) (.r (decide (((s.take s.length).drop ((w6 (((s.length:Nat):Int)-((t.length:Nat):Int))).toNat))=t))) .n) (.r false))
def Ez191 (s:List Nat) (t:List Nat):=(Tz191 s t).d noE
def Sz191 (x:(List Nat)×(List Nat)×Unit):=Ez191 x.1 x.2.1
def wz191:Wk ((List Nat)×(List Nat)×Unit) Bool Empty cB.v:=wk0 fun x=>Tz191 x.1 x.2.1
def Kz191:=aU 189 Tryz.func189 [] noZ ⟨21,noL,noL,noL⟩ 128 Az191 cB Sz191 wz191 (fun _=>0)
def Az140:=(Row.cons cS (Row.cons cS Row.nil))
def Tz140 (s:List Nat) (t:List Nat):Tr Bool Empty noS cB.v:=(.c Az191 Sz191 (s,t,()) fun a=>(.r a))
def Ez140 (s:List Nat) (t:List Nat):=(Tz140 s t).d noE
def bxA (x:(List Nat)×(List Nat)×Unit):=Ez140 x.1 x.2.1
def wz140:Wk ((List Nat)×(List Nat)×Unit) Bool Empty cB.v:=wk0 fun x=>Tz140 x.1 x.2.1
def Kz140:=aU 176 Tryz.func176 [Kz191] noZ ⟨8,noL,noL,noL⟩ 128 Az140 cB bxA wz140 (fun _=>0)
def Az82:=(Row.cons (Cod.agg (Row.cons cI (Row.cons cI Row.nil))) (Row.cons cS Row.nil))
noncomputable def Tz82 (s:(Int)×(Int)×Unit) (t:List Nat):Tr (List Nat) Empty noS cS.v:=(.i (decide (2<s.2.1)) (.r [75]) (.i (decide (3<s.1)) (.r [87]) (.c Az140 bxA (t,[72],()) fun a=>(.i a (.r [72]) (.c Az140 bxA (t,[88],()) fun b=>(.i b (.r [88]) (.r [])))))))
def Ez82 (s:(Int)×(Int)×Unit) (t:List Nat):=(Tz82 s t).d noE
def Sz82 (x:((Int)×(Int)×Unit)×(List Nat)×Unit):=Ez82 x.1 x.2.1
def wz82:Wk (((Int)×(Int)×Unit)×(List Nat)×Unit) (List Nat) Empty cS.v:=wk0 fun x=>Tz82 x.1 x.2.1
def Kz82:=aU 145 Tryz.func145 [Kz140] noZ ⟨19,noL,noL,noL⟩ 128 Az82 cS Sz82 wz82 (fun _=>0)
def aj1:=(Row.cons (Cod.ptr rTn) Row.nil)
def Tz145 (s:Tn):Tr Bool Empty noS cB.v:=(.r (decide (s.p_e=[])))
def Ez145 (s:Tn):=(Tz145 s).d noE
def rQ (x:Tn×Unit):=Ez145 x.1
def wz145:Wk (Tn×Unit) Bool Empty cB.v:=wk0 fun x=>Tz145 x.1
def bqA:=aU 62 Tryz.func62 [] noZ ⟨9,noL,noL,noL⟩ 128 aj1 cB rQ wz145 (fun _=>0)
def lM:=(Row.cons (Cod.ptr rTn) (Row.cons cS Row.nil))
def Tz178 (s:Tn) (t:List Nat):Tr Bool Empty noS cB.v:=(.i (!decide (s.p_e=[])) (.c azy zQ (t,s.p_e,()) fun a=>(.r a)) (.r false))
def Ez178 (s:Tn) (t:List Nat):=(Tz178 s t).d noE
def j7 (x:Tn×(List Nat)×Unit):=Ez178 x.1 x.2.1
def wz178:Wk (Tn×(List Nat)×Unit) Bool Empty cB.v:=wk0 fun x=>Tz178 x.1 x.2.1
def avw:=aU 146 Tryz.func146 [K181] noZ ⟨20,noL,noL,noL⟩ 128 lM cB j7 wz178 (fun _=>0)
def Az123:=(Row.cons (Cod.ptr rTn) Row.nil)
noncomputable def Tz123 (s:Tn):Tr Bool Empty noS cB.v:=(.c Az82 Sz82 ((s.k0,s.k1,()),s.p_p,()) fun a=>(.i (decide (a=[])) (.c aj1 rQ (s,()) fun b=>(.i (!b) (.c lM j7 (s,[73,78],()) fun d=>(.r (!d))) (.r false))) (.i (decide (a=[88])) (.c lM j7 (s,[88,89],()) fun e=>(.r (!e))) (.r (!decide (s.p_e=a))))))
def Ez123 (s:Tn):=(Tz123 s).d noE
def bxM (x:Tn×Unit):=Ez123 x.1
def wz123:Wk (Tn×Unit) Bool Empty cB.v:=wk0 fun x=>Tz123 x.1
def Kz123:=aU 99 Tryz.func99 [Kz82,bqA,avw] noZ ⟨37,noL,noL,noL⟩ 128 Az123 cB bxM wz123 (fun _=>0)
def bx8:=(Row.cons (Cod.ptr rTn) Row.nil)
noncomputable def Tz179 (s:Tn):Tr ((Mv)×(Bool)×Unit) Empty noS (Cod.tup (Row.cons (Cod.agg rMv) (Row.cons cB Row.nil))).v:=(.i (((s.p_m.length:Nat):Int)==0) (.w ((⟨0,0,false,[],[]⟩:Mv),false,()) (.tup [.agg [.int .i64 0,.int .i64 0,.bool false,.str [],.el []],.bool false]) ⟨by kernel_rfl⟩) (.i (inR (w6 (((s.p_m.length:Nat):Int)-1)) s.p_m.length) (.i (!((s.p_m.getD (w6 (((s.p_m.length:Nat):Int)-1)).toNat mv0).f==0)) (.w ((⟨0,0,false,[],[]⟩:Mv),false,()) (.tup [.agg [.int .i64 0,.int .i64 0,.bool false,.str [],.el []],.bool false]) ⟨by kernel_rfl⟩) (.i (inR (w6 (((s.p_m.length:Nat):Int)-1)) s.p_m.length) (.r ((s.p_m.getD (w6 (((s.p_m.length:Nat):Int)-1)).toNat mv0),true,())) .n)) .n))
def Ez179 (s:Tn):=(Tz179 s).d noE
def ayr (x:Tn×Unit):=Ez179 x.1
def wz179:Wk (Tn×Unit) ((Mv)×(Bool)×Unit) Empty (Cod.tup (Row.cons (Cod.agg rMv) (Row.cons cB Row.nil))).v:=wk0 fun x=>Tz179 x.1
def Kz179:=aU 147 Tryz.func147 [] noZ ⟨30,noL,noL,noL⟩ 128 bx8 (Cod.tup (Row.cons (Cod.agg rMv) (Row.cons cB Row.nil))) ayr wz179 (fun _=>0)
def Az124:=(Row.cons (Cod.ptr rTn) Row.nil)
def Tz124 (s:Tn):Tr Bool Empty noS cB.v:=(.c bx8 ayr (s,()) fun a=>(.c aj1 rQ (s,()) fun b=>(.r (a.2.1==b))))
def Ez124 (s:Tn):=(Tz124 s).d noE
def bxL (x:Tn×Unit):=Ez124 x.1
def wz124:Wk (Tn×Unit) Bool Empty cB.v:=wk0 fun x=>Tz124 x.1
def Kz124:=aU 100 Tryz.func100 [bqA,Kz179] noZ ⟨14,noL,noL,noL⟩ 128 Az124 cB bxL wz124 (fun _=>0)
def Az125:=(Row.cons (Cod.ptr rTn) Row.nil)
inductive axd where
 | k200002 (a:Int)
def uz125:axd→Nat
 | .k200002 _=>200002
noncomputable def aks (s:Tn):axd→D
 | .k200002 a=>mE [(0,.raw (.yieldf 4)),(6,(Cod.list mv0 rMv).v s.p_m),(7,.int .i64 ((s.p_m.length:Nat):Int)),(8,.int .i64 a)] [] none [[(1,.ptr 0 0),(2,.ptr 1 0),(8,.fn 177 [.ptr 2 0])]] 5 [(0,.row ⟨[.lptr (rTn.v s) 0],71,false⟩),(1,.row ⟨[.bool false],4,false⟩),(2,.row ⟨[.str s.p_p,.str s.p_e,.bool s.p_l,(Cod.list mv0 rMv).v s.p_m],48,false⟩),(3,.dfr false),(4,.loop .ready none 20 [(1,.ptr 0 0),(2,.ptr 1 0),(8,.fn 177 [.ptr 2 0])] [9] (subC (rO Tryz.f101) [1,0,1,0,0]) (subC (rO Tryz.f101) [1,0,1,0,1]))] 128 []
noncomputable def ajJ (s:Tn):(l_:axd)→Tr Bool axd (aks s) cB.v
 | .k200002 a=>(.i (decide (a<((s.p_m.length:Nat):Int))) (.i (inR a s.p_m.length) (.i (decide (0<(s.p_m.getD a.toNat mv0).f)) (.i ((w6 ((s.p_m.getD a.toNat mv0).f-1))==0) (.i (s.s_b1==0) (.r true) (.g (.k200002 (w6 (a+1))))) (.i ((w6 ((s.p_m.getD a.toNat mv0).f-1))==1) (.i (s.s_b2==0) (.r true) (.g (.k200002 (w6 (a+1))))) (.i ((w6 ((s.p_m.getD a.toNat mv0).f-1))==2) (.i (s.s_b3==0) (.r true) (.g (.k200002 (w6 (a+1))))) .n))) (.g (.k200002 (w6 (a+1))))) .n) (.r false))
def Tz125 (s:Tn):Tr Bool axd (aks s) cB.v:=(.g (.k200002 0))
def azx (s:Tn):=Tr.lp (ajJ s)
theorem azw {s:Tn}{n:Nat}{l_:axd}:azx s (n+1) l_=(ajJ s l_).d (azx s n):=rfl
def Ez125 (n:Nat) (s:Tn):=(Tz125 s).d (azx s n)
def bxK (x:Tn×Unit):=Ez125 (x.1.p_m.length+64) x.1
def wz125:Wk (Tn×Unit) Bool axd cB.v:=⟨fun x=>aks x.1,uz125,fun x=>Tz125 x.1,fun x=>ajJ x.1⟩
def Kz125:=aU 101 Tryz.func101 [] noZ ⟨20,(lookA [(100001,⟨[0,6,7,8],[0,1,2,3,4],5,[],[],[],[]⟩)]),noL,(lookA [(2,⟨177,100000,3,22,[],[1,2,8]⟩)])⟩ 128 Az125 cB bxK wz125 (fun x=>x.1.p_m.length+64)
def Az126:=(Row.cons (Cod.ptr rTn) Row.nil)
noncomputable def Tz126 (s:Tn):Tr Bool Empty noS cB.v:=(.c bx8 ayr (s,()) fun a=>(.i (!a.2.1) (.r false) (.i (decide (s.p_e=[75])) (.c azy zQ ([107,102,103,112,116],a.1.h,()) fun b=>(.i (!b) (.r true) (.i (decide (a.1.h=[97])) (.r (!(a.1.t==1))) (.r false)))) (.i (decide (s.p_e=[87])) (.c azy zQ ([97],a.1.h,()) fun d=>(.i (!d) (.r true) (.i (decide (a.1.h=[97])) (.r (!(a.1.t==1))) (.r false)))) (.i (decide (s.p_e=[72])) (.c azy zQ ([97],a.1.h,()) fun e=>(.i (!e) (.r true) (.i (decide (a.1.h=[97])) (.r (!(a.1.t==1))) (.r false)))) (.i (decide (s.p_e=[73])) (.c azy zQ ([97],a.1.h,()) fun f=>(.i (!f) (.r true) (.i (decide (a.1.h=[97])) (.r (!(a.1.t==1))) (.r false)))) (.i (decide (s.p_e=[88])) (.c azy zQ ([98,116,111,102,99,103],a.1.h,()) fun g=>(.i (!g) (.r true) (.i (decide (a.1.h=[97])) (.r (!(a.1.t==1))) (.r false)))) (.i (decide (s.p_e=[78])) (.c azy zQ ([110],a.1.h,()) fun j=>(.i (!j) (.r true) (.i (decide (a.1.h=[97])) (.r (!(a.1.t==1))) (.r false)))) (.i (decide (s.p_e=[89])) (.c azy zQ ([121],a.1.h,()) fun k=>(.i (!k) (.r true) (.i (decide (a.1.h=[97])) (.r (!(a.1.t==1))) (.r false)))) (.c azy zQ ([],a.1.h,()) fun l=>(.i (!l) (.r true) (.i (decide (a.1.h=[97])) (.r (!(a.1.t==1))) (.r false)))))))))))))
def Ez126 (s:Tn):=(Tz126 s).d noE
def bxJ (x:Tn×Unit):=Ez126 x.1
def wz126:Wk (Tn×Unit) Bool Empty cB.v:=wk0 fun x=>Tz126 x.1
def Kz126:=aU 102 Tryz.func102 [Kz179,K181] noZ ⟨36,noL,noL,noL⟩ 128 Az126 cB bxJ wz126 (fun _=>0)
def axg:=(Row.cons (Cod.ptr rTn) (Row.cons cS Row.nil))
def Tz182 (s:Tn) (t:List Nat):Tr Bool Empty noS cB.v:=(.c bx8 ayr (s,()) fun a=>(.i a.2.1 (.i a.1.o (.c azy zQ (t,a.1.h,()) fun b=>(.r b)) (.r false)) (.r false)))
def Ez182 (s:Tn) (t:List Nat):=(Tz182 s t).d noE
def ajR (x:Tn×(List Nat)×Unit):=Ez182 x.1 x.2.1
def wz182:Wk (Tn×(List Nat)×Unit) Bool Empty cB.v:=wk0 fun x=>Tz182 x.1 x.2.1
def Kz182:=aU 149 Tryz.func149 [Kz179,K181] noZ ⟨23,noL,noL,noL⟩ 128 axg cB ajR wz182 (fun _=>0)
def Az127:=(Row.cons (Cod.ptr rTn) Row.nil)
def Tz127 (s:Tn):Tr Bool Empty noS cB.v:=(.c lM j7 (s,[75],()) fun a=>(.i a (.c axg ajR (s,[107],()) fun b=>(.i (!b) (.i (!(s.s_b1==0)) (.r (decide (s.s_outs<2))) (.r false)) (.r false))) (.r false)))
def Ez127 (s:Tn):=(Tz127 s).d noE
def bxI (x:Tn×Unit):=Ez127 x.1
def wz127:Wk (Tn×Unit) Bool Empty cB.v:=wk0 fun x=>Tz127 x.1
def Kz127:=aU 103 Tryz.func103 [avw,Kz182] noZ ⟨27,noL,noL,noL⟩ 128 Az127 cB bxI wz127 (fun _=>0)
def Az128:=(Row.cons (Cod.ptr rTn) Row.nil)
def Tz128 (s:Tn):Tr Bool Empty noS cB.v:=(.c lM j7 (s,[89],()) fun a=>(.i a (.i (s.s_outs==2) (.r true) (.i (s.s_b1==0) (.r true) (.r (s.s_b2==0)))) (.r false)))
def Ez128 (s:Tn):=(Tz128 s).d noE
def bxH (x:Tn×Unit):=Ez128 x.1
def wz128:Wk (Tn×Unit) Bool Empty cB.v:=wk0 fun x=>Tz128 x.1
def Kz128:=aU 104 Tryz.func104 [avw] noZ ⟨31,noL,noL,noL⟩ 128 Az128 cB bxH wz128 (fun _=>0)
def Az183:=(Row.cons (Cod.ptr rTn) (Row.cons (Cod.agg rMv) Row.nil))
noncomputable def Tz183 (s:Tn) (t:Mv):Tr Bool Empty noS cB.v:=(.i (decide (t.h=[102])) (.i (t.f==0) (.i s.f0 (.c lM j7 (s,[88,75],()) fun a=>(.i a (.c axg ajR (s,[99,107],()) fun b=>(.r (!b))) (.r false))) (.r false)) (.i (t.f==1) (.i s.f1 (.c lM j7 (s,[88,75],()) fun d=>(.i d (.c axg ajR (s,[99,107],()) fun e=>(.r (!e))) (.r false))) (.r false)) (.i (t.f==2) (.i s.f2 (.c lM j7 (s,[88,75],()) fun g=>(.i g (.c axg ajR (s,[99,107],()) fun j=>(.r (!j))) (.r false))) (.r false)) (.i (t.f==3) (.i s.f3 (.c lM j7 (s,[88,75],()) fun k=>(.i k (.c axg ajR (s,[99,107],()) fun l=>(.r (!l))) (.r false))) (.r false)) .n)))) (.i (decide (t.h=[100])) (.c lM j7 (s,[89],()) fun m=>(.i m (.r true) (.c axg ajR (s,[99],()) fun o=>(.r o)))) (.c lM j7 (s,[72,73,78],()) fun p=>(.r (!p)))))
def Ez183 (s:Tn) (t:Mv):=(Tz183 s t).d noE
def Sz183 (x:Tn×Mv×Unit):=Ez183 x.1 x.2.1
def wz183:Wk (Tn×Mv×Unit) Bool Empty cB.v:=wk0 fun x=>Tz183 x.1 x.2.1
def Kz183:=aU 150 Tryz.func150 [avw,Kz182] noZ ⟨36,noL,noL,noL⟩ 128 Az183 cB Sz183 wz183 (fun _=>0)
def Az184:=(Row.cons (Cod.ptr rTn) (Row.cons (Cod.agg rMv) Row.nil))
noncomputable def Tz184 (s:Tn) (t:Mv):Tr Bool Empty noS cB.v:=(.i (decide (t.h=[98])) (.c lM j7 (s,[88,89],()) fun a=>(.r a)) (.i (decide (t.h=[97])) (.c lM j7 (s,[87,72,73],()) fun b=>(.i b (.i (t.f==0) (.i s.f0 (.r (t.t==(w6 (t.f+1)))) (.r false)) (.i (t.f==1) (.i s.f1 (.r (t.t==(w6 (t.f+1)))) (.r false)) (.i (t.f==2) (.i s.f2 (.r (t.t==(w6 (t.f+1)))) (.r false)) (.i (t.f==3) (.i s.f3 (.r (t.t==(w6 (t.f+1)))) (.r false)) .n)))) (.r false))) (.i (decide (t.h=[115])) (.c aj1 rQ (s,()) fun d=>(.i d (.r true) (.c lM j7 (s,[75,87],()) fun e=>(.r e)))) (.i (decide (t.h=[112])) (.c aj1 rQ (s,()) fun g=>(.i g (.r (!decide (s.p_p=[]))) (.c lM j7 (s,[75,87],()) fun j=>(.i j (.r (!decide (s.p_p=[]))) (.r false))))) (.i (decide (t.h=[107])) (.c aj1 rQ (s,()) fun k=>(.r k)) (.c lM j7 (s,[72,73,78],()) fun l=>(.r (!l))))))))
def Ez184 (s:Tn) (t:Mv):=(Tz184 s t).d noE
def bjt (x:Tn×Mv×Unit):=Ez184 x.1 x.2.1
def wz184:Wk (Tn×Mv×Unit) Bool Empty cB.v:=wk0 fun x=>Tz184 x.1 x.2.1
def Kz184:=aU 151 Tryz.func151 [bqA,avw] noZ ⟨63,noL,noL,noL⟩ 128 Az184 cB bjt wz184 (fun _=>0)
def Az129:=(Row.cons (Cod.ptr rTn) Row.nil)
inductive axc where
 | k200002 (a:Int)
def uz129:axc→Nat
 | .k200002 _=>200002
noncomputable def akr (s:Tn):axc→D
 | .k200002 a=>mE [(0,.raw (.yieldf 4)),(6,(Cod.list mv0 rMv).v s.p_m),(7,.int .i64 ((s.p_m.length:Nat):Int)),(8,.int .i64 a)] [] none [[(1,.ptr 0 0),(2,.ptr 1 0),(8,.fn 177 [.ptr 2 0])]] 5 [(0,.row ⟨[.lptr (rTn.v s) 0],71,false⟩),(1,.row ⟨[.bool false],4,false⟩),(2,.row ⟨[.str s.p_p,.str s.p_e,.bool s.p_l,(Cod.list mv0 rMv).v s.p_m],48,false⟩),(3,.dfr false),(4,.loop .ready none 29 [(1,.ptr 0 0),(2,.ptr 1 0),(8,.fn 177 [.ptr 2 0])] [9] (subC (rO Tryz.f105) [1,0,1,0,0]) (subC (rO Tryz.f105) [1,0,1,0,1]))] 128 []
noncomputable def ajI (s:Tn):(l_:axc)→Tr Bool axc (akr s) cB.v
 | .k200002 a=>(.i (decide (a<((s.p_m.length:Nat):Int))) (.i (inR a s.p_m.length) (.i (decide (0<(s.p_m.getD a.toNat mv0).f)) (.i ((s.p_m.getD a.toNat mv0).o) (.c Az183 Sz183 (s,(s.p_m.getD a.toNat mv0),()) fun b=>(.i (!b) (.r true) (.i (!(s.p_m.getD a.toNat mv0).o) (.c Az184 bjt (s,(s.p_m.getD a.toNat mv0),()) fun d=>(.i (!d) (.r true) (.g (.k200002 (w6 (a+1)))))) (.g (.k200002 (w6 (a+1))))))) (.i (!(s.p_m.getD a.toNat mv0).o) (.c Az184 bjt (s,(s.p_m.getD a.toNat mv0),()) fun e=>(.i (!e) (.r true) (.g (.k200002 (w6 (a+1)))))) (.g (.k200002 (w6 (a+1)))))) (.g (.k200002 (w6 (a+1))))) .n) (.r false))
def Tz129 (s:Tn):Tr Bool axc (akr s) cB.v:=(.g (.k200002 0))
def azv (s:Tn):=Tr.lp (ajI s)
theorem azu {s:Tn}{n:Nat}{l_:axc}:azv s (n+1) l_=(ajI s l_).d (azv s n):=rfl
def Ez129 (n:Nat) (s:Tn):=(Tz129 s).d (azv s n)
def bxG (x:Tn×Unit):=Ez129 (x.1.p_m.length+64) x.1
def wz129:Wk (Tn×Unit) Bool axc cB.v:=⟨fun x=>akr x.1,uz129,fun x=>Tz129 x.1,fun x=>ajI x.1⟩
def Kz129:=aU 105 Tryz.func105 [Kz183,Kz184] noZ ⟨29,(lookA [(100001,⟨[0,6,7,8],[0,1,2,3,4],5,[],[],[],[]⟩)]),noL,(lookA [(2,⟨177,100000,3,22,[],[1,2,8]⟩)])⟩ 128 Az129 cB bxG wz129 (fun x=>x.1.p_m.length+64)
def Az186:=(Row.cons cI Row.nil)
def Tz186 (s:Int):Tr Bool Empty noS cB.v:=(.r (!(s==0)))
def Ez186 (s:Int):=(Tz186 s).d noE
def Sz186 (x:Int×Unit):=Ez186 x.1
def wz186:Wk (Int×Unit) Bool Empty cB.v:=wk0 fun x=>Tz186 x.1
def Kz186:=aU 153 Tryz.func153 [] noZ ⟨5,noL,noL,noL⟩ 128 Az186 cB Sz186 wz186 (fun _=>0)
def aj0:=(Row.cons (Cod.list 0 a7) (Row.cons (Cod.fn0 153) Row.nil))
inductive gZ where
 | k6 (a b:Int)
def akU:gZ→Nat
 | .k6 _ _=>6
def o8 (s:List (Int)) (t:Unit):gZ→D
 | .k6 a b=>mD [(1,.raw (.func 153 [])),(5,.int .i64 a),(8,(Cod.list 0 a7).v s),(9,.int .i64 ((s.length:Nat):Int)),(10,.int .i64 b)] 0 [] 128 []
noncomputable def mG (s:List (Int)) (t:Unit):(l_:gZ)→Tr Int gZ (o8 s t) cI.v
 | .k6 a b=>(.i (decide (b<((s.length:Nat):Int))) (.i (inR b s.length) (.c Az186 Sz186 ((s.getD b.toNat 0),()) fun d=>(.i d (.g (.k6 (w6 (a+1)) (w6 (b+1)))) (.g (.k6 a (w6 (b+1)))))) .n) (.r a))
def uS (s:List (Int)) (t:Unit):Tr Int gZ (o8 s t) cI.v:=(.g (.k6 0 0))
def mI (s:List (Int)) (t:Unit):=Tr.lp (mG s t)
theorem ajV {s:List (Int)}{t:Unit}{n:Nat}{l_:gZ}:mI s t (n+1) l_=(mG s t l_).d (mI s t n):=rfl
def vC (n:Nat) (s:List (Int)) (t:Unit):=(uS s t).d (mI s t n)
def uX (x:(List (Int))×Unit×Unit):=vC (x.1.length+64) x.1 x.2.1
def akM:Wk ((List (Int))×Unit×Unit) Int gZ cI.v:=⟨fun x=>o8 x.1 x.2.1,akU,fun x=>uS x.1 x.2.1,fun x=>mG x.1 x.2.1⟩
def ayz:=aU 152 Tryz.func152 [Kz186] noZ ⟨21,(lookA [(3,⟨[1,5,8,9,10],[],0,[],[],[],[]⟩)]),noL,noL⟩ 128 aj0 cI uX akM (fun x=>x.1.length+64)
def Az130:=(Row.cons (Cod.ptr rTn) Row.nil)
inductive axb where
 | k200002 (a:Int)(b:Bool)(c:Int)
def uz130:axb→Nat
 | .k200002 _ _ _=>200002
noncomputable def akq (s:Tn):axb→D
 | .k200002 a b c=>mE [(0,.raw (.yieldf 4)),(6,(Cod.list mv0 rMv).v s.p_m),(7,.int .i64 ((s.p_m.length:Nat):Int)),(8,.int .i64 a)] [] none [[(0,.lptr (rTn.v s) 0),(2,.bool false),(3,.ptr 0 0),(4,.ptr 1 0),(10,.fn 177 [.ptr 2 0])]] 5 [(0,.row ⟨[.bool b],4,false⟩),(1,.row ⟨[.int .i64 c],3,false⟩),(2,.row ⟨[.str s.p_p,.str s.p_e,.bool s.p_l,(Cod.list mv0 rMv).v s.p_m],48,false⟩),(3,.dfr false),(4,.loop .ready none 34 [(0,.lptr (rTn.v s) 0),(2,.bool false),(3,.ptr 0 0),(4,.ptr 1 0),(10,.fn 177 [.ptr 2 0])] [11] (subC (rO Tryz.f106) [1,1,0,1,0,0]) (subC (rO Tryz.f106) [1,1,0,1,0,1]))] 128 []
noncomputable def ajH (s:Tn):(l_:axb)→Tr Bool axb (akq s) cB.v
 | .k200002 a b d=>(.i (decide (a<((s.p_m.length:Nat):Int))) (.i (inR a s.p_m.length) (.i (decide (0<(s.p_m.getD a.toNat mv0).f)) (.i (decide (((s.p_m.getD a.toNat mv0).h)=[107])) (.i ((s.p_m.getD a.toNat mv0).t==(w6 ((s.p_m.getD a.toNat mv0).f+1))) (.g (.k200002 (w6 (a+1)) true (w6 (d+1)))) (.g (.k200002 (w6 (a+1)) true d))) (.g (.k200002 (w6 (a+1)) b d))) (.g (.k200002 (w6 (a+1)) b d))) .n) (.i b (.c aj0 uX ([s.s_b1,s.s_b2,s.s_b3],(),()) fun e=>(.r (decide (d<e)))) (.r false)))
def Tz130 (s:Tn):Tr Bool axb (akq s) cB.v:=(.g (.k200002 0 false 0))
def azt (s:Tn):=Tr.lp (ajH s)
theorem azs {s:Tn}{n:Nat}{l_:axb}:azt s (n+1) l_=(ajH s l_).d (azt s n):=rfl
def Ez130 (n:Nat) (s:Tn):=(Tz130 s).d (azt s n)
def bxF (x:Tn×Unit):=Ez130 (x.1.p_m.length+64) x.1
def wz130:Wk (Tn×Unit) Bool axb cB.v:=⟨fun x=>akq x.1,uz130,fun x=>Tz130 x.1,fun x=>ajH x.1⟩
def Kz130:=aU 106 Tryz.func106 [ayz] noZ ⟨34,(lookA [(100001,⟨[0,6,7,8],[0,1,2,3,4],5,[],[],[],[]⟩)]),noL,(lookA [(3,⟨177,100000,3,22,[],[0,2,3,4,10]⟩)])⟩ 128 Az130 cB bxF wz130 (fun x=>x.1.p_m.length+64)
def Az131:=(Row.cons (Cod.ptr rTn) Row.nil)
inductive axa where
 | k10 (a:Int)(b c d e:Bool)
def uz131:axa→Nat
 | .k10 _ _ _ _ _=>10
noncomputable def akp (s:Tn):axa→D
 | .k10 a b c d e=>mD [(3,.ptr 0 0),(17,(Cod.list mv0 rMv).v s.p_m),(18,.int .i64 ((s.p_m.length:Nat):Int)),(19,.int .i64 a)] 1 [(0,.row ⟨[.bool e,.bool d,.bool c,.bool b],72,false⟩)] 128 []
noncomputable def ajG (s:Tn):(l_:axa)→Tr Bool axa (akp s) cB.v
 | .k10 a b c d e=>(.i (decide (a<((s.p_m.length:Nat):Int))) (.i (inR a s.p_m.length) (.i (!(s.p_m.getD a.toNat mv0).o) (.i ((s.p_m.getD a.toNat mv0).f==0) (.g (.k10 (w6 (a+1)) b c d false)) (.i ((s.p_m.getD a.toNat mv0).f==1) (.g (.k10 (w6 (a+1)) b c false e)) (.i ((s.p_m.getD a.toNat mv0).f==2) (.g (.k10 (w6 (a+1)) b false d e)) (.i ((s.p_m.getD a.toNat mv0).f==3) (.g (.k10 (w6 (a+1)) false c d e)) .n)))) (.g (.k10 (w6 (a+1)) b c d e))) .n) (.r (!((e==false)&&((d==false)&&((c==false)&&((b==false)&&true)))))))
def Tz131 (s:Tn):Tr Bool axa (akp s) cB.v:=(.c lM j7 (s,[87,72,73],()) fun a=>(.i (!a) (.r false) (.g (.k10 0 s.f3 s.f2 s.f1 s.f0))))
def ajX (s:Tn):=Tr.lp (ajG s)
theorem azr {s:Tn}{n:Nat}{l_:axa}:ajX s (n+1) l_=(ajG s l_).d (ajX s n):=rfl
def Ez131 (n:Nat) (s:Tn):=(Tz131 s).d (ajX s n)
def bxE (x:Tn×Unit):=Ez131 (x.1.p_m.length+64) x.1
def wz131:Wk (Tn×Unit) Bool axa cB.v:=⟨fun x=>akp x.1,uz131,fun x=>Tz131 x.1,fun x=>ajG x.1⟩
def Kz131:=aU 107 Tryz.func107 [avw] noZ ⟨33,(lookA [(5,⟨[3,17,18,19],[0],1,[],[],[],[]⟩)]),noL,noL⟩ 128 Az131 cB bxE wz131 (fun x=>x.1.p_m.length+64)
def Az152:=(Row.cons (Cod.ptr rTn) Row.nil)
inductive ax7 where
 | k6 (a b c d e:Int)
 | k18 (a b c d e:Int)
def uz152:ax7→Nat
 | .k6 _ _ _ _ _=>6| .k18 _ _ _ _ _=>18
noncomputable def akj (s:Tn):ax7→D
 | .k6 a b c d e=>mD [(0,.lptr (rTn.v s) 0),(2,.ptr 0 0),(3,.ptr 1 0),(12,.agg [.int .i64 s.s_b1,.int .i64 s.s_b2,.int .i64 s.s_b3]),(13,.int .i64 a)] 2 [(0,.row ⟨[.int .i64 0,.int .i64 0,.int .i64 0,.int .i64 0],149,false⟩),(1,.row ⟨[.int .i64 e,.int .i64 b,.int .i64 d,.int .i64 c],149,false⟩)] 128 []| .k18 a b c d e=>mD [(2,.ptr 0 0),(3,.ptr 1 0),(29,(Cod.list mv0 rMv).v s.p_m),(30,.int .i64 ((s.p_m.length:Nat):Int)),(31,.int .i64 e)] 2 [(0,.row ⟨[.int .i64 0,.int .i64 0,.int .i64 0,.int .i64 0],149,false⟩),(1,.row ⟨[.int .i64 b,.int .i64 a,.int .i64 c,.int .i64 d],149,false⟩)] 128 []
noncomputable def xH (s:Tn):(l_:ax7)→Tr ((Int)×(Int)×(Int)×(Int)×Unit) ax7 (akj s) (Cod.agg (Row.cons cI (Row.cons cI (Row.cons cI (Row.cons cI Row.nil))))).v
 | .k6 a b c d e=>(.i (decide (a<3)) (.i (a==0) (.i (!(s.s_b1==0)) (.i ((w6 (a+1))==0) (.g (.k6 (w6 (a+1)) b c d (w6 (a+1)))) (.i ((w6 (a+1))==1) (.g (.k6 (w6 (a+1)) (w6 (a+1)) c d e)) (.i ((w6 (a+1))==2) (.g (.k6 (w6 (a+1)) b c (w6 (a+1)) e)) (.i ((w6 (a+1))==3) (.g (.k6 (w6 (a+1)) b (w6 (a+1)) d e)) .n)))) (.g (.k6 (w6 (a+1)) b c d e))) (.i (a==1) (.i (!(s.s_b2==0)) (.i ((w6 (a+1))==0) (.g (.k6 (w6 (a+1)) b c d (w6 (a+1)))) (.i ((w6 (a+1))==1) (.g (.k6 (w6 (a+1)) (w6 (a+1)) c d e)) (.i ((w6 (a+1))==2) (.g (.k6 (w6 (a+1)) b c (w6 (a+1)) e)) (.i ((w6 (a+1))==3) (.g (.k6 (w6 (a+1)) b (w6 (a+1)) d e)) .n)))) (.g (.k6 (w6 (a+1)) b c d e))) (.i (a==2) (.i (!(s.s_b3==0)) (.i ((w6 (a+1))==0) (.g (.k6 (w6 (a+1)) b c d (w6 (a+1)))) (.i ((w6 (a+1))==1) (.g (.k6 (w6 (a+1)) (w6 (a+1)) c d e)) (.i ((w6 (a+1))==2) (.g (.k6 (w6 (a+1)) b c (w6 (a+1)) e)) (.i ((w6 (a+1))==3) (.g (.k6 (w6 (a+1)) b (w6 (a+1)) d e)) .n)))) (.g (.k6 (w6 (a+1)) b c d e))) .n))) (.g (.k18 b e d c 0)))| .k18 a b c d e=>(.i (decide (e<((s.p_m.length:Nat):Int))) (.i (inR e s.p_m.length) (.i ((s.p_m.getD e.toNat mv0).f==0) (.i ((s.p_m.getD e.toNat mv0).o) (.i ((s.p_m.getD e.toNat mv0).f==0) (.g (.k18 a 0 c d (w6 (e+1)))) (.i ((s.p_m.getD e.toNat mv0).f==1) (.g (.k18 0 (s.p_m.getD e.toNat mv0).t c d (w6 (e+1)))) (.i ((s.p_m.getD e.toNat mv0).f==2) (.g (.k18 a (s.p_m.getD e.toNat mv0).t 0 d (w6 (e+1)))) (.i ((s.p_m.getD e.toNat mv0).f==3) (.g (.k18 a (s.p_m.getD e.toNat mv0).t c 0 (w6 (e+1)))) .n)))) (.g (.k18 a (s.p_m.getD e.toNat mv0).t c d (w6 (e+1))))) (.i ((s.p_m.getD e.toNat mv0).f==1) (.i ((s.p_m.getD e.toNat mv0).o) (.i ((s.p_m.getD e.toNat mv0).f==0) (.g (.k18 (s.p_m.getD e.toNat mv0).t 0 c d (w6 (e+1)))) (.i ((s.p_m.getD e.toNat mv0).f==1) (.g (.k18 0 b c d (w6 (e+1)))) (.i ((s.p_m.getD e.toNat mv0).f==2) (.g (.k18 (s.p_m.getD e.toNat mv0).t b 0 d (w6 (e+1)))) (.i ((s.p_m.getD e.toNat mv0).f==3) (.g (.k18 (s.p_m.getD e.toNat mv0).t b c 0 (w6 (e+1)))) .n)))) (.g (.k18 (s.p_m.getD e.toNat mv0).t b c d (w6 (e+1))))) (.i ((s.p_m.getD e.toNat mv0).f==2) (.i ((s.p_m.getD e.toNat mv0).o) (.i ((s.p_m.getD e.toNat mv0).f==0) (.g (.k18 a 0 (s.p_m.getD e.toNat mv0).t d (w6 (e+1)))) (.i ((s.p_m.getD e.toNat mv0).f==1) (.g (.k18 0 b (s.p_m.getD e.toNat mv0).t d (w6 (e+1)))) (.i ((s.p_m.getD e.toNat mv0).f==2) (.g (.k18 a b 0 d (w6 (e+1)))) (.i ((s.p_m.getD e.toNat mv0).f==3) (.g (.k18 a b (s.p_m.getD e.toNat mv0).t 0 (w6 (e+1)))) .n)))) (.g (.k18 a b (s.p_m.getD e.toNat mv0).t d (w6 (e+1))))) (.i ((s.p_m.getD e.toNat mv0).f==3) (.i ((s.p_m.getD e.toNat mv0).o) (.i ((s.p_m.getD e.toNat mv0).f==0) (.g (.k18 a 0 c (s.p_m.getD e.toNat mv0).t (w6 (e+1)))) (.i ((s.p_m.getD e.toNat mv0).f==1) (.g (.k18 0 b c (s.p_m.getD e.toNat mv0).t (w6 (e+1)))) (.i ((s.p_m.getD e.toNat mv0).f==2) (.g (.k18 a b 0 (s.p_m.getD e.toNat mv0).t (w6 (e+1)))) (.i ((s.p_m.getD e.toNat mv0).f==3) (.g (.k18 a b c 0 (w6 (e+1)))) .n)))) (.g (.k18 a b c (s.p_m.getD e.toNat mv0).t (w6 (e+1))))) .n)))) .n) (.r (b,a,c,d,())))
def Tz152 (s:Tn):Tr ((Int)×(Int)×(Int)×(Int)×Unit) ax7 (akj s) (Cod.agg (Row.cons cI (Row.cons cI (Row.cons cI (Row.cons cI Row.nil))))).v:=(.g (.k6 0 0 0 0 0))
def xK (s:Tn):=Tr.lp (xH s)
theorem zU {s:Tn}{n:Nat}{l_:ax7}:xK s (n+1) l_=(xH s l_).d (xK s n):=rfl
def Ez152 (n:Nat) (s:Tn):=(Tz152 s).d (xK s n)
def ays (x:Tn×Unit):=Ez152 (x.1.p_m.length+64) x.1
def wz152:Wk (Tn×Unit) ((Int)×(Int)×(Int)×(Int)×Unit) ax7 (Cod.agg (Row.cons cI (Row.cons cI (Row.cons cI (Row.cons cI Row.nil))))).v:=⟨fun x=>akj x.1,uz152,fun x=>Tz152 x.1,fun x=>xH x.1⟩
noncomputable def Kz152:=aU 97 Tryz.func97 [] noZ ⟨47,(lookA [(3,⟨[0,2,3,12,13],[0,1],2,[],[],[],[]⟩),(9,⟨[2,3,29,30,31],[0,1],2,[],[],[],[]⟩)]),noL,noL⟩ 128 Az152 (Cod.agg (Row.cons cI (Row.cons cI (Row.cons cI (Row.cons cI Row.nil))))) ays wz152 (fun x=>x.1.p_m.length+64)
def Az132:=(Row.cons (Cod.ptr rTn) Row.nil)
inductive avn where
 | k6_0 (a b c d e f g h:Int)
 | k12_0 (a b c d e f g h i:Int)
 | k6_1 (a b c d e f g h:Int)
 | k12_1 (a b c d e f g h i:Int)
 | k12_2 (a b c d e f g h i:Int)
 | k6_2 (a b c d e f g h:Int)
 | k12_3 (a b c d e f g h i:Int)
 | k12_4 (a b c d e f g h i:Int)
 | k12_5 (a b c d e f g h i:Int)
 | k6_3 (a b c d e f g h:Int)
 | k12_6 (a b c d e f g h i:Int)
 | k12_7 (a b c d e f g h i:Int)
 | k12_8 (a b c d e f g h i:Int)
 | k12_9 (a b c d e f g h i:Int)
 | k6_4 (a b c d e f g h:Int)
noncomputable def uz132:avn→Nat
 | .k6_0 _ _ _ _ _ _ _ _=>6| .k12_0 _ _ _ _ _ _ _ _ _=>12| .k6_1 _ _ _ _ _ _ _ _=>6| .k12_1 _ _ _ _ _ _ _ _ _=>12| .k12_2 _ _ _ _ _ _ _ _ _=>12| .k6_2 _ _ _ _ _ _ _ _=>6| .k12_3 _ _ _ _ _ _ _ _ _=>12| .k12_4 _ _ _ _ _ _ _ _ _=>12| .k12_5 _ _ _ _ _ _ _ _ _=>12| .k6_3 _ _ _ _ _ _ _ _=>6| .k12_6 _ _ _ _ _ _ _ _ _=>12| .k12_7 _ _ _ _ _ _ _ _ _=>12| .k12_8 _ _ _ _ _ _ _ _ _=>12| .k12_9 _ _ _ _ _ _ _ _ _=>12| .k6_4 _ _ _ _ _ _ _ _=>6
noncomputable abbrev akoh1 (s:Tn)(a b c d e f g h:Int)(zp0:Int):D:=mD [(3,.ptr 0 0),(10,.agg [.int .i64 a,.int .i64 b,.int .i64 c,.int .i64 d]),(11,.int .i64 zp0)] 1 [(0,.row ⟨[.int .i64 e,.int .i64 f,.int .i64 g,.int .i64 h],149,false⟩)] 128 []
noncomputable def ako (s:Tn):avn→D
 | .k6_0 a b c d e f g h=>akoh1 s a b c d e f g h 0| .k12_0 a b c d e f g h i=>mD [(3,.ptr 0 0),(5,.int .i64 a),(10,.agg [.int .i64 b,.int .i64 c,.int .i64 d,.int .i64 e]),(11,.int .i64 0),(16,.sl 0 0 0 (.exact 4)),(17,.int .i64 0),(18,.int .i64 0)] 1 [(0,.row ⟨[.int .i64 f,.int .i64 g,.int .i64 h,.int .i64 i],149,false⟩)] 128 []| .k6_1 a b c d e f g h=>akoh1 s a b c d e f g h 1| .k12_1 a b c d e f g h i=>mD [(3,.ptr 0 0),(5,.int .i64 a),(10,.agg [.int .i64 b,.int .i64 c,.int .i64 d,.int .i64 e]),(11,.int .i64 1),(16,.sl 0 0 1 (.exact 4)),(17,.int .i64 1),(18,.int .i64 0)] 1 [(0,.row ⟨[.int .i64 f,.int .i64 g,.int .i64 h,.int .i64 i],149,false⟩)] 128 []| .k12_2 a b c d e f g h i=>mD [(3,.ptr 0 0),(5,.int .i64 a),(10,.agg [.int .i64 b,.int .i64 c,.int .i64 d,.int .i64 e]),(11,.int .i64 1),(16,.sl 0 0 1 (.exact 4)),(17,.int .i64 1),(18,.int .i64 1)] 1 [(0,.row ⟨[.int .i64 f,.int .i64 g,.int .i64 h,.int .i64 i],149,false⟩)] 128 []| .k6_2 a b c d e f g h=>akoh1 s a b c d e f g h 2| .k12_3 a b c d e f g h i=>mD [(3,.ptr 0 0),(5,.int .i64 a),(10,.agg [.int .i64 b,.int .i64 c,.int .i64 d,.int .i64 e]),(11,.int .i64 2),(16,.sl 0 0 2 (.exact 4)),(17,.int .i64 2),(18,.int .i64 0)] 1 [(0,.row ⟨[.int .i64 f,.int .i64 g,.int .i64 h,.int .i64 i],149,false⟩)] 128 []| .k12_4 a b c d e f g h i=>mD [(3,.ptr 0 0),(5,.int .i64 a),(10,.agg [.int .i64 b,.int .i64 c,.int .i64 d,.int .i64 e]),(11,.int .i64 2),(16,.sl 0 0 2 (.exact 4)),(17,.int .i64 2),(18,.int .i64 1)] 1 [(0,.row ⟨[.int .i64 f,.int .i64 g,.int .i64 h,.int .i64 i],149,false⟩)] 128 []| .k12_5 a b c d e f g h i=>mD [(3,.ptr 0 0),(5,.int .i64 a),(10,.agg [.int .i64 b,.int .i64 c,.int .i64 d,.int .i64 e]),(11,.int .i64 2),(16,.sl 0 0 2 (.exact 4)),(17,.int .i64 2),(18,.int .i64 2)] 1 [(0,.row ⟨[.int .i64 f,.int .i64 g,.int .i64 h,.int .i64 i],149,false⟩)] 128 []| .k6_3 a b c d e f g h=>akoh1 s a b c d e f g h 3| .k12_6 a b c d e f g h i=>mD [(3,.ptr 0 0),(5,.int .i64 a),(10,.agg [.int .i64 b,.int .i64 c,.int .i64 d,.int .i64 e]),(11,.int .i64 3),(16,.sl 0 0 3 (.exact 4)),(17,.int .i64 3),(18,.int .i64 0)] 1 [(0,.row ⟨[.int .i64 f,.int .i64 g,.int .i64 h,.int .i64 i],149,false⟩)] 128 []| .k12_7 a b c d e f g h i=>mD [(3,.ptr 0 0),(5,.int .i64 a),(10,.agg [.int .i64 b,.int .i64 c,.int .i64 d,.int .i64 e]),(11,.int .i64 3),(16,.sl 0 0 3 (.exact 4)),(17,.int .i64 3),(18,.int .i64 1)] 1 [(0,.row ⟨[.int .i64 f,.int .i64 g,.int .i64 h,.int .i64 i],149,false⟩)] 128 []| .k12_8 a b c d e f g h i=>mD [(3,.ptr 0 0),(5,.int .i64 a),(10,.agg [.int .i64 b,.int .i64 c,.int .i64 d,.int .i64 e]),(11,.int .i64 3),(16,.sl 0 0 3 (.exact 4)),(17,.int .i64 3),(18,.int .i64 2)] 1 [(0,.row ⟨[.int .i64 f,.int .i64 g,.int .i64 h,.int .i64 i],149,false⟩)] 128 []| .k12_9 a b c d e f g h i=>mD [(3,.ptr 0 0),(5,.int .i64 a),(10,.agg [.int .i64 b,.int .i64 c,.int .i64 d,.int .i64 e]),(11,.int .i64 3),(16,.sl 0 0 3 (.exact 4)),(17,.int .i64 3),(18,.int .i64 3)] 1 [(0,.row ⟨[.int .i64 f,.int .i64 g,.int .i64 h,.int .i64 i],149,false⟩)] 128 []| .k6_4 a b c d e f g h=>akoh1 s a b c d e f g h 4
noncomputable def bzL (s:Tn):(l_:avn)→Tr Bool avn (ako s) cB.v
 | .k6_0 a b c d e f h i=>(.g (.k12_0 a a b c d e f h i))| .k12_0 a b c d e f h i j=>(.g (.k6_1 b c d e f h i j))| .k6_1 a b c d e f h i=>(.g (.k12_1 b a b c d e f h i))| .k12_1 a b c d e f h j k=>(.i (!(f==0)) (.i (!(a==0)) (.i (decide (a≤f)) (.i (!(f==4)) (.r true) (.i (!(a==4)) (.r true) (.g (.k12_2 a b c d e f h j k)))) (.g (.k12_2 a b c d e f h j k))) (.g (.k12_2 a b c d e f h j k))) (.g (.k12_2 a b c d e f h j k)))| .k12_2 a b c d e f h i j=>(.g (.k6_2 b c d e f h i j))| .k6_2 a b c d e f h i=>(.g (.k12_3 c a b c d e f h i))| .k12_3 a b c d e f h j k=>(.i (!(f==0)) (.i (!(a==0)) (.i (decide (a≤f)) (.i (!(f==4)) (.r true) (.i (!(a==4)) (.r true) (.g (.k12_4 a b c d e f h j k)))) (.g (.k12_4 a b c d e f h j k))) (.g (.k12_4 a b c d e f h j k))) (.g (.k12_4 a b c d e f h j k)))| .k12_4 a b c d e f h j k=>(.i (!(h==0)) (.i (!(a==0)) (.i (decide (a≤h)) (.i (!(h==4)) (.r true) (.i (!(a==4)) (.r true) (.g (.k12_5 a b c d e f h j k)))) (.g (.k12_5 a b c d e f h j k))) (.g (.k12_5 a b c d e f h j k))) (.g (.k12_5 a b c d e f h j k)))| .k12_5 a b c d e f h i j=>(.g (.k6_3 b c d e f h i j))| .k6_3 a b c d e f h i=>(.g (.k12_6 d a b c d e f h i))| .k12_6 a b c d e f h j k=>(.i (!(f==0)) (.i (!(a==0)) (.i (decide (a≤f)) (.i (!(f==4)) (.r true) (.i (!(a==4)) (.r true) (.g (.k12_7 a b c d e f h j k)))) (.g (.k12_7 a b c d e f h j k))) (.g (.k12_7 a b c d e f h j k))) (.g (.k12_7 a b c d e f h j k)))| .k12_7 a b c d e f h j k=>(.i (!(h==0)) (.i (!(a==0)) (.i (decide (a≤h)) (.i (!(h==4)) (.r true) (.i (!(a==4)) (.r true) (.g (.k12_8 a b c d e f h j k)))) (.g (.k12_8 a b c d e f h j k))) (.g (.k12_8 a b c d e f h j k))) (.g (.k12_8 a b c d e f h j k)))| .k12_8 a b c d e f h j k=>(.i (!(j==0)) (.i (!(a==0)) (.i (decide (a≤j)) (.i (!(j==4)) (.r true) (.i (!(a==4)) (.r true) (.g (.k12_9 a b c d e f h j k)))) (.g (.k12_9 a b c d e f h j k))) (.g (.k12_9 a b c d e f h j k))) (.g (.k12_9 a b c d e f h j k)))| .k12_9 a b c d e f h i j=>(.g (.k6_4 b c d e f h i j))| .k6_4 a b c d e f g h=>(.r false)
def Tz132 (s:Tn):Tr Bool avn (ako s) cB.v:=(.c Az152 ays (s,()) fun a=>(.g (.k6_0 a.1 a.2.1 a.2.2.1 a.2.2.2.1 a.1 a.2.1 a.2.2.1 a.2.2.2.1)))
def dI (s:Tn):=Tr.lp (bzL s)
def Ez132 (n:Nat) (s:Tn):=(Tz132 s).d (dI s n)
def bxD (x:Tn×Unit):=Ez132 (x.1.p_m.length+64) x.1
def wz132:Wk (Tn×Unit) Bool avn cB.v:=⟨fun x=>ako x.1,uz132,fun x=>Tz132 x.1,fun x=>bzL x.1⟩
def Kz132:=aU 108 Tryz.func108 [Kz152] noZ ⟨43,(lookA [(3,⟨[3,10,11],[0],1,[],[],[],[]⟩),(6,⟨[3,5,10,11,16,17,18],[0],1,[],[],[],[]⟩)]),noL,noL⟩ 128 Az132 cB bxD wz132 (fun x=>x.1.p_m.length+64)
def Az133:=(Row.cons (Cod.ptr rTn) Row.nil)
def Tz133 (s:Tn):Tr Bool Empty noS cB.v:=(.r (decide (3<s.outs)))
def Ez133 (s:Tn):=(Tz133 s).d noE
def bxC (x:Tn×Unit):=Ez133 x.1
def wz133:Wk (Tn×Unit) Bool Empty cB.v:=wk0 fun x=>Tz133 x.1
def Kz133:=aU 109 Tryz.func109 [] noZ ⟨8,noL,noL,noL⟩ 128 Az133 cB bxC wz133 (fun _=>0)
def Az151:=(Row.cons (Cod.agg rMv) Row.nil)
def Tz151 (s:Mv):Tr Bool Empty noS cB.v:=(.i (!s.o) (.r (s.t==4)) (.r false))
def Ez151 (s:Mv):=(Tz151 s).d noE
def bjx (x:Mv×Unit):=Ez151 x.1
def wz151:Wk (Mv×Unit) Bool Empty cB.v:=wk0 fun x=>Tz151 x.1
def Kz151:=aU 94 Tryz.func94 [] noZ ⟨11,noL,noL,noL⟩ 128 Az151 cB bjx wz151 (fun _=>0)
def ajZ:=(Row.cons (Cod.list mv0 rMv) (Row.cons (Cod.fn0 94) Row.nil))
inductive gY where
 | k6 (a b:Int)
def akT:gY→Nat
 | .k6 _ _=>6
def o7 (s:List (Mv)) (t:Unit):gY→D
 | .k6 a b=>mD [(1,.raw (.func 94 [])),(5,.int .i64 a),(8,(Cod.list mv0 rMv).v s),(9,.int .i64 ((s.length:Nat):Int)),(10,.int .i64 b)] 0 [] 128 []
noncomputable def dY (s:List (Mv)) (t:Unit):(l_:gY)→Tr Int gY (o7 s t) cI.v
 | .k6 a b=>(.i (decide (b<((s.length:Nat):Int))) (.i (inR b s.length) (.c Az151 bjx ((s.getD b.toNat mv0),()) fun d=>(.i d (.g (.k6 (w6 (a+1)) (w6 (b+1)))) (.g (.k6 a (w6 (b+1)))))) .n) (.r a))
def uR (s:List (Mv)) (t:Unit):Tr Int gY (o7 s t) cI.v:=(.g (.k6 0 0))
def i0 (s:List (Mv)) (t:Unit):=Tr.lp (dY s t)
theorem fH {s:List (Mv)}{t:Unit}{n:Nat}{l_:gY}:i0 s t (n+1) l_=(dY s t l_).d (i0 s t n):=rfl
def vB (n:Nat) (s:List (Mv)) (t:Unit):=(uR s t).d (i0 s t n)
def uW (x:(List (Mv))×Unit×Unit):=vB (x.1.length+64) x.1 x.2.1
def akL:Wk ((List (Mv))×Unit×Unit) Int gY cI.v:=⟨fun x=>o7 x.1 x.2.1,akT,fun x=>uR x.1 x.2.1,fun x=>dY x.1 x.2.1⟩
def ayy:=aU 141 Tryz.func141 [Kz151] noZ ⟨21,(lookA [(3,⟨[1,5,8,9,10],[],0,[],[],[],[]⟩)]),noL,noL⟩ 128 ajZ cI uW akL (fun x=>x.1.length+64)
def Az134:=(Row.cons (Cod.ptr rTn) Row.nil)
def Tz134 (s:Tn):Tr Bool Empty noS cB.v:=(.i s.p_l (.i (decide (s.outs<3)) (.r true) (.c ajZ uW (s.p_m,(),()) fun a=>(.r (a==0)))) (.r false))
def Ez134 (s:Tn):=(Tz134 s).d noE
def bxB (x:Tn×Unit):=Ez134 x.1
def wz134:Wk (Tn×Unit) Bool Empty cB.v:=wk0 fun x=>Tz134 x.1
def Kz134:=aU 110 Tryz.func110 [ayy] noZ ⟨24,noL,noL,noL⟩ 128 Az134 cB bxB wz134 (fun _=>0)
def Az144:=(Row.cons (Cod.ptr rTn) Row.nil)
inductive avl where
 | k6_0 (a b c d e f g h i j k l m:List Nat)
 | k6_1 (a b c d e f g h i j k l m:List Nat)
 | k6_2 (a b c d e f g h i j k l m:List Nat)
 | k6_3 (a b c d e f g h i j k l m:List Nat)
 | k6_4 (a b c d e f g h i j k l m:List Nat)
 | k6_5 (a b c d e f g h i j k l m:List Nat)
 | k6_6 (a b c d e f g h i j k l m:List Nat)
 | k6_7 (a b c d e f g h i j k l m:List Nat)
 | k6_8 (a b c d e f g h i j k l m:List Nat)
 | k6_9 (a b c d e f g h i j k l m:List Nat)
 | k6_10 (a b c d e f g h i j k l m:List Nat)
 | k6_11 (a b c d e f g h i j k l m:List Nat)
 | k6_12 (a b c d e f g h i j k l m:List Nat)
 | k6_13 (a b c d e f g h i j k l m:List Nat)
noncomputable def uz144:avl→Nat
 | .k6_0 _ _ _ _ _ _ _ _ _ _ _ _ _=>6| .k6_1 _ _ _ _ _ _ _ _ _ _ _ _ _=>6| .k6_2 _ _ _ _ _ _ _ _ _ _ _ _ _=>6| .k6_3 _ _ _ _ _ _ _ _ _ _ _ _ _=>6| .k6_4 _ _ _ _ _ _ _ _ _ _ _ _ _=>6| .k6_5 _ _ _ _ _ _ _ _ _ _ _ _ _=>6| .k6_6 _ _ _ _ _ _ _ _ _ _ _ _ _=>6| .k6_7 _ _ _ _ _ _ _ _ _ _ _ _ _=>6| .k6_8 _ _ _ _ _ _ _ _ _ _ _ _ _=>6| .k6_9 _ _ _ _ _ _ _ _ _ _ _ _ _=>6| .k6_10 _ _ _ _ _ _ _ _ _ _ _ _ _=>6| .k6_11 _ _ _ _ _ _ _ _ _ _ _ _ _=>6| .k6_12 _ _ _ _ _ _ _ _ _ _ _ _ _=>6| .k6_13 _ _ _ _ _ _ _ _ _ _ _ _ _=>6
noncomputable abbrev akmh1 (s:Tn)(a b c d e f g h i j k l m:List Nat)(zp0:Int):D:=mD [(0,.lptr (rTn.v s) 0),(3,.int .i64 0),(6,.agg [.str a,.raw (.func 98 []),.str b,.raw (.func 99 []),.str c,.raw (.func 100 []),.str d,.raw (.func 101 []),.str e,.raw (.func 102 []),.str f,.raw (.func 103 []),.str g,.raw (.func 104 []),.str h,.raw (.func 105 []),.str i,.raw (.func 106 []),.str j,.raw (.func 107 []),.str k,.raw (.func 108 []),.str l,.raw (.func 109 []),.str m,.raw (.func 110 [])]),(7,.int .i64 zp0)] 0 [] 128 []
noncomputable def akm (s:Tn):avl→D
 | .k6_0 a b c d e f g h i j k l m=>akmh1 s a b c d e f g h i j k l m 0| .k6_1 a b c d e f g h i j k l m=>akmh1 s a b c d e f g h i j k l m 1| .k6_2 a b c d e f g h i j k l m=>akmh1 s a b c d e f g h i j k l m 2| .k6_3 a b c d e f g h i j k l m=>akmh1 s a b c d e f g h i j k l m 3| .k6_4 a b c d e f g h i j k l m=>akmh1 s a b c d e f g h i j k l m 4| .k6_5 a b c d e f g h i j k l m=>akmh1 s a b c d e f g h i j k l m 5| .k6_6 a b c d e f g h i j k l m=>akmh1 s a b c d e f g h i j k l m 6| .k6_7 a b c d e f g h i j k l m=>akmh1 s a b c d e f g h i j k l m 7| .k6_8 a b c d e f g h i j k l m=>akmh1 s a b c d e f g h i j k l m 8| .k6_9 a b c d e f g h i j k l m=>akmh1 s a b c d e f g h i j k l m 9| .k6_10 a b c d e f g h i j k l m=>akmh1 s a b c d e f g h i j k l m 10| .k6_11 a b c d e f g h i j k l m=>akmh1 s a b c d e f g h i j k l m 11| .k6_12 a b c d e f g h i j k l m=>akmh1 s a b c d e f g h i j k l m 12| .k6_13 a b c d e f g h i j k l m=>akmh1 s a b c d e f g h i j k l m 13
noncomputable def bzJ (s:Tn):(l_:avl)→Tr Int avl (akm s) cI.v
 | .k6_0 a b d e f h j k l m n o p=>(.c Az122 Sz122 (s,()) fun q=>(.i q (.r 1) (.g (.k6_1 a b d e f h j k l m n o p))))| .k6_1 a b d e f h j k l m n o p=>(.c Az123 bxM (s,()) fun q=>(.i q (.r 2) (.g (.k6_2 a b d e f h j k l m n o p))))| .k6_2 a b d e f h j k l m n o p=>(.c Az124 bxL (s,()) fun q=>(.i q (.r 3) (.g (.k6_3 a b d e f h j k l m n o p))))| .k6_3 a b d e f h j k l m n o p=>(.c Az125 bxK (s,()) fun q=>(.i q (.r 4) (.g (.k6_4 a b d e f h j k l m n o p))))| .k6_4 a b d e f h j k l m n o p=>(.c Az126 bxJ (s,()) fun q=>(.i q (.r 5) (.g (.k6_5 a b d e f h j k l m n o p))))| .k6_5 a b d e f h j k l m n o p=>(.c Az127 bxI (s,()) fun q=>(.i q (.r 6) (.g (.k6_6 a b d e f h j k l m n o p))))| .k6_6 a b d e f h j k l m n o p=>(.c Az128 bxH (s,()) fun q=>(.i q (.r 7) (.g (.k6_7 a b d e f h j k l m n o p))))| .k6_7 a b d e f h j k l m n o p=>(.c Az129 bxG (s,()) fun q=>(.i q (.r 8) (.g (.k6_8 a b d e f h j k l m n o p))))| .k6_8 a b d e f h j k l m n o p=>(.c Az130 bxF (s,()) fun q=>(.i q (.r 9) (.g (.k6_9 a b d e f h j k l m n o p))))| .k6_9 a b d e f h j k l m n o p=>(.c Az131 bxE (s,()) fun q=>(.i q (.r 10) (.g (.k6_10 a b d e f h j k l m n o p))))| .k6_10 a b d e f h j k l m n o p=>(.c Az132 bxD (s,()) fun q=>(.i q (.r 11) (.g (.k6_11 a b d e f h j k l m n o p))))| .k6_11 a b d e f h j k l m n o p=>(.c Az133 bxC (s,()) fun q=>(.i q (.r 12) (.g (.k6_12 a b d e f h j k l m n o p))))| .k6_12 a b d e f h j k l m n o p=>(.c Az134 bxB (s,()) fun q=>(.i q (.r 13) (.g (.k6_13 a b d e f h j k l m n o p))))| .k6_13 a b c d e f g h i j k l m=>(.r 0)
noncomputable def Tz144 (s:Tn):Tr Int avl (akm s) cI.v:=(.c Az74 Sz74 (()) fun a=>(.g (.k6_0 a.1 a.2.2.1 a.2.2.2.2.1 a.2.2.2.2.2.2.1 a.2.2.2.2.2.2.2.2.1 a.2.2.2.2.2.2.2.2.2.2.1 a.2.2.2.2.2.2.2.2.2.2.2.2.1 a.2.2.2.2.2.2.2.2.2.2.2.2.2.2.1 a.2.2.2.2.2.2.2.2.2.2.2.2.2.2.2.2.1 a.2.2.2.2.2.2.2.2.2.2.2.2.2.2.2.2.2.2.1 a.2.2.2.2.2.2.2.2.2.2.2.2.2.2.2.2.2.2.2.2.1 a.2.2.2.2.2.2.2.2.2.2.2.2.2.2.2.2.2.2.2.2.2.2.1 a.2.2.2.2.2.2.2.2.2.2.2.2.2.2.2.2.2.2.2.2.2.2.2.2.1)))
def bT (s:Tn):=Tr.lp (bzJ s)
def Ez144 (n:Nat) (s:Tn):=(Tz144 s).d (bT s n)
def avj (x:Tn×Unit):=Ez144 (x.1.p_m.length+64) x.1
def wz144:Wk (Tn×Unit) Int avl cI.v:=⟨fun x=>akm x.1,uz144,fun x=>Tz144 x.1,fun x=>bzJ x.1⟩
noncomputable def Kz144:=aU 92 Tryz.func92 [Kz74,Kz122,Kz123,Kz124,Kz125,Kz126,Kz127,Kz128,Kz129,Kz130,Kz131,Kz132,Kz133,Kz134] noZ ⟨19,(lookA [(3,⟨[0,3,6,7],[],0,[],[],[],[]⟩)]),noL,noL⟩ 128 Az144 cI avj wz144 (fun x=>x.1.p_m.length+64)
def Az150:=(Row.cons (Cod.ptr rTn) Row.nil)
inductive ax8 where
 | k4 (a:Int)
def uz150:ax8→Nat
 | .k4 _=>4
def akk (s:Tn):ax8→D
 | .k4 a=>mD [(10,(Cod.list mv0 rMv).v s.p_m),(11,.int .i64 ((s.p_m.length:Nat):Int)),(12,.int .i64 a)] 0 [] 128 []
noncomputable def ajE (s:Tn):(l_:ax8)→Tr Bool ax8 (akk s) cB.v
 | .k4 a=>(.i (decide (a<((s.p_m.length:Nat):Int))) (.i (inR a s.p_m.length) (.i ((s.p_m.getD a.toNat mv0).f==0) (.c azy zQ ([99,107,110,121],(s.p_m.getD a.toNat mv0).h,()) fun b=>(.i b (.i ((s.p_m.getD a.toNat mv0).o) (.i (decide (((s.p_m.getD a.toNat mv0).h)=[102])) (.r true) (.r true)) (.g (.k4 (w6 (a+1))))) (.i (decide (((s.p_m.getD a.toNat mv0).h)=[103])) (.i ((s.p_m.getD a.toNat mv0).o) (.i (decide (((s.p_m.getD a.toNat mv0).h)=[102])) (.r true) (.i ((s.p_m.getD a.toNat mv0).t==1) (.r true) (.g (.k4 (w6 (a+1)))))) (.g (.k4 (w6 (a+1))))) (.i ((s.p_m.getD a.toNat mv0).o) (.i (decide (((s.p_m.getD a.toNat mv0).h)=[102])) (.r true) (.g (.k4 (w6 (a+1))))) (.g (.k4 (w6 (a+1)))))))) (.i ((s.p_m.getD a.toNat mv0).o) (.i (decide (((s.p_m.getD a.toNat mv0).h)=[102])) (.r true) (.g (.k4 (w6 (a+1))))) (.g (.k4 (w6 (a+1)))))) .n) (.r false))
def Tz150 (s:Tn):Tr Bool ax8 (akk s) cB.v:=(.g (.k4 0))
def azo (s:Tn):=Tr.lp (ajE s)
theorem azn {s:Tn}{n:Nat}{l_:ax8}:azo s (n+1) l_=(ajE s l_).d (azo s n):=rfl
def Ez150 (n:Nat) (s:Tn):=(Tz150 s).d (azo s n)
def Sz150 (x:Tn×Unit):=Ez150 (x.1.p_m.length+64) x.1
def wz150:Wk (Tn×Unit) Bool ax8 cB.v:=⟨fun x=>akk x.1,uz150,fun x=>Tz150 x.1,fun x=>ajE x.1⟩
def Kz150:=aU 93 Tryz.func93 [K181] noZ ⟨45,(lookA [(2,⟨[10,11,12],[],0,[],[],[],[]⟩)]),noL,noL⟩ 128 Az150 cB Sz150 wz150 (fun x=>x.1.p_m.length+64)
def Az89:=(Row.cons (Cod.ptr rTn) Row.nil)
def Wz89 (r:(List (Mv))):V:=.el (r.map rMv.v)
theorem hWz89 (r:(List (Mv))):(Wz89 r).c=((Cod.list mv0 rMv).v r).c:=by first|rfl|exact aS|(show EVal.tup (V.cs _)=EVal.tup (V.cs _);simp only [V.cs_map,List.map_cons,List.map_nil,aS];rfl)
inductive Lz89 where
 | k10 (a:Int)(b:List (Mv))
def uz89:Lz89→Nat
 | .k10 _ _=>10
def axl (s:Tn) (x3:Int) (x4:List (List V)):D:=mD [(3,.gl 128),(26,(Cod.list mv0 rMv).v s.p_m),(27,.int .i64 ((s.p_m.length:Nat):Int)),(28,.int .i64 x3)] 0 [] 129 [(128,(x4,87))]
def bqf (s:Tn):Lz89→D
 | .k10 a b=>axl s a (b.map rMv.v)
noncomputable def ayf (s:Tn):(l_:Lz89)→Tr (List (Mv)) Lz89 (bqf s) Wz89
 | .k10 a d=>(.i (decide (a<((s.p_m.length:Nat):Int))) (.i (inR a s.p_m.length) (.c Az151 bjx ((s.p_m.getD a.toNat mv0),()) fun e=>(.i e (.i (Nat.ble (64*(((d.map rMv.v)).length+1)) 1000000) (.j (.k10 (w6 (a+1)) (d++[(s.p_m.getD a.toNat mv0)])) (axl s (w6 (a+1)) ((d.map rMv.v)++[[.int .i64 (s.p_m.getD a.toNat mv0).f,.int .i64 (s.p_m.getD a.toNat mv0).t,.bool ((s.p_m.getD a.toNat mv0).o),.str ((s.p_m.getD a.toNat mv0).h),(Cod.list 0 a7).v ((s.p_m.getD a.toNat mv0).b)]])) ⟨by simp only [bqf,List.map_append,List.map_cons,List.map_nil];rfl⟩) .n) (.g (.k10 (w6 (a+1)) d)))) .n) (.r d))
def Tz89 (s:Tn):Tr (List (Mv)) Lz89 (bqf s) Wz89:=(.i (s.outs==3) (.i s.p_l (.r []) (.c Az150 Sz150 (s,()) fun a=>(.i a (.r []) (.g (.k10 0 []))))) (.g (.k10 0 [])))
def bqF (s:Tn):=Tr.lp (ayf s)
theorem bqE {s:Tn}{n:Nat}{l_:Lz89}:bqF s (n+1) l_=(ayf s l_).d (bqF s n):=rfl
def Ez89 (n:Nat) (s:Tn):=(Tz89 s).d (bqF s n)
def azm (x:Tn×Unit):=Ez89 (x.1.p_m.length+64) x.1
def wz89:Wk (Tn×Unit) (List (Mv)) Lz89 Wz89:=⟨fun x=>bqf x.1,uz89,fun x=>Tz89 x.1,fun x=>ayf x.1⟩
def Kz89:=aU 52 Tryz.func52 [Kz150,Kz151] noZ ⟨40,(lookA [(5,⟨[3,26,27,28],[],0,[(3,87)],[128],[],[]⟩)]),noL,noL⟩ 128 Az89 (Cod.list mv0 rMv) azm wz89 (fun x=>x.1.p_m.length+64) hWz89
def Az85:=(Row.cons (Cod.agg rSt) (Row.cons (Cod.agg rPl) Row.nil))
inductive Lz85 where
 | k3
def uz85:Lz85→Nat
 | .k3=>3
def sLz85 (s:St) (t:Pl):Lz85→D
 | .k3=>mD [(2,.ptr 0 0),(3,.lptr (rPl.v t) 0)] 1 [(0,.row ⟨(rSt.v s),54,false⟩)] 128 []
noncomputable def Tz85J (s:St) (t:Pl):(l_:Lz85)→Tr ((Option (Tn))×(Int)×(Int)×Unit) Lz85 (sLz85 s t) (Cod.tup (Row.cons (Cod.opt rTn) (Row.cons cI (Row.cons cI Row.nil)))).v
 | .k3=>(.c lK eO (s,(((),()),((t,()),()),((),()),()),()) fun a=>(.i (!(a==0)) (.r (none,0,a,())) (.c Az143 bjz (s,t,()) fun b=>(.c Az144 avj (b,()) fun d=>(.i (!(d==0)) (.r (none,d,18,())) (.i (s.half==0) (.c Az89 azm (b,()) fun e=>(.i (decide (9999<(w6 (s.c0+((e.length:Nat):Int))))) (.r (none,0,4,())) (.r ((some b),0,0,())))) (.i (s.half==1) (.c Az89 azm (b,()) fun f=>(.i (decide (9999<(w6 (s.c1+((f.length:Nat):Int))))) (.r (none,0,4,())) (.r ((some b),0,0,())))) .n)))))))
def Tz85 (s:St) (t:Pl):Tr ((Option (Tn))×(Int)×(Int)×Unit) Lz85 (sLz85 s t) (Cod.tup (Row.cons (Cod.opt rTn) (Row.cons cI (Row.cons cI Row.nil)))).v:=(.g .k3)
def Ez85J (s:St) (t:Pl):=Tr.lp (Tz85J s t)
def Ez85 (n:Nat) (s:St) (t:Pl):=(Tz85 s t).d (Ez85J s t n)
def Sz85 (x:St×Pl×Unit):=Ez85 (x.2.1.m.length+64) x.1 x.2.1
def wz85:Wk (St×Pl×Unit) ((Option (Tn))×(Int)×(Int)×Unit) Lz85 (Cod.tup (Row.cons (Cod.opt rTn) (Row.cons cI (Row.cons cI Row.nil)))).v:=⟨fun x=>sLz85 x.1 x.2.1,uz85,fun x=>Tz85 x.1 x.2.1,fun x=>Tz85J x.1 x.2.1⟩
noncomputable def Kz85:=aU 50 Tryz.func50 [uY,Kz89,Kz143,Kz144] noZ ⟨38,noL,(lookA [(1,⟨[2,3],[0],1,[],[],[(1,1)],[]⟩)]),noL⟩ 128 Az85 (Cod.tup (Row.cons (Cod.opt rTn) (Row.cons cI (Row.cons cI Row.nil)))) Sz85 wz85 (fun x=>x.2.1.m.length+64)
def Az62:=(Row.cons (Cod.agg rSt) Row.nil)
def Tz62 (s:St):Tr Int Empty noS cI.v:=(.i (s.half==0) (.r s.n0) (.i (s.half==1) (.r s.n1) .n))
def Ez62 (s:St):=(Tz62 s).d noE
def Sz62 (x:St×Unit):=Ez62 x.1
def wz62:Wk (St×Unit) Int Empty cI.v:=wk0 fun x=>Tz62 x.1
def Kz62:=aU 87 Tryz.func87 [] noZ ⟨8,noL,noL,noL⟩ 128 Az62 cI Sz62 wz62 (fun _=>0)
def Az146:=(Row.cons cI Row.nil)
def Tz146 (s:Int):Tr Int Empty noS cI.v:=(.r (w6 ((s.tmod 9)+1)))
def Ez146 (s:Int):=(Tz146 s).d noE
def bjy (x:Int×Unit):=Ez146 x.1
def wz146:Wk (Int×Unit) Int Empty cI.v:=wk0 fun x=>Tz146 x.1
def Kz146:=aU 111 Tryz.func111 [] noZ ⟨6,noL,noL,noL⟩ 128 Az146 cI bjy wz146 (fun _=>0)
def rR:=(Row.cons (Cod.ptr rTn) (Row.cons cI Row.nil))
noncomputable def Tz91 (s:Tn) (t:Int):Tr Int Empty noS cI.v:=(.i (t==0) (.c Az62 Sz62 ((⟨s.s_inn,s.s_half,s.s_outs,s.s_balls,s.s_strikes,s.s_b1,s.s_b2,s.s_b3,s.s_n0,s.s_n1,s.s_c0,s.s_c1,s.s_over⟩:St),()) fun a=>(.r a)) (.i ((w6 (t-1))==0) (.r s.s_b1) (.i ((w6 (t-1))==1) (.r s.s_b2) (.i ((w6 (t-1))==2) (.r s.s_b3) .n))))
def Ez91 (s:Tn) (t:Int):=(Tz91 s t).d noE
def oS (x:Tn×Int×Unit):=Ez91 x.1 x.2.1
def wz91:Wk (Tn×Int×Unit) Int Empty cI.v:=wk0 fun x=>Tz91 x.1 x.2.1
def Kz91:=aU 54 Tryz.func54 [Kz62] noZ ⟨20,noL,noL,noL⟩ 128 rR cI oS wz91 (fun _=>0)
def Az147:=(Row.cons (Cod.ptr rTn) Row.nil)
inductive ax9 where
 | k8 (a b c d:Int)
def uz147:ax9→Nat
 | .k8 _ _ _ _=>8
noncomputable def akl (s:Tn):ax9→D
 | .k8 a b c d=>mD [(0,.lptr (rTn.v s) 0),(2,.ptr 0 0),(3,.ptr 1 0),(17,(Cod.list mv0 rMv).v s.p_m),(18,.int .i64 ((s.p_m.length:Nat):Int)),(19,.int .i64 a)] 2 [(0,.row ⟨[.int .i64 0,.int .i64 0,.int .i64 0],51,false⟩),(1,.row ⟨[.int .i64 d,.int .i64 c,.int .i64 b],51,false⟩)] 128 []
noncomputable def ajF (s:Tn):(l_:ax9)→Tr ((Int)×(Int)×(Int)×Unit) ax9 (akl s) (Cod.agg (Row.cons cI (Row.cons cI (Row.cons cI Row.nil)))).v
 | .k8 a b d e=>(.i (decide (a<((s.p_m.length:Nat):Int))) (.i (inR a s.p_m.length) (.i (decide (0<(s.p_m.getD a.toNat mv0).f)) (.i ((w6 ((s.p_m.getD a.toNat mv0).f-1))==0) (.i (!(s.p_m.getD a.toNat mv0).o) (.i (decide ((s.p_m.getD a.toNat mv0).t<4)) (.c rR oS (s,(s.p_m.getD a.toNat mv0).f,()) fun h=>(.i ((w6 ((s.p_m.getD a.toNat mv0).t-1))==0) (.g (.k8 (w6 (a+1)) b d h)) (.i ((w6 ((s.p_m.getD a.toNat mv0).t-1))==1) (.g (.k8 (w6 (a+1)) b h 0)) (.i ((w6 ((s.p_m.getD a.toNat mv0).t-1))==2) (.g (.k8 (w6 (a+1)) h d 0)) .n)))) (.g (.k8 (w6 (a+1)) b d 0))) (.g (.k8 (w6 (a+1)) b d 0))) (.i ((w6 ((s.p_m.getD a.toNat mv0).f-1))==1) (.i (!(s.p_m.getD a.toNat mv0).o) (.i (decide ((s.p_m.getD a.toNat mv0).t<4)) (.c rR oS (s,(s.p_m.getD a.toNat mv0).f,()) fun j=>(.i ((w6 ((s.p_m.getD a.toNat mv0).t-1))==0) (.g (.k8 (w6 (a+1)) b 0 j)) (.i ((w6 ((s.p_m.getD a.toNat mv0).t-1))==1) (.g (.k8 (w6 (a+1)) b j e)) (.i ((w6 ((s.p_m.getD a.toNat mv0).t-1))==2) (.g (.k8 (w6 (a+1)) j 0 e)) .n)))) (.g (.k8 (w6 (a+1)) b 0 e))) (.g (.k8 (w6 (a+1)) b 0 e))) (.i ((w6 ((s.p_m.getD a.toNat mv0).f-1))==2) (.i (!(s.p_m.getD a.toNat mv0).o) (.i (decide ((s.p_m.getD a.toNat mv0).t<4)) (.c rR oS (s,(s.p_m.getD a.toNat mv0).f,()) fun k=>(.i ((w6 ((s.p_m.getD a.toNat mv0).t-1))==0) (.g (.k8 (w6 (a+1)) 0 d k)) (.i ((w6 ((s.p_m.getD a.toNat mv0).t-1))==1) (.g (.k8 (w6 (a+1)) 0 k e)) (.i ((w6 ((s.p_m.getD a.toNat mv0).t-1))==2) (.g (.k8 (w6 (a+1)) k d e)) .n)))) (.g (.k8 (w6 (a+1)) 0 d e))) (.g (.k8 (w6 (a+1)) 0 d e))) .n))) (.i (!(s.p_m.getD a.toNat mv0).o) (.i (decide ((s.p_m.getD a.toNat mv0).t<4)) (.c rR oS (s,(s.p_m.getD a.toNat mv0).f,()) fun l=>(.i ((w6 ((s.p_m.getD a.toNat mv0).t-1))==0) (.g (.k8 (w6 (a+1)) b d l)) (.i ((w6 ((s.p_m.getD a.toNat mv0).t-1))==1) (.g (.k8 (w6 (a+1)) b l e)) (.i ((w6 ((s.p_m.getD a.toNat mv0).t-1))==2) (.g (.k8 (w6 (a+1)) l d e)) .n)))) (.g (.k8 (w6 (a+1)) b d e))) (.g (.k8 (w6 (a+1)) b d e)))) .n) (.r (e,d,b,())))
def Tz147 (s:Tn):Tr ((Int)×(Int)×(Int)×Unit) ax9 (akl s) (Cod.agg (Row.cons cI (Row.cons cI (Row.cons cI Row.nil)))).v:=(.g (.k8 0 s.s_b3 s.s_b2 s.s_b1))
def azq (s:Tn):=Tr.lp (ajF s)
theorem azp {s:Tn}{n:Nat}{l_:ax9}:azq s (n+1) l_=(ajF s l_).d (azq s n):=rfl
def Ez147 (n:Nat) (s:Tn):=(Tz147 s).d (azq s n)
def ayu (x:Tn×Unit):=Ez147 (x.1.p_m.length+64) x.1
def wz147:Wk (Tn×Unit) ((Int)×(Int)×(Int)×Unit) ax9 (Cod.agg (Row.cons cI (Row.cons cI (Row.cons cI Row.nil)))).v:=⟨fun x=>akl x.1,uz147,fun x=>Tz147 x.1,fun x=>ajF x.1⟩
def Kz147:=aU 112 Tryz.func112 [Kz91] noZ ⟨48,(lookA [(4,⟨[0,2,3,17,18,19],[0,1],2,[],[],[],[]⟩)]),noL,noL⟩ 128 Az147 (Cod.agg (Row.cons cI (Row.cons cI (Row.cons cI Row.nil)))) ayu wz147 (fun x=>x.1.p_m.length+64)
def Az177:=(Row.cons (Cod.agg rSt) Row.nil)
def Tz177 (s:St):Tr Bool Empty noS cB.v:=(.r (decide (s.c0<s.c1)))
def Ez177 (s:St):=(Tz177 s).d noE
def bju (x:St×Unit):=Ez177 x.1
def wz177:Wk (St×Unit) Bool Empty cB.v:=wk0 fun x=>Tz177 x.1
def Kz177:=aU 135 Tryz.func135 [] noZ ⟨10,noL,noL,noL⟩ 128 Az177 cB bju wz177 (fun _=>0)
def Az120:=(Row.cons (Cod.agg rSt) Row.nil)
def Tz120 (s:St):Tr Bool Empty noS cB.v:=(.i (decide (9≤s.inn)) (.i (s.half==1) (.c Az177 bju (s,()) fun a=>(.r a)) (.r false)) (.r false))
def Ez120 (s:St):=(Tz120 s).d noE
def ayv (x:St×Unit):=Ez120 x.1
def wz120:Wk (St×Unit) Bool Empty cB.v:=wk0 fun x=>Tz120 x.1
def Kz120:=aU 85 Tryz.func85 [Kz177] noZ ⟨15,noL,noL,noL⟩ 128 Az120 cB ayv wz120 (fun _=>0)
def Az175:=(Row.cons (Cod.agg rSt) Row.nil)
def Tz175 (s:St):Tr St Empty noS (Cod.agg rSt).v:=(.r (⟨s.inn,s.half,0,0,0,0,0,0,s.n0,s.n1,s.c0,s.c1,s.over⟩:St))
def Ez175 (s:St):=(Tz175 s).d noE
def bjv (x:St×Unit):=Ez175 x.1
def wz175:Wk (St×Unit) St Empty (Cod.agg rSt).v:=wk0 fun x=>Tz175 x.1
def Kz175:=aU 133 Tryz.func133 [] noZ ⟨9,noL,noL,noL⟩ 128 Az175 (Cod.agg rSt) bjv wz175 (fun _=>0)
def Az148:=(Row.cons (Cod.agg rSt) Row.nil)
def Tz148 (s:St):Tr St Empty noS (Cod.agg rSt).v:=(.c Az175 bjv (s,()) fun a=>(.r (⟨a.inn,a.half,a.outs,a.balls,a.strikes,a.b1,a.b2,a.b3,a.n0,a.n1,a.c0,a.c1,true⟩:St)))
def Ez148 (s:St):=(Tz148 s).d noE
def avi (x:St×Unit):=Ez148 x.1
def wz148:Wk (St×Unit) St Empty (Cod.agg rSt).v:=wk0 fun x=>Tz148 x.1
def Kz148:=aU 113 Tryz.func113 [Kz175] noZ ⟨7,noL,noL,noL⟩ 128 Az148 (Cod.agg rSt) avi wz148 (fun _=>0)
def Az176:=(Row.cons (Cod.agg rSt) Row.nil)
def Tz176 (s:St):Tr Bool Empty noS cB.v:=(.i (decide (s.inn<9)) (.r false) (.c Az177 bju (s,()) fun a=>(.i a (.r true) (.i (s.half==1) (.i (!(s.c0==s.c1)) (.r true) (.r (s.inn==30))) (.r false)))))
def Ez176 (s:St):=(Tz176 s).d noE
def Sz176 (x:St×Unit):=Ez176 x.1
def wz176:Wk (St×Unit) Bool Empty cB.v:=wk0 fun x=>Tz176 x.1
def Kz176:=aU 134 Tryz.func134 [Kz177] noZ ⟨27,noL,noL,noL⟩ 128 Az176 cB Sz176 wz176 (fun _=>0)
def Az149:=(Row.cons (Cod.agg rSt) Row.nil)
noncomputable def Tz149 (s:St):Tr St Empty noS (Cod.agg rSt).v:=(.c Az176 Sz176 (s,()) fun a=>(.i a (.c Az148 avi (s,()) fun b=>(.r b)) (.c Az175 bjv (s,()) fun d=>(.i (d.half==1) (.r (⟨(w6 (d.inn+1)),(w6 (1-d.half)),d.outs,d.balls,d.strikes,d.b1,d.b2,d.b3,d.n0,d.n1,d.c0,d.c1,d.over⟩:St)) (.r (⟨d.inn,(w6 (1-d.half)),d.outs,d.balls,d.strikes,d.b1,d.b2,d.b3,d.n0,d.n1,d.c0,d.c1,d.over⟩:St))))))
def Ez149 (s:St):=(Tz149 s).d noE
def ayt (x:St×Unit):=Ez149 x.1
def wz149:Wk (St×Unit) St Empty (Cod.agg rSt).v:=wk0 fun x=>Tz149 x.1
def Kz149:=aU 114 Tryz.func114 [Kz148,Kz175,Kz176] noZ ⟨21,noL,noL,noL⟩ 128 Az149 (Cod.agg rSt) ayt wz149 (fun _=>0)
def Az86:=(Row.cons (Cod.ptr rTn) Row.nil)
inductive Lz86 where
 | k9 (a b:Int)
 | k11 (a b:Int)
 | k17 (a b c d e f:Int)
def uz86:Lz86→Nat
 | .k9 _ _=>9| .k11 _ _=>11| .k17 _ _ _ _ _ _=>17
noncomputable def sLz86 (s:Tn):Lz86→D
 | .k9 a b=>mD [(0,.lptr (rTn.v s) 0),(2,.ptr 0 0),(3,.ptr 1 0)] 2 [(0,.row ⟨[.int .i64 0,.int .i64 0,.int .i64 0,.int .i64 0,.int .i64 0,.int .i64 0,.int .i64 0,.int .i64 0,.int .i64 0,.int .i64 0,.int .i64 0,.int .i64 0,.bool false],54,false⟩),(1,.row ⟨[.int .i64 s.s_inn,.int .i64 s.s_half,.int .i64 s.outs,.int .i64 s.s_balls,.int .i64 s.s_strikes,.int .i64 s.s_b1,.int .i64 s.s_b2,.int .i64 s.s_b3,.int .i64 s.s_n0,.int .i64 s.s_n1,.int .i64 b,.int .i64 a,.bool s.s_over],54,false⟩)] 128 []| .k11 a b=>mD [(0,.lptr (rTn.v s) 0),(2,.ptr 0 0),(3,.ptr 1 0)] 2 [(0,.row ⟨[.int .i64 0,.int .i64 0,.int .i64 0,.int .i64 0,.int .i64 0,.int .i64 0,.int .i64 0,.int .i64 0,.int .i64 0,.int .i64 0,.int .i64 0,.int .i64 0,.bool false],54,false⟩),(1,.row ⟨[.int .i64 s.s_inn,.int .i64 s.s_half,.int .i64 s.outs,.int .i64 s.k0,.int .i64 s.k1,.int .i64 s.s_b1,.int .i64 s.s_b2,.int .i64 s.s_b3,.int .i64 s.s_n0,.int .i64 s.s_n1,.int .i64 a,.int .i64 b,.bool s.s_over],54,false⟩)] 128 []| .k17 a b c d e f=>mD [(0,.lptr (rTn.v s) 0),(2,.ptr 0 0),(3,.ptr 1 0)] 2 [(0,.row ⟨[.int .i64 0,.int .i64 0,.int .i64 0,.int .i64 0,.int .i64 0,.int .i64 0,.int .i64 0,.int .i64 0,.int .i64 0,.int .i64 0,.int .i64 0,.int .i64 0,.bool false],54,false⟩),(1,.row ⟨[.int .i64 s.s_inn,.int .i64 s.s_half,.int .i64 s.outs,.int .i64 e,.int .i64 f,.int .i64 s.s_b1,.int .i64 s.s_b2,.int .i64 s.s_b3,.int .i64 d,.int .i64 a,.int .i64 b,.int .i64 c,.bool s.s_over],54,false⟩)] 128 []
noncomputable def Tz86J (s:Tn):(l_:Lz86)→Tr St Lz86 (sLz86 s) (Cod.agg rSt).v
 | .k9 a b=>(.g (.k11 b a))| .k11 a b=>(.c aj1 rQ (s,()) fun d=>(.i (!d) (.c Az62 Sz62 ((⟨s.s_inn,s.s_half,s.outs,0,0,s.s_b1,s.s_b2,s.s_b3,s.s_n0,s.s_n1,a,b,s.s_over⟩:St),()) fun e=>(.c Az146 bjy (e,()) fun f=>(.i (s.s_half==0) (.g (.k17 s.s_n1 a b f 0 0)) (.i (s.s_half==1) (.g (.k17 f a b s.s_n0 0 0)) .n)))) (.g (.k17 s.s_n1 a b s.s_n0 s.k0 s.k1))))| .k17 a b d e f g=>(.c Az147 ayu (s,()) fun h=>(.c Az120 ayv ((⟨s.s_inn,s.s_half,s.outs,f,g,h.1,h.2.1,h.2.2.1,e,a,b,d,s.s_over⟩:St),()) fun j=>(.i j (.c Az148 avi ((⟨s.s_inn,s.s_half,s.outs,f,g,h.1,h.2.1,h.2.2.1,e,a,b,d,s.s_over⟩:St),()) fun k=>(.r k)) (.i (s.outs==3) (.c Az149 ayt ((⟨s.s_inn,s.s_half,s.outs,f,g,h.1,h.2.1,h.2.2.1,e,a,b,d,s.s_over⟩:St),()) fun l=>(.r l)) (.r (⟨s.s_inn,s.s_half,s.outs,f,g,h.1,h.2.1,h.2.2.1,e,a,b,d,s.s_over⟩:St))))))
noncomputable def Tz86 (s:Tn):Tr St Lz86 (sLz86 s) (Cod.agg rSt).v:=(.i (s.s_half==0) (.c Az89 azm (s,()) fun a=>(.i (s.s_half==0) (.g (.k9 s.s_c1 (w6 (s.s_c0+((a.length:Nat):Int))))) (.i (s.s_half==1) (.g (.k9 (w6 (s.s_c0+((a.length:Nat):Int))) s.s_c0)) .n))) (.i (s.s_half==1) (.c Az89 azm (s,()) fun b=>(.i (s.s_half==0) (.g (.k9 s.s_c1 (w6 (s.s_c1+((b.length:Nat):Int))))) (.i (s.s_half==1) (.g (.k9 (w6 (s.s_c1+((b.length:Nat):Int))) s.s_c0)) .n))) .n))
def zT (s:Tn):=Tr.lp (Tz86J s)
def Ez86 (n:Nat) (s:Tn):=(Tz86 s).d (zT s n)
def Sz86 (x:Tn×Unit):=Ez86 (x.1.p_m.length+64) x.1
def wz86:Wk (Tn×Unit) St Lz86 (Cod.agg rSt).v:=⟨fun x=>sLz86 x.1,uz86,fun x=>Tz86 x.1,fun x=>Tz86J x.1⟩
noncomputable def Kz86:=aU 61 Tryz.func61 [Kz62,Kz89,Kz120,bqA,Kz146,Kz147,Kz148,Kz149] noZ ⟨63,noL,(lookA [(4,⟨[0,2,3],[0,1],2,[],[],[],[]⟩),(5,⟨[0,2,3],[0,1],2,[],[],[],[]⟩),(8,⟨[0,2,3],[0,1],2,[],[],[],[]⟩)]),noL⟩ 128 Az86 (Cod.agg rSt) Sz86 wz86 (fun x=>x.1.p_m.length+64)
def Az92:=(Row.cons (Cod.ptr rTn) Row.nil)
def Tz92 (s:Tn):Tr Int Empty noS cI.v:=(.c Az86 Sz86 (s,()) fun a=>(.i a.over (.r 2) (.i (!(a.half==s.s_half)) (.r 1) (.r 0))))
def Ez92 (s:Tn):=(Tz92 s).d noE
def Sz92 (x:Tn×Unit):=Ez92 x.1
def wz92:Wk (Tn×Unit) Int Empty cI.v:=wk0 fun x=>Tz92 x.1
def Kz92:=aU 56 Tryz.func56 [Kz86] noZ ⟨18,noL,noL,noL⟩ 128 Az92 cI Sz92 wz92 (fun _=>0)
def Az93:=(Row.cons (Cod.ptr rTn) Row.nil)
def Wz93 (r:(List (Int))):V:=.el (r.map a7.v)
theorem hWz93 (r:(List (Int))):(Wz93 r).c=((Cod.list 0 a7).v r).c:=by first|rfl|exact aS|(show EVal.tup (V.cs _)=EVal.tup (V.cs _);simp only [V.cs_map,List.map_cons,List.map_nil,aS];rfl)
inductive Lz93 where
 | k8 (a:Bool)(b c d e f:Int)(g:List (Int))
def uz93:Lz93→Nat
 | .k8 _ _ _ _ _ _ _=>8
noncomputable def bR (s:Tn) (x3:Bool) (x4:Int) (x5:Int) (x6:Int) (x7:Int) (x9:Int) (x10:List (List V)):D:=mD [(0,.lptr (rTn.v s) 0),(3,.ptr 0 0),(4,.bool x3),(5,.gl 128),(15,.int .i64 x9)] 1 [(0,.row ⟨[.int .i64 x4,.int .i64 x5,.int .i64 x6,.int .i64 x7],149,false⟩)] 129 [(128,(x10,3))]
def gE (s:Tn):Lz93→D
 | .k8 a b c d e f g=>bR s a b c d e f (g.map a7.v)
noncomputable def ax0 (s:Tn):(l_:Lz93)→Tr (List (Int)) Lz93 (gE s) Wz93
 | .k8 a b d e f h k=>(.i (decide (h<4)) (.i a (.i ((w6 (3-h))==0) (.i ((w6 (3-h))==0) (.i (!(b==0)) (.i (!(b==4)) (.c rR oS (s,(w6 (3-h)),()) fun l=>(.i (Nat.ble (8*(((k.map a7.v)).length+1)) 1000000) (.j (.k8 a b d e f (w6 (h+1)) (k++[l])) (bR s a b d e f (w6 (h+1)) ((k.map a7.v)++[[.int .i64 l]])) ⟨by simp only [gE,List.map_append,List.map_cons,List.map_nil];rfl⟩) .n)) (.g (.k8 a b d e f (w6 (h+1)) k))) (.g (.k8 a b d e f (w6 (h+1)) k))) (.i ((w6 (3-h))==1) (.i (!(d==0)) (.i (!(b==4)) (.c rR oS (s,(w6 (3-h)),()) fun m=>(.i (Nat.ble (8*(((k.map a7.v)).length+1)) 1000000) (.j (.k8 a b d e f (w6 (h+1)) (k++[m])) (bR s a b d e f (w6 (h+1)) ((k.map a7.v)++[[.int .i64 m]])) ⟨by simp only [gE,List.map_append,List.map_cons,List.map_nil];rfl⟩) .n)) (.g (.k8 a b d e f (w6 (h+1)) k))) (.g (.k8 a b d e f (w6 (h+1)) k))) (.i ((w6 (3-h))==2) (.i (!(e==0)) (.i (!(b==4)) (.c rR oS (s,(w6 (3-h)),()) fun o=>(.i (Nat.ble (8*(((k.map a7.v)).length+1)) 1000000) (.j (.k8 a b d e f (w6 (h+1)) (k++[o])) (bR s a b d e f (w6 (h+1)) ((k.map a7.v)++[[.int .i64 o]])) ⟨by simp only [gE,List.map_append,List.map_cons,List.map_nil];rfl⟩) .n)) (.g (.k8 a b d e f (w6 (h+1)) k))) (.g (.k8 a b d e f (w6 (h+1)) k))) (.i ((w6 (3-h))==3) (.i (!(f==0)) (.i (!(b==4)) (.c rR oS (s,(w6 (3-h)),()) fun p=>(.i (Nat.ble (8*(((k.map a7.v)).length+1)) 1000000) (.j (.k8 a b d e f (w6 (h+1)) (k++[p])) (bR s a b d e f (w6 (h+1)) ((k.map a7.v)++[[.int .i64 p]])) ⟨by simp only [gE,List.map_append,List.map_cons,List.map_nil];rfl⟩) .n)) (.g (.k8 a b d e f (w6 (h+1)) k))) (.g (.k8 a b d e f (w6 (h+1)) k))) .n)))) (.i ((w6 (3-h))==1) (.i ((w6 (3-h))==0) (.i (!(b==0)) (.i (!(d==4)) (.c rR oS (s,(w6 (3-h)),()) fun q=>(.i (Nat.ble (8*(((k.map a7.v)).length+1)) 1000000) (.j (.k8 a b d e f (w6 (h+1)) (k++[q])) (bR s a b d e f (w6 (h+1)) ((k.map a7.v)++[[.int .i64 q]])) ⟨by simp only [gE,List.map_append,List.map_cons,List.map_nil];rfl⟩) .n)) (.g (.k8 a b d e f (w6 (h+1)) k))) (.g (.k8 a b d e f (w6 (h+1)) k))) (.i ((w6 (3-h))==1) (.i (!(d==0)) (.i (!(d==4)) (.c rR oS (s,(w6 (3-h)),()) fun t=>(.i (Nat.ble (8*(((k.map a7.v)).length+1)) 1000000) (.j (.k8 a b d e f (w6 (h+1)) (k++[t])) (bR s a b d e f (w6 (h+1)) ((k.map a7.v)++[[.int .i64 t]])) ⟨by simp only [gE,List.map_append,List.map_cons,List.map_nil];rfl⟩) .n)) (.g (.k8 a b d e f (w6 (h+1)) k))) (.g (.k8 a b d e f (w6 (h+1)) k))) (.i ((w6 (3-h))==2) (.i (!(e==0)) (.i (!(d==4)) (.c rR oS (s,(w6 (3-h)),()) fun u=>(.i (Nat.ble (8*(((k.map a7.v)).length+1)) 1000000) (.j (.k8 a b d e f (w6 (h+1)) (k++[u])) (bR s a b d e f (w6 (h+1)) ((k.map a7.v)++[[.int .i64 u]])) ⟨by simp only [gE,List.map_append,List.map_cons,List.map_nil];rfl⟩) .n)) (.g (.k8 a b d e f (w6 (h+1)) k))) (.g (.k8 a b d e f (w6 (h+1)) k))) (.i ((w6 (3-h))==3) (.i (!(f==0)) (.i (!(d==4)) (.c rR oS (s,(w6 (3-h)),()) fun w=>(.i (Nat.ble (8*(((k.map a7.v)).length+1)) 1000000) (.j (.k8 a b d e f (w6 (h+1)) (k++[w])) (bR s a b d e f (w6 (h+1)) ((k.map a7.v)++[[.int .i64 w]])) ⟨by simp only [gE,List.map_append,List.map_cons,List.map_nil];rfl⟩) .n)) (.g (.k8 a b d e f (w6 (h+1)) k))) (.g (.k8 a b d e f (w6 (h+1)) k))) .n)))) (.i ((w6 (3-h))==2) (.i ((w6 (3-h))==0) (.i (!(b==0)) (.i (!(e==4)) (.c rR oS (s,(w6 (3-h)),()) fun x=>(.i (Nat.ble (8*(((k.map a7.v)).length+1)) 1000000) (.j (.k8 a b d e f (w6 (h+1)) (k++[x])) (bR s a b d e f (w6 (h+1)) ((k.map a7.v)++[[.int .i64 x]])) ⟨by simp only [gE,List.map_append,List.map_cons,List.map_nil];rfl⟩) .n)) (.g (.k8 a b d e f (w6 (h+1)) k))) (.g (.k8 a b d e f (w6 (h+1)) k))) (.i ((w6 (3-h))==1) (.i (!(d==0)) (.i (!(e==4)) (.c rR oS (s,(w6 (3-h)),()) fun y=>(.i (Nat.ble (8*(((k.map a7.v)).length+1)) 1000000) (.j (.k8 a b d e f (w6 (h+1)) (k++[y])) (bR s a b d e f (w6 (h+1)) ((k.map a7.v)++[[.int .i64 y]])) ⟨by simp only [gE,List.map_append,List.map_cons,List.map_nil];rfl⟩) .n)) (.g (.k8 a b d e f (w6 (h+1)) k))) (.g (.k8 a b d e f (w6 (h+1)) k))) (.i ((w6 (3-h))==2) (.i (!(e==0)) (.i (!(e==4)) (.c rR oS (s,(w6 (3-h)),()) fun z=>(.i (Nat.ble (8*(((k.map a7.v)).length+1)) 1000000) (.j (.k8 a b d e f (w6 (h+1)) (k++[z])) (bR s a b d e f (w6 (h+1)) ((k.map a7.v)++[[.int .i64 z]])) ⟨by simp only [gE,List.map_append,List.map_cons,List.map_nil];rfl⟩) .n)) (.g (.k8 a b d e f (w6 (h+1)) k))) (.g (.k8 a b d e f (w6 (h+1)) k))) (.i ((w6 (3-h))==3) (.i (!(f==0)) (.i (!(e==4)) (.c rR oS (s,(w6 (3-h)),()) fun A=>(.i (Nat.ble (8*(((k.map a7.v)).length+1)) 1000000) (.j (.k8 a b d e f (w6 (h+1)) (k++[A])) (bR s a b d e f (w6 (h+1)) ((k.map a7.v)++[[.int .i64 A]])) ⟨by simp only [gE,List.map_append,List.map_cons,List.map_nil];rfl⟩) .n)) (.g (.k8 a b d e f (w6 (h+1)) k))) (.g (.k8 a b d e f (w6 (h+1)) k))) .n)))) (.i ((w6 (3-h))==3) (.i ((w6 (3-h))==0) (.i (!(b==0)) (.i (!(f==4)) (.c rR oS (s,(w6 (3-h)),()) fun B=>(.i (Nat.ble (8*(((k.map a7.v)).length+1)) 1000000) (.j (.k8 a b d e f (w6 (h+1)) (k++[B])) (bR s a b d e f (w6 (h+1)) ((k.map a7.v)++[[.int .i64 B]])) ⟨by simp only [gE,List.map_append,List.map_cons,List.map_nil];rfl⟩) .n)) (.g (.k8 a b d e f (w6 (h+1)) k))) (.g (.k8 a b d e f (w6 (h+1)) k))) (.i ((w6 (3-h))==1) (.i (!(d==0)) (.i (!(f==4)) (.c rR oS (s,(w6 (3-h)),()) fun C=>(.i (Nat.ble (8*(((k.map a7.v)).length+1)) 1000000) (.j (.k8 a b d e f (w6 (h+1)) (k++[C])) (bR s a b d e f (w6 (h+1)) ((k.map a7.v)++[[.int .i64 C]])) ⟨by simp only [gE,List.map_append,List.map_cons,List.map_nil];rfl⟩) .n)) (.g (.k8 a b d e f (w6 (h+1)) k))) (.g (.k8 a b d e f (w6 (h+1)) k))) (.i ((w6 (3-h))==2) (.i (!(e==0)) (.i (!(f==4)) (.c rR oS (s,(w6 (3-h)),()) fun D=>(.i (Nat.ble (8*(((k.map a7.v)).length+1)) 1000000) (.j (.k8 a b d e f (w6 (h+1)) (k++[D])) (bR s a b d e f (w6 (h+1)) ((k.map a7.v)++[[.int .i64 D]])) ⟨by simp only [gE,List.map_append,List.map_cons,List.map_nil];rfl⟩) .n)) (.g (.k8 a b d e f (w6 (h+1)) k))) (.g (.k8 a b d e f (w6 (h+1)) k))) (.i ((w6 (3-h))==3) (.i (!(f==0)) (.i (!(f==4)) (.c rR oS (s,(w6 (3-h)),()) fun E=>(.i (Nat.ble (8*(((k.map a7.v)).length+1)) 1000000) (.j (.k8 a b d e f (w6 (h+1)) (k++[E])) (bR s a b d e f (w6 (h+1)) ((k.map a7.v)++[[.int .i64 E]])) ⟨by simp only [gE,List.map_append,List.map_cons,List.map_nil];rfl⟩) .n)) (.g (.k8 a b d e f (w6 (h+1)) k))) (.g (.k8 a b d e f (w6 (h+1)) k))) .n)))) .n)))) (.i ((w6 (3-h))==0) (.i (!(b==0)) (.c rR oS (s,(w6 (3-h)),()) fun F=>(.i (Nat.ble (8*(((k.map a7.v)).length+1)) 1000000) (.j (.k8 a b d e f (w6 (h+1)) (k++[F])) (bR s a b d e f (w6 (h+1)) ((k.map a7.v)++[[.int .i64 F]])) ⟨by simp only [gE,List.map_append,List.map_cons,List.map_nil];rfl⟩) .n)) (.g (.k8 a b d e f (w6 (h+1)) k))) (.i ((w6 (3-h))==1) (.i (!(d==0)) (.c rR oS (s,(w6 (3-h)),()) fun G=>(.i (Nat.ble (8*(((k.map a7.v)).length+1)) 1000000) (.j (.k8 a b d e f (w6 (h+1)) (k++[G])) (bR s a b d e f (w6 (h+1)) ((k.map a7.v)++[[.int .i64 G]])) ⟨by simp only [gE,List.map_append,List.map_cons,List.map_nil];rfl⟩) .n)) (.g (.k8 a b d e f (w6 (h+1)) k))) (.i ((w6 (3-h))==2) (.i (!(e==0)) (.c rR oS (s,(w6 (3-h)),()) fun H=>(.i (Nat.ble (8*(((k.map a7.v)).length+1)) 1000000) (.j (.k8 a b d e f (w6 (h+1)) (k++[H])) (bR s a b d e f (w6 (h+1)) ((k.map a7.v)++[[.int .i64 H]])) ⟨by simp only [gE,List.map_append,List.map_cons,List.map_nil];rfl⟩) .n)) (.g (.k8 a b d e f (w6 (h+1)) k))) (.i ((w6 (3-h))==3) (.i (!(f==0)) (.c rR oS (s,(w6 (3-h)),()) fun I=>(.i (Nat.ble (8*(((k.map a7.v)).length+1)) 1000000) (.j (.k8 a b d e f (w6 (h+1)) (k++[I])) (bR s a b d e f (w6 (h+1)) ((k.map a7.v)++[[.int .i64 I]])) ⟨by simp only [gE,List.map_append,List.map_cons,List.map_nil];rfl⟩) .n)) (.g (.k8 a b d e f (w6 (h+1)) k))) .n))))) (.r k))
def Tz93 (s:Tn):Tr (List (Int)) Lz93 (gE s) Wz93:=(.c Az152 ays (s,()) fun a=>(.c Az89 azm (s,()) fun b=>(.g (.k8 (decide (0<((b.length:Nat):Int))) a.1 a.2.1 a.2.2.1 a.2.2.2.1 0 []))))
def axf (s:Tn):=Tr.lp (ax0 s)
theorem zS {s:Tn}{n:Nat}{l_:Lz93}:axf s (n+1) l_=(ax0 s l_).d (axf s n):=rfl
def Ez93 (n:Nat) (s:Tn):=(Tz93 s).d (axf s n)
def Sz93 (x:Tn×Unit):=Ez93 (x.1.p_m.length+64) x.1
def wz93:Wk (Tn×Unit) (List (Int)) Lz93 Wz93:=⟨fun x=>gE x.1,uz93,fun x=>Tz93 x.1,fun x=>ax0 x.1⟩
def Kz93:=aU 57 Tryz.func57 [Kz89,Kz91,Kz152] noZ ⟨43,(lookA [(4,⟨[0,3,4,5,15],[0],1,[(5,3)],[128],[],[]⟩)]),noL,noL⟩ 128 Az93 (Cod.list 0 a7) Sz93 wz93 (fun x=>x.1.p_m.length+64) hWz93
def avy:=(Row.cons (Cod.agg rPl) (Row.cons cI Row.nil))
inductive ax5 where
 | k4 (a:Int)
def uz157:ax5→Nat
 | .k4 _=>4
def akh (s:Pl) (t:Int):ax5→D
 | .k4 a=>mD [(1,.int .i64 t),(2,.ptr 0 0),(5,.int .i64 a)] 1 [(0,.row ⟨(rPl.v s),48,false⟩)] 128 []
def rF (s:Pl) (t:Int):(l_:ax5)→Tr Int ax5 (akh s t) cI.v
 | .k4 a=>(.i (decide (a<((s.m.length:Nat):Int))) (.i (inR a s.m.length) (.i ((s.m.getD a.toNat mv0).f==t) (.r a) (.g (.k4 (w6 (a+1))))) .n) (.r (-1)))
def Tz157 (s:Pl) (t:Int):Tr Int ax5 (akh s t) cI.v:=(.g (.k4 0))
def ajW (s:Pl) (t:Int):=Tr.lp (rF s t)
theorem oR {s:Pl}{t:Int}{n:Nat}{l_:ax5}:ajW s t (n+1) l_=(rF s t l_).d (ajW s t n):=rfl
def Ez157 (n:Nat) (s:Pl) (t:Int):=(Tz157 s t).d (ajW s t n)
def ajS (x:Pl×Int×Unit):=Ez157 (x.1.m.length+64) x.1 x.2.1
def wz157:Wk (Pl×Int×Unit) Int ax5 cI.v:=⟨fun x=>akh x.1 x.2.1,uz157,fun x=>Tz157 x.1 x.2.1,fun x=>rF x.1 x.2.1⟩
def Kz157:=aU 126 Tryz.func126 [] noZ ⟨22,(lookA [(2,⟨[1,2,5],[0],1,[],[],[],[]⟩)]),noL,noL⟩ 128 avy cI ajS wz157 (fun x=>x.1.m.length+64)
def Az197:=(Row.cons (Cod.agg rPl) Row.nil)
noncomputable def Tz197 (s:Pl):Tr ((Mv)×(Bool)×Unit) Empty noS (Cod.tup (Row.cons (Cod.agg rMv) (Row.cons cB Row.nil))).v:=(.c avy ajS (s,0,()) fun a=>(.i (decide (a<0)) (.w ((⟨0,0,false,[],[]⟩:Mv),false,()) (.tup [.agg [.int .i64 0,.int .i64 0,.bool false,.str [],.el []],.bool false]) ⟨by kernel_rfl⟩) (.i (inR a s.m.length) (.r ((s.m.getD a.toNat mv0),true,())) .n)))
def Ez197 (s:Pl):=(Tz197 s).d noE
def bjs (x:Pl×Unit):=Ez197 x.1
def wz197:Wk (Pl×Unit) ((Mv)×(Bool)×Unit) Empty (Cod.tup (Row.cons (Cod.agg rMv) (Row.cons cB Row.nil))).v:=wk0 fun x=>Tz197 x.1
def Kz197:=aU 154 Tryz.func154 [Kz157] noZ ⟨15,noL,noL,noL⟩ 128 Az197 (Cod.tup (Row.cons (Cod.agg rMv) (Row.cons cB Row.nil))) bjs wz197 (fun _=>0)
def Az30:=(Row.cons (Cod.agg (Row.cons cI (Row.cons cI Row.nil))) (Row.cons cS Row.nil))
noncomputable def Tz30 (s:(Int)×(Int)×Unit) (t:List Nat):Tr (List Nat) Empty noS cS.v:=(.i (s.1==4) (.r [87]) (.i (s.2.1==3) (.r [75]) (.i (!decide (t=[])) (.i (inR (w6 (((t.length:Nat):Int)-1)) t.length) (.i (((t.getD (w6 (((t.length:Nat):Int)-1)).toNat 0:Nat):Int)==88) (.i (decide ((0:Int)≤(w6 (((t.length:Nat):Int)-1)))&&decide ((w6 (((t.length:Nat):Int)-1))≤((t.length:Nat):Int))) (.r ((t.take t.length).drop ((w6 (((t.length:Nat):Int)-1)).toNat))) .n) (.i (inR (w6 (((t.length:Nat):Int)-1)) t.length) (.i (((t.getD (w6 (((t.length:Nat):Int)-1)).toNat 0:Nat):Int)==72) (.i (decide ((0:Int)≤(w6 (((t.length:Nat):Int)-1)))&&decide ((w6 (((t.length:Nat):Int)-1))≤((t.length:Nat):Int))) (.r ((t.take t.length).drop ((w6 (((t.length:Nat):Int)-1)).toNat))) .n) (.r [])) .n)) .n) (.r []))))
def Ez30 (s:(Int)×(Int)×Unit) (t:List Nat):=(Tz30 s t).d noE
def Sz30 (x:((Int)×(Int)×Unit)×(List Nat)×Unit):=Ez30 x.1 x.2.1
def wz30:Wk (((Int)×(Int)×Unit)×(List Nat)×Unit) (List Nat) Empty cS.v:=wk0 fun x=>Tz30 x.1 x.2.1
def Kz30:=aU 156 Tryz.func156 [] noZ ⟨34,noL,noL,noL⟩ 128 Az30 cS Sz30 wz30 (fun _=>0)
def Az198:=(Row.cons cS (Row.cons cS Row.nil))
noncomputable def Tz198 (s:List Nat) (t:List Nat):Tr Bool Empty noS cB.v:=(.i (decide (s=[88])) (.i (decide (t=[88])) (.r true) (.r (decide (t=[89])))) (.i (decide (s=[])) (.i (decide (t=[])) (.r true) (.i (decide (t=[73])) (.r true) (.r (decide (t=[78]))))) (.r (decide (t=s)))))
def Ez198 (s:List Nat) (t:List Nat):=(Tz198 s t).d noE
def Sz198 (x:(List Nat)×(List Nat)×Unit):=Ez198 x.1 x.2.1
def wz198:Wk ((List Nat)×(List Nat)×Unit) Bool Empty cB.v:=wk0 fun x=>Tz198 x.1 x.2.1
def Kz198:=aU 155 Tryz.func155 [] noZ ⟨29,noL,noL,noL⟩ 128 Az198 cB Sz198 wz198 (fun _=>0)
def Az83:=(Row.cons cS (Row.cons cU8 Row.nil))
inductive Lz83 where
 | k4 (a:Int)
def uz83:Lz83→Nat
 | .k4 _=>4
def sLz83 (s:List Nat) (t:Int):Lz83→D
 | .k4 a=>mD [(0,.str s),(1,.int .u8 t),(5,.int .i64 a)] 0 [] 128 []
noncomputable def ajC (s:List Nat) (t:Int):(l_:Lz83)→Tr Bool Lz83 (sLz83 s t) cB.v
 | .k4 a=>(.i (decide (a<((s.length:Nat):Int))) (.i (inR a s.length) (.i (((s.getD a.toNat 0:Nat):Int)==t) (.r true) (.g (.k4 (w6 (a+1))))) .n) (.r false))
def Tz83 (s:List Nat) (t:Int):Tr Bool Lz83 (sLz83 s t) cB.v:=(.g (.k4 0))
def bqI (s:List Nat) (t:Int):=Tr.lp (ajC s t)
theorem uZ {s:List Nat}{t:Int}{n:Nat}{l_:Lz83}:bqI s t (n+1) l_=(ajC s t l_).d (bqI s t n):=rfl
def Ez83 (n:Nat) (s:List Nat) (t:Int):=(Tz83 s t).d (bqI s t n)
def Sz83 (x:(List Nat)×Int×Unit):=Ez83 (x.1.length+64) x.1 x.2.1
def wz83:Wk ((List Nat)×Int×Unit) Bool Lz83 cB.v:=⟨fun x=>sLz83 x.1 x.2.1,uz83,fun x=>Tz83 x.1 x.2.1,fun x=>ajC x.1 x.2.1⟩
def Kz83:=aU 115 Tryz.func115 [] noZ ⟨17,(lookA [(2,⟨[0,1,5],[],0,[],[],[],[]⟩)]),noL,noL⟩ 128 Az83 cB Sz83 wz83 (fun x=>x.1.length+64)
def j9:=(Row.cons (Cod.agg rMv) (Row.cons cB (Row.cons cS Row.nil)))
def Tz200 (s:Mv) (t:Bool) (u:List Nat):Tr Bool Empty noS cB.v:=(.i (s.o==t) (.i (inR 0 s.h.length) (.c Az83 Sz83 (u,((s.h.getD 0 0:Nat):Int),()) fun a=>(.r a)) .n) (.r false))
def Ez200 (s:Mv) (t:Bool) (u:List Nat):=(Tz200 s t u).d noE
def gV (x:Mv×Bool×(List Nat)×Unit):=Ez200 x.1 x.2.1 x.2.2.1
def wz200:Wk (Mv×Bool×(List Nat)×Unit) Bool Empty cB.v:=wk0 fun x=>Tz200 x.1 x.2.1 x.2.2.1
def bxW:=aU 158 Tryz.func158 [Kz83] noZ ⟨18,noL,noL,noL⟩ 128 j9 cB gV wz200 (fun _=>0)
def Az199:=(Row.cons cS (Row.cons (Cod.agg rMv) Row.nil))
noncomputable def Tz199 (s:List Nat) (t:Mv):Tr Bool Empty noS cB.v:=(.i (decide (s=[75])) (.c j9 gV (t,true,[107,102,103],()) fun a=>(.i a (.r true) (.c j9 gV (t,false,[112,116],()) fun b=>(.r b)))) (.i (decide (s=[87])) (.c j9 gV (t,false,[97],()) fun d=>(.i d (.r (t.t==1)) (.r false))) (.i (decide (s=[72])) (.c j9 gV (t,false,[97],()) fun e=>(.i e (.r (t.t==1)) (.r false))) (.i (decide (s=[73])) (.c j9 gV (t,false,[97],()) fun f=>(.i f (.r (t.t==1)) (.r false))) (.i (decide (s=[88])) (.c j9 gV (t,false,[98,116,111],()) fun g=>(.i g (.r true) (.c j9 gV (t,true,[102,99,103],()) fun h=>(.r h)))) (.i (decide (s=[78])) (.c j9 gV (t,true,[110],()) fun j=>(.r j)) (.c j9 gV (t,true,[121],()) fun k=>(.r k))))))))
def Ez199 (s:List Nat) (t:Mv):=(Tz199 s t).d noE
def Sz199 (x:(List Nat)×Mv×Unit):=Ez199 x.1 x.2.1
def wz199:Wk ((List Nat)×Mv×Unit) Bool Empty cB.v:=wk0 fun x=>Tz199 x.1 x.2.1
def Kz199:=aU 157 Tryz.func157 [bxW] noZ ⟨39,noL,noL,noL⟩ 128 Az199 cB Sz199 wz199 (fun _=>0)
def bqU:=(Row.cons (Cod.agg rPl) Row.nil)
inductive Lz59 where
 | k6 (a b:Int)
def uz59:Lz59→Nat
 | .k6 _ _=>6
def sLz59 (s:Pl):Lz59→D
 | .k6 a b=>mD [(1,.ptr 0 0),(3,.int .i64 a),(4,.int .i64 b)] 1 [(0,.row ⟨(rPl.v s),48,false⟩)] 128 []
noncomputable def ajD (s:Pl):(l_:Lz59)→Tr Int Lz59 (sLz59 s) cI.v
 | .k6 a b=>(.i (decide (b<((s.m.length:Nat):Int))) (.i (inR b s.m.length) (.i ((s.m.getD b.toNat mv0).o) (.g (.k6 (w6 (a+1)) (w6 (b+1)))) (.g (.k6 a (w6 (b+1))))) .n) (.r a))
def Tz59 (s:Pl):Tr Int Lz59 (sLz59 s) cI.v:=(.g (.k6 0 0))
def bqK (s:Pl):=Tr.lp (ajD s)
theorem u7 {s:Pl}{n:Nat}{l_:Lz59}:bqK s (n+1) l_=(ajD s l_).d (bqK s n):=rfl
def Ez59 (n:Nat) (s:Pl):=(Tz59 s).d (bqK s n)
def ajQ (x:Pl×Unit):=Ez59 (x.1.m.length+64) x.1
def wz59:Wk (Pl×Unit) Int Lz59 cI.v:=⟨fun x=>sLz59 x.1,uz59,fun x=>Tz59 x.1,fun x=>ajD x.1⟩
def Kz59:=aU 36 Tryz.func36 [] noZ ⟨21,(lookA [(3,⟨[1,3,4],[0],1,[],[],[],[]⟩)]),noL,noL⟩ 128 bqU cI ajQ wz59 (fun x=>x.1.m.length+64)
def Az155:=(Row.cons (Cod.agg rSt) (Row.cons (Cod.agg rPl) Row.nil))
def Tz155 (s:St) (t:Pl):Tr Bool Empty noS cB.v:=(.c bqU ajQ (t,()) fun a=>(.r ((w6 (s.outs+a))==3)))
def Ez155 (s:St) (t:Pl):=(Tz155 s t).d noE
def bjw (x:St×Pl×Unit):=Ez155 x.1 x.2.1
def wz155:Wk (St×Pl×Unit) Bool Empty cB.v:=wk0 fun x=>Tz155 x.1 x.2.1
def Kz155:=aU 124 Tryz.func124 [Kz59] noZ ⟨11,noL,noL,noL⟩ 128 Az155 cB bjw wz155 (fun _=>0)
def Az201:=(Row.cons (Cod.agg rPl) Row.nil)
inductive ax4 where
 | k6 (a b:Int)
def uz201:ax4→Nat
 | .k6 _ _=>6
def akg (s:Pl):ax4→D
 | .k6 a b=>mD [(1,.ptr 0 0),(3,.int .i64 a),(4,.int .i64 b)] 1 [(0,.row ⟨(rPl.v s),48,false⟩)] 128 []
noncomputable def rE (s:Pl):(l_:ax4)→Tr Int ax4 (akg s) cI.v
 | .k6 a b=>(.i (decide (b<((s.m.length:Nat):Int))) (.i (inR b s.m.length) (.i (!(s.m.getD b.toNat mv0).o) (.i (inR b s.m.length) (.i ((s.m.getD b.toNat mv0).t==4) (.g (.k6 (w6 (a+1)) (w6 (b+1)))) (.g (.k6 a (w6 (b+1))))) .n) (.g (.k6 a (w6 (b+1))))) .n) (.r a))
def Tz201 (s:Pl):Tr Int ax4 (akg s) cI.v:=(.g (.k6 0 0))
def ajU (s:Pl):=Tr.lp (rE s)
theorem oQ {s:Pl}{n:Nat}{l_:ax4}:ajU s (n+1) l_=(rE s l_).d (ajU s n):=rfl
def Ez201 (n:Nat) (s:Pl):=(Tz201 s).d (ajU s n)
def Sz201 (x:Pl×Unit):=Ez201 (x.1.m.length+64) x.1
def wz201:Wk (Pl×Unit) Int ax4 cI.v:=⟨fun x=>akg x.1,uz201,fun x=>Tz201 x.1,fun x=>rE x.1⟩
def Kz201:=aU 159 Tryz.func159 [] noZ ⟨31,(lookA [(3,⟨[1,3,4],[0],1,[],[],[],[]⟩)]),noL,noL⟩ 128 Az201 cI Sz201 wz201 (fun x=>x.1.m.length+64)
def Az25:=(Row.cons (Cod.agg rSt) Row.nil)
inductive Lz25 where
 | k6 (a:Int)(b c d e:Bool)
def uz25:Lz25→Nat
 | .k6 _ _ _ _ _=>6
noncomputable def sLz25 (s:St):Lz25→D
 | .k6 a b c d e=>mD [(1,.ptr 0 0),(2,.ptr 1 0),(3,.ptr 2 0),(4,.int .i64 a)] 3 [(0,.row ⟨(rSt.v s),78,false⟩),(1,.row ⟨[.bool false,.bool false,.bool false,.bool false],72,false⟩),(2,.row ⟨[.bool c,.bool b,.bool e,.bool d],72,false⟩)] 128 []
noncomputable def bjl (s:St):(l_:Lz25)→Tr ((Bool)×(Bool)×(Bool)×(Bool)×Unit) Lz25 (sLz25 s) (Cod.agg (Row.cons cB (Row.cons cB (Row.cons cB (Row.cons cB Row.nil))))).v
 | .k6 a b c d e=>(.i (decide (a<4)) (.i ((w6 (a-1))==0) (.i c (.i ((w6 (a-1))==0) (.i (a==0) (.g (.k6 (w6 (a+1)) b (!(s.b1==0)) d e)) (.i (a==1) (.g (.k6 (w6 (a+1)) (!(s.b1==0)) c d e)) (.i (a==2) (.g (.k6 (w6 (a+1)) b c d (!(s.b1==0)))) (.i (a==3) (.g (.k6 (w6 (a+1)) b c (!(s.b1==0)) e)) .n)))) (.i ((w6 (a-1))==1) (.i (a==0) (.g (.k6 (w6 (a+1)) b (!(s.b2==0)) d e)) (.i (a==1) (.g (.k6 (w6 (a+1)) (!(s.b2==0)) c d e)) (.i (a==2) (.g (.k6 (w6 (a+1)) b c d (!(s.b2==0)))) (.i (a==3) (.g (.k6 (w6 (a+1)) b c (!(s.b2==0)) e)) .n)))) (.i ((w6 (a-1))==2) (.i (a==0) (.g (.k6 (w6 (a+1)) b (!(s.b3==0)) d e)) (.i (a==1) (.g (.k6 (w6 (a+1)) (!(s.b3==0)) c d e)) (.i (a==2) (.g (.k6 (w6 (a+1)) b c d (!(s.b3==0)))) (.i (a==3) (.g (.k6 (w6 (a+1)) b c (!(s.b3==0)) e)) .n)))) .n))) (.i (a==0) (.g (.k6 (w6 (a+1)) b false d e)) (.i (a==1) (.g (.k6 (w6 (a+1)) false c d e)) (.i (a==2) (.g (.k6 (w6 (a+1)) b c d false)) (.i (a==3) (.g (.k6 (w6 (a+1)) b c false e)) .n))))) (.i ((w6 (a-1))==1) (.i b (.i ((w6 (a-1))==0) (.i (a==0) (.g (.k6 (w6 (a+1)) b (!(s.b1==0)) d e)) (.i (a==1) (.g (.k6 (w6 (a+1)) (!(s.b1==0)) c d e)) (.i (a==2) (.g (.k6 (w6 (a+1)) b c d (!(s.b1==0)))) (.i (a==3) (.g (.k6 (w6 (a+1)) b c (!(s.b1==0)) e)) .n)))) (.i ((w6 (a-1))==1) (.i (a==0) (.g (.k6 (w6 (a+1)) b (!(s.b2==0)) d e)) (.i (a==1) (.g (.k6 (w6 (a+1)) (!(s.b2==0)) c d e)) (.i (a==2) (.g (.k6 (w6 (a+1)) b c d (!(s.b2==0)))) (.i (a==3) (.g (.k6 (w6 (a+1)) b c (!(s.b2==0)) e)) .n)))) (.i ((w6 (a-1))==2) (.i (a==0) (.g (.k6 (w6 (a+1)) b (!(s.b3==0)) d e)) (.i (a==1) (.g (.k6 (w6 (a+1)) (!(s.b3==0)) c d e)) (.i (a==2) (.g (.k6 (w6 (a+1)) b c d (!(s.b3==0)))) (.i (a==3) (.g (.k6 (w6 (a+1)) b c (!(s.b3==0)) e)) .n)))) .n))) (.i (a==0) (.g (.k6 (w6 (a+1)) b false d e)) (.i (a==1) (.g (.k6 (w6 (a+1)) false c d e)) (.i (a==2) (.g (.k6 (w6 (a+1)) b c d false)) (.i (a==3) (.g (.k6 (w6 (a+1)) b c false e)) .n))))) (.i ((w6 (a-1))==2) (.i e (.i ((w6 (a-1))==0) (.i (a==0) (.g (.k6 (w6 (a+1)) b (!(s.b1==0)) d e)) (.i (a==1) (.g (.k6 (w6 (a+1)) (!(s.b1==0)) c d e)) (.i (a==2) (.g (.k6 (w6 (a+1)) b c d (!(s.b1==0)))) (.i (a==3) (.g (.k6 (w6 (a+1)) b c (!(s.b1==0)) e)) .n)))) (.i ((w6 (a-1))==1) (.i (a==0) (.g (.k6 (w6 (a+1)) b (!(s.b2==0)) d e)) (.i (a==1) (.g (.k6 (w6 (a+1)) (!(s.b2==0)) c d e)) (.i (a==2) (.g (.k6 (w6 (a+1)) b c d (!(s.b2==0)))) (.i (a==3) (.g (.k6 (w6 (a+1)) b c (!(s.b2==0)) e)) .n)))) (.i ((w6 (a-1))==2) (.i (a==0) (.g (.k6 (w6 (a+1)) b (!(s.b3==0)) d e)) (.i (a==1) (.g (.k6 (w6 (a+1)) (!(s.b3==0)) c d e)) (.i (a==2) (.g (.k6 (w6 (a+1)) b c d (!(s.b3==0)))) (.i (a==3) (.g (.k6 (w6 (a+1)) b c (!(s.b3==0)) e)) .n)))) .n))) (.i (a==0) (.g (.k6 (w6 (a+1)) b false d e)) (.i (a==1) (.g (.k6 (w6 (a+1)) false c d e)) (.i (a==2) (.g (.k6 (w6 (a+1)) b c d false)) (.i (a==3) (.g (.k6 (w6 (a+1)) b c false e)) .n))))) (.i ((w6 (a-1))==3) (.i d (.i ((w6 (a-1))==0) (.i (a==0) (.g (.k6 (w6 (a+1)) b (!(s.b1==0)) d e)) (.i (a==1) (.g (.k6 (w6 (a+1)) (!(s.b1==0)) c d e)) (.i (a==2) (.g (.k6 (w6 (a+1)) b c d (!(s.b1==0)))) (.i (a==3) (.g (.k6 (w6 (a+1)) b c (!(s.b1==0)) e)) .n)))) (.i ((w6 (a-1))==1) (.i (a==0) (.g (.k6 (w6 (a+1)) b (!(s.b2==0)) d e)) (.i (a==1) (.g (.k6 (w6 (a+1)) (!(s.b2==0)) c d e)) (.i (a==2) (.g (.k6 (w6 (a+1)) b c d (!(s.b2==0)))) (.i (a==3) (.g (.k6 (w6 (a+1)) b c (!(s.b2==0)) e)) .n)))) (.i ((w6 (a-1))==2) (.i (a==0) (.g (.k6 (w6 (a+1)) b (!(s.b3==0)) d e)) (.i (a==1) (.g (.k6 (w6 (a+1)) (!(s.b3==0)) c d e)) (.i (a==2) (.g (.k6 (w6 (a+1)) b c d (!(s.b3==0)))) (.i (a==3) (.g (.k6 (w6 (a+1)) b c (!(s.b3==0)) e)) .n)))) .n))) (.i (a==0) (.g (.k6 (w6 (a+1)) b false d e)) (.i (a==1) (.g (.k6 (w6 (a+1)) false c d e)) (.i (a==2) (.g (.k6 (w6 (a+1)) b c d false)) (.i (a==3) (.g (.k6 (w6 (a+1)) b c false e)) .n))))) .n)))) (.r (c,b,e,d,())))
def Tz25 (s:St):Tr ((Bool)×(Bool)×(Bool)×(Bool)×Unit) Lz25 (sLz25 s) (Cod.agg (Row.cons cB (Row.cons cB (Row.cons cB (Row.cons cB Row.nil))))).v:=(.g (.k6 1 false true false false))
def bx2 (s:St):=Tr.lp (bjl s)
theorem Ez25J_s {s:St}{n:Nat}{l_:Lz25}:bx2 s (n+1) l_=(bjl s l_).d (bx2 s n):=rfl
def Ez25 (n:Nat) (s:St):=(Tz25 s).d (bx2 s n)
def Sz25 (x:St×Unit):=Ez25 64 x.1
def wz25:Wk (St×Unit) ((Bool)×(Bool)×(Bool)×(Bool)×Unit) Lz25 (Cod.agg (Row.cons cB (Row.cons cB (Row.cons cB (Row.cons cB Row.nil))))).v:=⟨fun x=>sLz25 x.1,uz25,fun x=>Tz25 x.1,fun x=>bjl x.1⟩
def Kz25:=aU 161 Tryz.func161 [] noZ ⟨25,(lookA [(3,⟨[1,2,3,4],[0,1,2],3,[],[],[],[]⟩)]),noL,noL⟩ 128 Az25 (Cod.agg (Row.cons cB (Row.cons cB (Row.cons cB (Row.cons cB Row.nil))))) Sz25 wz25 (fun x=>64)
end
end Go.Ev
