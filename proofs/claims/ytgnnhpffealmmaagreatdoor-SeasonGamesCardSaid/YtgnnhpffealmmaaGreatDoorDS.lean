import Derived.Test.YtgnnhpffealmmaaGreatDoorEvE
import Derived.Test.YtgnnhpffealmmaaGreatDoorDBase
import Derived.Test.YtgnnhpffealmmaaGreatDoorOwn
import Derived.Test.YtgnnhpffealmmaaGreatDoorAwk
set_option linter.unusedSimpArgs false
set_option linter.unusedVariables false
namespace Go.Ev
open Go.RowKit Go.Proofs
set_option maxRecDepth 100000
set_option maxHeartbeats 4000000
set_option linter.unusedVariables false
noncomputable section
def Aw4:Row Unit:=Row.nil
def Sw4 (_:Unit):Option Bool:=some true
theorem fnw4:Fn Tryz.prog gT 4 (fOf Aw4 cB Sw4):=fun B0 W0 G a v hF=>fn4 B0 W0 G a v (by
 obtain⟨x,r,rfl,h,rfl⟩:=aq0 hF
 cases h
 rfl)
def Kw4:Con Tryz.prog gT:=Con.of 4 Aw4 cB Sw4 fnw4
def Az5:=(Row.cons (Cod.list gm0 rGm) (Row.cons cI Row.nil))
inductive Lz5 where
 | k8 (x2:Int)
 | k18 (x1:Int) (x3:Int)
def uz5:Lz5→Nat
 | .k8 _=>8
 | .k18 _ _=>18
def sLz5 (s:List (Gm)) (t:Int):Lz5→D
 | .k8 x2=>mD [(0,(Cod.list gm0 rGm).v s),(5,.int .i64 x2)] 0 [] 128 []
 | .k18 x1 x3=>mD [(0,(Cod.list gm0 rGm).v s),(5,.int .i64 x3),(6,.int .i64 x1)] 0 [] 128 []
noncomputable def Tz5J (s:List (Gm)) (t:Int):(l_:Lz5)→Tr Bool Lz5 (sLz5 s t) cB.v
 | .k8 x2=>(.i (decide (x2<((s.length:Nat):Int))) (.i (inR x2 s.length) (.i (decide (60<((((s.getD x2.toNat gm0).n).length:Nat):Int))) (.r false) (.i (inR x2 s.length) (.i (decide (60<((((s.getD x2.toNat gm0).t0).length:Nat):Int))) (.r false) (.i (inR x2 s.length) (.i (decide (60<((((s.getD x2.toNat gm0).t1).length:Nat):Int))) (.r false) (.i (inR x2 s.length) (.i (decide (6<((((s.getD x2.toNat gm0).l).length:Nat):Int))) (.i (inR x2 s.length) (.i (decide (((((s.getD x2.toNat gm0).l).length:Nat):Int)≤60)) (.r false) (.i (inR x2 s.length) (.i (decide (62<((((s.getD x2.toNat gm0).l).length:Nat):Int))) (.r false) (.g (.k18 0 x2))) .n)) .n) (.i (inR x2 s.length) (.i (decide (62<((((s.getD x2.toNat gm0).l).length:Nat):Int))) (.r false) (.g (.k18 0 x2))) .n)) .n)) .n)) .n)) .n) (.r true))
 | .k18 x1 x3=>(.i (inR x3 s.length) (.i (decide (x1<((((s.getD x3.toNat gm0).l).length:Nat):Int))) (.i (inR x3 s.length) (.i (inR x1 (((s.getD x3.toNat gm0).l).length)) (.i (decide (60<((((((s.getD x3.toNat gm0).l).getD x1.toNat ln0).p).length:Nat):Int))) (.r false) (.i (inR x3 s.length) (.i (inR x1 (((s.getD x3.toNat gm0).l).length)) (.i (decide (60<((((((s.getD x3.toNat gm0).l).getD x1.toNat ln0).t).length:Nat):Int))) (.r false) (.g (.k18 (w6 (x1+1)) x3))) .n) .n)) .n) .n) (.g (.k8 (w6 (x3+1))))) .n)
noncomputable def Tz5 (s:List (Gm)) (t:Int):Tr Bool Lz5 (sLz5 s t) cB.v:=(.i (decide (t<((s.length:Nat):Int))) (.i (decide (((s.length:Nat):Int)≤64)) (.r false) (.i (decide (66<((s.length:Nat):Int))) (.r false) (.g (.k8 0)))) (.i (decide (66<((s.length:Nat):Int))) (.r false) (.g (.k8 0))))
def Ez5J (s:List (Gm)) (t:Int):=Tr.lp (Tz5J s t)
theorem xS {s:List (Gm)}{t:Int}{n:Nat}{l_:Lz5}:Ez5J s t (n+1) l_=(Tz5J s t l_).d (Ez5J s t n):=rfl
def Ez5 (n:Nat) (s:List (Gm)) (t:Int):=(Tz5 s t).d (Ez5J s t n)
def Sz5 (x:(List (Gm))×Int×Unit):=Ez5 (x.1.length*64+64) x.1 x.2.1
def wz5:Wk ((List (Gm))×Int×Unit) Bool Lz5 cB.v:=⟨fun x=>sLz5 x.1 x.2.1,uz5,fun x=>Tz5 x.1 x.2.1,fun x=>Tz5J x.1 x.2.1⟩
def Kz5:=eG 5 Tryz.func5 [] noZ ⟨115,(lookA [(4,⟨[0,5],[],0,[],[],[],[]⟩),(9,⟨[0,5,6],[],0,[],[],[],[]⟩)]),noL,noL⟩ 128 Az5 cB Sz5 wz5 (fun x=>x.1.length*64+64)
def Af136:=(Row.cons cI (Row.cons cI (Row.cons cI Row.nil)))
def axS (s:Int) (t:Int) (u:Int):Tr Bool Empty noS cB.v:=(.i (decide (t≤s)) (.r (decide (s≤u))) (.r false))
def Ef136 (s:Int) (t:Int) (u:Int):=(axS s t u).d noE
def Sf136 (x:Int×Int×Int×Unit):=Ef136 x.1 x.2.1 x.2.2.1
def wf136:Wk (Int×Int×Int×Unit) Bool Empty cB.v:=wk0 fun x=>axS x.1 x.2.1 x.2.2.1
def Kf136:=eG 106 Tryz.func106 [] noZ ⟨15,noL,noL,noL⟩ 128 Af136 cB Sf136 wf136 (fun _=>0)
def Az130:=(Row.cons (cInt .i32) Row.nil)
def axJ (s:Int):Tr Bool Empty noS cB.v:=(.i (decide (97≤s)) (.r (decide (s≤122))) (.r false))
def Ez130 (s:Int):=(axJ s).d noE
def Sz130 (x:Int×Unit):=Ez130 x.1
def wz130:Wk (Int×Unit) Bool Empty cB.v:=wk0 fun x=>axJ x.1
def Kz130:=eG 130 Tryz.func130 [] noZ ⟨9,noL,noL,noL⟩ 128 Az130 cB Sz130 wz130 (fun _=>0)
def Az108:=(Row.cons (cInt .i32) Row.nil)
def axR (s:Int):Tr Bool Empty noS cB.v:=(.c Az130 Sz130 (s,()) fun r2=>(.i r2 (.r true) (.i (decide (65≤s)) (.r (decide (s≤90))) (.r false))))
def Ez108 (s:Int):=(axR s).d noE
def Sz108 (x:Int×Unit):=Ez108 x.1
def wz108:Wk (Int×Unit) Bool Empty cB.v:=wk0 fun x=>axR x.1
def Kz108:=eG 108 Tryz.func108 [Kz130] noZ ⟨13,noL,noL,noL⟩ 128 Az108 cB Sz108 wz108 (fun _=>0)
def Az109:=(Row.cons (cInt .i32) Row.nil)
def axQ (s:Int):Tr Bool Empty noS cB.v:=(.i (decide (48≤s)) (.r (decide (s≤57))) (.r false))
def Ez109 (s:Int):=(axQ s).d noE
def Sz109 (x:Int×Unit):=Ez109 x.1
def wz109:Wk (Int×Unit) Bool Empty cB.v:=wk0 fun x=>axQ x.1
def Kz109:=eG 109 Tryz.func109 [] noZ ⟨9,noL,noL,noL⟩ 128 Az109 cB Sz109 wz109 (fun _=>0)
def Az73:=(Row.cons cS Row.nil)
inductive Lz73 where
 | k8 (x4:Nat)
def uz73:Lz73→Nat
 | .k8 _=>8
def sLz73 (s:List Nat):Lz73→D
 | .k8 x4=>mD [(10,.ptr 0 0)] 1 [(0,.iter s x4)] 128 []
noncomputable def vW (s:List Nat):(l_:Lz73)→Tr Bool Lz73 (sLz73 s) cB.v
 | .k8 x4=>(.i (Nat.blt x4 s.length) (.c Az108 Sz108 ((((jW s x4).1:Nat):Int),()) fun r9=>(.i (!r9) (.i (((x4:Nat):Int)==0) (.r false) (.c Az109 Sz109 ((((jW s x4).1:Nat):Int),()) fun r10=>(.i (!r10) (.i (!((((jW s x4).1:Nat):Int)==95)) (.r false) (.g (.k8 (x4+(jW s x4).2)))) (.g (.k8 (x4+(jW s x4).2)))))) (.g (.k8 (x4+(jW s x4).2))))) (.r true))
def Tz73 (s:List Nat):Tr Bool Lz73 (sLz73 s) cB.v:=(.c Af136 Sf136 (((s.length:Nat):Int),1,24,()) fun r8=>(.i (!r8) (.r false) (.g (.k8 0))))
def Ez73J (s:List Nat):=Tr.lp (vW s)
def Ez73 (n:Nat) (s:List Nat):=(Tz73 s).d (Ez73J s n)
def Sz73 (x:(List Nat)×Unit):=Ez73 (x.1.length+64) x.1
def wz73:Wk ((List Nat)×Unit) Bool Lz73 cB.v:=⟨fun x=>sLz73 x.1,uz73,fun x=>Tz73 x.1,fun x=>vW x.1⟩
def Kz73:=eG 73 Tryz.func73 [Kf136,Kz108,Kz109] noZ ⟨31,(lookA [(4,⟨[10],[0],1,[],[],[],[]⟩)]),noL,noL⟩ 128 Az73 cB Sz73 wz73 (fun x=>x.1.length+64)
def Az36:=(Row.cons (Cod.list [] fM) Row.nil)
inductive Lz36 where
 | k4 (x2:Int)
def uz36:Lz36→Nat
 | .k4 _=>4
def sLz36 (s:List (List Nat)):Lz36→D
 | .k4 x2=>mD [(5,(Cod.list [] fM).v s),(6,.int .i64 ((s.length:Nat):Int)),(7,.int .i64 x2)] 0 [] 128 []
noncomputable def y9 (s:List (List Nat)):(l_:Lz36)→Tr Int Lz36 (sLz36 s) cI.v
 | .k4 x2=>(.i (decide (x2<((s.length:Nat):Int))) (.i (inR x2 s.length) (.c Az73 Sz73 ((s.getD x2.toNat []),()) fun r4=>(.i (!r4) (.r 8) (.g (.k4 (w6 (x2+1)))))) .n) (.r 0))
def Tz36 (s:List (List Nat)):Tr Int Lz36 (sLz36 s) cI.v:=(.g (.k4 0))
def Ez36J (s:List (List Nat)):=Tr.lp (y9 s)
def Ez36 (n:Nat) (s:List (List Nat)):=(Tz36 s).d (Ez36J s n)
def Sz36 (x:(List (List Nat))×Unit):=Ez36 (x.1.length+64) x.1
def wz36:Wk ((List (List Nat))×Unit) Int Lz36 cI.v:=⟨fun x=>sLz36 x.1,uz36,fun x=>Tz36 x.1,fun x=>y9 x.1⟩
def Kz36:=eG 36 Tryz.func36 [Kz73] noZ ⟨15,(lookA [(2,⟨[5,6,7],[],0,[],[],[],[]⟩)]),noL,noL⟩ 128 Az36 cI Sz36 wz36 (fun x=>x.1.length+64)
def Az74:=(Row.cons cI (Row.cons cI (Row.cons cI Row.nil)))
def Tz74 (s:Int) (t:Int) (u:Int):Tr Bool Empty noS cB.v:=(.i (decide (t≤s)) (.r (decide (s≤u))) (.r false))
def Ez74 (s:Int) (t:Int) (u:Int):=(Tz74 s t u).d noE
def Sz74 (x:Int×Int×Int×Unit):=Ez74 x.1 x.2.1 x.2.2.1
def wz74:Wk (Int×Int×Int×Unit) Bool Empty cB.v:=wk0 fun x=>Tz74 x.1 x.2.1 x.2.2.1
def Kz74:=eG 74 Tryz.func74 [] noZ ⟨15,noL,noL,noL⟩ 128 Az74 cB Sz74 wz74 (fun _=>0)
def Az37:=(Row.cons cI (Row.cons cI (Row.cons (Cod.list 0 ax8) Row.nil)))
inductive Lz37 where
 | k4 (x2:Int)
def uz37:Lz37→Nat
 | .k4 _=>4
def sLz37 (s:Int) (t:Int) (u:List (Int)):Lz37→D
 | .k4 x2=>mD [(0,.int .i64 s),(1,.int .i64 t),(9,(Cod.list 0 ax8).v u),(10,.int .i64 ((u.length:Nat):Int)),(11,.int .i64 x2)] 0 [] 128 []
noncomputable def y8 (s:Int) (t:Int) (u:List (Int)):(l_:Lz37)→Tr Int Lz37 (sLz37 s t u) cI.v
 | .k4 x2=>(.i (decide (x2<((u.length:Nat):Int))) (.i (inR x2 u.length) (.c Az74 Sz74 ((u.getD x2.toNat 0),s,t,()) fun r4=>(.i (!r4) (.r 3) (.g (.k4 (w6 (x2+1)))))) .n) (.r 0))
def Tz37 (s:Int) (t:Int) (u:List (Int)):Tr Int Lz37 (sLz37 s t u) cI.v:=(.g (.k4 0))
def Ez37J (s:Int) (t:Int) (u:List (Int)):=Tr.lp (y8 s t u)
def Ez37 (n:Nat) (s:Int) (t:Int) (u:List (Int)):=(Tz37 s t u).d (Ez37J s t u n)
def Sz37 (x:Int×Int×(List (Int))×Unit):=Ez37 (x.2.2.1.length+64) x.1 x.2.1 x.2.2.1
def wz37:Wk (Int×Int×(List (Int))×Unit) Int Lz37 cI.v:=⟨fun x=>sLz37 x.1 x.2.1 x.2.2.1,uz37,fun x=>Tz37 x.1 x.2.1 x.2.2.1,fun x=>y8 x.1 x.2.1 x.2.2.1⟩
def Kz37:=eG 37 Tryz.func37 [Kz74] noZ ⟨21,(lookA [(2,⟨[0,1,9,10,11],[],0,[],[],[],[]⟩)]),noL,noL⟩ 128 Az37 cI Sz37 wz37 (fun x=>x.2.2.1.length+64)
def Az38:=(Row.cons (Cod.agg (Row.cons cS (Row.cons cS Row.nil))) Row.nil)
def Tz38 (s:(List Nat)×(List Nat)×Unit):Tr Int Empty noS cI.v:=(.i (decide (s.1=s.2.1)) (.r 9) (.r 0))
def Ez38 (s:(List Nat)×(List Nat)×Unit):=(Tz38 s).d noE
def Sz38 (x:((List Nat)×(List Nat)×Unit)×Unit):=Ez38 x.1
def wz38:Wk (((List Nat)×(List Nat)×Unit)×Unit) Int Empty cI.v:=wk0 fun x=>Tz38 x.1
def Kz38:=eG 38 Tryz.func38 [] noZ ⟨8,noL,noL,noL⟩ 128 Az38 cI Sz38 wz38 (fun _=>0)
def Az131:=(Row.cons (Cod.list [] fM) (Row.cons cS Row.nil))
inductive vZ where
 | k4 (x1:Int)
def uz131:vZ→Nat
 | .k4 _=>4
def zT (s:List (List Nat)) (t:List Nat):vZ→D
 | .k4 x1=>mD [(0,(Cod.list [] fM).v s),(1,.str t),(7,.int .i64 ((s.length:Nat):Int)),(8,.int .i64 x1)] 0 [] 128 []
noncomputable def p6 (s:List (List Nat)) (t:List Nat):(l_:vZ)→Tr Int vZ (zT s t) cI.v
 | .k4 x1=>(.i (decide (x1<((s.length:Nat):Int))) (.i (inR x1 s.length) (.i (decide (t=(s.getD x1.toNat []))) (.r x1) (.g (.k4 (w6 (x1+1))))) .n) (.r (-1)))
def Tz131 (s:List (List Nat)) (t:List Nat):Tr Int vZ (zT s t) cI.v:=(.g (.k4 0))
def ajQ (s:List (List Nat)) (t:List Nat):=Tr.lp (p6 s t)
theorem rU {s:List (List Nat)}{t:List Nat}{n:Nat}{l_:vZ}:ajQ s t (n+1) l_=(p6 s t l_).d (ajQ s t n):=rfl
def Ez131 (n:Nat) (s:List (List Nat)) (t:List Nat):=(Tz131 s t).d (ajQ s t n)
def Sz131 (x:(List (List Nat))×(List Nat)×Unit):=Ez131 (x.1.length+x.2.1.length+64) x.1 x.2.1
def wz131:Wk ((List (List Nat))×(List Nat)×Unit) Int vZ cI.v:=⟨fun x=>zT x.1 x.2.1,uz131,fun x=>Tz131 x.1 x.2.1,fun x=>p6 x.1 x.2.1⟩
def Kz131:=eG 131 Tryz.func131 [] noZ ⟨19,(lookA [(2,⟨[0,1,7,8],[],0,[],[],[],[]⟩)]),noL,noL⟩ 128 Az131 cI Sz131 wz131 (fun x=>x.1.length+x.2.1.length+64)
def Az110:=(Row.cons (Cod.list [] fM) (Row.cons cS Row.nil))
def axO (s:List (List Nat)) (t:List Nat):Tr Bool Empty noS cB.v:=(.c Az131 Sz131 (s,t,()) fun r2=>(.r (decide (0≤r2))))
def Ez110 (s:List (List Nat)) (t:List Nat):=(axO s t).d noE
def Sz110 (x:(List (List Nat))×(List Nat)×Unit):=Ez110 x.1 x.2.1
def wz110:Wk ((List (List Nat))×(List Nat)×Unit) Bool Empty cB.v:=wk0 fun x=>axO x.1 x.2.1
def Kz110:=eG 110 Tryz.func110 [Kz131] noZ ⟨9,noL,noL,noL⟩ 128 Az110 cB Sz110 wz110 (fun _=>0)
def Az75:=(Row.cons (Cod.agg rGm) (Row.cons cS Row.nil))
inductive Lz75 where
 | k3
def uz75:Lz75→Nat
 | .k3=>3
def sLz75 (s:Gm) (t:List Nat):Lz75→D
 | .k3=>mD [(1,.str t),(2,.lptr (rGm.v s) 0)] 0 [] 128 []
def axH (s:Gm) (t:List Nat):(l_:Lz75)→Tr Int Lz75 (sLz75 s t) cI.v
 | .k3=>(.c Az110 Sz110 ([s.t0,s.t1],t,()) fun r2=>(.i (!r2) (.r 10) (.r 0)))
def Tz75 (s:Gm) (t:List Nat):Tr Int Lz75 (sLz75 s t) cI.v:=(.g .k3)
def axX (s:Gm) (t:List Nat):=Tr.lp (axH s t)
theorem Ez75J_s {s:Gm}{t:List Nat}{n:Nat}{l_:Lz75}:axX s t (n+1) l_=(axH s t l_).d (axX s t n):=rfl
def Ez75 (n:Nat) (s:Gm) (t:List Nat):=(Tz75 s t).d (axX s t n)
def Sz75 (x:Gm×(List Nat)×Unit):=Ez75 (x.2.1.length+64) x.1 x.2.1
def wz75:Wk (Gm×(List Nat)×Unit) Int Lz75 cI.v:=⟨fun x=>sLz75 x.1 x.2.1,uz75,fun x=>Tz75 x.1 x.2.1,fun x=>axH x.1 x.2.1⟩
def Kz75:=eG 75 Tryz.func75 [Kz110] noZ ⟨10,noL,(lookA [(1,⟨[1,2],[],0,[],[],[(0,1)],[]⟩)]),noL⟩ 128 Az75 cI Sz75 wz75 (fun x=>x.2.1.length+64)
def Az76:=(Row.cons (Cod.list ln0 rLn) (Row.cons (Cod.agg rLn) Row.nil))
noncomputable def Tz76 (s:List (Ln)) (t:Ln):Tr Int Empty noS cI.v:=(.i (decide (0<((s.length:Nat):Int))) (.i (inR (w6 (((s.length:Nat):Int)-1)) s.length) (.i (!lessL ((s.getD (w6 (((s.length:Nat):Int)-1)).toNat ln0).p) t.p) (.r 11) (.r 0)) .n) (.r 0))
def Ez76 (s:List (Ln)) (t:Ln):=(Tz76 s t).d noE
def Sz76 (x:(List (Ln))×Ln×Unit):=Ez76 x.1 x.2.1
def wz76:Wk ((List (Ln))×Ln×Unit) Int Empty cI.v:=wk0 fun x=>Tz76 x.1 x.2.1
def Kz76:=eG 76 Tryz.func76 [] noZ ⟨21,noL,noL,noL⟩ 128 Az76 cI Sz76 wz76 (fun _=>0)
def Az30:=(Row.cons (Cod.list 0 ax8) Row.nil)
inductive Lz30 where
 | k4 (x1:Int)
def uz30:Lz30→Nat
 | .k4 _=>4
def sLz30 (s:List (Int)):Lz30→D
 | .k4 x1=>mD [(5,(Cod.list 0 ax8).v s),(6,.int .i64 ((s.length:Nat):Int)),(7,.int .i64 x1)] 0 [] 128 []
def zA (s:List (Int)):(l_:Lz30)→Tr Int Lz30 (sLz30 s) cI.v
 | .k4 x1=>(.i (decide (x1<((s.length:Nat):Int))) (.i (inR x1 s.length) (.i (!((s.getD x1.toNat 0)==0)) (.r (s.getD x1.toNat 0)) (.g (.k4 (w6 (x1+1))))) .n) (.r 0))
def Tz30 (s:List (Int)):Tr Int Lz30 (sLz30 s) cI.v:=(.g (.k4 0))
def Ez30J (s:List (Int)):=Tr.lp (zA s)
def Ez30 (n:Nat) (s:List (Int)):=(Tz30 s).d (Ez30J s n)
def Sz30 (x:(List (Int))×Unit):=Ez30 (x.1.length+64) x.1
def wz30:Wk ((List (Int))×Unit) Int Lz30 cI.v:=⟨fun x=>sLz30 x.1,uz30,fun x=>Tz30 x.1,fun x=>zA x.1⟩
def Kz30:=eG 30 Tryz.func30 [] noZ ⟨15,(lookA [(2,⟨[5,6,7],[],0,[],[],[],[]⟩)]),noL,noL⟩ 128 Az30 cI Sz30 wz30 (fun x=>x.1.length+64)
def Az39:=(Row.cons (Cod.agg rGm) Row.nil)
inductive Lz39 where
 | k3
 | k8 (x1:Int) (x8:Int)
 | k13 (x2:Int) (x9:Int) (x10:List Nat) (x11:List Nat) (x12:Int) (x13:Int) (x14:Int) (x15:Int) (x16:Int) (x17:Int) (x18:Int) (x19:Int) (x20:Int) (x21:Int) (x22:Int) (x23:Int) (x24:Int)
def uz39:Lz39→Nat
 | .k3=>3
 | .k8 _ _=>8
 | .k13 _ _ _ _ _ _ _ _ _ _ _ _ _ _ _ _ _=>13
noncomputable def sLz39 (s:Gm):Lz39→D
 | .k3=>mD [(1,.lptr (rGm.v s) 0)] 0 [] 128 []
 | .k8 x1 x8=>mD [(1,.lptr (rGm.v s) 0),(11,(Cod.list ln0 rLn).v s.l),(12,.int .i64 x1),(13,.int .i64 x8)] 0 [] 128 []
 | .k13 x2 x9 x10 x11 x12 x13 x14 x15 x16 x17 x18 x19 x20 x21 x22 x23 x24=>mD [(1,.lptr (rGm.v s) 0),(3,.int .i64 x9),(4,.lptr [.str x10,.str x11,.int .i64 x12,.int .i64 x13,.int .i64 x14,.int .i64 x15,.int .i64 x16,.int .i64 x17,.int .i64 x18,.int .i64 x19,.int .i64 x20,.int .i64 x21,.int .i64 x22,.int .i64 x23] 0),(11,(Cod.list ln0 rLn).v s.l),(12,.int .i64 x2),(13,.int .i64 x24)] 0 [] 128 []
noncomputable def vX (s:Gm):(l_:Lz39)→Tr Int Lz39 (sLz39 s) cI.v
 | .k3=>(.i (decide (60<((s.l.length:Nat):Int))) (.r 5) (.g (.k8 ((s.l.length:Nat):Int) 0)))
 | .k8 x1 x8=>(.i (decide (x8<x1)) (.i (inR x8 s.l.length) (.g (.k13 x1 x8 ((s.l.getD x8.toNat ln0).p) ((s.l.getD x8.toNat ln0).t) (s.l.getD x8.toNat ln0).c0 (s.l.getD x8.toNat ln0).c1 (s.l.getD x8.toNat ln0).c2 (s.l.getD x8.toNat ln0).c3 (s.l.getD x8.toNat ln0).c4 (s.l.getD x8.toNat ln0).c5 (s.l.getD x8.toNat ln0).c6 (s.l.getD x8.toNat ln0).c7 (s.l.getD x8.toNat ln0).c8 (s.l.getD x8.toNat ln0).c9 (s.l.getD x8.toNat ln0).c10 (s.l.getD x8.toNat ln0).c11 x8)) .n) (.r 0))
 | .k13 x2 x9 x10 x11 x12 x13 x14 x15 x16 x17 x18 x19 x20 x21 x22 x23 x24=>(.c Az36 Sz36 ([x10],()) fun r30=>(.c Az75 Sz75 (s,x11,()) fun r31=>(.c Az37 Sz37 (0,999,[x12,x13,x14,x15,x16,x17,x18,x19,x20,x21,x22,x23],()) fun r32=>(.i (decide ((0:Int)≤x9)&&decide (x9≤((s.l.length:Nat):Int))) (.v Az76 Sz76 [.fl 14 (x9.toNat-0) fun i=>rLn.v (s.l.getD (0+i) ln0),.agg [.str x10,.str x11,.int .i64 x12,.int .i64 x13,.int .i64 x14,.int .i64 x15,.int .i64 x16,.int .i64 x17,.int .i64 x18,.int .i64 x19,.int .i64 x20,.int .i64 x21,.int .i64 x22,.int .i64 x23]] fun r33=>(.c Az30 Sz30 ([r30,r31,r32,r33],()) fun r34=>(.i (!(r34==0)) (.r r34) (.g (.k8 x2 (w6 (x24+1))))))) .n))))
def Tz39 (s:Gm):Tr Int Lz39 (sLz39 s) cI.v:=(.g .k3)
def axY (s:Gm):=Tr.lp (vX s)
theorem rT {s:Gm}{n:Nat}{l_:Lz39}:axY s (n+1) l_=(vX s l_).d (axY s n):=rfl
def Ez39 (n:Nat) (s:Gm):=(Tz39 s).d (axY s n)
def Sz39 (x:Gm×Unit):=Ez39 (x.1.l.length+x.1.l.length+64) x.1
def wz39:Wk (Gm×Unit) Int Lz39 cI.v:=⟨fun x=>sLz39 x.1,uz39,fun x=>Tz39 x.1,fun x=>vX x.1⟩
noncomputable def Kz39:=eG 39 Tryz.func39 [Kz30,Kz36,Kz37,Kz75,Kz76] noZ ⟨41,(lookA [(4,⟨[1,11,12,13],[],0,[],[],[],[]⟩)]),(lookA [(1,⟨[1],[],0,[],[],[(0,1)],[]⟩),(6,⟨[1,3,4,11,12,13],[],0,[],[],[(0,1)],[]⟩)]),noL⟩ 128 Az39 cI Sz39 wz39 (fun x=>x.1.l.length+x.1.l.length+64)
def Az9:=(Row.cons (Cod.agg rGm) Row.nil)
inductive Lz9 where
 | k3
def uz9:Lz9→Nat
 | .k3=>3
def sLz9 (s:Gm):Lz9→D
 | .k3=>mD [(1,.lptr (rGm.v s) 0)] 0 [] 128 []
noncomputable def Tz9J (s:Gm):(l_:Lz9)→Tr Int Lz9 (sLz9 s) cI.v
 | .k3=>(.c Az36 Sz36 ([s.n],()) fun r9=>(.c Az37 Sz37 (1,999999999,[s.v],()) fun r10=>(.c Az37 Sz37 (0,99999,[s.d],()) fun r11=>(.c Az36 Sz36 ([s.t0,s.t1],()) fun r12=>(.c Az38 Sz38 ((s.t0,s.t1,()),()) fun r13=>(.c Az37 Sz37 (0,999,[s.s0,s.s1],()) fun r14=>(.c Az39 Sz39 (s,()) fun r15=>(.c Az30 Sz30 ([r9,r10,r11,r12,r13,r14,r15],()) fun r16=>(.r r16)))))))))
def Tz9 (s:Gm):Tr Int Lz9 (sLz9 s) cI.v:=(.g .k3)
def Ez9J (s:Gm):=Tr.lp (Tz9J s)
theorem Ez9J_s {s:Gm}{n:Nat}{l_:Lz9}:Ez9J s (n+1) l_=(Tz9J s l_).d (Ez9J s n):=rfl
def Ez9 (n:Nat) (s:Gm):=(Tz9 s).d (Ez9J s n)
def Sz9 (x:Gm×Unit):=Ez9 64 x.1
def wz9:Wk (Gm×Unit) Int Lz9 cI.v:=⟨fun x=>sLz9 x.1,uz9,fun x=>Tz9 x.1,fun x=>Tz9J x.1⟩
def Kz9:=eG 9 Tryz.func9 [Kz30,Kz36,Kz37,Kz38,Kz39] noZ ⟨28,noL,(lookA [(1,⟨[1],[],0,[],[],[(0,1)],[]⟩)]),noL⟩ 128 Az9 cI Sz9 wz9 (fun x=>64)
def Az85:=(Row.cons (Cod.agg rGm) (Row.cons (Cod.ptr (Row.cons cS Row.nil)) Row.nil))
def Tz85 (s:Gm) (t:(List Nat)×Unit):Tr Bool Empty noS cB.v:=(.r (decide (s.n=t.1)))
def Ez85 (s:Gm) (t:(List Nat)×Unit):=(Tz85 s t).d noE
def Sz85 (x:Gm×((List Nat)×Unit)×Unit):=Ez85 x.1 x.2.1
def wz85:Wk (Gm×((List Nat)×Unit)×Unit) Bool Empty cB.v:=wk0 fun x=>Tz85 x.1 x.2.1
def Kz85:=eG 85 Tryz.func85 [] noZ ⟨8,noL,noL,noL⟩ 128 Az85 cB Sz85 wz85 (fun _=>0)
def ajS:=(Row.cons (Cod.list gm0 rGm) (Row.cons (Cod.fn 85 (Row.cons (Cod.ptr (Row.cons cS Row.nil)) Row.nil)) Row.nil))
inductive jB where
 | k4 (x2:Int)
def uz84f85:jB→Nat
 | .k4 _=>4
def qD (s:List (Gm)) (t:((List Nat)×Unit)×Unit):jB→D
 | .k4 x2=>mD [(0,(Cod.list gm0 rGm).v s),(1,.fn 85 [.lptr [.str t.1.1] 0]),(7,.int .i64 ((s.length:Nat):Int)),(8,.int .i64 x2)] 0 [] 128 []
noncomputable def kD (s:List (Gm)) (t:((List Nat)×Unit)×Unit):(l_:jB)→Tr Int jB (qD s t) cI.v
 | .k4 x2=>(.i (decide (x2<((s.length:Nat):Int))) (.i (inR x2 s.length) (.c Az85 Sz85 ((s.getD x2.toNat gm0),(t.1.1,()),()) fun r4=>(.i r4 (.r x2) (.g (.k4 (w6 (x2+1)))))) .n) (.r (-1)))
def vV (s:List (Gm)) (t:((List Nat)×Unit)×Unit):Tr Int jB (qD s t) cI.v:=(.g (.k4 0))
def mZ (s:List (Gm)) (t:((List Nat)×Unit)×Unit):=Tr.lp (kD s t)
theorem p7 {s:List (Gm)}{t:((List Nat)×Unit)×Unit}{n:Nat}{l_:jB}:mZ s t (n+1) l_=(kD s t l_).d (mZ s t n):=rfl
def v6 (n:Nat) (s:List (Gm)) (t:((List Nat)×Unit)×Unit):=(vV s t).d (mZ s t n)
def vY (x:(List (Gm))×(((List Nat)×Unit)×Unit)×Unit):=v6 (x.1.length+64) x.1 x.2.1
def wz84f85:Wk ((List (Gm))×(((List Nat)×Unit)×Unit)×Unit) Int jB cI.v:=⟨fun x=>qD x.1 x.2.1,uz84f85,fun x=>vV x.1 x.2.1,fun x=>kD x.1 x.2.1⟩
def Kz84f85:=eG 84 Tryz.func84 [Kz85] noZ ⟨19,(lookA [(2,⟨[0,1,7,8],[],0,[],[],[],[]⟩)]),noL,noL⟩ 128 ajS cI vY wz84f85 (fun x=>x.1.length+64)
def Az48:=(Row.cons (Cod.agg rBk) (Row.cons cS Row.nil))
inductive Lz48 where
 | k3
def uz48:Lz48→Nat
 | .k3=>3
def sLz48 (s:Bk) (t:List Nat):Lz48→D
 | .k3=>mD [(2,.lptr [(Cod.list gm0 rGm).v s.g] 0),(3,.lptr [.str t] 0)] 0 [] 128 []
def axI (s:Bk) (t:List Nat):(l_:Lz48)→Tr Int Lz48 (sLz48 s t) cI.v
 | .k3=>(.c ajS vY (s.g,((t,()),()),()) fun r2=>(.r r2))
def Tz48 (s:Bk) (t:List Nat):Tr Int Lz48 (sLz48 s t) cI.v:=(.g .k3)
def Ez48J (s:Bk) (t:List Nat):=Tr.lp (axI s t)
theorem Ez48J_s {s:Bk}{t:List Nat}{n:Nat}{l_:Lz48}:Ez48J s t (n+1) l_=(axI s t l_).d (Ez48J s t n):=rfl
def Ez48 (n:Nat) (s:Bk) (t:List Nat):=(Tz48 s t).d (Ez48J s t n)
def Sz48 (x:Bk×(List Nat)×Unit):=Ez48 (x.2.1.length+64) x.1 x.2.1
def wz48:Wk (Bk×(List Nat)×Unit) Int Lz48 cI.v:=⟨fun x=>sLz48 x.1 x.2.1,uz48,fun x=>Tz48 x.1 x.2.1,fun x=>axI x.1 x.2.1⟩
def Kz48:=eG 48 Tryz.func48 [Kz84f85] noZ ⟨9,noL,(lookA [(1,⟨[2,3],[],0,[],[],[(0,1),(1,1)],[]⟩)]),noL⟩ 128 Az48 cI Sz48 wz48 (fun x=>x.2.1.length+64)
def Az31:=(Row.cons (Cod.agg rBk) (Row.cons cS Row.nil))
def Tz31 (s:Bk) (t:List Nat):Tr Int Empty noS cI.v:=(.c Az48 Sz48 (s,t,()) fun r2=>(.i (decide (0≤r2)) (.r 9) (.r 0)))
def Ez31 (s:Bk) (t:List Nat):=(Tz31 s t).d noE
def Sz31 (x:Bk×(List Nat)×Unit):=Ez31 x.1 x.2.1
def wz31:Wk (Bk×(List Nat)×Unit) Int Empty cI.v:=wk0 fun x=>Tz31 x.1 x.2.1
def Kz31:=eG 31 Tryz.func31 [Kz48] noZ ⟨9,noL,noL,noL⟩ 128 Az31 cI Sz31 wz31 (fun _=>0)
def Az118:=(Row.cons cI Row.nil)
def axK (s:Int):Tr Bool Empty noS cB.v:=(.r (!(s==s)))
def Ez118 (s:Int):=(axK s).d noE
def axT (x:Int×Unit):=Ez118 x.1
def wz118:Wk (Int×Unit) Bool Empty cB.v:=wk0 fun x=>axK x.1
def Kz118:=eG 118 Tryz.func118 [] noZ ⟨6,noL,noL,noL⟩ 128 Az118 cB axT wz118 (fun _=>0)
def Az91:=(Row.cons cI (Row.cons cI Row.nil))
def Tz91 (s:Int) (t:Int):Tr Int Empty noS cI.v:=(.c Az118 axT (s,()) fun r3=>(.c Az118 axT (t,()) fun r4=>(.i r3 (.i r4 (.r 0) (.r (-1))) (.i r4 (.r 1) (.i (decide (s<t)) (.r (-1)) (.i (decide (t<s)) (.r 1) (.r 0)))))))
def Ez91 (s:Int) (t:Int):=(Tz91 s t).d noE
def Sz91 (x:Int×Int×Unit):=Ez91 x.1 x.2.1
def wz91:Wk (Int×Int×Unit) Int Empty cI.v:=wk0 fun x=>Tz91 x.1 x.2.1
def Kz91:=eG 91 Tryz.func91 [Kz118] noZ ⟨20,noL,noL,noL⟩ 128 Az91 cI Sz91 wz91 (fun _=>0)
def Az115:=(Row.cons cS Row.nil)
def axL (s:List Nat):Tr Bool Empty noS cB.v:=(.r (!decide (s=s)))
def Ez115 (s:List Nat):=(axL s).d noE
def axU (x:(List Nat)×Unit):=Ez115 x.1
def wz115:Wk ((List Nat)×Unit) Bool Empty cB.v:=wk0 fun x=>axL x.1
def Kz115:=eG 115 Tryz.func115 [] noZ ⟨6,noL,noL,noL⟩ 128 Az115 cB axU wz115 (fun _=>0)
def Az82:=(Row.cons cS (Row.cons cS Row.nil))
noncomputable def Tz82 (s:List Nat) (t:List Nat):Tr Int Empty noS cI.v:=(.c Az115 axU (s,()) fun r3=>(.c Az115 axU (t,()) fun r4=>(.i r3 (.i r4 (.r 0) (.r (-1))) (.i r4 (.r 1) (.i (lessL s t) (.r (-1)) (.i (!(lessL s t||decide (s=t))) (.r 1) (.r 0)))))))
def Ez82 (s:List Nat) (t:List Nat):=(Tz82 s t).d noE
def Sz82 (x:(List Nat)×(List Nat)×Unit):=Ez82 x.1 x.2.1
def wz82:Wk ((List Nat)×(List Nat)×Unit) Int Empty cI.v:=wk0 fun x=>Tz82 x.1 x.2.1
def Kz82:=eG 82 Tryz.func82 [Kz115] noZ ⟨20,noL,noL,noL⟩ 128 Az82 cI Sz82 wz82 (fun _=>0)
def Az95:=(Row.cons (Cod.list 0 ax8) Row.nil)
inductive Lz95 where
 | k6 (x1:Int)
def uz95:Lz95→Nat
 | .k6 _=>6
def sLz95 (s:List (Int)):Lz95→D
 | .k6 x1=>mD [(3,.int .i64 0),(6,(Cod.list 0 ax8).v s),(7,.int .i64 ((s.length:Nat):Int)),(8,.int .i64 x1)] 0 [] 128 []
def y6 (s:List (Int)):(l_:Lz95)→Tr Int Lz95 (sLz95 s) cI.v
 | .k6 x1=>(.i (decide (x1<((s.length:Nat):Int))) (.i (inR x1 s.length) (.i (!((s.getD x1.toNat 0)==0)) (.r (s.getD x1.toNat 0)) (.g (.k6 (w6 (x1+1))))) .n) (.r 0))
def Tz95 (s:List (Int)):Tr Int Lz95 (sLz95 s) cI.v:=(.g (.k6 0))
def Ez95J (s:List (Int)):=Tr.lp (y6 s)
def Ez95 (n:Nat) (s:List (Int)):=(Tz95 s).d (Ez95J s n)
def Sz95 (x:(List (Int))×Unit):=Ez95 (x.1.length+64) x.1
def wz95:Wk ((List (Int))×Unit) Int Lz95 cI.v:=⟨fun x=>sLz95 x.1,uz95,fun x=>Tz95 x.1,fun x=>y6 x.1⟩
def Kz95:=eG 95 Tryz.func95 [] noZ ⟨18,(lookA [(3,⟨[3,6,7,8],[],0,[],[],[],[]⟩)]),noL,noL⟩ 128 Az95 cI Sz95 wz95 (fun x=>x.1.length+64)
def Az72:=(Row.cons (Cod.agg rGm) (Row.cons (Cod.agg rGm) Row.nil))
def Tz72 (s:Gm) (t:Gm):Tr Int Empty noS cI.v:=(.c Az91 Sz91 (s.d,t.d,()) fun r4=>(.c Az82 Sz82 (s.n,t.n,()) fun r5=>(.c Az95 Sz95 ([r4,r5],()) fun r6=>(.r r6))))
def Ez72 (s:Gm) (t:Gm):=(Tz72 s t).d noE
def Sz72 (x:Gm×Gm×Unit):=Ez72 x.1 x.2.1
def wz72:Wk (Gm×Gm×Unit) Int Empty cI.v:=wk0 fun x=>Tz72 x.1 x.2.1
def Kz72:=eG 72 Tryz.func72 [Kz82,Kz91,Kz95] noZ ⟨17,noL,noL,noL⟩ 128 Az72 cI Sz72 wz72 (fun _=>0)
def Az32:=(Row.cons (Cod.agg rBk) (Row.cons (Cod.agg rGm) Row.nil))
noncomputable def Tz32 (s:Bk) (t:Gm):Tr Int Empty noS cI.v:=(.i (decide (0<((s.g.length:Nat):Int))) (.i (inR (w6 (((s.g.length:Nat):Int)-1)) s.g.length) (.c Az72 Sz72 ((s.g.getD (w6 (((s.g.length:Nat):Int)-1)).toNat gm0),t,()) fun r2=>(.i (decide (0≤r2)) (.r 11) (.r 0))) .n) (.r 0))
def Ez32 (s:Bk) (t:Gm):=(Tz32 s t).d noE
def Sz32 (x:Bk×Gm×Unit):=Ez32 x.1 x.2.1
def wz32:Wk (Bk×Gm×Unit) Int Empty cI.v:=wk0 fun x=>Tz32 x.1 x.2.1
def Kz32:=eG 32 Tryz.func32 [Kz72] noZ ⟨22,noL,noL,noL⟩ 128 Az32 cI Sz32 wz32 (fun _=>0)
def Az6:=(Row.cons (Cod.agg rBk) Row.nil)
inductive Lz6 where
 | k3
 | k8 (x1:Int) (x7:Int)
 | k15 (x2:Int) (x8:List Nat) (x9:Int) (x10:Int) (x11:List Nat) (x12:List Nat) (x13:Int) (x14:Int) (x15:List (Ln)) (x16:Nat) (x17:Int)
def uz6:Lz6→Nat
 | .k3=>3
 | .k8 _ _=>8
 | .k15 _ _ _ _ _ _ _ _ _ _ _=>15
noncomputable def sLz6 (s:Bk):Lz6→D
 | .k3=>mD [(1,.lptr [(Cod.list gm0 rGm).v s.g] 0)] 0 [] 128 []
 | .k8 x1 x7=>mD [(1,.lptr [(Cod.list gm0 rGm).v s.g] 0),(12,(Cod.list gm0 rGm).v s.g),(13,.int .i64 x1),(14,.int .i64 x7)] 0 [] 128 []
 | .k15 x2 x8 x9 x10 x11 x12 x13 x14 x15 x16 x17=>mD [(1,.lptr [(Cod.list gm0 rGm).v s.g] 0),(4,.lptr [.str x8,.int .i64 x9,.int .i64 x10,.str x11,.str x12,.int .i64 x13,.int .i64 x14,(Cod.list ln0 rLn).v x15] 0),(5,.lptr [.fl 8 x16 fun i=>rGm.v (s.g.getD (0+i) gm0)] 0),(12,(Cod.list gm0 rGm).v s.g),(13,.int .i64 x2),(14,.int .i64 x17)] 0 [] 128 []
noncomputable def Tz6J (s:Bk):(l_:Lz6)→Tr Int Lz6 (sLz6 s) cI.v
 | .k3=>(.i (decide (64<((s.g.length:Nat):Int))) (.r 5) (.g (.k8 ((s.g.length:Nat):Int) 0)))
 | .k8 x1 x7=>(.i (decide (x7<x1)) (.i (inR x7 s.g.length) (.i (decide ((0:Int)≤x7)&&decide (x7≤((s.g.length:Nat):Int))) (.g (.k15 x1 ((s.g.getD x7.toNat gm0).n) (s.g.getD x7.toNat gm0).v (s.g.getD x7.toNat gm0).d ((s.g.getD x7.toNat gm0).t0) ((s.g.getD x7.toNat gm0).t1) (s.g.getD x7.toNat gm0).s0 (s.g.getD x7.toNat gm0).s1 ((s.g.getD x7.toNat gm0).l) (x7.toNat-0) x7)) .n) .n) (.r 0))
 | .k15 x2 x8 x9 x10 x11 x12 x13 x14 x15 x16 x17=>(.c Az9 Sz9 ((⟨x8,x9,x10,x11,x12,x13,x14,x15⟩:Gm),()) fun r22=>(.v Az31 Sz31 [.agg [.fl 8 x16 fun i=>rGm.v (s.g.getD (0+i) gm0)],.str x8] fun r23=>(.v Az32 Sz32 [.agg [.fl 8 x16 fun i=>rGm.v (s.g.getD (0+i) gm0)],.agg [.str x8,.int .i64 x9,.int .i64 x10,.str x11,.str x12,.int .i64 x13,.int .i64 x14,(Cod.list ln0 rLn).v x15]] fun r24=>(.c Az30 Sz30 ([r22,r23,r24],()) fun r25=>(.i (!(r25==0)) (.r r25) (.g (.k8 x2 (w6 (x17+1)))))))))
def Tz6 (s:Bk):Tr Int Lz6 (sLz6 s) cI.v:=(.g .k3)
def Ez6J (s:Bk):=Tr.lp (Tz6J s)
theorem xR {s:Bk}{n:Nat}{l_:Lz6}:Ez6J s (n+1) l_=(Tz6J s l_).d (Ez6J s n):=rfl
def Ez6 (n:Nat) (s:Bk):=(Tz6 s).d (Ez6J s n)
def Sz6 (x:Bk×Unit):=Ez6 (x.1.g.length+x.1.g.length+64) x.1
def wz6:Wk (Bk×Unit) Int Lz6 cI.v:=⟨fun x=>sLz6 x.1,uz6,fun x=>Tz6 x.1,fun x=>Tz6J x.1⟩
noncomputable def Kz6:=eG 6 Tryz.func6 [Kz9,Kz30,Kz31,Kz32] noZ ⟨39,(lookA [(4,⟨[1,12,13,14],[],0,[],[],[],[]⟩)]),(lookA [(1,⟨[1],[],0,[],[],[(0,1)],[]⟩),(7,⟨[1,4,5,12,13,14],[],0,[],[],[(0,1),(1,1)],[]⟩)]),noL⟩ 128 Az6 cI Sz6 wz6 (fun x=>x.1.g.length+x.1.g.length+64)
def Az111:=(Row.cons cU8 Row.nil)
def axN (s:Int):Tr Bool Empty noS cB.v:=(.i (decide (65≤s)) (.i (decide (s≤90)) (.r true) (.i (decide (97≤s)) (.r (decide (s≤122))) (.r false))) (.i (decide (97≤s)) (.r (decide (s≤122))) (.r false)))
def Ez111 (s:Int):=(axN s).d noE
def axV (x:Int×Unit):=Ez111 x.1
def wz111:Wk (Int×Unit) Bool Empty cB.v:=wk0 fun x=>axN x.1
def Kz111:=eG 111 Tryz.func111 [] noZ ⟨17,noL,noL,noL⟩ 128 Az111 cB axV wz111 (fun _=>0)
def Az112:=(Row.cons cU8 Row.nil)
def axM (s:Int):Tr Bool Empty noS cB.v:=(.i (decide (48≤s)) (.r (decide (s≤57))) (.r false))
def Ez112 (s:Int):=(axM s).d noE
def Sz112 (x:Int×Unit):=Ez112 x.1
def wz112:Wk (Int×Unit) Bool Empty cB.v:=wk0 fun x=>axM x.1
def Kz112:=eG 112 Tryz.func112 [] noZ ⟨9,noL,noL,noL⟩ 128 Az112 cB Sz112 wz112 (fun _=>0)
def Az77:=(Row.cons cS Row.nil)
inductive Lz77 where
 | k8 (x4:Int)
def uz77:Lz77→Nat
 | .k8 _=>8
def sLz77 (s:List Nat):Lz77→D
 | .k8 x4=>mD [(0,.str s),(3,.int .i64 x4)] 0 [] 128 []
noncomputable def y7 (s:List Nat):(l_:Lz77)→Tr Bool Lz77 (sLz77 s) cB.v
 | .k8 x4=>(.i (decide (x4<((s.length:Nat):Int))) (.i (inR x4 s.length) (.c Az111 axV (((s.getD x4.toNat 0:Nat):Int),()) fun r9=>(.i (!r9) (.i (inR x4 s.length) (.c Az112 Sz112 (((s.getD x4.toNat 0:Nat):Int),()) fun r10=>(.i (!r10) (.i (inR x4 s.length) (.i (!(((s.getD x4.toNat 0:Nat):Int)==95)) (.r false) (.g (.k8 (w6 (x4+1))))) .n) (.g (.k8 (w6 (x4+1)))))) .n) (.g (.k8 (w6 (x4+1)))))) .n) (.r true))
noncomputable def Tz77 (s:List Nat):Tr Bool Lz77 (sLz77 s) cB.v:=(.i (((s.length:Nat):Int)==0) (.r false) (.i (decide (24<((s.length:Nat):Int))) (.r false) (.i (inR 0 s.length) (.c Az111 axV (((s.getD 0 0:Nat):Int),()) fun r8=>(.i (!r8) (.r false) (.g (.k8 0)))) .n)))
def Ez77J (s:List Nat):=Tr.lp (y7 s)
def Ez77 (n:Nat) (s:List Nat):=(Tz77 s).d (Ez77J s n)
def Sz77 (x:(List Nat)×Unit):=Ez77 (x.1.length+64) x.1
def wz77:Wk ((List Nat)×Unit) Bool Lz77 cB.v:=⟨fun x=>sLz77 x.1,uz77,fun x=>Tz77 x.1,fun x=>y7 x.1⟩
def Kz77:=eG 77 Tryz.func77 [Kz111,Kz112] noZ ⟨42,(lookA [(4,⟨[0,3],[],0,[],[],[],[]⟩)]),noL,noL⟩ 128 Az77 cB Sz77 wz77 (fun x=>x.1.length+64)
def Az41:=(Row.cons cS Row.nil)
def Tz41 (s:List Nat):Tr Int Empty noS cI.v:=(.c Az77 Sz77 (s,()) fun r2=>(.i (!r2) (.r 8) (.r 0)))
def Ez41 (s:List Nat):=(Tz41 s).d noE
def Sz41 (x:(List Nat)×Unit):=Ez41 x.1
def wz41:Wk ((List Nat)×Unit) Int Empty cI.v:=wk0 fun x=>Tz41 x.1
def Kz41:=eG 41 Tryz.func41 [Kz77] noZ ⟨6,noL,noL,noL⟩ 128 Az41 cI Sz41 wz41 (fun _=>0)
def t6:=(Row.cons cI (Row.cons cI (Row.cons cI Row.nil)))
def Tf64 (s:Int) (t:Int) (u:Int):Tr Int Empty noS cI.v:=(.i (decide (s<t)) (.r 3) (.i (decide (u<s)) (.r 3) (.r 0)))
def Ef64 (s:Int) (t:Int) (u:Int):=(Tf64 s t u).d noE
def rW (x:Int×Int×Int×Unit):=Ef64 x.1 x.2.1 x.2.2.1
def wf64:Wk (Int×Int×Int×Unit) Int Empty cI.v:=wk0 fun x=>Tf64 x.1 x.2.1 x.2.2.1
def Kf64:=eG 42 Tryz.func42 [] noZ ⟨15,noL,noL,noL⟩ 128 t6 cI rW wf64 (fun _=>0)
def Af65:=(Row.cons (Cod.list 0 ax8) Row.nil)
inductive Lf65 where
 | k4 (x1:Int)
def uf65:Lf65→Nat
 | .k4 _=>4
def sLf65 (s:List (Int)):Lf65→D
 | .k4 x1=>mD [(0,(Cod.list 0 ax8).v s),(3,.int .i64 x1)] 0 [] 128 []
noncomputable def zB (s:List (Int)):(l_:Lf65)→Tr Int Lf65 (sLf65 s) cI.v
 | .k4 x1=>(.i (decide (x1<((s.length:Nat):Int))) (.i (inR x1 s.length) (.i (!((s.getD x1.toNat 0)==0)) (.i (inR x1 s.length) (.r (s.getD x1.toNat 0)) .n) (.g (.k4 (w6 (x1+1))))) .n) (.r 0))
def Tf65 (s:List (Int)):Tr Int Lf65 (sLf65 s) cI.v:=(.g (.k4 0))
def Ef65J (s:List (Int)):=Tr.lp (zB s)
def Ef65 (n:Nat) (s:List (Int)):=(Tf65 s).d (Ef65J s n)
def Sf65 (x:(List (Int))×Unit):=Ef65 (x.1.length+64) x.1
def wf65:Wk ((List (Int))×Unit) Int Lf65 cI.v:=⟨fun x=>sLf65 x.1,uf65,fun x=>Tf65 x.1,fun x=>zB x.1⟩
def Kf65:=eG 40 Tryz.func40 [] noZ ⟨19,(lookA [(2,⟨[0,3],[],0,[],[],[],[]⟩)]),noL,noL⟩ 128 Af65 cI Sf65 wf65 (fun x=>x.1.length+64)
def Az43:=(Row.cons (Cod.agg rGm) (Row.cons cI Row.nil))
inductive Lz43 where
 | k16 (x2:Int) (x3:Int) (x4:Int) (x5:Int) (x6:Int) (x7:Int) (x8:Int) (x9:Int) (x10:Int) (x11:Int) (x12:Int) (x13:Int) (x15:Int)
def uz43:Lz43→Nat
 | .k16 _ _ _ _ _ _ _ _ _ _ _ _ _=>16
noncomputable def sLz43 (s:Gm) (t:Int):Lz43→D
 | .k16 x2 x3 x4 x5 x6 x7 x8 x9 x10 x11 x12 x13 x15=>mD [(1,.int .i64 t),(2,.ptr 0 0),(5,.ptr 1 0),(7,.int .i64 x15)] 2 [(0,.row ⟨(rGm.v s),27,false⟩),(1,.row ⟨[.str ((s.l.getD t.toNat ln0).p),.str ((s.l.getD t.toNat ln0).t),.int .i64 x2,.int .i64 x3,.int .i64 x4,.int .i64 x5,.int .i64 x6,.int .i64 x7,.int .i64 x8,.int .i64 x9,.int .i64 x10,.int .i64 x11,.int .i64 x12,.int .i64 x13],86,false⟩)] 128 []
noncomputable def iM (s:Gm) (t:Int):(l_:Lz43)→Tr Int Lz43 (sLz43 s t) cI.v
 | .k16 x2 x3 x4 x5 x6 x7 x8 x9 x10 x11 x12 x13 x15=>(.i (decide (x15<12)) (.i (x15==0) (.c t6 rW (x2,0,999,()) fun r41=>(.i (!(r41==0)) (.r r41) (.g (.k16 x2 x3 x4 x5 x6 x7 x8 x9 x10 x11 x12 x13 (w6 (x15+1)))))) (.i (x15==1) (.c t6 rW (x3,0,999,()) fun r40=>(.i (!(r40==0)) (.r r40) (.g (.k16 x2 x3 x4 x5 x6 x7 x8 x9 x10 x11 x12 x13 (w6 (x15+1)))))) (.i (x15==2) (.c t6 rW (x4,0,999,()) fun r39=>(.i (!(r39==0)) (.r r39) (.g (.k16 x2 x3 x4 x5 x6 x7 x8 x9 x10 x11 x12 x13 (w6 (x15+1)))))) (.i (x15==3) (.c t6 rW (x5,0,999,()) fun r38=>(.i (!(r38==0)) (.r r38) (.g (.k16 x2 x3 x4 x5 x6 x7 x8 x9 x10 x11 x12 x13 (w6 (x15+1)))))) (.i (x15==4) (.c t6 rW (x6,0,999,()) fun r37=>(.i (!(r37==0)) (.r r37) (.g (.k16 x2 x3 x4 x5 x6 x7 x8 x9 x10 x11 x12 x13 (w6 (x15+1)))))) (.i (x15==5) (.c t6 rW (x7,0,999,()) fun r36=>(.i (!(r36==0)) (.r r36) (.g (.k16 x2 x3 x4 x5 x6 x7 x8 x9 x10 x11 x12 x13 (w6 (x15+1)))))) (.i (x15==6) (.c t6 rW (x8,0,999,()) fun r35=>(.i (!(r35==0)) (.r r35) (.g (.k16 x2 x3 x4 x5 x6 x7 x8 x9 x10 x11 x12 x13 (w6 (x15+1)))))) (.i (x15==7) (.c t6 rW (x9,0,999,()) fun r34=>(.i (!(r34==0)) (.r r34) (.g (.k16 x2 x3 x4 x5 x6 x7 x8 x9 x10 x11 x12 x13 (w6 (x15+1)))))) (.i (x15==8) (.c t6 rW (x10,0,999,()) fun r33=>(.i (!(r33==0)) (.r r33) (.g (.k16 x2 x3 x4 x5 x6 x7 x8 x9 x10 x11 x12 x13 (w6 (x15+1)))))) (.i (x15==9) (.c t6 rW (x11,0,999,()) fun r32=>(.i (!(r32==0)) (.r r32) (.g (.k16 x2 x3 x4 x5 x6 x7 x8 x9 x10 x11 x12 x13 (w6 (x15+1)))))) (.i (x15==10) (.c t6 rW (x12,0,999,()) fun r31=>(.i (!(r31==0)) (.r r31) (.g (.k16 x2 x3 x4 x5 x6 x7 x8 x9 x10 x11 x12 x13 (w6 (x15+1)))))) (.i (x15==11) (.c t6 rW (x13,0,999,()) fun r30=>(.i (!(r30==0)) (.r r30) (.g (.k16 x2 x3 x4 x5 x6 x7 x8 x9 x10 x11 x12 x13 (w6 (x15+1)))))) .n)))))))))))) (.i (decide (0<t)) (.i (inR (w6 (t-1)) s.l.length) (.i (lessL ((s.l.getD t.toNat ln0).p) ((s.l.getD (w6 (t-1)).toNat ln0).p)||decide (((s.l.getD t.toNat ln0).p)=((s.l.getD (w6 (t-1)).toNat ln0).p))) (.r 11) (.r 0)) .n) (.r 0)))
noncomputable def Tz43 (s:Gm) (t:Int):Tr Int Lz43 (sLz43 s t) cI.v:=(.i (inR t s.l.length) (.c Az41 Sz41 ((s.l.getD t.toNat ln0).p,()) fun r29=>(.i (!(r29==0)) (.r r29) (.i (!decide (((s.l.getD t.toNat ln0).t)=s.t0)) (.i (!decide (((s.l.getD t.toNat ln0).t)=s.t1)) (.r 10) (.g (.k16 (s.l.getD t.toNat ln0).c0 (s.l.getD t.toNat ln0).c1 (s.l.getD t.toNat ln0).c2 (s.l.getD t.toNat ln0).c3 (s.l.getD t.toNat ln0).c4 (s.l.getD t.toNat ln0).c5 (s.l.getD t.toNat ln0).c6 (s.l.getD t.toNat ln0).c7 (s.l.getD t.toNat ln0).c8 (s.l.getD t.toNat ln0).c9 (s.l.getD t.toNat ln0).c10 (s.l.getD t.toNat ln0).c11 0))) (.g (.k16 (s.l.getD t.toNat ln0).c0 (s.l.getD t.toNat ln0).c1 (s.l.getD t.toNat ln0).c2 (s.l.getD t.toNat ln0).c3 (s.l.getD t.toNat ln0).c4 (s.l.getD t.toNat ln0).c5 (s.l.getD t.toNat ln0).c6 (s.l.getD t.toNat ln0).c7 (s.l.getD t.toNat ln0).c8 (s.l.getD t.toNat ln0).c9 (s.l.getD t.toNat ln0).c10 (s.l.getD t.toNat ln0).c11 0))))) .n)
def cA (s:Gm) (t:Int):=Tr.lp (iM s t)
theorem cZ {s:Gm}{t:Int}{n:Nat}{l_:Lz43}:cA s t (n+1) l_=(iM s t l_).d (cA s t n):=rfl
def Ez43 (n:Nat) (s:Gm) (t:Int):=(Tz43 s t).d (cA s t n)
def Sz43 (x:Gm×Int×Unit):=Ez43 64 x.1 x.2.1
def wz43:Wk (Gm×Int×Unit) Int Lz43 cI.v:=⟨fun x=>sLz43 x.1 x.2.1,uz43,fun x=>Tz43 x.1 x.2.1,fun x=>iM x.1 x.2.1⟩
def Kz43:=eG 43 Tryz.func43 [Kz41,Kf64] noZ ⟨60,(lookA [(8,⟨[1,2,5,7],[0,1],2,[],[],[],[]⟩)]),noL,noL⟩ 128 Az43 cI Sz43 wz43 (fun x=>64)
def Az11:=(Row.cons (Cod.agg rGm) Row.nil)
inductive Lz11 where
 | k24 (x11:Int)
def uz11:Lz11→Nat
 | .k24 _=>24
def sLz11 (s:Gm):Lz11→D
 | .k24 x11=>mD [(1,.ptr 0 0),(5,.int .i64 x11)] 1 [(0,.row ⟨(rGm.v s),27,false⟩)] 128 []
def ajN (s:Gm):(l_:Lz11)→Tr Int Lz11 (sLz11 s) cI.v
 | .k24 x11=>(.i (decide (x11<((s.l.length:Nat):Int))) (.c Az43 Sz43 (s,x11,()) fun r31=>(.i (!(r31==0)) (.r r31) (.g (.k24 (w6 (x11+1)))))) (.r 0))
noncomputable def Tz11 (s:Gm):Tr Int Lz11 (sLz11 s) cI.v:=(.c Az41 Sz41 (s.n,()) fun r22=>(.c t6 rW (s.v,1,999999999,()) fun r23=>(.c t6 rW (s.d,0,99999,()) fun r24=>(.c Az41 Sz41 (s.t0,()) fun r25=>(.c Az41 Sz41 (s.t1,()) fun r26=>(.c Af65 Sf65 ([r22,r23,r24,r25,r26],()) fun r27=>(.i (!(r27==0)) (.r r27) (.i (decide (s.t0=s.t1)) (.r 9) (.c t6 rW (s.s0,0,999,()) fun r28=>(.c t6 rW (s.s1,0,999,()) fun r29=>(.c Af65 Sf65 ([r28,r29],()) fun r30=>(.i (!(r30==0)) (.r r30) (.i (decide (60<((s.l.length:Nat):Int))) (.r 5) (.g (.k24 0)))))))))))))))
def ax0 (s:Gm):=Tr.lp (ajN s)
theorem ajR {s:Gm}{n:Nat}{l_:Lz11}:ax0 s (n+1) l_=(ajN s l_).d (ax0 s n):=rfl
def Ez11 (n:Nat) (s:Gm):=(Tz11 s).d (ax0 s n)
def Sz11 (x:Gm×Unit):=Ez11 (x.1.l.length+64) x.1
def wz11:Wk (Gm×Unit) Int Lz11 cI.v:=⟨fun x=>sLz11 x.1,uz11,fun x=>Tz11 x.1,fun x=>ajN x.1⟩
def Kz11:=eG 11 Tryz.func11 [Kf65,Kz41,Kf64,Kz43] noZ ⟨66,(lookA [(12,⟨[1,5],[0],1,[],[],[],[]⟩)]),noL,noL⟩ 128 Az11 cI Sz11 wz11 (fun x=>x.1.l.length+64)
def Az34:=(Row.cons (Cod.list gm0 rGm) (Row.cons cS Row.nil))
inductive Lz34 where
 | k4 (x1:Int)
def uz34:Lz34→Nat
 | .k4 _=>4
def sLz34 (s:List (Gm)) (t:List Nat):Lz34→D
 | .k4 x1=>mD [(0,(Cod.list gm0 rGm).v s),(1,.str t),(5,.int .i64 x1)] 0 [] 128 []
noncomputable def ajM (s:List (Gm)) (t:List Nat):(l_:Lz34)→Tr Int Lz34 (sLz34 s t) cI.v
 | .k4 x1=>(.i (decide (x1<((s.length:Nat):Int))) (.i (inR x1 s.length) (.i (decide (((s.getD x1.toNat gm0).n)=t)) (.r x1) (.g (.k4 (w6 (x1+1))))) .n) (.r (-1)))
def Tz34 (s:List (Gm)) (t:List Nat):Tr Int Lz34 (sLz34 s t) cI.v:=(.g (.k4 0))
def axZ (s:List (Gm)) (t:List Nat):=Tr.lp (ajM s t)
theorem ajP {s:List (Gm)}{t:List Nat}{n:Nat}{l_:Lz34}:axZ s t (n+1) l_=(ajM s t l_).d (axZ s t n):=rfl
def Ez34 (n:Nat) (s:List (Gm)) (t:List Nat):=(Tz34 s t).d (axZ s t n)
def Sz34 (x:(List (Gm))×(List Nat)×Unit):=Ez34 (x.1.length+x.2.1.length+64) x.1 x.2.1
def wz34:Wk ((List (Gm))×(List Nat)×Unit) Int Lz34 cI.v:=⟨fun x=>sLz34 x.1 x.2.1,uz34,fun x=>Tz34 x.1 x.2.1,fun x=>ajM x.1 x.2.1⟩
def Kz34:=eG 34 Tryz.func34 [] noZ ⟨20,(lookA [(2,⟨[0,1,5],[],0,[],[],[],[]⟩)]),noL,noL⟩ 128 Az34 cI Sz34 wz34 (fun x=>x.1.length+x.2.1.length+64)
def Az35:=(Row.cons (Cod.agg rGm) (Row.cons (Cod.agg rGm) Row.nil))
def Tz35 (s:Gm) (t:Gm):Tr Bool Empty noS cB.v:=(.i (decide (s.d<t.d)) (.r true) (.i (s.d==t.d) (.r (lessL s.n t.n)) (.r false)))
def Ez35 (s:Gm) (t:Gm):=(Tz35 s t).d noE
def Sz35 (x:Gm×Gm×Unit):=Ez35 x.1 x.2.1
def wz35:Wk (Gm×Gm×Unit) Bool Empty cB.v:=wk0 fun x=>Tz35 x.1 x.2.1
def Kz35:=eG 35 Tryz.func35 [] noZ ⟨24,noL,noL,noL⟩ 128 Az35 cB Sz35 wz35 (fun _=>0)
def Az8:=(Row.cons (Cod.list gm0 rGm) Row.nil)
inductive Lz8 where
 | k8 (x3:Int)
def uz8:Lz8→Nat
 | .k8 _=>8
def sLz8 (s:List (Gm)):Lz8→D
 | .k8 x3=>mD [(0,(Cod.list gm0 rGm).v s),(3,.int .i64 x3)] 0 [] 128 []
noncomputable def Tz8J (s:List (Gm)):(l_:Lz8)→Tr Int Lz8 (sLz8 s) cI.v
 | .k8 x3=>(.i (decide (x3<((s.length:Nat):Int))) (.i (inR x3 s.length) (.c Az11 Sz11 ((s.getD x3.toNat gm0),()) fun r7=>(.i (!(r7==0)) (.r r7) (.i (decide ((0:Int)≤x3)&&decide (x3≤((s.length:Nat):Int))) (.i (inR x3 s.length) (.v Az34 Sz34 [.fl 8 (x3.toNat-0) fun i=>rGm.v (s.getD (0+i) gm0),.str ((s.getD x3.toNat gm0).n)] fun r8=>(.i (decide (0≤r8)) (.r 9) (.i (decide (0<x3)) (.i (inR (w6 (x3-1)) s.length) (.i (inR x3 s.length) (.c Az35 Sz35 ((s.getD (w6 (x3-1)).toNat gm0),(s.getD x3.toNat gm0),()) fun r9=>(.i (!r9) (.r 11) (.g (.k8 (w6 (x3+1)))))) .n) .n) (.g (.k8 (w6 (x3+1))))))) .n) .n))) .n) (.r 0))
def Tz8 (s:List (Gm)):Tr Int Lz8 (sLz8 s) cI.v:=(.i (decide (64<((s.length:Nat):Int))) (.r 5) (.g (.k8 0)))
def Ez8J (s:List (Gm)):=Tr.lp (Tz8J s)
theorem axp {s:List (Gm)}{n:Nat}{l_:Lz8}:Ez8J s (n+1) l_=(Tz8J s l_).d (Ez8J s n):=rfl
def Ez8 (n:Nat) (s:List (Gm)):=(Tz8 s).d (Ez8J s n)
def Sz8 (x:(List (Gm))×Unit):=Ez8 (x.1.length+64) x.1
def wz8:Wk ((List (Gm))×Unit) Int Lz8 cI.v:=⟨fun x=>sLz8 x.1,uz8,fun x=>Tz8 x.1,fun x=>Tz8J x.1⟩
def Kz8:=eG 8 Tryz.func8 [Kz11,Kz34,Kz35] noZ ⟨47,(lookA [(4,⟨[0,3],[],0,[],[],[],[]⟩)]),noL,noL⟩ 128 Az8 cI Sz8 wz8 (fun x=>x.1.length+64)
def Az12:=(Row.cons (Cod.list [] fM) (Row.cons (Cod.list [] fM) Row.nil))
inductive Lz12 where
 | k8 (x1:Int)
def uz12:Lz12→Nat
 | .k8 _=>8
def sLz12 (s:List (List Nat)) (t:List (List Nat)):Lz12→D
 | .k8 x1=>mD [(0,(Cod.list [] fM).v s),(1,(Cod.list [] fM).v t),(5,.int .i64 x1)] 0 [] 128 []
noncomputable def Tz12J (s:List (List Nat)) (t:List (List Nat)):(l_:Lz12)→Tr Bool Lz12 (sLz12 s t) cB.v
 | .k8 x1=>(.i (decide (x1<((s.length:Nat):Int))) (.i (inR x1 s.length) (.i (inR x1 t.length) (.i (!decide ((s.getD x1.toNat [])=(t.getD x1.toNat []))) (.r false) (.g (.k8 (w6 (x1+1))))) .n) .n) (.r true))
def Tz12 (s:List (List Nat)) (t:List (List Nat)):Tr Bool Lz12 (sLz12 s t) cB.v:=(.i (!(((s.length:Nat):Int)==((t.length:Nat):Int))) (.r false) (.g (.k8 0)))
def Ez12J (s:List (List Nat)) (t:List (List Nat)):=Tr.lp (Tz12J s t)
def Ez12 (n:Nat) (s:List (List Nat)) (t:List (List Nat)):=(Tz12 s t).d (Ez12J s t n)
def Sz12 (x:(List (List Nat))×(List (List Nat))×Unit):=Ez12 (x.1.length+x.2.1.length+64) x.1 x.2.1
def wz12:Wk ((List (List Nat))×(List (List Nat))×Unit) Bool Lz12 cB.v:=⟨fun x=>sLz12 x.1 x.2.1,uz12,fun x=>Tz12 x.1 x.2.1,fun x=>Tz12J x.1 x.2.1⟩
def Kz12:=eG 12 Tryz.func12 [] noZ ⟨26,(lookA [(4,⟨[0,1,5],[],0,[],[],[],[]⟩)]),noL,noL⟩ 128 Az12 cB Sz12 wz12 (fun x=>x.1.length+x.2.1.length+64)
def Az13:=Row.nil
def Wz13 (r:(List (List Nat))):V:=.el (r.map fM.v)
theorem hWz13 (r:(List (List Nat))):(Wz13 r).c=((Cod.list [] fM).v r).c:=by
 first|rfl|exact fD|(show EVal.tup (V.cs _)=EVal.tup (V.cs _);simp only [V.cs_map,List.map_cons,List.map_nil,fD];rfl)
inductive Lz13 where
 | k6 (x1:Int) (x2:List (List Nat))
def uz13:Lz13→Nat
 | .k6 _ _=>6
def cU (x1:Int) (x2:List (List V)):D:=mD [(1,.gl 128),(4,.agg gK),(5,.int .i64 x1)] 0 [] 129 [(128,(x2,9))]
def iV:Lz13→D
 | .k6 x1 x2=>cU x1 (x2.map fM.v)
noncomputable def Tz13J:(l_:Lz13)→Tr (List (List Nat)) Lz13 (iV) Wz13
 | .k6 x1 x2=>(.i (decide (x1<12)) (.i (x1==0) (.i (Nat.ble (16*(((x2.map fM.v)).length+1)) 1000000) (.j (.k6 (w6 (x1+1)) (x2++[[97,98]])) (cU (w6 (x1+1)) ((x2.map fM.v)++[[.str [97,98]]])) ⟨by simp only [iV,List.map_append,List.map_cons,List.map_nil]<;>rfl⟩) .n) (.i (x1==1) (.i (Nat.ble (16*(((x2.map fM.v)).length+1)) 1000000) (.j (.k6 (w6 (x1+1)) (x2++[[104]])) (cU (w6 (x1+1)) ((x2.map fM.v)++[[.str [104]]])) ⟨by simp only [iV,List.map_append,List.map_cons,List.map_nil]<;>rfl⟩) .n) (.i (x1==2) (.i (Nat.ble (16*(((x2.map fM.v)).length+1)) 1000000) (.j (.k6 (w6 (x1+1)) (x2++[[100]])) (cU (w6 (x1+1)) ((x2.map fM.v)++[[.str [100]]])) ⟨by simp only [iV,List.map_append,List.map_cons,List.map_nil]<;>rfl⟩) .n) (.i (x1==3) (.i (Nat.ble (16*(((x2.map fM.v)).length+1)) 1000000) (.j (.k6 (w6 (x1+1)) (x2++[[116]])) (cU (w6 (x1+1)) ((x2.map fM.v)++[[.str [116]]])) ⟨by simp only [iV,List.map_append,List.map_cons,List.map_nil]<;>rfl⟩) .n) (.i (x1==4) (.i (Nat.ble (16*(((x2.map fM.v)).length+1)) 1000000) (.j (.k6 (w6 (x1+1)) (x2++[[104,114]])) (cU (w6 (x1+1)) ((x2.map fM.v)++[[.str [104,114]]])) ⟨by simp only [iV,List.map_append,List.map_cons,List.map_nil]<;>rfl⟩) .n) (.i (x1==5) (.i (Nat.ble (16*(((x2.map fM.v)).length+1)) 1000000) (.j (.k6 (w6 (x1+1)) (x2++[[114]])) (cU (w6 (x1+1)) ((x2.map fM.v)++[[.str [114]]])) ⟨by simp only [iV,List.map_append,List.map_cons,List.map_nil]<;>rfl⟩) .n) (.i (x1==6) (.i (Nat.ble (16*(((x2.map fM.v)).length+1)) 1000000) (.j (.k6 (w6 (x1+1)) (x2++[[114,98,105]])) (cU (w6 (x1+1)) ((x2.map fM.v)++[[.str [114,98,105]]])) ⟨by simp only [iV,List.map_append,List.map_cons,List.map_nil]<;>rfl⟩) .n) (.i (x1==7) (.i (Nat.ble (16*(((x2.map fM.v)).length+1)) 1000000) (.j (.k6 (w6 (x1+1)) (x2++[[119]])) (cU (w6 (x1+1)) ((x2.map fM.v)++[[.str [119]]])) ⟨by simp only [iV,List.map_append,List.map_cons,List.map_nil]<;>rfl⟩) .n) (.i (x1==8) (.i (Nat.ble (16*(((x2.map fM.v)).length+1)) 1000000) (.j (.k6 (w6 (x1+1)) (x2++[[107]])) (cU (w6 (x1+1)) ((x2.map fM.v)++[[.str [107]]])) ⟨by simp only [iV,List.map_append,List.map_cons,List.map_nil]<;>rfl⟩) .n) (.i (x1==9) (.i (Nat.ble (16*(((x2.map fM.v)).length+1)) 1000000) (.j (.k6 (w6 (x1+1)) (x2++[[115,98]])) (cU (w6 (x1+1)) ((x2.map fM.v)++[[.str [115,98]]])) ⟨by simp only [iV,List.map_append,List.map_cons,List.map_nil]<;>rfl⟩) .n) (.i (x1==10) (.i (Nat.ble (16*(((x2.map fM.v)).length+1)) 1000000) (.j (.k6 (w6 (x1+1)) (x2++[[112,111]])) (cU (w6 (x1+1)) ((x2.map fM.v)++[[.str [112,111]]])) ⟨by simp only [iV,List.map_append,List.map_cons,List.map_nil]<;>rfl⟩) .n) (.i (x1==11) (.i (Nat.ble (16*(((x2.map fM.v)).length+1)) 1000000) (.j (.k6 (w6 (x1+1)) (x2++[[101]])) (cU (w6 (x1+1)) ((x2.map fM.v)++[[.str [101]]])) ⟨by simp only [iV,List.map_append,List.map_cons,List.map_nil]<;>rfl⟩) .n) .n)))))))))))) (.r x2))
def Tz13:Tr (List (List Nat)) Lz13 (iV) Wz13:=(.g (.k6 0 []))
def Ez13J:=Tr.lp (Tz13J)
def Ez13 (n:Nat):=(Tz13).d (Ez13J n)
def Sz13 (x:Unit):=Ez13 64
def wz13:Wk (Unit) (List (List Nat)) Lz13 Wz13:=⟨fun x=>iV,uz13,fun x=>Tz13,fun x=>Tz13J⟩
def Kz13:=eG 13 Tryz.func13 [] noZ ⟨14,(lookA [(3,⟨[1,4,5],[],0,[(1,9)],[128],[],[]⟩)]),noL,noL⟩ 128 Az13 (Cod.list [] fM) Sz13 wz13 (fun x=>64) hWz13
def Az14:=Row.nil
noncomputable def Tz14:Tr (List (List Nat)) Empty noS (Cod.list [] fM).v:=(.w [[97,98],[104],[100],[116],[104,114],[114],[114,98,105],[119],[107],[115,98],[112,111],[101]] (.el [[.str [97,98]],[.str [104]],[.str [100]],[.str [116]],[.str [104,114]],[.str [114]],[.str [114,98,105]],[.str [119]],[.str [107]],[.str [115,98]],[.str [112,111]],[.str [101]]]) ⟨by kernel_rfl⟩)
def Ez14:=(Tz14).d noE
def Sz14 (x:Unit):=Ez14
def wz14:Wk (Unit) (List (List Nat)) Empty (Cod.list [] fM).v:=wk0 fun x=>Tz14
def Kz14:=eG 14 Tryz.func14 [] noZ ⟨2,noL,noL,noL⟩ 128 Az14 (Cod.list [] fM) Sz14 wz14 (fun _=>0)
def Az7:=(Row.cons (Cod.list gm0 rGm) Row.nil)
def Tz7 (s:List (Gm)):Tr Bk Empty noS (Cod.agg rBk).v:=(.c Ah33 Sh33 (s,()) fun r2=>(.r (⟨r2⟩:Bk)))
def Ez7 (s:List (Gm)):=(Tz7 s).d noE
def Sz7 (x:(List (Gm))×Unit):=Ez7 x.1
def wz7:Wk ((List (Gm))×Unit) Bk Empty (Cod.agg rBk).v:=wk0 fun x=>Tz7 x.1
def Kz7:=eG 7 Tryz.func7 [Kh33] noZ ⟨6,noL,noL,noL⟩ 128 Az7 (Cod.agg rBk) Sz7 wz7 (fun _=>0)
def Az10:=(Row.cons (Cod.agg rGm) Row.nil)
inductive Lz10 where
 | k3
def uz10:Lz10→Nat
 | .k3=>3
def sLz10 (s:Gm):Lz10→D
 | .k3=>mD [(1,.lptr (rGm.v s) 0),(2,.ptr 1 0)] 2 [(1,.row ⟨[.str [],.int .i64 0,.int .i64 0,.str [],.str [],.int .i64 0,.int .i64 0,.nils],40,false⟩)] 128 []
def axP (s:Gm):(l_:Lz10)→Tr Gm Lz10 (sLz10 s) (Cod.agg rGm).v
 | .k3=>(.c Ah33 Sh33 ([s],()) fun r2=>(.i (inR 0 r2.length) (.r (r2.getD 0 gm0)) .n))
def Tz10 (s:Gm):Tr Gm Lz10 (sLz10 s) (Cod.agg rGm).v:=(.g .k3)
def Ez10J (s:Gm):=Tr.lp (axP s)
theorem Ez10J_s {s:Gm}{n:Nat}{l_:Lz10}:Ez10J s (n+1) l_=(axP s l_).d (Ez10J s n):=rfl
def Ez10 (n:Nat) (s:Gm):=(Tz10 s).d (Ez10J s n)
def Sz10 (x:Gm×Unit):=Ez10 64 x.1
def wz10:Wk (Gm×Unit) Gm Lz10 (Cod.agg rGm).v:=⟨fun x=>sLz10 x.1,uz10,fun x=>Tz10 x.1,fun x=>axP x.1⟩
def Kz10:=eG 10 Tryz.func10 [Kh33] noZ ⟨8,noL,(lookA [(1,⟨[1,2],[1],2,[],[],[(0,1)],[]⟩)]),noL⟩ 128 Az10 (Cod.agg rGm) Sz10 wz10 (fun x=>64)
def Az3:=(Row.cons (Cod.list gm0 rGm) (Row.cons (Cod.agg rGm) Row.nil))
inductive Lz3 where
 | k3
 | k7
def uz3:Lz3→Nat
 | .k3=>3
 | .k7=>7
def sLz3 (s:List (Gm)) (t:Gm):Lz3→D
 | .k3=>mD [(0,(Cod.list gm0 rGm).v s),(3,.lptr (rGm.v t) 0)] 0 [] 128 []
 | .k7=>mD [(0,(Cod.list gm0 rGm).v s),(3,.lptr (rGm.v t) 0)] 0 [] 128 []
noncomputable def Tz3J (s:List (Gm)) (t:Gm):(l_:Lz3)→Tr Bool Lz3 (sLz3 s t) cB.v
 | .k3=>(.c Aw4 Sw4 (()) fun r16=>(.i (!r16) (.c Aw4 Sw4 (()) fun r17=>(.r r17)) (.c Az5 Sz5 (s,6,()) fun r18=>(.i (!r18) (.c Aw4 Sw4 (()) fun r19=>(.r r19)) (.c Az5 Sz5 ([t],1,()) fun r20=>(.i (!r20) (.c Aw4 Sw4 (()) fun r21=>(.r r21)) (.g .k7)))))))
 | .k7=>(.c Az7 Sz7 (s,()) fun r22=>(.c Az6 Sz6 (r22,()) fun r23=>(.c Az8 Sz8 (s,()) fun r24=>(.i (r23==r24) (.c Az10 Sz10 (t,()) fun r25=>(.c Az9 Sz9 (r25,()) fun r26=>(.c Az11 Sz11 (t,()) fun r27=>(.i (r26==r27) (.c Az13 Sz13 (()) fun r28=>(.c Az14 Sz14 (()) fun r29=>(.c Az12 Sz12 (r28,r29,()) fun r30=>(.r r30)))) (.r false))))) (.r false)))))
def Tz3 (s:List (Gm)) (t:Gm):Tr Bool Lz3 (sLz3 s t) cB.v:=(.g .k3)
def Ez3J (s:List (Gm)) (t:Gm):=Tr.lp (Tz3J s t)
theorem axq {s:List (Gm)}{t:Gm}{n:Nat}{l_:Lz3}:Ez3J s t (n+1) l_=(Tz3J s t l_).d (Ez3J s t n):=rfl
def Ez3 (n:Nat) (s:List (Gm)) (t:Gm):=(Tz3 s t).d (Ez3J s t n)
def Sz3 (x:(List (Gm))×Gm×Unit):=Ez3 (x.1.length+64) x.1 x.2.1
def wz3:Wk ((List (Gm))×Gm×Unit) Bool Lz3 cB.v:=⟨fun x=>sLz3 x.1 x.2.1,uz3,fun x=>Tz3 x.1 x.2.1,fun x=>Tz3J x.1 x.2.1⟩
def Kz3:=eG 3 Tryz.func3 [Kw4,Kz5,Kz6,Kz7,Kz8,Kz9,Kz10,Kz11,Kz12,Kz13,Kz14] noZ ⟨38,noL,(lookA [(1,⟨[0,3],[],0,[],[],[(0,1)],[]⟩),(3,⟨[0,3],[],0,[],[],[],[]⟩)]),noL⟩ 128 Az3 cB Sz3 wz3 (fun x=>x.1.length+64)
end
end Go.Ev
