import Derived.Test.YtkhmgggponmimaaGreatDoorDM0
set_option linter.unusedSimpArgs false
set_option linter.unusedVariables false
namespace Go.Ev
open Go.RowKit Go.Proofs
set_option maxRecDepth 100000
set_option maxHeartbeats 4000000
set_option linter.unusedVariables false
noncomputable section
def Af139:=(Row.cons (azO .i32) Row.nil)
def Tf139 (s:Int):Tr Bool Empty noS cB.v:=(.i (s==88) (.r true) (.r (s==72)))
def Ef139 (s:Int):=(Tf139 s).d noE
def ays (x:Int×Unit):=Ef139 x.1
def wf139:Wk (Int×Unit) Bool Empty cB.v:=wk0 fun x=>Tf139 x.1
def Kf139:=aP 34 Tryz.func34 [] noZ ⟨9,noL,noL,noL⟩ 128 Af139 cB ays wf139 (fun _=>0)
def Af193:=(Row.cons cS Row.nil)
inductive azE where
 | k8 (x3:Nat)
def uf193:azE→Nat
 | .k8 _=>8
def avD (s:List Nat):azE→D
 | .k8 x3=>mD [(0,.str s),(9,.ptr 0 0)] 1 [(0,.iter s x3)] 128 []
noncomputable def uK (s:List Nat):(l_:azE)→Tr Int azE (avD s) cI.v
 | .k8 x3=>(.i (Nat.blt x3 s.length) (.c A137 S137 ((((gM s x3).1:Nat):Int),()) fun r6=>(.i (!r6) (.r 14) (.c Af139 ays ((((gM s x3).1:Nat):Int),()) fun r7=>(.i r7 (.i (decide (((x3:Nat):Int)<(w6 (((s.length:Nat):Int)-1)))) (.r 14) (.g (.k8 (x3+(gM s x3).2)))) (.g (.k8 (x3+(gM s x3).2))))))) (.r 0))
def Tf193 (s:List Nat):Tr Int azE (avD s) cI.v:=(.i (decide (24<((s.length:Nat):Int))) (.r 5) (.g (.k8 0)))
def Ef193J (s:List Nat):=Tr.lp (uK s)
def Ef193 (n:Nat) (s:List Nat):=(Tf193 s).d (Ef193J s n)
def Sf193 (x:(List Nat)×Unit):=Ef193 (x.1.length+64) x.1
def wf193:Wk ((List Nat)×Unit) Int azE cI.v:=⟨fun x=>avD x.1,uf193,fun x=>Tf193 x.1,fun x=>uK x.1⟩
def Kf193:=aP 48 Tryz.func48 [K137,Kf139] noZ ⟨28,(lookA [(4,⟨[0,9],[0],1,[],[],[],[]⟩)]),noL,noL⟩ 128 Af193 cI Sf193 wf193 (fun x=>x.1.length+64)
def Af215:=(Row.cons cS Row.nil)
def Tf215 (s:List Nat):Tr Bool Empty noS cB.v:=(.i (((s.length:Nat):Int)==1) (.c axT wT ([75,87,72,73,88,78,89],s,()) fun r2=>(.r r2)) (.r false))
def Ef215 (s:List Nat):=(Tf215 s).d noE
def Sf215 (x:(List Nat)×Unit):=Ef215 x.1
def wf215:Wk ((List Nat)×Unit) Bool Empty cB.v:=wk0 fun x=>Tf215 x.1
def Kf215:=aP 80 Tryz.func80 [K181] noZ ⟨10,noL,noL,noL⟩ 128 Af215 cB Sf215 wf215 (fun _=>0)
def Af194:=(Row.cons cS Row.nil)
def Tf194 (s:List Nat):Tr Int Empty noS cI.v:=(.i (!decide (s=[])) (.c Af215 Sf215 (s,()) fun r2=>(.i (!r2) (.r 13) (.r 0))) (.r 0))
def Ef194 (s:List Nat):=(Tf194 s).d noE
def Sf194 (x:(List Nat)×Unit):=Ef194 x.1
def wf194:Wk ((List Nat)×Unit) Int Empty cI.v:=wk0 fun x=>Tf194 x.1
def Kf194:=aP 49 Tryz.func49 [Kf215] noZ ⟨10,noL,noL,noL⟩ 128 Af194 cI Sf194 wf194 (fun _=>0)
def azJ:=(Row.cons cI (Row.cons cI (Row.cons cI Row.nil)))
def Tf136 (s:Int) (t:Int) (u:Int):Tr Bool Empty noS cB.v:=(.i (decide (t≤s)) (.r (decide (s≤u))) (.r false))
def Ef136 (s:Int) (t:Int) (u:Int):=(Tf136 s t u).d noE
def aqw (x:Int×Int×Int×Unit):=Ef136 x.1 x.2.1 x.2.2.1
def wf136:Wk (Int×Int×Int×Unit) Bool Empty cB.v:=wk0 fun x=>Tf136 x.1 x.2.1 x.2.2.1
def ayw:=aP 31 Tryz.func31 [] noZ ⟨15,noL,noL,noL⟩ 128 azJ cB aqw wf136 (fun _=>0)
def Af234:=(Row.cons cI Row.nil)
def Tf234 (s:Int):Tr Int Empty noS cI.v:=(.c azJ aqw (s,0,3,()) fun r2=>(.i (!r2) (.r 3) (.r 0)))
def Ef234 (s:Int):=(Tf234 s).d noE
def Sf234 (x:Int×Unit):=Ef234 x.1
def wf234:Wk (Int×Unit) Int Empty cI.v:=wk0 fun x=>Tf234 x.1
def Kf234:=aP 101 Tryz.func101 [ayw] noZ ⟨6,noL,noL,noL⟩ 128 Af234 cI Sf234 wf234 (fun _=>0)
def Af235:=(Row.cons cI Row.nil)
def Tf235 (s:Int):Tr Int Empty noS cI.v:=(.c azJ aqw (s,1,4,()) fun r2=>(.i (!r2) (.r 3) (.r 0)))
def Ef235 (s:Int):=(Tf235 s).d noE
def Sf235 (x:Int×Unit):=Ef235 x.1
def wf235:Wk (Int×Unit) Int Empty cI.v:=wk0 fun x=>Tf235 x.1
def Kf235:=aP 102 Tryz.func102 [ayw] noZ ⟨6,noL,noL,noL⟩ 128 Af235 cI Sf235 wf235 (fun _=>0)
def Af247:=(Row.cons cB (Row.cons cS Row.nil))
inductive azB where
 | k4_0
 | k4_1
 | k4_2
 | k4_3
 | k4_4
 | k4_5
 | k4_6
 | k4_7
 | k4_8
 | k4_9
 | k4_10
 | k4_11
 | k4_12
 | k4_13
 | k4_14
def uf247:azB→Nat
 | .k4_0=>4
 | .k4_1=>4
 | .k4_2=>4
 | .k4_3=>4
 | .k4_4=>4
 | .k4_5=>4
 | .k4_6=>4
 | .k4_7=>4
 | .k4_8=>4
 | .k4_9=>4
 | .k4_10=>4
 | .k4_11=>4
 | .k4_12=>4
 | .k4_13=>4
 | .k4_14=>4
noncomputable def azz (s:Bool) (t:List Nat):azB→D
 | .k4_0=>mD [(0,.bool s),(1,.str t),(4,.ptr 0 0),(8,.agg gW),(9,.int .i64 0)] 1 [(0,.row ⟨[.bool false,.str [],.int .i64 0,.int .i64 0],153,false⟩)] 128 []
 | .k4_1=>mD [(0,.bool s),(1,.str t),(4,.ptr 0 0),(8,.agg gW),(9,.int .i64 1)] 1 [(0,.row ⟨[.bool false,.str [],.int .i64 0,.int .i64 0],153,false⟩)] 128 []
 | .k4_2=>mD [(0,.bool s),(1,.str t),(4,.ptr 0 0),(8,.agg gW),(9,.int .i64 2)] 1 [(0,.row ⟨[.bool false,.str [],.int .i64 0,.int .i64 0],153,false⟩)] 128 []
 | .k4_3=>mD [(0,.bool s),(1,.str t),(4,.ptr 0 0),(8,.agg gW),(9,.int .i64 3)] 1 [(0,.row ⟨[.bool false,.str [],.int .i64 0,.int .i64 0],153,false⟩)] 128 []
 | .k4_4=>mD [(0,.bool s),(1,.str t),(4,.ptr 0 0),(8,.agg gW),(9,.int .i64 4)] 1 [(0,.row ⟨[.bool false,.str [],.int .i64 0,.int .i64 0],153,false⟩)] 128 []
 | .k4_5=>mD [(0,.bool s),(1,.str t),(4,.ptr 0 0),(8,.agg gW),(9,.int .i64 5)] 1 [(0,.row ⟨[.bool false,.str [],.int .i64 0,.int .i64 0],153,false⟩)] 128 []
 | .k4_6=>mD [(0,.bool s),(1,.str t),(4,.ptr 0 0),(8,.agg gW),(9,.int .i64 6)] 1 [(0,.row ⟨[.bool false,.str [],.int .i64 0,.int .i64 0],153,false⟩)] 128 []
 | .k4_7=>mD [(0,.bool s),(1,.str t),(4,.ptr 0 0),(8,.agg gW),(9,.int .i64 7)] 1 [(0,.row ⟨[.bool false,.str [],.int .i64 0,.int .i64 0],153,false⟩)] 128 []
 | .k4_8=>mD [(0,.bool s),(1,.str t),(4,.ptr 0 0),(8,.agg gW),(9,.int .i64 8)] 1 [(0,.row ⟨[.bool false,.str [],.int .i64 0,.int .i64 0],153,false⟩)] 128 []
 | .k4_9=>mD [(0,.bool s),(1,.str t),(4,.ptr 0 0),(8,.agg gW),(9,.int .i64 9)] 1 [(0,.row ⟨[.bool false,.str [],.int .i64 0,.int .i64 0],153,false⟩)] 128 []
 | .k4_10=>mD [(0,.bool s),(1,.str t),(4,.ptr 0 0),(8,.agg gW),(9,.int .i64 10)] 1 [(0,.row ⟨[.bool false,.str [],.int .i64 0,.int .i64 0],153,false⟩)] 128 []
 | .k4_11=>mD [(0,.bool s),(1,.str t),(4,.ptr 0 0),(8,.agg gW),(9,.int .i64 11)] 1 [(0,.row ⟨[.bool false,.str [],.int .i64 0,.int .i64 0],153,false⟩)] 128 []
 | .k4_12=>mD [(0,.bool s),(1,.str t),(4,.ptr 0 0),(8,.agg gW),(9,.int .i64 12)] 1 [(0,.row ⟨[.bool false,.str [],.int .i64 0,.int .i64 0],153,false⟩)] 128 []
 | .k4_13=>mD [(0,.bool s),(1,.str t),(4,.ptr 0 0),(8,.agg gW),(9,.int .i64 13)] 1 [(0,.row ⟨[.bool false,.str [],.int .i64 0,.int .i64 0],153,false⟩)] 128 []
 | .k4_14=>mD [(0,.bool s),(1,.str t),(4,.ptr 0 0),(8,.agg gW),(9,.int .i64 14)] 1 [(0,.row ⟨[.bool false,.str [],.int .i64 0,.int .i64 0],153,false⟩)] 128 []
noncomputable def axF (s:Bool) (t:List Nat):(l_:azB)→Tr ((Wy)×(Bool)×Unit) azB (azz s t) (Cod.tup (Row.cons (Cod.agg rWay) (Row.cons cB Row.nil))).v
 | .k4_0=>(.i (false==s) (.i (decide ([98]=t)) (.r ((⟨false,[98],3,3⟩:Wy),true,())) (.g .k4_1)) (.g .k4_1))
 | .k4_1=>(.i (false==s) (.i (decide ([97]=t)) (.r ((⟨false,[97],3,3⟩:Wy),true,())) (.g .k4_2)) (.g .k4_2))
 | .k4_2=>(.i (false==s) (.i (decide ([115]=t)) (.r ((⟨false,[115],0,3⟩:Wy),true,())) (.g .k4_3)) (.g .k4_3))
 | .k4_3=>(.i (false==s) (.i (decide ([112]=t)) (.r ((⟨false,[112],3,3⟩:Wy),true,())) (.g .k4_4)) (.g .k4_4))
 | .k4_4=>(.i (false==s) (.i (decide ([107]=t)) (.r ((⟨false,[107],0,3⟩:Wy),true,())) (.g .k4_5)) (.g .k4_5))
 | .k4_5=>(.i (false==s) (.i (decide ([116]=t)) (.r ((⟨false,[116],3,3⟩:Wy),true,())) (.g .k4_6)) (.g .k4_6))
 | .k4_6=>(.i (false==s) (.i (decide ([111]=t)) (.r ((⟨false,[111],3,3⟩:Wy),true,())) (.g .k4_7)) (.g .k4_7))
 | .k4_7=>(.i (true==s) (.i (decide ([102]=t)) (.r ((⟨true,[102],2,2⟩:Wy),true,())) (.g .k4_8)) (.g .k4_8))
 | .k4_8=>(.i (true==s) (.i (decide ([103]=t)) (.r ((⟨true,[103],3,4⟩:Wy),true,())) (.g .k4_9)) (.g .k4_9))
 | .k4_9=>(.i (true==s) (.i (decide ([99]=t)) (.r ((⟨true,[99],2,0⟩:Wy),true,())) (.g .k4_10)) (.g .k4_10))
 | .k4_10=>(.i (true==s) (.i (decide ([100]=t)) (.r ((⟨true,[100],0,1⟩:Wy),true,())) (.g .k4_11)) (.g .k4_11))
 | .k4_11=>(.i (true==s) (.i (decide ([107]=t)) (.r ((⟨true,[107],2,0⟩:Wy),true,())) (.g .k4_12)) (.g .k4_12))
 | .k4_12=>(.i (true==s) (.i (decide ([110]=t)) (.r ((⟨true,[110],2,3⟩:Wy),true,())) (.g .k4_13)) (.g .k4_13))
 | .k4_13=>(.i (true==s) (.i (decide ([121]=t)) (.r ((⟨true,[121],2,0⟩:Wy),true,())) (.g .k4_14)) (.g .k4_14))
 | .k4_14=>(.r ((⟨false,[],0,0⟩:Wy),false,()))
def Tf247 (s:Bool) (t:List Nat):Tr ((Wy)×(Bool)×Unit) azB (azz s t) (Cod.tup (Row.cons (Cod.agg rWay) (Row.cons cB Row.nil))).v:=(.g .k4_0)
def Ef247J (s:Bool) (t:List Nat):=Tr.lp (axF s t)
def Ef247 (n:Nat) (s:Bool) (t:List Nat):=(Tf247 s t).d (Ef247J s t n)
def Sf247 (x:Bool×(List Nat)×Unit):=Ef247 (x.2.1.length+64) x.1 x.2.1
def wf247:Wk (Bool×(List Nat)×Unit) ((Wy)×(Bool)×Unit) azB (Cod.tup (Row.cons (Cod.agg rWay) (Row.cons cB Row.nil))).v:=⟨fun x=>azz x.1 x.2.1,uf247,fun x=>Tf247 x.1 x.2.1,fun x=>axF x.1 x.2.1⟩
def Kf247:=aP 135 Tryz.func135 [] noZ ⟨25,(lookA [(2,⟨[0,1,4,8,9],[0],1,[],[],[],[]⟩)]),noL,noL⟩ 128 Af247 (Cod.tup (Row.cons (Cod.agg rWay) (Row.cons cB Row.nil))) Sf247 wf247 (fun x=>x.2.1.length+64)
def Af248:=(Row.cons cI (Row.cons cI (Row.cons cI Row.nil)))
def Tf248 (s:Int) (t:Int) (u:Int):Tr Bool Empty noS cB.v:=(.i (s==1) (.r (u==t)) (.i (s==2) (.r (u==(w6 (t+1)))) (.i (s==3) (.r (decide (t<u))) (.i (s==4) (.r (decide (t≤u))) (.r false)))))
def Ef248 (s:Int) (t:Int) (u:Int):=(Tf248 s t u).d noE
def ayn (x:Int×Int×Int×Unit):=Ef248 x.1 x.2.1 x.2.2.1
def wf248:Wk (Int×Int×Int×Unit) Bool Empty cB.v:=wk0 fun x=>Tf248 x.1 x.2.1 x.2.2.1
def Kf248:=aP 136 Tryz.func136 [] noZ ⟨29,noL,noL,noL⟩ 128 Af248 cB ayn wf248 (fun _=>0)
def Af236:=(Row.cons (Cod.agg rMv) Row.nil)
noncomputable def Tf236 (s:Mv):Tr Int Empty noS cI.v:=(.c Af247 Sf247 (s.o,s.h,()) fun r4=>(.i (!r4.2.1) (.r 13) (.i (s.f==0) (.c Af248 ayn (r4.1.r,s.f,s.t,()) fun r5=>(.i (!r5) (.r 15) (.r 0))) (.c Af248 ayn (r4.1.b,s.f,s.t,()) fun r6=>(.i (!r6) (.r 15) (.r 0))))))
def Ef236 (s:Mv):=(Tf236 s).d noE
def Sf236 (x:Mv×Unit):=Ef236 x.1
def wf236:Wk (Mv×Unit) Int Empty cI.v:=wk0 fun x=>Tf236 x.1
def Kf236:=aP 103 Tryz.func103 [Kf247,Kf248] noZ ⟨30,noL,noL,noL⟩ 128 Af236 cI Sf236 wf236 (fun _=>0)
def Af237:=(Row.cons (Cod.agg rMv) Row.nil)
inductive azC where
 | k8 (x2:Int)
def uf237:azC→Nat
 | .k8 _=>8
def avA (s:Mv):azC→D
 | .k8 x2=>mD [(1,.ptr 0 0),(20,(Cod.list 0 nB).v s.b),(21,.int .i64 ((s.b.length:Nat):Int)),(22,.int .i64 x2)] 1 [(0,.row ⟨(rMv.v s),45,false⟩)] 128 []
noncomputable def zK (s:Mv):(l_:azC)→Tr Int azC (avA s) cI.v
 | .k8 x2=>(.i (decide (x2<((s.b.length:Nat):Int))) (.i (inR x2 s.b.length) (.c azJ aqw ((s.b.getD x2.toNat 0),1,9,()) fun r4=>(.i (!r4) (.r 16) (.i (decide (0<x2)) (.i (inR (w6 (x2-1)) s.b.length) (.i ((s.b.getD x2.toNat 0)==(s.b.getD (w6 (x2-1)).toNat 0)) (.r 16) (.g (.k8 (w6 (x2+1))))) .n) (.g (.k8 (w6 (x2+1))))))) .n) (.r 0))
def Tf237 (s:Mv):Tr Int azC (avA s) cI.v:=(.i (decide (9<((s.b.length:Nat):Int))) (.r 16) (.i s.o (.i (((s.b.length:Nat):Int)==0) (.r 16) (.g (.k8 0))) (.g (.k8 0))))
def Ef237J (s:Mv):=Tr.lp (zK s)
def Ef237 (n:Nat) (s:Mv):=(Tf237 s).d (Ef237J s n)
def Sf237 (x:Mv×Unit):=Ef237 64 x.1
def wf237:Wk (Mv×Unit) Int azC cI.v:=⟨fun x=>avA x.1,uf237,fun x=>Tf237 x.1,fun x=>zK x.1⟩
def Kf237:=aP 104 Tryz.func104 [ayw] noZ ⟨45,(lookA [(4,⟨[1,20,21,22],[0],1,[],[],[],[]⟩)]),noL,noL⟩ 128 Af237 cI Sf237 wf237 (fun x=>64)
def Af192:=(Row.cons (Cod.list 0 nB) Row.nil)
inductive azF where
 | k4 (x1:Int)
def uf192:azF→Nat
 | .k4 _=>4
def avE (s:List (Int)):azF→D
 | .k4 x1=>mD [(5,(Cod.list 0 nB).v s),(6,.int .i64 ((s.length:Nat):Int)),(7,.int .i64 x1)] 0 [] 128 []
def zM (s:List (Int)):(l_:azF)→Tr Int azF (avE s) cI.v
 | .k4 x1=>(.i (decide (x1<((s.length:Nat):Int))) (.i (inR x1 s.length) (.i (!((s.getD x1.toNat 0)==0)) (.r (s.getD x1.toNat 0)) (.g (.k4 (w6 (x1+1))))) .n) (.r 0))
def Tf192 (s:List (Int)):Tr Int azF (avE s) cI.v:=(.g (.k4 0))
def Ef192J (s:List (Int)):=Tr.lp (zM s)
def Ef192 (n:Nat) (s:List (Int)):=(Tf192 s).d (Ef192J s n)
def ayp (x:(List (Int))×Unit):=Ef192 (x.1.length+64) x.1
def wf192:Wk ((List (Int))×Unit) Int azF cI.v:=⟨fun x=>avE x.1,uf192,fun x=>Tf192 x.1,fun x=>zM x.1⟩
def Kf192:=aP 47 Tryz.func47 [] noZ ⟨15,(lookA [(2,⟨[5,6,7],[],0,[],[],[],[]⟩)]),noL,noL⟩ 128 Af192 cI ayp wf192 (fun x=>x.1.length+64)
def Af216:=(Row.cons (Cod.agg rMv) Row.nil)
noncomputable def Tf216 (s:Mv):Tr Int Empty noS cI.v:=(.c Af234 Sf234 (s.f,()) fun r6=>(.c Af235 Sf235 (s.t,()) fun r7=>(.c Af236 Sf236 (s,()) fun r8=>(.c Af237 Sf237 (s,()) fun r9=>(.c Af192 ayp ([r6,r7,r8,r9],()) fun r10=>(.r r10))))))
def Ef216 (s:Mv):=(Tf216 s).d noE
def Sf216 (x:Mv×Unit):=Ef216 x.1
def wf216:Wk (Mv×Unit) Int Empty cI.v:=wk0 fun x=>Tf216 x.1
def Kf216:=aP 81 Tryz.func81 [Kf192,Kf234,Kf235,Kf236,Kf237] noZ ⟨15,noL,noL,noL⟩ 128 Af216 cI Sf216 wf216 (fun _=>0)
def Af195:=(Row.cons (Cod.list mv0 rMv) Row.nil)
inductive azD where
 | k8 (x2:Int)
def uf195:azD→Nat
 | .k8 _=>8
def avC (s:List (Mv)):azD→D
 | .k8 x2=>mD [(0,(Cod.list mv0 rMv).v s),(9,(Cod.list mv0 rMv).v s),(10,.int .i64 ((s.length:Nat):Int)),(11,.int .i64 x2)] 0 [] 128 []
noncomputable def zL (s:List (Mv)):(l_:azD)→Tr Int azD (avC s) cI.v
 | .k8 x2=>(.i (decide (x2<((s.length:Nat):Int))) (.i (inR x2 s.length) (.c Af216 Sf216 ((s.getD x2.toNat mv0),()) fun r4=>(.i (!(r4==0)) (.r r4) (.i (decide (0<x2)) (.i (inR (w6 (x2-1)) s.length) (.i (decide ((s.getD (w6 (x2-1)).toNat mv0).f≤(s.getD x2.toNat mv0).f)) (.r 11) (.g (.k8 (w6 (x2+1))))) .n) (.g (.k8 (w6 (x2+1))))))) .n) (.r 0))
def Tf195 (s:List (Mv)):Tr Int azD (avC s) cI.v:=(.i (decide (4<((s.length:Nat):Int))) (.r 5) (.g (.k8 0)))
def Ef195J (s:List (Mv)):=Tr.lp (zL s)
def Ef195 (n:Nat) (s:List (Mv)):=(Tf195 s).d (Ef195J s n)
def Sf195 (x:(List (Mv))×Unit):=Ef195 (x.1.length+64) x.1
def wf195:Wk ((List (Mv))×Unit) Int azD cI.v:=⟨fun x=>avC x.1,uf195,fun x=>Tf195 x.1,fun x=>zL x.1⟩
def Kf195:=aP 50 Tryz.func50 [Kf216] noZ ⟨35,(lookA [(4,⟨[0,9,10,11],[],0,[],[],[],[]⟩)]),noL,noL⟩ 128 Af195 cI Sf195 wf195 (fun x=>x.1.length+64)
def Af142:=(Row.cons (Cod.agg rPl) Row.nil)
def Tf142 (s:Pl):Tr Int Empty noS cI.v:=(.c Af193 Sf193 (s.p,()) fun r5=>(.c Af194 Sf194 (s.e,()) fun r6=>(.c Af195 Sf195 (s.m,()) fun r7=>(.c Af192 ayp ([r5,r6,r7],()) fun r8=>(.r r8)))))
def Ef142 (s:Pl):=(Tf142 s).d noE
def Sf142 (x:Pl×Unit):=Ef142 x.1
def wf142:Wk (Pl×Unit) Int Empty cI.v:=wk0 fun x=>Tf142 x.1
def Kf142:=aP 20 Tryz.func20 [Kf192,Kf193,Kf194,Kf195] noZ ⟨14,noL,noL,noL⟩ 128 Af142 cI Sf142 wf142 (fun _=>0)
def i0:=(Row.cons cI (Row.cons cI (Row.cons cI Row.nil)))
def Tf118 (s:Int) (t:Int) (u:Int):Tr Bool Empty noS cB.v:=(.i (decide (t≤s)) (.r (decide (s≤u))) (.r false))
def Ef118 (s:Int) (t:Int) (u:Int):=(Tf118 s t u).d noE
def iT (x:Int×Int×Int×Unit):=Ef118 x.1 x.2.1 x.2.2.1
def wf118:Wk (Int×Int×Int×Unit) Bool Empty cB.v:=wk0 fun x=>Tf118 x.1 x.2.1 x.2.2.1
def ayx:=aP 95 Tryz.func95 [] noZ ⟨15,noL,noL,noL⟩ 128 i0 cB iT wf118 (fun _=>0)
def Af69:=(Row.cons (Cod.agg rSt) Row.nil)
def Tf69 (s:St):Tr Int Empty noS cI.v:=(.c i0 iT (s.inn,1,30,()) fun r2=>(.i (!r2) (.r 3) (.r 0)))
def Ef69 (s:St):=(Tf69 s).d noE
def Sf69 (x:St×Unit):=Ef69 x.1
def wf69:Wk (St×Unit) Int Empty cI.v:=wk0 fun x=>Tf69 x.1
def Kf69:=aP 70 Tryz.func70 [ayx] noZ ⟨7,noL,noL,noL⟩ 128 Af69 cI Sf69 wf69 (fun _=>0)
def Af62:=(Row.cons (Cod.agg rSt) Row.nil)
def Tf62 (s:St):Tr Int Empty noS cI.v:=(.i (s.half==0) (.r s.n0) (.i (s.half==1) (.r s.n1) .n))
def Ef62 (s:St):=(Tf62 s).d noE
def Sf62 (x:St×Unit):=Ef62 x.1
def wf62:Wk (St×Unit) Int Empty cI.v:=wk0 fun x=>Tf62 x.1
def Kf62:=aP 58 Tryz.func58 [] noZ ⟨8,noL,noL,noL⟩ 128 Af62 cI Sf62 wf62 (fun _=>0)
def Af146:=(Row.cons cI Row.nil)
def Tf146 (s:Int):Tr Int Empty noS cI.v:=(.r (w6 ((s.tmod 9)+1)))
def Ef146 (s:Int):=(Tf146 s).d noE
def Sf146 (x:Int×Unit):=Ef146 x.1
def wf146:Wk (Int×Unit) Int Empty cI.v:=wk0 fun x=>Tf146 x.1
def Kf146:=aP 61 Tryz.func61 [] noZ ⟨6,noL,noL,noL⟩ 128 Af146 cI Sf146 wf146 (fun _=>0)
def bqH:=(Row.cons cI (Row.cons cI Row.nil))
inductive azG where
 | k6 (x2:Int) (x3:Int)
def uf121:azG→Nat
 | .k6 _ _=>6
def avF (s:Int) (t:Int):azG→D
 | .k6 x2 x3=>mD [(1,.int .i64 t),(5,.int .i64 x2),(8,.int .i64 x3)] 0 [] 128 []
def zN (s:Int) (t:Int):(l_:azG)→Tr Int azG (avF s t) cI.v
 | .k6 x2 x3=>(.i (decide (x3<9)) (.c Af146 Sf146 (x2,()) fun r5=>(.i (r5==t) (.r x3) (.g (.k6 r5 (w6 (x3+1)))))) (.r 9))
def Tf121 (s:Int) (t:Int):Tr Int azG (avF s t) cI.v:=(.g (.k6 s 0))
def Ef121J (s:Int) (t:Int):=Tr.lp (zN s t)
def Ef121 (n:Nat) (s:Int) (t:Int):=(Tf121 s t).d (Ef121J s t n)
def axx (x:Int×Int×Unit):=Ef121 64 x.1 x.2.1
def wf121:Wk (Int×Int×Unit) Int azG cI.v:=⟨fun x=>avF x.1 x.2.1,uf121,fun x=>Tf121 x.1 x.2.1,fun x=>zN x.1 x.2.1⟩
def Kf121:=aP 97 Tryz.func97 [Kf146] noZ ⟨18,(lookA [(3,⟨[1,5,8],[],0,[],[],[],[]⟩)]),noL,noL⟩ 128 bqH cI axx wf121 (fun x=>64)
def Af73:=(Row.cons (Cod.agg rSt) Row.nil)
inductive Lf73 where
 | k6 (x1:Int) (x5:Int) (x6:Int)
def uf73:Lf73→Nat
 | .k6 _ _ _=>6
def sLf73 (s:St):Lf73→D
 | .k6 x1 x5 x6=>mD [(1,.ptr 0 0),(3,.int .i64 x5),(4,.int .i64 x6),(9,.agg [.int .i64 s.b1,.int .i64 s.b2,.int .i64 s.b3]),(10,.int .i64 x1)] 1 [(0,.row ⟨(rSt.v s),33,false⟩)] 128 []
noncomputable def mQ (s:St):(l_:Lf73)→Tr Int Lf73 (sLf73 s) cI.v
 | .k6 x1 x5 x6=>(.i (decide (x1<3)) (.i (x1==0) (.i (s.b1==0) (.g (.k6 (w6 (x1+1)) x5 x6)) (.c Af62 Sf62 (s,()) fun r22=>(.c bqH axx (s.b1,r22,()) fun r23=>(.c i0 iT (r23,x5,(w6 (x5+s.outs)),()) fun r24=>(.i (!r24) (.r 11) (.i (decide (r23≤x6)) (.r 11) (.g (.k6 (w6 (x1+1)) (w6 (x5+1)) r23)))))))) (.i (x1==1) (.i (s.b2==0) (.g (.k6 (w6 (x1+1)) x5 x6)) (.c Af62 Sf62 (s,()) fun r19=>(.c bqH axx (s.b2,r19,()) fun r20=>(.c i0 iT (r20,x5,(w6 (x5+s.outs)),()) fun r21=>(.i (!r21) (.r 11) (.i (decide (r20≤x6)) (.r 11) (.g (.k6 (w6 (x1+1)) (w6 (x5+1)) r20)))))))) (.i (x1==2) (.i (s.b3==0) (.g (.k6 (w6 (x1+1)) x5 x6)) (.c Af62 Sf62 (s,()) fun r16=>(.c bqH axx (s.b3,r16,()) fun r17=>(.c i0 iT (r17,x5,(w6 (x5+s.outs)),()) fun r18=>(.i (!r18) (.r 11) (.i (decide (r17≤x6)) (.r 11) (.g (.k6 (w6 (x1+1)) (w6 (x5+1)) r17)))))))) .n))) (.r 0))
def Tf73 (s:St):Tr Int Lf73 (sLf73 s) cI.v:=(.g (.k6 0 0 (-1)))
def Ef73J (s:St):=Tr.lp (mQ s)
def Ef73 (n:Nat) (s:St):=(Tf73 s).d (Ef73J s n)
def Sf73 (x:St×Unit):=Ef73 64 x.1
def wf73:Wk (St×Unit) Int Lf73 cI.v:=⟨fun x=>sLf73 x.1,uf73,fun x=>Tf73 x.1,fun x=>mQ x.1⟩
def Kf73:=aP 74 Tryz.func74 [Kf62,ayx,Kf121] noZ ⟨36,(lookA [(3,⟨[1,3,4,9,10],[0],1,[],[],[],[]⟩)]),noL,noL⟩ 128 Af73 cI Sf73 wf73 (fun x=>64)
def Af175:=(Row.cons (Cod.agg rSt) Row.nil)
def Tf175 (s:St):Tr St Empty noS (Cod.agg rSt).v:=(.r (⟨s.inn,s.half,0,0,0,0,0,0,s.n0,s.n1,s.c0,s.c1,s.over⟩:St))
def Ef175 (s:St):=(Tf175 s).d noE
def Sf175 (x:St×Unit):=Ef175 x.1
def wf175:Wk (St×Unit) St Empty (Cod.agg rSt).v:=wk0 fun x=>Tf175 x.1
def Kf175:=aP 89 Tryz.func89 [] noZ ⟨9,noL,noL,noL⟩ 128 Af175 (Cod.agg rSt) Sf175 wf175 (fun _=>0)
def Af177:=(Row.cons (Cod.agg rSt) Row.nil)
def Tf177 (s:St):Tr Bool Empty noS cB.v:=(.r (decide (s.c0<s.c1)))
def Ef177 (s:St):=(Tf177 s).d noE
def ayr (x:St×Unit):=Ef177 x.1
def wf177:Wk (St×Unit) Bool Empty cB.v:=wk0 fun x=>Tf177 x.1
def Kf177:=aP 88 Tryz.func88 [] noZ ⟨10,noL,noL,noL⟩ 128 Af177 cB ayr wf177 (fun _=>0)
def Af176:=(Row.cons (Cod.agg rSt) Row.nil)
def Tf176 (s:St):Tr Bool Empty noS cB.v:=(.i (decide (s.inn<9)) (.r false) (.c Af177 ayr (s,()) fun r2=>(.i r2 (.r true) (.i (s.half==1) (.i (!(s.c0==s.c1)) (.r true) (.r (s.inn==30))) (.r false)))))
def Ef176 (s:St):=(Tf176 s).d noE
def Sf176 (x:St×Unit):=Ef176 x.1
def wf176:Wk (St×Unit) Bool Empty cB.v:=wk0 fun x=>Tf176 x.1
def Kf176:=aP 90 Tryz.func90 [Kf177] noZ ⟨27,noL,noL,noL⟩ 128 Af176 cB Sf176 wf176 (fun _=>0)
def Af119:=(Row.cons (Cod.agg rSt) Row.nil)
noncomputable def Tf119 (s:St):Tr Bool Empty noS cB.v:=(.c Af175 Sf175 (s,()) fun r3=>(.i ((s.inn==r3.inn)&&((s.half==r3.half)&&((s.outs==r3.outs)&&((s.balls==r3.balls)&&((s.strikes==r3.strikes)&&((s.b1==r3.b1)&&((s.b2==r3.b2)&&((s.b3==r3.b3)&&((s.n0==r3.n0)&&((s.n1==r3.n1)&&((s.c0==r3.c0)&&((s.c1==r3.c1)&&((s.over==r3.over)&&true))))))))))))) (.c Af176 Sf176 (s,()) fun r4=>(.r r4)) (.r false)))
def Ef119 (s:St):=(Tf119 s).d noE
def Sf119 (x:St×Unit):=Ef119 x.1
def wf119:Wk (St×Unit) Bool Empty cB.v:=wk0 fun x=>Tf119 x.1
def Kf119:=aP 96 Tryz.func96 [Kf175,Kf176] noZ ⟨11,noL,noL,noL⟩ 128 Af119 cB Sf119 wf119 (fun _=>0)
def Af120:=(Row.cons (Cod.agg rSt) Row.nil)
def Tf120 (s:St):Tr Bool Empty noS cB.v:=(.i (decide (9≤s.inn)) (.i (s.half==1) (.c Af177 ayr (s,()) fun r2=>(.r r2)) (.r false)) (.r false))
def Ef120 (s:St):=(Tf120 s).d noE
def ayt (x:St×Unit):=Ef120 x.1
def wf120:Wk (St×Unit) Bool Empty cB.v:=wk0 fun x=>Tf120 x.1
def Kf120:=aP 63 Tryz.func63 [Kf177] noZ ⟨15,noL,noL,noL⟩ 128 Af120 cB ayt wf120 (fun _=>0)
def Af72:=(Row.cons (Cod.agg rSt) Row.nil)
noncomputable def Tf72 (s:St):Tr Int Empty noS cI.v:=(.i s.over (.c Af119 Sf119 (s,()) fun r4=>(.i (!r4) (.r 19) (.i (!s.over) (.c Af120 ayt (s,()) fun r5=>(.i r5 (.r 19) (.r 0))) (.r 0)))) (.i (!s.over) (.c Af120 ayt (s,()) fun r6=>(.i r6 (.r 19) (.r 0))) (.r 0)))
def Ef72 (s:St):=(Tf72 s).d noE
def Sf72 (x:St×Unit):=Ef72 x.1
def wf72:Wk (St×Unit) Int Empty cI.v:=wk0 fun x=>Tf72 x.1
def Kf72:=aP 73 Tryz.func73 [Kf119,Kf120] noZ ⟨19,noL,noL,noL⟩ 128 Af72 cI Sf72 wf72 (fun _=>0)
def Af71:=(Row.cons (Cod.agg rSt) Row.nil)
inductive Lf71 where
 | k6 (x4:Bool) (x6:Int)
 | k16 (x10:Bool) (x13:Int)
def uf71:Lf71→Nat
 | .k6 _ _=>6
 | .k16 _ _=>16
noncomputable def sLf71 (s:St):Lf71→D
 | .k6 x4 x6=>mD [(1,.ptr 0 0),(3,.bool x4),(21,.agg [.int .i64 s.b1,.int .i64 s.b2,.int .i64 s.b3]),(22,.int .i64 x6)] 1 [(0,.row ⟨(rSt.v s),33,false⟩)] 128 []
 | .k16 x10 x13=>mD [(1,.ptr 0 0),(3,.bool x10),(31,.int .i64 x13)] 1 [(0,.row ⟨(rSt.v s),33,false⟩)] 128 []
noncomputable def aye (s:St):(l_:Lf71)→Tr Int Lf71 (sLf71 s) cI.v
 | .k6 x4 x6=>(.i (decide (x6<3)) (.i (x6==0) (.i x4 (.c i0 iT (s.b1,0,9,()) fun r28=>(.g (.k6 r28 (w6 (x6+1))))) (.g (.k6 false (w6 (x6+1))))) (.i (x6==1) (.i x4 (.c i0 iT (s.b2,0,9,()) fun r27=>(.g (.k6 r27 (w6 (x6+1))))) (.g (.k6 false (w6 (x6+1))))) (.i (x6==2) (.i x4 (.c i0 iT (s.b3,0,9,()) fun r26=>(.g (.k6 r26 (w6 (x6+1))))) (.g (.k6 false (w6 (x6+1))))) .n))) (.g (.k16 x4 0)))
 | .k16 x10 x13=>(.i (decide (x13<2)) (.i x10 (.i (x13==0) (.c i0 iT (s.n0,1,9,()) fun r32=>(.i r32 (.i (x13==0) (.c i0 iT (s.c0,0,9999,()) fun r34=>(.g (.k16 r34 (w6 (x13+1))))) (.i (x13==1) (.c i0 iT (s.c1,0,9999,()) fun r33=>(.g (.k16 r33 (w6 (x13+1))))) .n)) (.g (.k16 false (w6 (x13+1)))))) (.i (x13==1) (.c i0 iT (s.n1,1,9,()) fun r29=>(.i r29 (.i (x13==0) (.c i0 iT (s.c0,0,9999,()) fun r31=>(.g (.k16 r31 (w6 (x13+1))))) (.i (x13==1) (.c i0 iT (s.c1,0,9999,()) fun r30=>(.g (.k16 r30 (w6 (x13+1))))) .n)) (.g (.k16 false (w6 (x13+1)))))) .n)) (.g (.k16 false (w6 (x13+1))))) (.i (!x10) (.r 3) (.r 0)))
noncomputable def Tf71 (s:St):Tr Int Lf71 (sLf71 s) cI.v:=(.c i0 iT (s.outs,0,2,()) fun r23=>(.i r23 (.c i0 iT (s.balls,0,3,()) fun r24=>(.i r24 (.c i0 iT (s.strikes,0,2,()) fun r25=>(.g (.k6 r25 0))) (.g (.k6 false 0)))) (.g (.k6 false 0))))
def Ef71J (s:St):=Tr.lp (aye s)
def Ef71 (n:Nat) (s:St):=(Tf71 s).d (Ef71J s n)
def Sf71 (x:St×Unit):=Ef71 64 x.1
def wf71:Wk (St×Unit) Int Lf71 cI.v:=⟨fun x=>sLf71 x.1,uf71,fun x=>Tf71 x.1,fun x=>aye x.1⟩
def Kf71:=aP 72 Tryz.func72 [ayx] noZ ⟨52,(lookA [(3,⟨[1,3,21,22],[0],1,[],[],[],[]⟩),(8,⟨[1,3,31],[0],1,[],[],[],[]⟩)]),noL,noL⟩ 128 Af71 cI Sf71 wf71 (fun x=>64)
def Af70:=(Row.cons (Cod.agg rSt) Row.nil)
def Tf70 (s:St):Tr Int Empty noS cI.v:=(.c i0 iT (s.half,0,1,()) fun r2=>(.i (!r2) (.r 17) (.r 0)))
def Ef70 (s:St):=(Tf70 s).d noE
def Sf70 (x:St×Unit):=Ef70 x.1
def wf70:Wk (St×Unit) Int Empty cI.v:=wk0 fun x=>Tf70 x.1
def Kf70:=aP 71 Tryz.func71 [ayx] noZ ⟨7,noL,noL,noL⟩ 128 Af70 cI Sf70 wf70 (fun _=>0)
noncomputable def eL:=(Row.cons (Cod.agg rSt) (Row.cons (Cod.lit (Els.cons (Row.cons (Cod.fn0 70) Row.nil) (Els.cons (Row.cons (Cod.fn0 71) Row.nil) (Els.cons (Row.cons (Cod.fn0 72) Row.nil) (Els.cons (Row.cons (Cod.fn0 73) Row.nil) (Els.cons (Row.cons (Cod.fn0 74) Row.nil) Els.nil)))))) Row.nil))
inductive aN where
 | k4 (x2:Int)
def kF:aN→Nat
 | .k4 _=>4
noncomputable def bZ (s:St) (t:((Unit)×Unit)×((Unit)×Unit)×((Unit)×Unit)×((Unit)×Unit)×((Unit)×Unit)×Unit):aN→D
 | .k4 x2=>mD [(2,.ptr 0 0),(8,.el [[.raw (.func 70 [])],[.raw (.func 71 [])],[.raw (.func 72 [])],[.raw (.func 73 [])],[.raw (.func 74 [])]]),(9,.int .i64 5),(10,.int .i64 x2)] 1 [(0,.row ⟨(rSt.v s),33,false⟩)] 128 []
noncomputable def aJ (s:St) (t:((Unit)×Unit)×((Unit)×Unit)×((Unit)×Unit)×((Unit)×Unit)×((Unit)×Unit)×Unit):(l_:aN)→Tr Int aN (bZ s t) cI.v
 | .k4 x2=>(.i (decide (x2<5)) (.i (x2==0) (.c Af69 Sf69 (s,()) fun r12=>(.i (!(r12==0)) (.r r12) (.g (.k4 (w6 (x2+1)))))) (.i (x2==1) (.c Af70 Sf70 (s,()) fun r11=>(.i (!(r11==0)) (.r r11) (.g (.k4 (w6 (x2+1)))))) (.i (x2==2) (.c Af71 Sf71 (s,()) fun r10=>(.i (!(r10==0)) (.r r10) (.g (.k4 (w6 (x2+1)))))) (.i (x2==3) (.c Af72 Sf72 (s,()) fun r9=>(.i (!(r9==0)) (.r r9) (.g (.k4 (w6 (x2+1)))))) (.i (x2==4) (.c Af73 Sf73 (s,()) fun r8=>(.i (!(r8==0)) (.r r8) (.g (.k4 (w6 (x2+1)))))) .n))))) (.r 0))
def cG (s:St) (t:((Unit)×Unit)×((Unit)×Unit)×((Unit)×Unit)×((Unit)×Unit)×((Unit)×Unit)×Unit):Tr Int aN (bZ s t) cI.v:=(.g (.k4 0))
def jP (s:St) (t:((Unit)×Unit)×((Unit)×Unit)×((Unit)×Unit)×((Unit)×Unit)×((Unit)×Unit)×Unit):=Tr.lp (aJ s t)
def cJ (n:Nat) (s:St) (t:((Unit)×Unit)×((Unit)×Unit)×((Unit)×Unit)×((Unit)×Unit)×((Unit)×Unit)×Unit):=(cG s t).d (jP s t n)
def cH (x:St×(((Unit)×Unit)×((Unit)×Unit)×((Unit)×Unit)×((Unit)×Unit)×((Unit)×Unit)×Unit)×Unit):=cJ 64 x.1 x.2.1
def kE:Wk (St×(((Unit)×Unit)×((Unit)×Unit)×((Unit)×Unit)×((Unit)×Unit)×((Unit)×Unit)×Unit)×Unit) Int aN cI.v:=⟨fun x=>bZ x.1 x.2.1,kF,fun x=>cG x.1 x.2.1,fun x=>aJ x.1 x.2.1⟩
def kG:=aP 52 Tryz.func52 [Kf69,Kf70,Kf71,Kf72,Kf73] noZ ⟨21,(lookA [(2,⟨[2,8,9,10],[0],1,[],[],[],[]⟩)]),noL,noL⟩ 128 eL cI cH kE (fun x=>64)
def Af18:=(Row.cons (Cod.agg rSt) Row.nil)
def Tf18 (s:St):Tr Int Empty noS cI.v:=(.c eL cH (s,(((),()),((),()),((),()),((),()),((),()),()),()) fun r2=>(.r r2))
def Ef18 (s:St):=(Tf18 s).d noE
def Sf18 (x:St×Unit):=Ef18 x.1
def wf18:Wk (St×Unit) Int Empty cI.v:=wk0 fun x=>Tf18 x.1
def Kf18:=aP 43 Tryz.func43 [kG] noZ ⟨6,noL,noL,noL⟩ 128 Af18 cI Sf18 wf18 (fun _=>0)
def Af138:=(Row.cons (Cod.agg (Row.cons cI (Row.cons cI Row.nil))) (Row.cons (azO .i32) Row.nil))
noncomputable def Tf138 (s:(Int)×(Int)×Unit) (t:Int):Tr ((Int)×(Int)×Unit) Empty noS (Cod.agg (Row.cons cI (Row.cons cI Row.nil))).v:=(.i (t==66) (.r ((w6 (s.1+1)),s.2.1,())) (.i (t==67) (.r (s.1,(w6 (s.2.1+1)),())) (.i (t==83) (.r (s.1,(w6 (s.2.1+1)),())) (.i (t==70) (.i (decide (s.2.1<2)) (.r (s.1,(w6 (s.2.1+1)),())) (.r (s.1,s.2.1,()))) (.r (s.1,s.2.1,()))))))
def Ef138 (s:(Int)×(Int)×Unit) (t:Int):=(Tf138 s t).d noE
def Sf138 (x:((Int)×(Int)×Unit)×Int×Unit):=Ef138 x.1 x.2.1
def wf138:Wk (((Int)×(Int)×Unit)×Int×Unit) ((Int)×(Int)×Unit) Empty (Cod.agg (Row.cons cI (Row.cons cI Row.nil))).v:=wk0 fun x=>Tf138 x.1 x.2.1
def Kf138:=aP 33 Tryz.func33 [] noZ ⟨29,noL,noL,noL⟩ 128 Af138 (Cod.agg (Row.cons cI (Row.cons cI Row.nil))) Sf138 wf138 (fun _=>0)
def Af81:=(Row.cons cI (Row.cons cI (Row.cons cS Row.nil)))
inductive Lf81 where
 | k14 (x5:Bool) (x6:Int) (x7:Int) (x8:Nat)
def uf81:Lf81→Nat
 | .k14 _ _ _ _=>14
noncomputable def sLf81 (s:Int) (t:Int) (u:List Nat):Lf81→D
 | .k14 x5 x6 x7 x8=>mD [(6,.ptr 0 0),(9,.ptr 1 0),(10,.bool x5),(30,.ptr 2 0)] 3 [(0,.row ⟨[.int .i64 0,.int .i64 0],31,false⟩),(1,.row ⟨[.int .i64 x6,.int .i64 x7],31,false⟩),(2,.iter u x8)] 128 []
noncomputable def ayd (s:Int) (t:Int) (u:List Nat):(l_:Lf81)→Tr (((Int)×(Int)×Unit)×(Int)×(Int)×Unit) Lf81 (sLf81 s t u) (Cod.tup (Row.cons (Cod.agg (Row.cons cI (Row.cons cI Row.nil))) (Row.cons cI (Row.cons cI Row.nil)))).v
 | .k14 x5 x6 x7 x8=>(.i (Nat.blt x8 u.length) (.i x5 (.r ((0,0,()),((x8:Nat):Int),14,())) (.c A137 S137 ((((gM u x8).1:Nat):Int),()) fun r17=>(.i (!r17) (.r ((0,0,()),((x8:Nat):Int),14,())) (.c Af138 Sf138 ((x6,x7,()),(((gM u x8).1:Nat):Int),()) fun r18=>(.i (r18.1==4) (.g (.k14 true r18.1 r18.2.1 (x8+(gM u x8).2))) (.i (r18.2.1==3) (.g (.k14 true r18.1 r18.2.1 (x8+(gM u x8).2))) (.c Af139 ays ((((gM u x8).1:Nat):Int),()) fun r19=>(.g (.k14 r19 r18.1 r18.2.1 (x8+(gM u x8).2)))))))))) (.r ((x6,x7,()),0,0,())))
noncomputable def Tf81 (s:Int) (t:Int) (u:List Nat):Tr (((Int)×(Int)×Unit)×(Int)×(Int)×Unit) Lf81 (sLf81 s t u) (Cod.tup (Row.cons (Cod.agg (Row.cons cI (Row.cons cI Row.nil))) (Row.cons cI (Row.cons cI Row.nil)))).v:=(.c azJ aqw (s,0,3,()) fun r15=>(.i (!r15) (.r ((0,0,()),0,3,())) (.c azJ aqw (t,0,2,()) fun r16=>(.i (!r16) (.r ((0,0,()),0,3,())) (.i (decide (24<((u.length:Nat):Int))) (.r ((0,0,()),0,5,())) (.g (.k14 false s t 0)))))))
def Ef81J (s:Int) (t:Int) (u:List Nat):=Tr.lp (ayd s t u)
def Ef81 (n:Nat) (s:Int) (t:Int) (u:List Nat):=(Tf81 s t u).d (Ef81J s t u n)
def Sf81 (x:Int×Int×(List Nat)×Unit):=Ef81 (x.2.2.1.length+64) x.1 x.2.1 x.2.2.1
noncomputable def wf81:Wk (Int×Int×(List Nat)×Unit) (((Int)×(Int)×Unit)×(Int)×(Int)×Unit) Lf81 (Cod.tup (Row.cons (Cod.agg (Row.cons cI (Row.cons cI Row.nil))) (Row.cons cI (Row.cons cI Row.nil)))).v:=⟨fun x=>sLf81 x.1 x.2.1 x.2.2.1,uf81,fun x=>Tf81 x.1 x.2.1 x.2.2.1,fun x=>ayd x.1 x.2.1 x.2.2.1⟩
noncomputable def Kf81:=aP 12 Tryz.func12 [ayw,K137,Kf138,Kf139] noZ ⟨59,(lookA [(7,⟨[6,9,10,30],[0,1,2],3,[],[],[],[]⟩)]),noL,noL⟩ 128 Af81 (Cod.tup (Row.cons (Cod.agg (Row.cons cI (Row.cons cI Row.nil))) (Row.cons cI (Row.cons cI Row.nil)))) Sf81 wf81 (fun x=>x.2.2.1.length+64)
end
end Go.Ev
