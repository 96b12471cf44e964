import Derived.Test.YtmejahdlkaifoaaGreatDoorDP2
set_option linter.unusedSimpArgs false
set_option linter.unusedVariables false
namespace Go.Ev
open Go.RowKit Go.Proofs
set_option maxRecDepth 100000
set_option maxHeartbeats 4000000
set_option linter.unusedVariables false
noncomputable section
noncomputable def s9:=(Row.cons (Cod.agg rSt) (Row.cons (Cod.lit (Els.cons (Row.cons (Cod.fn0 26) Row.nil) (Els.cons (Row.cons (Cod.fn0 27) Row.nil) Els.nil))) Row.nil))
inductive dE where
 | k4 (x2:Int)
noncomputable def aqa:dE→Nat
 | .k4 _=>4
noncomputable def iY (s:St) (t:((Unit)×Unit)×((Unit)×Unit)×Unit):dE→D
 | .k4 x2=>mD [(2,.ptr 0 0),(8,.el [[.raw (.func 26 [])],[.raw (.func 27 [])]]),(9,.int .i64 2),(10,.int .i64 x2)] 1 [(0,.row ⟨(rSt.v s),34,false⟩)] 128 []
noncomputable def fW (s:St) (t:((Unit)×Unit)×((Unit)×Unit)×Unit):(l_:dE)→Tr Int dE (iY s t) cI.v
 | .k4 x2=>(.i (decide (x2<2)) (.i (x2==0) (.c A18 S18 (s,()) fun r6=>(.i (!(r6==0)) (.r r6) (.g (.k4 (w6 (x2+1)))))) (.i (x2==1) (.c Az61 Sz61 (s,()) fun r5=>(.i (!(r5==0)) (.r r5) (.g (.k4 (w6 (x2+1)))))) .n)) (.r 0))
noncomputable def lS (s:St) (t:((Unit)×Unit)×((Unit)×Unit)×Unit):Tr Int dE (iY s t) cI.v:=(.g (.k4 0))
noncomputable def fX (s:St) (t:((Unit)×Unit)×((Unit)×Unit)×Unit):=Tr.lp (fW s t)
theorem tS {s:St}{t:((Unit)×Unit)×((Unit)×Unit)×Unit}{n:Nat}{l_:dE}:fX s t (n+1) l_=(fW s t l_).d (fX s t n):=rfl
noncomputable def lW (n:Nat) (s:St) (t:((Unit)×Unit)×((Unit)×Unit)×Unit):=(lS s t).d (fX s t n)
noncomputable def lT (x:St×(((Unit)×Unit)×((Unit)×Unit)×Unit)×Unit):=lW 64 x.1 x.2.1
noncomputable def aq9:Wk (St×(((Unit)×Unit)×((Unit)×Unit)×Unit)×Unit) Int dE cI.v:=⟨fun x=>iY x.1 x.2.1,aqa,fun x=>lS x.1 x.2.1,fun x=>fW x.1 x.2.1⟩
noncomputable def ajr:=aI 25 Tryz.func25 [K18,Kz61] noZ ⟨21,(lookA [(2,⟨[2,8,9,10],[0],1,[],[],[],[]⟩)]),noL,noL⟩ 128 s9 cI lT aq9 (fun x=>64)
noncomputable def Ap10:=(Row.cons (Cod.agg rSt) (Row.cons cS Row.nil))
noncomputable def Tp10 (s:St) (t:List Nat):Tr (((Int)×(Int)×Unit)×(List Nat)×(Int)×Unit) Empty noS (Cod.tup (Row.cons (Cod.agg (Row.cons cI (Row.cons cI Row.nil))) (Row.cons cS (Row.cons cI Row.nil)))).v:=(.c s9 lT (s,(((),()),((),()),()),()) fun r4=>(.i (!(r4==0)) (.r ((0,0,()),[],r4,())) (.c A81 S81 (s.balls,s.strikes,t,()) fun r5=>(.i (!(r5.2.2.1==0)) (.r ((0,0,()),[],r5.2.2.1,())) (.c Az82 Sz82 ((r5.1.1,r5.1.2.1,()),t,()) fun r6=>(.r ((r5.1.1,r5.1.2.1,()),r6,0,())))))))
noncomputable def Ep10 (s:St) (t:List Nat):=(Tp10 s t).d noE
noncomputable def bji (x:St×(List Nat)×Unit):=Ep10 x.1 x.2.1
noncomputable def wp10:Wk (St×(List Nat)×Unit) (((Int)×(Int)×Unit)×(List Nat)×(Int)×Unit) Empty (Cod.tup (Row.cons (Cod.agg (Row.cons cI (Row.cons cI Row.nil))) (Row.cons cS (Row.cons cI Row.nil)))).v:=wk0 fun x=>Tp10 x.1 x.2.1
noncomputable def Kp10:=aI 10 Tryz.func10 [K81,ajr,Kz82] noZ ⟨36,noL,noL,noL⟩ 128 Ap10 (Cod.tup (Row.cons (Cod.agg (Row.cons cI (Row.cons cI Row.nil))) (Row.cons cS (Row.cons cI Row.nil)))) bji wp10 (fun _=>0)
noncomputable def Ap3:=(Row.cons (Cod.agg rSt) (Row.cons (Cod.agg rPl) (Row.cons cU8 Row.nil)))
noncomputable def Tp3 (s:St) (t:Pl) (u:Int):Tr Bool Empty noS cB.v:=(.c Aw27 Sw27 (()) fun r18=>(.i (!r18) (.c Aw27 Sw27 (()) fun r19=>(.r r19)) (.c Az84 Sz84 (t,()) fun r20=>(.i (!r20) (.c Aw27 Sw27 (()) fun r21=>(.r r21)) (.c A58 S58 (t,()) fun r22=>(.i (!(r22==0)) (.c Aw27 Sw27 (()) fun r23=>(.r r23)) (.i (decide (((t.p.length:Nat):Int)<2)) (.c Aw27 Sw27 (()) fun r24=>(.r r24)) (.c Az37 Sz37 (s,t,()) fun r25=>(.i (!(r25.2.1==0)) (.r true) (.i (decide ((w6 (((t.p.length:Nat):Int)-1))=0)) .n (.c A33 S33 (t,()) fun r26=>(.c Az32 ayH (s,r26,()) fun r27=>(.i (decide ((0:Int)≤(w6 (1+((w6 u).tmod (w6 (((t.p.length:Nat):Int)-1))))))&&decide ((w6 (1+((w6 u).tmod (w6 (((t.p.length:Nat):Int)-1)))))≤((t.p.length:Nat):Int))) (.c Az32 ayH (s,(⟨((t.p.take ((w6 (1+((w6 u).tmod (w6 (((t.p.length:Nat):Int)-1))))).toNat)).drop 0),[],false,[]⟩:Pl),()) fun r28=>(.i (!(r27.2.2.1==0)) (.r false) (.i (!(r28.2.2.1==0)) (.r false) (.c A33 S33 (t,()) fun r29=>(.i (decide ((0:Int)≤(w6 (1+((w6 u).tmod (w6 (((t.p.length:Nat):Int)-1))))))&&decide ((w6 (1+((w6 u).tmod (w6 (((t.p.length:Nat):Int)-1)))))≤((t.p.length:Nat):Int))) (.c Az32 ayH (r28.1,(⟨((t.p.take t.p.length).drop ((w6 (1+((w6 u).tmod (w6 (((t.p.length:Nat):Int)-1))))).toNat)),r29.e,r29.l,r29.m⟩:Pl),()) fun r30=>(.i (decide ((0:Int)≤(w6 (1+((w6 u).tmod (w6 (((t.p.length:Nat):Int)-1))))))&&decide ((w6 (1+((w6 u).tmod (w6 (((t.p.length:Nat):Int)-1)))))≤((t.p.length:Nat):Int))) (.c Ap10 bji (s,((t.p.take ((w6 (1+((w6 u).tmod (w6 (((t.p.length:Nat):Int)-1))))).toNat)).drop 0),()) fun r31=>(.i (decide ((0:Int)≤(w6 (1+((w6 u).tmod (w6 (((t.p.length:Nat):Int)-1))))))&&decide ((w6 (1+((w6 u).tmod (w6 (((t.p.length:Nat):Int)-1)))))≤((t.p.length:Nat):Int))) (.c A81 S81 (s.balls,s.strikes,((t.p.take ((w6 (1+((w6 u).tmod (w6 (((t.p.length:Nat):Int)-1))))).toNat)).drop 0),()) fun r32=>(.i (decide ((0:Int)≤(w6 (1+((w6 u).tmod (w6 (((t.p.length:Nat):Int)-1))))))&&decide ((w6 (1+((w6 u).tmod (w6 (((t.p.length:Nat):Int)-1)))))≤((t.p.length:Nat):Int))) (.c Ap10 bji (r28.1,((t.p.take t.p.length).drop ((w6 (1+((w6 u).tmod (w6 (((t.p.length:Nat):Int)-1))))).toNat)),()) fun r33=>(.c Ap10 bji (s,t.p,()) fun r34=>(.i (!(r30.2.2.1==0)) (.r false) (.i (!(r31.2.2.1==0)) (.r false) (.i (!(r32.2.2.1==0)) (.r false) (.i (!(r33.2.2.1==0)) (.r false) (.i (!(r34.2.2.1==0)) (.r false) (.i ((r30.1.inn==r27.1.inn)&&((r30.1.half==r27.1.half)&&((r30.1.outs==r27.1.outs)&&((r30.1.balls==r27.1.balls)&&((r30.1.strikes==r27.1.strikes)&&((r30.1.b1==r27.1.b1)&&((r30.1.b2==r27.1.b2)&&((r30.1.b3==r27.1.b3)&&((r30.1.n0==r27.1.n0)&&((r30.1.n1==r27.1.n1)&&((r30.1.c0==r27.1.c0)&&((r30.1.c1==r27.1.c1)&&((r30.1.over==r27.1.over)&&true))))))))))))) (.i ((r31.1.1==r32.1.1)&&((r31.1.2.1==r32.1.2.1)&&true)) (.i (decide (r31.2.1=[])) (.i ((r33.1.1==r34.1.1)&&((r33.1.2.1==r34.1.2.1)&&true)) (.i (decide (r33.2.1=r34.2.1)) (.i (r28.1.balls==r31.1.1) (.i (r28.1.strikes==r31.1.2.1) (.r ((r28.1.b1==s.b1)&&((r28.1.b2==s.b2)&&((r28.1.b3==s.b3)&&true)))) (.r false)) (.r false)) (.r false)) (.r false)) (.r false)) (.r false)) (.r false))))))))) .n)) .n)) .n)) .n))))) .n)))))))))))))
noncomputable def Ep3 (s:St) (t:Pl) (u:Int):=(Tp3 s t u).d noE
noncomputable def Sp3 (x:St×Pl×Int×Unit):=Ep3 x.1 x.2.1 x.2.2.1
noncomputable def wp3:Wk (St×Pl×Int×Unit) Bool Empty cB.v:=wk0 fun x=>Tp3 x.1 x.2.1 x.2.2.1
noncomputable def Kp3:=aI 3 Tryz.func3 [Kw27,Kz84,K58,Kz37,Kz32,K33,Kp10,K81] noZ ⟨208,noL,noL,noL⟩ 128 Ap3 cB Sp3 wp3 (fun _=>0)
end
end Go.Ev
