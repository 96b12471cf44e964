import Derived.Test.YthobdjmonidpoaaGreatDoorDP1
set_option linter.unusedSimpArgs false
set_option linter.unusedVariables false
namespace Go.Ev
open Go.RowKit Go.Proofs
set_option maxRecDepth 100000
set_option maxHeartbeats 4000000
set_option linter.unusedVariables false
noncomputable section
def Az202:=(Row.cons (Cod.agg rSt) (Row.cons (Cod.agg rPl) (Row.cons (Cod.agg rMv) Row.nil)))
inductive aqy where
 | k9 (x2:Bool) (x3:Int) (x4:Int) (x5:Bool) (x6:List Nat) (x7:List (Int)) (x8:Bool)
 | k11 (x9:Bool) (x10:Bool) (x11:Int) (x12:Int) (x13:Bool) (x14:List Nat) (x15:List (Int)) (x16:Bool)
 | k13 (x18:Bool) (x19:Bool) (x20:Bool) (x21:Bool) (x22:Int) (x23:Int) (x24:Bool) (x25:List Nat) (x26:List (Int))
 | k15 (x28:Bool) (x29:Bool) (x30:Bool) (x31:Bool) (x32:Bool) (x33:Int) (x34:Int) (x35:Bool) (x36:List Nat) (x37:List (Int))
def uz202:aqy→Nat
 | .k9 _ _ _ _ _ _ _=>9
 | .k11 _ _ _ _ _ _ _ _=>11
 | .k13 _ _ _ _ _ _ _ _ _=>13
 | .k15 _ _ _ _ _ _ _ _ _ _=>15
noncomputable def azv (s:St) (t:Pl) (u:Mv):aqy→D
 | .k9 x2 x3 x4 x5 x6 x7 x8=>mD [(3,.ptr 0 0),(4,.ptr 1 0),(5,.ptr 2 0),(7,.str t.e),(8,.ptr 3 0),(9,.bool x2),(10,.bool x8)] 4 [(0,.row ⟨(rSt.v s),39,false⟩),(1,.row ⟨(rPl.v t),45,false⟩),(2,.row ⟨(rMv.v u),77,false⟩),(3,.row ⟨[.int .i64 x3,.int .i64 x4,.bool x5,.str x6,(Cod.list 0 nX).v x7],77,false⟩)] 128 []
 | .k11 x9 x10 x11 x12 x13 x14 x15 x16=>mD [(3,.ptr 0 0),(4,.ptr 1 0),(5,.ptr 2 0),(7,.str t.e),(8,.ptr 3 0),(9,.bool x9),(10,.bool x10),(11,.bool x16)] 4 [(0,.row ⟨(rSt.v s),39,false⟩),(1,.row ⟨(rPl.v t),45,false⟩),(2,.row ⟨(rMv.v u),77,false⟩),(3,.row ⟨[.int .i64 x11,.int .i64 x12,.bool x13,.str x14,(Cod.list 0 nX).v x15],77,false⟩)] 128 []
 | .k13 x18 x19 x20 x21 x22 x23 x24 x25 x26=>mD [(4,.ptr 1 0),(5,.ptr 2 0),(7,.str t.e),(8,.ptr 3 0),(9,.bool x18),(10,.bool x19),(11,.bool x20),(12,.bool x21)] 4 [(1,.row ⟨(rPl.v t),45,false⟩),(2,.row ⟨(rMv.v u),77,false⟩),(3,.row ⟨[.int .i64 x22,.int .i64 x23,.bool x24,.str x25,(Cod.list 0 nX).v x26],77,false⟩)] 128 []
 | .k15 x28 x29 x30 x31 x32 x33 x34 x35 x36 x37=>mD [(4,.ptr 1 0),(5,.ptr 2 0),(7,.str t.e),(8,.ptr 3 0),(9,.bool x28),(10,.bool x29),(11,.bool x30),(12,.bool x31),(13,.bool x32)] 4 [(1,.row ⟨(rPl.v t),45,false⟩),(2,.row ⟨(rMv.v u),77,false⟩),(3,.row ⟨[.int .i64 x33,.int .i64 x34,.bool x35,.str x36,(Cod.list 0 nX).v x37],77,false⟩)] 128 []
noncomputable def Tz202J (s:St) (t:Pl) (u:Mv):(l_:aqy)→Tr Bool aqy (azv s t u) cB.v
 | .k9 x2 x3 x4 x5 x6 x7 x8=>(.i (decide (t.e=[])) (.g (.k11 x2 x8 x3 x4 x5 x6 x7 true)) (.i (decide (t.e=[75])) (.g (.k11 x2 x8 x3 x4 x5 x6 x7 true)) (.g (.k11 x2 x8 x3 x4 x5 x6 x7 (decide (t.e=[87]))))))
 | .k11 x9 x10 x11 x12 x13 x14 x15 x16=>(.c Az25 Sz25 (s,()) fun r42=>(.i (u.f==0) (.g (.k13 x9 x10 x16 r42.1 x11 x12 x13 x14 x15)) (.i (u.f==1) (.g (.k13 x9 x10 x16 r42.2.1 x11 x12 x13 x14 x15)) (.i (u.f==2) (.g (.k13 x9 x10 x16 r42.2.2.1 x11 x12 x13 x14 x15)) (.i (u.f==3) (.g (.k13 x9 x10 x16 r42.2.2.2.1 x11 x12 x13 x14 x15)) .n)))))
 | .k13 x18 x19 x20 x21 x22 x23 x24 x25 x26=>(.i x18 (.c iT fL ((⟨x22,x23,x24,x25,x26⟩:Mv),true,[99],()) fun r43=>(.g (.k15 x18 x19 x20 x21 r43 x22 x23 x24 x25 x26))) (.g (.k15 x18 x19 x20 x21 false x22 x23 x24 x25 x26)))
 | .k15 x28 x29 x30 x31 x32 x33 x34 x35 x36 x37=>(.i (decide (u.h=[98])) (.i (decide (t.e=[88])) (.r true) (.r (decide (t.e=[89])))) (.i (decide (u.h=[97])) (.i (decide (t.e=[87])) (.i x31 (.r (u.t==(w6 (u.f+1)))) (.r false)) (.i (decide (t.e=[72])) (.i x31 (.r (u.t==(w6 (u.f+1)))) (.r false)) (.i (decide (t.e=[73])) (.i x31 (.r (u.t==(w6 (u.f+1)))) (.r false)) (.r false)))) (.i (decide (u.h=[115])) (.r x30) (.i (decide (u.h=[112])) (.i x30 (.r (!decide (t.p=[]))) (.r false)) (.i (decide (u.h=[107])) (.r (decide (t.e=[]))) (.i (decide (u.h=[102])) (.i x31 (.i (decide (t.e=[88])) (.i x28 (.c iT fL ((⟨x33,x34,x35,x36,x37⟩:Mv),true,[99,107],()) fun r44=>(.r (!r44))) (.r true)) (.i (decide (t.e=[75])) (.i x28 (.c iT fL ((⟨x33,x34,x35,x36,x37⟩:Mv),true,[99,107],()) fun r45=>(.r (!r45))) (.r true)) (.r false))) (.r false)) (.i (decide (u.h=[100])) (.i (decide (t.e=[89])) (.r true) (.r x32)) (.r (!x29)))))))))
noncomputable def Tz202 (s:St) (t:Pl) (u:Mv):Tr Bool aqy (azv s t u) cB.v:=(.c Az197 ayh (t,()) fun r41=>(.i (decide (t.e=[72])) (.g (.k9 r41.2.1 r41.1.f r41.1.t r41.1.o r41.1.h r41.1.b true)) (.i (decide (t.e=[73])) (.g (.k9 r41.2.1 r41.1.f r41.1.t r41.1.o r41.1.h r41.1.b true)) (.g (.k9 r41.2.1 r41.1.f r41.1.t r41.1.o r41.1.h r41.1.b (decide (t.e=[78])))))))
def uM (s:St) (t:Pl) (u:Mv):=Tr.lp (Tz202J s t u)
theorem Ez202J_s {s:St}{t:Pl}{u:Mv}{n:Nat}{l_:aqy}:uM s t u (n+1) l_=(Tz202J s t u l_).d (uM s t u n):=rfl
def Ez202 (n:Nat) (s:St) (t:Pl) (u:Mv):=(Tz202 s t u).d (uM s t u n)
def ayg (x:St×Pl×Mv×Unit):=Ez202 (x.2.1.m.length+64) x.1 x.2.1 x.2.2.1
def wz202:Wk (St×Pl×Mv×Unit) Bool aqy cB.v:=⟨fun x=>azv x.1 x.2.1 x.2.2.1,uz202,fun x=>Tz202 x.1 x.2.1 x.2.2.1,fun x=>Tz202J x.1 x.2.1 x.2.2.1⟩
noncomputable def Kz202:=aV 155 Tryz.func155 [Kz25,Kz197,bqL] noZ ⟨127,noL,(lookA [(4,⟨[3,4,5,7,8,9,10],[0,1,2,3],4,[],[],[],[]⟩),(5,⟨[3,4,5,7,8,9,10,11],[0,1,2,3],4,[],[],[],[]⟩),(6,⟨[4,5,7,8,9,10,11,12],[1,2,3],4,[],[],[],[]⟩),(7,⟨[4,5,7,8,9,10,11,12,13],[1,2,3],4,[],[],[],[]⟩)]),noL⟩ 128 Az202 cB ayg wz202 (fun x=>x.2.1.m.length+64)
def Az98:=(Row.cons (Cod.agg rSt) (Row.cons (Cod.agg rPl) (Row.cons cI Row.nil)))
noncomputable def Tz98 (s:St) (t:Pl) (u:Int):Tr Int Empty noS cI.v:=(.c azQ zU (t,u,()) fun r2=>(.i (decide (0≤r2)) (.i (inR r2 t.m.length) (.i ((t.m.getD r2.toNat mv0).o) (.r 0) (.i (inR r2 t.m.length) (.r ((t.m.getD r2.toNat mv0).t)) .n)) .n) (.i (decide (0<u)) (.i ((w6 (u-1))==0) (.i (!(s.b1==0)) (.r u) (.r 0)) (.i ((w6 (u-1))==1) (.i (!(s.b2==0)) (.r u) (.r 0)) (.i ((w6 (u-1))==2) (.i (!(s.b3==0)) (.r u) (.r 0)) .n))) (.r 0))))
def Ez98 (s:St) (t:Pl) (u:Int):=(Tz98 s t u).d noE
def Sz98 (x:St×Pl×Int×Unit):=Ez98 x.1 x.2.1 x.2.2.1
def wz98:Wk (St×Pl×Int×Unit) Int Empty cI.v:=wk0 fun x=>Tz98 x.1 x.2.1 x.2.2.1
def Kz98:=aV 121 Tryz.func121 [Kz157] noZ ⟨36,noL,noL,noL⟩ 128 Az98 cI Sz98 wz98 (fun _=>0)
def Az153:=(Row.cons (Cod.agg rSt) (Row.cons (Cod.agg rPl) (Row.cons cI Row.nil)))
inductive ajB where
 | k44 (x21:Bool) (x22:Int)
 | k51 (x10:Bool) (x26:Int)
 | k61 (x27:Bool)
 | k53 (x11:Bool) (x28:Int) (x29:Int) (x30:Int) (x31:Bool) (x32:List Nat) (x33:List (Int))
 | k62 (x13:Int) (x34:Bool)
 | k57 (x12:Bool) (x35:Int) (x36:Int) (x37:Int) (x38:Bool) (x39:List Nat) (x40:List (Int))
 | k71 (x15:Int) (x17:Int) (x42:Bool)
 | k81
 | k77 (x23:Int) (x24:Int) (x25:Bool) (x47:Bool)
 | k86 (x54:Int)
 | k92 (x51:Int) (x55:Int)
def uz153:ajB→Nat
 | .k44 _ _=>44
 | .k51 _ _=>51
 | .k61 _=>61
 | .k53 _ _ _ _ _ _ _=>53
 | .k62 _ _=>62
 | .k57 _ _ _ _ _ _ _=>57
 | .k71 _ _ _=>71
 | .k81=>81
 | .k77 _ _ _ _=>77
 | .k86 _=>86
 | .k92 _ _=>92
noncomputable def azy (s:St) (t:Pl) (u:Int):ajB→D
 | .k44 x21 x22=>mD [(2,.int .i64 u),(3,.ptr 0 0),(4,.ptr 1 0),(12,.bool x21),(13,.int .i64 x22)] 2 [(0,.row ⟨(rSt.v s),39,false⟩),(1,.row ⟨(rPl.v t),45,false⟩)] 128 []
 | .k51 x10 x26=>mD [(2,.int .i64 u),(3,.ptr 0 0),(4,.ptr 1 0),(12,.bool x10),(13,.int .i64 x26)] 2 [(0,.row ⟨(rSt.v s),39,false⟩),(1,.row ⟨(rPl.v t),45,false⟩)] 128 []
 | .k61 x27=>mD [(2,.int .i64 u),(3,.ptr 0 0),(4,.ptr 1 0),(12,.bool x27)] 2 [(0,.row ⟨(rSt.v s),39,false⟩),(1,.row ⟨(rPl.v t),45,false⟩)] 128 []
 | .k53 x11 x28 x29 x30 x31 x32 x33=>mD [(2,.int .i64 u),(3,.ptr 0 0),(4,.ptr 1 0),(12,.bool x11),(13,.int .i64 x28),(14,.ptr 2 0)] 3 [(0,.row ⟨(rSt.v s),39,false⟩),(1,.row ⟨(rPl.v t),45,false⟩),(2,.row ⟨[.int .i64 x29,.int .i64 x30,.bool x31,.str x32,(Cod.list 0 nX).v x33],77,false⟩)] 128 []
 | .k62 x13 x34=>mD [(2,.int .i64 u),(3,.ptr 0 0),(4,.ptr 1 0),(12,.bool x34),(15,.int .i64 x13)] 2 [(0,.row ⟨(rSt.v s),39,false⟩),(1,.row ⟨(rPl.v t),45,false⟩)] 128 []
 | .k57 x12 x35 x36 x37 x38 x39 x40=>mD [(2,.int .i64 u),(3,.ptr 0 0),(4,.ptr 1 0),(12,.bool x12),(13,.int .i64 x35),(14,.ptr 2 0)] 3 [(0,.row ⟨(rSt.v s),39,false⟩),(1,.row ⟨(rPl.v t),45,false⟩),(2,.row ⟨[.int .i64 x36,.int .i64 x37,.bool x38,.str x39,(Cod.list 0 nX).v x40],77,false⟩)] 128 []
 | .k71 x15 x17 x42=>mD [(2,.int .i64 u),(3,.ptr 0 0),(4,.ptr 1 0),(12,.bool x42),(15,.int .i64 x17),(16,.int .i64 x15)] 2 [(0,.row ⟨(rSt.v s),39,false⟩),(1,.row ⟨(rPl.v t),45,false⟩)] 128 []
 | .k81=>mD [(2,.int .i64 u),(3,.ptr 0 0),(4,.ptr 1 0)] 2 [(0,.row ⟨(rSt.v s),39,false⟩),(1,.row ⟨(rPl.v t),45,false⟩)] 128 []
 | .k77 x23 x24 x25 x47=>mD [(2,.int .i64 u),(3,.ptr 0 0),(4,.ptr 1 0),(12,.bool x47),(15,.int .i64 x23),(16,.int .i64 x24),(17,.bool x25)] 2 [(0,.row ⟨(rSt.v s),39,false⟩),(1,.row ⟨(rPl.v t),45,false⟩)] 128 []
 | .k86 x54=>mD [(3,.ptr 0 0),(4,.ptr 1 0),(18,.int .i64 x54)] 2 [(0,.row ⟨(rSt.v s),39,false⟩),(1,.row ⟨(rPl.v t),45,false⟩)] 128 []
 | .k92 x51 x55=>mD [(3,.ptr 0 0),(4,.ptr 1 0),(18,.int .i64 x55),(19,.int .i64 x51)] 2 [(0,.row ⟨(rSt.v s),39,false⟩),(1,.row ⟨(rPl.v t),45,false⟩)] 128 []
noncomputable def Tz153J (s:St) (t:Pl) (u:Int):(l_:ajB)→Tr Bool ajB (azy s t u) cB.v
 | .k44 x21 x22=>(.i (decide (x22<((t.m.length:Nat):Int))) (.i x21 (.g (.k51 true x22)) (.i (inR x22 t.m.length) (.i (decide (((t.m.getD x22.toNat mv0).h)=[107])) (.i (inR x22 t.m.length) (.g (.k51 (!(t.m.getD x22.toNat mv0).o) x22)) .n) (.g (.k51 false x22))) .n)) (.g (.k61 x21)))
 | .k51 x10 x26=>(.i (inR x26 t.m.length) (.g (.k53 x10 x26 (t.m.getD x26.toNat mv0).f (t.m.getD x26.toNat mv0).t ((t.m.getD x26.toNat mv0).o) ((t.m.getD x26.toNat mv0).h) ((t.m.getD x26.toNat mv0).b))) .n)
 | .k61 x27=>(.g (.k62 1 x27))
 | .k53 x11 x28 x29 x30 x31 x32 x33=>(.i (decide (0<x29)) (.i (u==4) (.i ((w6 (x29-1))==0) (.i (s.b1==0) (.r true) (.g (.k57 x11 x28 x29 x30 x31 x32 x33))) (.i ((w6 (x29-1))==1) (.i (s.b2==0) (.r true) (.g (.k57 x11 x28 x29 x30 x31 x32 x33))) (.i ((w6 (x29-1))==2) (.i (s.b3==0) (.r true) (.g (.k57 x11 x28 x29 x30 x31 x32 x33))) .n))) (.g (.k57 x11 x28 x29 x30 x31 x32 x33))) (.g (.k57 x11 x28 x29 x30 x31 x32 x33)))
 | .k62 x13 x34=>(.i (decide (x13<4)) (.i ((w6 (x13-1))==0) (.i (s.b1==0) (.g (.k62 (w6 (x13+1)) x34)) (.c azQ zU (t,x13,()) fun r78=>(.g (.k71 r78 x13 x34)))) (.i ((w6 (x13-1))==1) (.i (s.b2==0) (.g (.k62 (w6 (x13+1)) x34)) (.c azQ zU (t,x13,()) fun r77=>(.g (.k71 r77 x13 x34)))) (.i ((w6 (x13-1))==2) (.i (s.b3==0) (.g (.k62 (w6 (x13+1)) x34)) (.c azQ zU (t,x13,()) fun r76=>(.g (.k71 r76 x13 x34)))) .n))) (.g .k81))
 | .k57 x12 x35 x36 x37 x38 x39 x40=>(.i (decide (0<x36)) (.i (u==8) (.c Az202 ayg (s,t,(⟨x36,x37,x38,x39,x40⟩:Mv),()) fun r79=>(.i (!r79) (.r true) (.g (.k44 x12 (w6 (x35+1)))))) (.g (.k44 x12 (w6 (x35+1))))) (.g (.k44 x12 (w6 (x35+1)))))
 | .k71 x15 x17 x42=>(.i (u==9) (.i x42 (.i (decide (x15<0)) (.r true) (.i (inR x15 t.m.length) (.c iT fL ((t.m.getD x15.toNat mv0),false,[107],()) fun r80=>(.i (!r80) (.r true) (.i (inR x15 t.m.length) (.i (!((t.m.getD x15.toNat mv0).t==(w6 (x17+1)))) (.r true) (.i (decide (t.e=[87])) (.g (.k77 x17 x15 true x42)) (.i (decide (t.e=[72])) (.g (.k77 x17 x15 true x42)) (.g (.k77 x17 x15 (decide (t.e=[73])) x42))))) .n))) .n)) (.i (decide (t.e=[87])) (.g (.k77 x17 x15 true x42)) (.i (decide (t.e=[72])) (.g (.k77 x17 x15 true x42)) (.g (.k77 x17 x15 (decide (t.e=[73])) x42))))) (.i (decide (t.e=[87])) (.g (.k77 x17 x15 true x42)) (.i (decide (t.e=[72])) (.g (.k77 x17 x15 true x42)) (.g (.k77 x17 x15 (decide (t.e=[73])) x42)))))
 | .k81=>(.i (!(u==11)) (.r false) (.g (.k86 0)))
 | .k77 x23 x24 x25 x47=>(.i (u==10) (.i x25 (.c Az25 Sz25 (s,()) fun r81=>(.i (x23==0) (.i r81.1 (.i (decide (x24<0)) (.r true) (.i (inR x24 t.m.length) (.i ((t.m.getD x24.toNat mv0).o) (.r true) (.g (.k62 (w6 (x23+1)) x47))) .n)) (.g (.k62 (w6 (x23+1)) x47))) (.i (x23==1) (.i r81.2.1 (.i (decide (x24<0)) (.r true) (.i (inR x24 t.m.length) (.i ((t.m.getD x24.toNat mv0).o) (.r true) (.g (.k62 (w6 (x23+1)) x47))) .n)) (.g (.k62 (w6 (x23+1)) x47))) (.i (x23==2) (.i r81.2.2.1 (.i (decide (x24<0)) (.r true) (.i (inR x24 t.m.length) (.i ((t.m.getD x24.toNat mv0).o) (.r true) (.g (.k62 (w6 (x23+1)) x47))) .n)) (.g (.k62 (w6 (x23+1)) x47))) (.i (x23==3) (.i r81.2.2.2.1 (.i (decide (x24<0)) (.r true) (.i (inR x24 t.m.length) (.i ((t.m.getD x24.toNat mv0).o) (.r true) (.g (.k62 (w6 (x23+1)) x47))) .n)) (.g (.k62 (w6 (x23+1)) x47))) .n))))) (.g (.k62 (w6 (x23+1)) x47))) (.g (.k62 (w6 (x23+1)) x47)))
 | .k86 x54=>(.i (decide (x54<4)) (.g (.k92 (w6 (x54+1)) x54)) (.r false))
 | .k92 x51 x55=>(.i (decide (x51<4)) (.c Az98 Sz98 (s,t,x55,()) fun r82=>(.c Az98 Sz98 (s,t,x51,()) fun r83=>(.i (decide (0<r82)) (.i (decide (0<r83)) (.i (decide (r83≤r82)) (.i (r82==4) (.i (!(r83==4)) (.r true) (.g (.k92 (w6 (x51+1)) x55))) (.r true)) (.g (.k92 (w6 (x51+1)) x55))) (.g (.k92 (w6 (x51+1)) x55))) (.g (.k92 (w6 (x51+1)) x55))))) (.g (.k86 (w6 (x55+1)))))
noncomputable def sD (s:St) (t:Pl) (u:Int):Tr Bool ajB (azy s t u) cB.v:=(.c A29 S29 (s.balls,s.strikes,t.p,()) fun r67=>(.c Az197 ayh (t,()) fun r68=>(.i (u==1) (.r (!(r67.2.2.1==0))) (.i (u==2) (.c Az30 Sz30 ((r67.1.1,r67.1.2.1,()),t.p,()) fun r69=>(.c Az198 Sz198 (r69,t.e,()) fun r70=>(.r (!r70)))) (.i (u==3) (.r (!(r68.2.1==(!decide (t.e=[]))))) (.i (u==5) (.i r68.2.1 (.c Az199 Sz199 (t.e,r68.1,()) fun r71=>(.r (!r71))) (.r false)) (.i (u==6) (.i (decide (t.e=[75])) (.c iT fL (r68.1,true,[107],()) fun r72=>(.i (!r72) (.i (!(s.b1==0)) (.r (decide (s.outs<2))) (.r false)) (.r false))) (.r false)) (.i (u==7) (.i (decide (t.e=[89])) (.i (s.outs==2) (.r true) (.i (s.b1==0) (.r true) (.r (s.b2==0)))) (.r false)) (.i (u==12) (.c bqy aqv (t,()) fun r73=>(.r (decide (3<(w6 (s.outs+r73)))))) (.i (u==13) (.i t.l (.c Az155 ayl (s,t,()) fun r74=>(.i (!r74) (.r true) (.c Az201 Sz201 (t,()) fun r75=>(.r (r75==0))))) (.r false)) (.g (.k44 false 0))))))))))))
def aC (s:St) (t:Pl) (u:Int):=Tr.lp (Tz153J s t u)
theorem Ez153J_s {s:St}{t:Pl}{u:Int}{n:Nat}{l_:ajB}:aC s t u (n+1) l_=(Tz153J s t u l_).d (aC s t u n):=rfl
def iH (n:Nat) (s:St) (t:Pl) (u:Int):=(sD s t u).d (aC s t u n)
def iS (x:St×Pl×Int×Unit):=iH (x.2.1.m.length+64) x.1 x.2.1 x.2.2.1
def wz153:Wk (St×Pl×Int×Unit) Bool ajB cB.v:=⟨fun x=>azy x.1 x.2.1 x.2.2.1,uz153,fun x=>sD x.1 x.2.1 x.2.2.1,fun x=>Tz153J x.1 x.2.1 x.2.2.1⟩
noncomputable def Kz153:=aV 116 Tryz.func116 [Kz25,K29,Kz30,Kz59,Kz98,Kz155,Kz157,Kz197,Kz198,Kz199,bqL,Kz201,Kz202] noZ ⟨315,(lookA [(22,⟨[2,3,4,12,13],[0,1],2,[],[],[],[]⟩),(31,⟨[2,3,4,12,15],[0,1],2,[],[],[],[]⟩),(43,⟨[3,4,18],[0,1],2,[],[],[],[]⟩),(46,⟨[3,4,18,19],[0,1],2,[],[],[],[]⟩)]),(lookA [(25,⟨[2,3,4,12,13],[0,1],2,[],[],[],[]⟩),(30,⟨[2,3,4,12],[0,1],2,[],[],[],[]⟩),(26,⟨[2,3,4,12,13,14],[0,1,2],3,[],[],[],[]⟩),(28,⟨[2,3,4,12,13,14],[0,1,2],3,[],[],[],[]⟩),(35,⟨[2,3,4,12,15,16],[0,1],2,[],[],[],[]⟩),(40,⟨[2,3,4],[0,1],2,[],[],[],[]⟩),(38,⟨[2,3,4,12,15,16,17],[0,1],2,[],[],[],[]⟩)]),noL⟩ 128 Az153 cB iS wz153 (fun x=>x.2.1.m.length+64)
def Az94:=(Row.cons (Cod.agg rSt) (Row.cons (Cod.agg rPl) Row.nil))
inductive Lz94 where
 | k4 (x2:Int)
def uz94:Lz94→Nat
 | .k4 _=>4
def sLz94 (s:St) (t:Pl):Lz94→D
 | .k4 x2=>mD [(2,.ptr 0 0),(3,.ptr 1 0),(5,.int .i64 x2)] 2 [(0,.row ⟨(rSt.v s),39,false⟩),(1,.row ⟨(rPl.v t),45,false⟩)] 128 []
def Tz94J (s:St) (t:Pl):(l_:Lz94)→Tr Int Lz94 (sLz94 s t) cI.v
 | .k4 x2=>(.i (decide (x2≤13)) (.c Az153 iS (s,t,x2,()) fun r4=>(.i r4 (.r x2) (.g (.k4 (w6 (x2+1)))))) (.r 0))
def Tz94 (s:St) (t:Pl):Tr Int Lz94 (sLz94 s t) cI.v:=(.g (.k4 1))
def awH (s:St) (t:Pl):=Tr.lp (Tz94J s t)
def Ez94 (n:Nat) (s:St) (t:Pl):=(Tz94 s t).d (awH s t n)
def Sz94 (x:St×Pl×Unit):=Ez94 (x.2.1.m.length+64) x.1 x.2.1
def wz94:Wk (St×Pl×Unit) Int Lz94 cI.v:=⟨fun x=>sLz94 x.1 x.2.1,uz94,fun x=>Tz94 x.1 x.2.1,fun x=>Tz94J x.1 x.2.1⟩
def Kz94:=aV 68 Tryz.func68 [Kz153] noZ ⟨15,(lookA [(2,⟨[2,3,5],[0,1],2,[],[],[],[]⟩)]),noL,noL⟩ 128 Az94 cI Sz94 wz94 (fun x=>x.2.1.m.length+64)
def Az154:=(Row.cons cI Row.nil)
def Tz154 (s:Int):Tr Int Empty noS cI.v:=(.r (w6 ((s.tmod 9)+1)))
def Ez154 (s:Int):=(Tz154 s).d noE
def axz (x:Int×Unit):=Ez154 x.1
def wz154:Wk (Int×Unit) Int Empty cI.v:=wk0 fun x=>Tz154 x.1
def Kz154:=aV 118 Tryz.func118 [] noZ ⟨6,noL,noL,noL⟩ 128 Az154 cI axz wz154 (fun _=>0)
def Az156:=(Row.cons (Cod.agg rMv) Row.nil)
noncomputable def Tz156 (s:Mv):Tr Bool Empty noS cB.v:=(.c iT fL (s,true,[102],()) fun r4=>(.i r4 (.r true) (.i (s.f==0) (.c iT fL (s,true,[99,107,121,110],()) fun r5=>(.i r5 (.r true) (.c iT fL (s,true,[103],()) fun r6=>(.i r6 (.r (s.t==1)) (.r false))))) (.r false))))
def Ez156 (s:Mv):=(Tz156 s).d noE
def Sz156 (x:Mv×Unit):=Ez156 x.1
def wz156:Wk (Mv×Unit) Bool Empty cB.v:=wk0 fun x=>Tz156 x.1
def Kz156:=aV 175 Tryz.func175 [bqL] noZ ⟨23,noL,noL,noL⟩ 128 Az156 cB Sz156 wz156 (fun _=>0)
def Az96:=(Row.cons (Cod.agg rSt) (Row.cons (Cod.agg rPl) Row.nil))
inductive Lz96 where
 | k8 (x3:Int)
def uz96:Lz96→Nat
 | .k8 _=>8
def sLz96 (s:St) (t:Pl):Lz96→D
 | .k8 x3=>mD [(3,.ptr 1 0),(5,.int .i64 x3)] 2 [(1,.row ⟨(rPl.v t),45,false⟩)] 128 []
noncomputable def akn (s:St) (t:Pl):(l_:Lz96)→Tr Bool Lz96 (sLz96 s t) cB.v
 | .k8 x3=>(.i (decide (x3<((t.m.length:Nat):Int))) (.i (inR x3 t.m.length) (.c Az156 Sz156 ((t.m.getD x3.toNat mv0),()) fun r7=>(.i r7 (.r false) (.g (.k8 (w6 (x3+1)))))) .n) (.r (!t.l)))
def Tz96 (s:St) (t:Pl):Tr Bool Lz96 (sLz96 s t) cB.v:=(.c Az155 ayl (s,t,()) fun r6=>(.i (!r6) (.r true) (.g (.k8 0))))
def awG (s:St) (t:Pl):=Tr.lp (akn s t)
theorem awF {s:St}{t:Pl}{n:Nat}{l_:Lz96}:awG s t (n+1) l_=(akn s t l_).d (awG s t n):=rfl
def Ez96 (n:Nat) (s:St) (t:Pl):=(Tz96 s t).d (awG s t n)
def Sz96 (x:St×Pl×Unit):=Ez96 (x.2.1.m.length+64) x.1 x.2.1
def wz96:Wk (St×Pl×Unit) Bool Lz96 cB.v:=⟨fun x=>sLz96 x.1 x.2.1,uz96,fun x=>Tz96 x.1 x.2.1,fun x=>akn x.1 x.2.1⟩
def Kz96:=aV 158 Tryz.func158 [Kz155,Kz156] noZ ⟨26,(lookA [(4,⟨[3,5],[1],2,[],[],[],[]⟩)]),noL,noL⟩ 128 Az96 cB Sz96 wz96 (fun x=>x.2.1.m.length+64)
def Az97:=(Row.cons (Cod.agg rSt) (Row.cons cI Row.nil))
def Tz97 (s:St) (t:Int):Tr Int Empty noS cI.v:=(.i (t==0) (.i (s.half==0) (.r s.n0) (.i (s.half==1) (.r s.n1) .n)) (.i ((w6 (t-1))==0) (.r s.b1) (.i ((w6 (t-1))==1) (.r s.b2) (.i ((w6 (t-1))==2) (.r s.b3) .n))))
def Ez97 (s:St) (t:Int):=(Tz97 s t).d noE
def Sz97 (x:St×Int×Unit):=Ez97 x.1 x.2.1
def wz97:Wk (St×Int×Unit) Int Empty cI.v:=wk0 fun x=>Tz97 x.1 x.2.1
def Kz97:=aV 122 Tryz.func122 [] noZ ⟨17,noL,noL,noL⟩ 128 Az97 cI Sz97 wz97 (fun _=>0)
def Az39:=(Row.cons (Cod.agg rSt) (Row.cons (Cod.agg rPl) Row.nil))
def Wz39 (r:(List (Int))):V:=.el (r.map nX.v)
theorem hWz39 (r:(List (Int))):(Wz39 r).c=((Cod.list 0 nX).v r).c:=by
 first|rfl|exact bJ|(show EVal.tup (V.cs _)=EVal.tup (V.cs _);simp only [V.cs_map,List.map_cons,List.map_nil,bJ];rfl)
inductive Lz39 where
 | k6 (x3:Int) (x4:List (Int))
def uz39:Lz39→Nat
 | .k6 _ _=>6
def azg (s:St) (t:Pl) (x3:Int) (x4:List (List V)):D:=mD [(2,.ptr 0 0),(3,.ptr 1 0),(5,.gl 128),(6,.int .i64 x3)] 2 [(0,.row ⟨(rSt.v s),39,false⟩),(1,.row ⟨(rPl.v t),45,false⟩)] 129 [(128,(x4,3))]
def awf (s:St) (t:Pl):Lz39→D
 | .k6 x3 x4=>azg s t x3 (x4.map nX.v)
noncomputable def akt (s:St) (t:Pl):(l_:Lz39)→Tr (List (Int)) Lz39 (awf s t) Wz39
 | .k6 x3 x4=>(.i (decide (x3<((t.m.length:Nat):Int))) (.c Az96 Sz96 (s,t,()) fun r7=>(.i r7 (.i (inR x3 t.m.length) (.i (!(t.m.getD x3.toNat mv0).o) (.i (inR x3 t.m.length) (.i ((t.m.getD x3.toNat mv0).t==4) (.i (inR x3 t.m.length) (.c Az97 Sz97 (s,(t.m.getD x3.toNat mv0).f,()) fun r8=>(.i (Nat.ble (8*(((x4.map nX.v)).length+1)) 1000000) (.j (.k6 (w6 (x3+1)) (x4++[r8])) (azg s t (w6 (x3+1)) ((x4.map nX.v)++[[.int .i64 r8]])) ⟨by simp only [awf,List.map_append,List.map_cons,List.map_nil];rfl⟩) .n)) .n) (.g (.k6 (w6 (x3+1)) x4))) .n) (.g (.k6 (w6 (x3+1)) x4))) .n) (.r x4))) (.r x4))
def Tz39 (s:St) (t:Pl):Tr (List (Int)) Lz39 (awf s t) Wz39:=(.g (.k6 0 []))
def bqR (s:St) (t:Pl):=Tr.lp (akt s t)
theorem awT {s:St}{t:Pl}{n:Nat}{l_:Lz39}:bqR s t (n+1) l_=(akt s t l_).d (bqR s t n):=rfl
def Ez39 (n:Nat) (s:St) (t:Pl):=(Tz39 s t).d (bqR s t n)
def Sz39 (x:St×Pl×Unit):=Ez39 (x.2.1.m.length+64) x.1 x.2.1
def wz39:Wk (St×Pl×Unit) (List (Int)) Lz39 Wz39:=⟨fun x=>awf x.1 x.2.1,uz39,fun x=>Tz39 x.1 x.2.1,fun x=>akt x.1 x.2.1⟩
def Kz39:=aV 120 Tryz.func120 [Kz96,Kz97] noZ ⟨47,(lookA [(3,⟨[2,3,5,6],[0,1],2,[(5,3)],[128],[],[]⟩)]),noL,noL⟩ 128 Az39 (Cod.list 0 nX) Sz39 wz39 (fun x=>x.2.1.m.length+64) hWz39
def Az95:=(Row.cons (Cod.agg rSt) (Row.cons (Cod.agg rPl) Row.nil))
inductive Lz95 where
 | k7 (x2:Int) (x3:Int)
 | k11 (x4:Int) (x5:Int)
 | k13
 | k17 (x7:Int) (x8:Int) (x9:Int) (x12:Int) (x14:Int)
 | k22 (x19:Int) (x20:Int) (x21:Int) (x22:Int) (x23:Int) (x24:Int) (x25:Int) (x29:Int) (x30:Int) (x31:Int) (x32:Int)
def uz95:Lz95→Nat
 | .k7 _ _=>7
 | .k11 _ _=>11
 | .k13=>13
 | .k17 _ _ _ _ _=>17
 | .k22 _ _ _ _ _ _ _ _ _ _ _=>22
noncomputable def sLz95 (s:St) (t:Pl):Lz95→D
 | .k7 x2 x3=>mD [(2,.ptr 0 0),(3,.ptr 1 0),(4,.ptr 2 0),(5,.ptr 3 0),(6,.lptr [.int .i64 x2,.int .i64 x3] 0)] 4 [(0,.row ⟨(rSt.v s),39,false⟩),(1,.row ⟨(rPl.v t),45,false⟩),(2,.row ⟨[.int .i64 0,.int .i64 0,.int .i64 0,.int .i64 0,.int .i64 0,.int .i64 0,.int .i64 0,.int .i64 0,.int .i64 0,.int .i64 0,.int .i64 0,.int .i64 0,.bool false],39,false⟩),(3,.row ⟨(rSt.v s),39,false⟩)] 128 []
 | .k11 x4 x5=>mD [(2,.ptr 0 0),(3,.ptr 1 0),(4,.ptr 2 0),(5,.ptr 3 0),(31,.bool (!decide (t.e=[])))] 4 [(0,.row ⟨(rSt.v s),39,false⟩),(1,.row ⟨(rPl.v t),45,false⟩),(2,.row ⟨[.int .i64 0,.int .i64 0,.int .i64 0,.int .i64 0,.int .i64 0,.int .i64 0,.int .i64 0,.int .i64 0,.int .i64 0,.int .i64 0,.int .i64 0,.int .i64 0,.bool false],39,false⟩),(3,.row ⟨[.int .i64 s.inn,.int .i64 s.half,.int .i64 s.outs,.int .i64 x4,.int .i64 x5,.int .i64 s.b1,.int .i64 s.b2,.int .i64 s.b3,.int .i64 s.n0,.int .i64 s.n1,.int .i64 s.c0,.int .i64 s.c1,.bool s.over],39,false⟩)] 128 []
 | .k13=>mD [(2,.ptr 0 0),(3,.ptr 1 0),(4,.ptr 2 0),(5,.ptr 3 0)] 4 [(0,.row ⟨(rSt.v s),39,false⟩),(1,.row ⟨(rPl.v t),45,false⟩),(2,.row ⟨[.int .i64 0,.int .i64 0,.int .i64 0,.int .i64 0,.int .i64 0,.int .i64 0,.int .i64 0,.int .i64 0,.int .i64 0,.int .i64 0,.int .i64 0,.int .i64 0,.bool false],39,false⟩),(3,.row ⟨[.int .i64 s.inn,.int .i64 s.half,.int .i64 s.outs,.int .i64 0,.int .i64 0,.int .i64 s.b1,.int .i64 s.b2,.int .i64 s.b3,.int .i64 s.n0,.int .i64 s.n1,.int .i64 s.c0,.int .i64 s.c1,.bool s.over],39,false⟩)] 128 []
 | .k17 x7 x8 x9 x12 x14=>mD [(2,.ptr 0 0),(3,.ptr 1 0),(4,.ptr 2 0),(5,.ptr 3 0)] 4 [(0,.row ⟨(rSt.v s),39,false⟩),(1,.row ⟨(rPl.v t),45,false⟩),(2,.row ⟨[.int .i64 0,.int .i64 0,.int .i64 0,.int .i64 0,.int .i64 0,.int .i64 0,.int .i64 0,.int .i64 0,.int .i64 0,.int .i64 0,.int .i64 0,.int .i64 0,.bool false],39,false⟩),(3,.row ⟨[.int .i64 s.inn,.int .i64 s.half,.int .i64 x7,.int .i64 x8,.int .i64 x9,.int .i64 s.b1,.int .i64 s.b2,.int .i64 s.b3,.int .i64 x14,.int .i64 x12,.int .i64 s.c0,.int .i64 s.c1,.bool s.over],39,false⟩)] 128 []
 | .k22 x19 x20 x21 x22 x23 x24 x25 x29 x30 x31 x32=>mD [(2,.ptr 0 0),(3,.ptr 1 0),(4,.ptr 2 0),(5,.ptr 3 0),(9,.int .i64 x29)] 4 [(0,.row ⟨(rSt.v s),39,false⟩),(1,.row ⟨(rPl.v t),45,false⟩),(2,.row ⟨[.int .i64 0,.int .i64 0,.int .i64 0,.int .i64 0,.int .i64 0,.int .i64 0,.int .i64 0,.int .i64 0,.int .i64 0,.int .i64 0,.int .i64 0,.int .i64 0,.bool false],39,false⟩),(3,.row ⟨[.int .i64 s.inn,.int .i64 s.half,.int .i64 x19,.int .i64 x20,.int .i64 x21,.int .i64 x32,.int .i64 x31,.int .i64 x30,.int .i64 x22,.int .i64 x23,.int .i64 x25,.int .i64 x24,.bool s.over],39,false⟩)] 128 []
noncomputable def aya (s:St) (t:Pl):(l_:Lz95)→Tr St Lz95 (sLz95 s t) (Cod.agg rSt).v
 | .k7 x2 x3=>(.g (.k11 x2 x3))
 | .k11 x4 x5=>(.i (!decide (t.e=[])) (.g .k13) (.c bqy aqv (t,()) fun r37=>(.g (.k17 (w6 (s.outs+r37)) x4 x5 s.n1 s.n0))))
 | .k13=>(.i (s.half==0) (.c Az154 axz (s.n0,()) fun r41=>(.i (s.half==0) (.c bqy aqv (t,()) fun r43=>(.g (.k17 (w6 (s.outs+r43)) 0 0 s.n1 r41))) (.i (s.half==1) (.c bqy aqv (t,()) fun r42=>(.g (.k17 (w6 (s.outs+r42)) 0 0 r41 s.n0))) .n))) (.i (s.half==1) (.c Az154 axz (s.n1,()) fun r38=>(.i (s.half==0) (.c bqy aqv (t,()) fun r40=>(.g (.k17 (w6 (s.outs+r40)) 0 0 s.n1 r38))) (.i (s.half==1) (.c bqy aqv (t,()) fun r39=>(.g (.k17 (w6 (s.outs+r39)) 0 0 r38 s.n0))) .n))) .n))
 | .k17 x7 x8 x9 x12 x14=>(.i (s.half==0) (.c Az39 Sz39 (s,t,()) fun r45=>(.i (s.half==0) (.g (.k22 x7 x8 x9 x14 x12 s.c1 (w6 (s.c0+((r45.length:Nat):Int))) 0 0 0 0)) (.i (s.half==1) (.g (.k22 x7 x8 x9 x14 x12 (w6 (s.c0+((r45.length:Nat):Int))) s.c0 0 0 0 0)) .n))) (.i (s.half==1) (.c Az39 Sz39 (s,t,()) fun r44=>(.i (s.half==0) (.g (.k22 x7 x8 x9 x14 x12 s.c1 (w6 (s.c1+((r44.length:Nat):Int))) 0 0 0 0)) (.i (s.half==1) (.g (.k22 x7 x8 x9 x14 x12 (w6 (s.c1+((r44.length:Nat):Int))) s.c0 0 0 0 0)) .n))) .n))
 | .k22 x19 x20 x21 x22 x23 x24 x25 x29 x30 x31 x32=>(.i (decide (x29<4)) (.c Az98 Sz98 (s,t,x29,()) fun r46=>(.i (decide (0<r46)) (.i (decide (r46<4)) (.c Az97 Sz97 (s,x29,()) fun r47=>(.i ((w6 (r46-1))==0) (.g (.k22 x19 x20 x21 x22 x23 x24 x25 (w6 (x29+1)) x30 x31 r47)) (.i ((w6 (r46-1))==1) (.g (.k22 x19 x20 x21 x22 x23 x24 x25 (w6 (x29+1)) x30 r47 x32)) (.i ((w6 (r46-1))==2) (.g (.k22 x19 x20 x21 x22 x23 x24 x25 (w6 (x29+1)) r47 x31 x32)) .n)))) (.g (.k22 x19 x20 x21 x22 x23 x24 x25 (w6 (x29+1)) x30 x31 x32))) (.g (.k22 x19 x20 x21 x22 x23 x24 x25 (w6 (x29+1)) x30 x31 x32)))) (.r (⟨s.inn,s.half,x19,x20,x21,x32,x31,x30,x22,x23,x25,x24,s.over⟩:St)))
def Tz95 (s:St) (t:Pl):Tr St Lz95 (sLz95 s t) (Cod.agg rSt).v:=(.c A29 S29 (s.balls,s.strikes,t.p,()) fun r36=>(.g (.k7 r36.1.1 r36.1.2.1)))
def eI (s:St) (t:Pl):=Tr.lp (aya s t)
theorem Ez95J_s {s:St}{t:Pl}{n:Nat}{l_:Lz95}:eI s t (n+1) l_=(aya s t l_).d (eI s t n):=rfl
def Ez95 (n:Nat) (s:St) (t:Pl):=(Tz95 s t).d (eI s t n)
def Sz95 (x:St×Pl×Unit):=Ez95 (x.2.1.m.length+64) x.1 x.2.1
def wz95:Wk (St×Pl×Unit) St Lz95 (Cod.agg rSt).v:=⟨fun x=>sLz95 x.1 x.2.1,uz95,fun x=>Tz95 x.1 x.2.1,fun x=>aya x.1 x.2.1⟩
noncomputable def Kz95:=aV 69 Tryz.func69 [K29,Kz39,Kz59,Kz97,Kz98,Kz154] noZ ⟨88,(lookA [(11,⟨[2,3,4,5,9],[0,1,2,3],4,[],[],[],[]⟩)]),(lookA [(3,⟨[2,3,4,5,6],[0,1,2,3],4,[],[],[(4,1)],[]⟩),(5,⟨[2,3,4,5,31],[0,1,2,3],4,[],[],[],[]⟩),(6,⟨[2,3,4,5],[0,1,2,3],4,[],[],[],[]⟩),(8,⟨[2,3,4,5],[0,1,2,3],4,[],[],[],[]⟩)]),noL⟩ 128 Az95 (Cod.agg rSt) Sz95 wz95 (fun x=>x.2.1.m.length+64)
def Az67:=(Row.cons (Cod.agg rSt) Row.nil)
def Tz67 (s:St):Tr Bool Empty noS cB.v:=(.i (decide (9≤s.inn)) (.i (s.half==1) (.r (decide (s.c0<s.c1))) (.r false)) (.r false))
def Ez67 (s:St):=(Tz67 s).d noE
def Sz67 (x:St×Unit):=Ez67 x.1
def wz67:Wk (St×Unit) Bool Empty cB.v:=wk0 fun x=>Tz67 x.1
def Kz67:=aV 123 Tryz.func123 [] noZ ⟨20,noL,noL,noL⟩ 128 Az67 cB Sz67 wz67 (fun _=>0)
def Az41:=(Row.cons (Cod.agg rSt) (Row.cons (Cod.agg rPl) Row.nil))
noncomputable def Tz41 (s:St) (t:Pl):Tr Int Empty noS cI.v:=(.c Az95 Sz95 (s,t,()) fun r3=>(.c Az67 Sz67 (r3,()) fun r4=>(.i r4 (.r 2) (.i (decide (r3.outs<3)) (.r 0) (.i (decide (9≤r3.inn)) (.i (r3.half==0) (.i (decide (r3.c0<r3.c1)) (.r 2) (.i (r3.half==1) (.i (!(r3.c0==r3.c1)) (.r 2) (.i (r3.half==1) (.i (r3.inn==30) (.r 2) (.r 1)) (.r 1))) (.i (r3.half==1) (.i (r3.inn==30) (.r 2) (.r 1)) (.r 1)))) (.i (r3.half==1) (.i (!(r3.c0==r3.c1)) (.r 2) (.i (r3.half==1) (.i (r3.inn==30) (.r 2) (.r 1)) (.r 1))) (.i (r3.half==1) (.i (r3.inn==30) (.r 2) (.r 1)) (.r 1)))) (.i (r3.half==1) (.i (r3.inn==30) (.r 2) (.r 1)) (.r 1)))))))
def Ez41 (s:St) (t:Pl):=(Tz41 s t).d noE
def Sz41 (x:St×Pl×Unit):=Ez41 x.1 x.2.1
def wz41:Wk (St×Pl×Unit) Int Empty cI.v:=wk0 fun x=>Tz41 x.1 x.2.1
def Kz41:=aV 70 Tryz.func70 [Kz67,Kz95] noZ ⟨57,noL,noL,noL⟩ 128 Az41 cI Sz41 wz41 (fun _=>0)
def Az38:=(Row.cons (Cod.agg rSt) (Row.cons (Cod.agg rPl) Row.nil))
noncomputable def Tz38 (s:St) (t:Pl):Tr ((St)×(Int)×(Int)×Unit) Empty noS (Cod.tup (Row.cons (Cod.agg rSt) (Row.cons cI (Row.cons cI Row.nil)))).v:=(.i s.over (.r ((⟨0,0,0,0,0,0,0,0,0,0,0,0,false⟩:St),0,20,())) (.c Az94 Sz94 (s,t,()) fun r4=>(.i (!(r4==0)) (.r ((⟨0,0,0,0,0,0,0,0,0,0,0,0,false⟩:St),r4,18,())) (.c Az95 Sz95 (s,t,()) fun r5=>(.i (decide (9999<r5.c0)) (.r ((⟨0,0,0,0,0,0,0,0,0,0,0,0,false⟩:St),0,4,())) (.i (decide (9999<r5.c1)) (.r ((⟨0,0,0,0,0,0,0,0,0,0,0,0,false⟩:St),0,4,())) (.c Az41 Sz41 (s,t,()) fun r6=>(.i (r6==0) (.r (r5,0,0,())) (.i (r6==2) (.r ((⟨r5.inn,r5.half,0,0,0,0,0,0,r5.n0,r5.n1,r5.c0,r5.c1,true⟩:St),0,0,())) (.i ((w6 (1-r5.half))==0) (.r ((⟨(w6 (r5.inn+1)),(w6 (1-r5.half)),0,0,0,0,0,0,r5.n0,r5.n1,r5.c0,r5.c1,r5.over⟩:St),0,0,())) (.r ((⟨r5.inn,(w6 (1-r5.half)),0,0,0,0,0,0,r5.n0,r5.n1,r5.c0,r5.c1,r5.over⟩:St),0,0,()))))))))))))
def Ez38 (s:St) (t:Pl):=(Tz38 s t).d noE
def Sz38 (x:St×Pl×Unit):=Ez38 x.1 x.2.1
def wz38:Wk (St×Pl×Unit) ((St)×(Int)×(Int)×Unit) Empty (Cod.tup (Row.cons (Cod.agg rSt) (Row.cons cI (Row.cons cI Row.nil)))).v:=wk0 fun x=>Tz38 x.1 x.2.1
def Kz38:=aV 32 Tryz.func32 [Kz41,Kz94,Kz95] noZ ⟨61,noL,noL,noL⟩ 128 Az38 (Cod.tup (Row.cons (Cod.agg rSt) (Row.cons cI (Row.cons cI Row.nil)))) Sz38 wz38 (fun _=>0)
