import Derived.Test.YtkhmgggponmimaaGreatDoorDKon
set_option linter.unusedSimpArgs false
set_option linter.unusedVariables false
namespace Go.Ev
open Go.RowKit Go.Proofs
set_option maxRecDepth 100000
set_option maxHeartbeats 4000000
set_option linter.unusedVariables false
noncomputable section
def Af231:=(Row.cons (azO .i32) Row.nil)
noncomputable def Tf231 (s:Int):Tr Bool Empty noS cB.v:=(.i (decide (0≤s)) (.i (decide (s<55296)) (.r true) (.i (decide (57343<s)) (.i (decide (s≤1114111)) (.r true) (.r false)) (.r false))) (.i (decide (57343<s)) (.i (decide (s≤1114111)) (.r true) (.r false)) (.r false)))
def Ef231 (s:Int):=(Tf231 s).d noE
def ayo (x:Int×Unit):=Ef231 x.1
def wf231:Wk (Int×Unit) Bool Empty cB.v:=wk0 fun x=>Tf231 x.1
def Kf231:=aP 119 Tryz.func119 [] noZ ⟨17,noL,noL,noL⟩ 128 Af231 cB ayo wf231 (fun _=>0)
def Af214:=(Row.cons cS (Row.cons (azO .i32) Row.nil))
inductive ajF where
 | k76 (x4:Nat)
 | k10
 | k24 (x6:Int) (x7:Int)
def uf214:ajF→Nat
 | .k76 _=>76
 | .k10=>10
 | .k24 _ _=>24
noncomputable def avB (s:List Nat) (t:Int):ajF→D
 | .k76 x4=>mD [(175,.ptr 0 0)] 1 [(0,.iter s x4)] 128 []
 | .k10=>mD [(0,.str s),(7,.str (bX t)),(8,.int .i64 (w6 ((((bX t).length:Nat):Int)-1))),(9,.int .i64 (w6 ((((bX t).length:Nat):Int)-1)))] 0 [] 128 []
 | .k24 x6 x7=>mD [(0,.str s),(7,.str (bX t)),(8,.int .i64 (w6 ((((bX t).length:Nat):Int)-1))),(9,.int .i64 x6),(12,.int .i64 x7)] 0 [] 128 []
noncomputable def axG (s:List Nat) (t:Int):(l_:ajF)→Tr Int ajF (avB s t) cI.v
 | .k76 x4=>(.i (Nat.blt x4 s.length) (.i ((((gM s x4).1:Nat):Int)==65533) (.r ((x4:Nat):Int)) (.g (.k76 (x4+(gM s x4).2)))) (.r (-1)))
 | .k10=>(.i (decide ((w6 ((((bX t).length:Nat):Int)-1))<((s.length:Nat):Int))) (.i (inR (w6 ((((bX t).length:Nat):Int)-1)) s.length) (.i (inR (w6 ((((bX t).length:Nat):Int)-1)) ((bX t).length)) (.i (!(((s.getD (w6 ((((bX t).length:Nat):Int)-1)).toNat 0:Nat):Int)==(((bX t).getD (w6 ((((bX t).length:Nat):Int)-1)).toNat 0:Nat):Int))) (.i (decide ((0:Int)≤(w6 ((w6 ((((bX t).length:Nat):Int)-1))+1)))&&decide ((w6 ((w6 ((((bX t).length:Nat):Int)-1))+1))≤((s.length:Nat):Int))) (.i (inR (w6 ((((bX t).length:Nat):Int)-1)) ((bX t).length)) (.c A230 S230 (((s.take s.length).drop ((w6 ((w6 ((((bX t).length:Nat):Int)-1))+1)).toNat)),(((bX t).getD (w6 ((((bX t).length:Nat):Int)-1)).toNat 0:Nat):Int),()) fun r14=>(.i (decide (r14<0)) (.r (-1)) (.g (.k24 (w6 ((w6 ((((bX t).length:Nat):Int)-1))+(w6 (r14+1)))) 1)))) .n) .n) (.g (.k24 (w6 ((((bX t).length:Nat):Int)-1)) 1))) .n) .n) (.r (-1)))
 | .k24 x6 x7=>(.i (decide (x7<(((bX t).length:Nat):Int))) (.i (inR (w6 (x6-x7)) s.length) (.i (inR (w6 ((w6 ((((bX t).length:Nat):Int)-1))-x7)) ((bX t).length)) (.i (!(((s.getD (w6 (x6-x7)).toNat 0:Nat):Int)==(((bX t).getD (w6 ((w6 ((((bX t).length:Nat):Int)-1))-x7)).toNat 0:Nat):Int))) .n (.g (.k24 x6 (w6 (x7+1))))) .n) .n) (.r (w6 (x6-(w6 ((((bX t).length:Nat):Int)-1))))))
noncomputable def Tf214 (s:List Nat) (t:Int):Tr Int ajF (avB s t) cI.v:=(.i (decide (0≤t)) (.i (decide (t<128)) (.c A230 S230 (s,(IntKind.u8.wrap t),()) fun r11=>(.r r11)) (.i (t==65533) (.g (.k76 0)) (.c Af231 ayo (t,()) fun r12=>(.i (!r12) (.r (-1)) (.g .k10))))) (.i (t==65533) (.g (.k76 0)) (.c Af231 ayo (t,()) fun r13=>(.i (!r13) (.r (-1)) (.g .k10)))))
def uO (s:List Nat) (t:Int):=Tr.lp (axG s t)
theorem bqD {s:List Nat}{t:Int}{n:Nat}{l_:ajF}:uO s t (n+1) l_=(axG s t l_).d (uO s t n):=rfl
def Ef214 (n:Nat) (s:List Nat) (t:Int):=(Tf214 s t).d (uO s t n)
def Sf214 (x:(List Nat)×Int×Unit):=Ef214 (x.1.length+64) x.1 x.2.1
def wf214:Wk ((List Nat)×Int×Unit) Int ajF cI.v:=⟨fun x=>avB x.1 x.2.1,uf214,fun x=>Tf214 x.1 x.2.1,fun x=>axG x.1 x.2.1⟩
noncomputable def Kf214:=aP 87 Tryz.func87 [K230,Kf231] noZ ⟨187,(lookA [(38,⟨[175],[0],1,[],[],[],[]⟩),(5,⟨[0,7,8,9],[],0,[],[],[],[]⟩),(12,⟨[0,7,8,9,12],[],0,[],[],[],[]⟩)]),noL,noL⟩ 128 Af214 cI Sf214 wf214 (fun x=>x.1.length+64)
def Af190:=(Row.cons cS (Row.cons (azO .i32) Row.nil))
def Tf190 (s:List Nat) (t:Int):Tr Bool Empty noS cB.v:=(.c Af214 Sf214 (s,t,()) fun r2=>(.r (decide (0≤r2))))
def Ef190 (s:List Nat) (t:Int):=(Tf190 s t).d noE
def ayq (x:(List Nat)×Int×Unit):=Ef190 x.1 x.2.1
def wf190:Wk ((List Nat)×Int×Unit) Bool Empty cB.v:=wk0 fun x=>Tf190 x.1 x.2.1
def Kf190:=aP 59 Tryz.func59 [Kf214] noZ ⟨9,noL,noL,noL⟩ 128 Af190 cB ayq wf190 (fun _=>0)
def Af137:=(Row.cons (azO .i32) Row.nil)
def Tf137 (s:Int):Tr Bool Empty noS cB.v:=(.c Af190 ayq ([66,67,83,70,88,72],s,()) fun r2=>(.r r2))
def Ef137 (s:Int):=(Tf137 s).d noE
def Sf137 (x:Int×Unit):=Ef137 x.1
def wf137:Wk (Int×Unit) Bool Empty cB.v:=wk0 fun x=>Tf137 x.1
def Kf137:=aP 32 Tryz.func32 [Kf190] noZ ⟨5,noL,noL,noL⟩ 128 Af137 cB Sf137 wf137 (fun _=>0)
def Af87:=(Row.cons (Cod.list mv0 rMv) Row.nil)
def Wf87 (r:(List (Mv))):V:=.el (r.map rMv.v)
theorem hWf87 (r:(List (Mv))):(Wf87 r).c=((Cod.list mv0 rMv).v r).c:=by
 first|rfl|exact aR|(show EVal.tup (V.cs _)=EVal.tup (V.cs _);simp only [V.cs_map,List.map_cons,List.map_nil,aR];rfl)
inductive Lf87 where
 | k6 (x1:Int) (x2:List (Mv))
def uf87:Lf87→Nat
 | .k6 _ _=>6
def aza (s:List (Mv)) (x1:Int) (x2:List (List V)):D:=mD [(0,(Cod.list mv0 rMv).v s),(3,.gl 0),(4,.int .i64 x1)] 0 [] 1 [(0,(x2,45))]
def awb (s:List (Mv)):Lf87→D
 | .k6 x1 x2=>aza s x1 (x2.map rMv.v)
noncomputable def akm (s:List (Mv)):(l_:Lf87)→Tr (List (Mv)) Lf87 (awb s) Wf87
 | .k6 x1 x2=>(.i (decide (x1<((s.length:Nat):Int))) (.i (inR x1 s.length) (.i (Nat.ble (8*((s.getD x1.toNat mv0).b).length) 1000000) (.i (Nat.ble (64*(((x2.map rMv.v)).length+1)) 1000000) (.j (.k6 (w6 (x1+1)) (x2++[(s.getD x1.toNat mv0)])) (aza s (w6 (x1+1)) ((x2.map rMv.v)++[[.int .i64 (s.getD x1.toNat mv0).f,.int .i64 (s.getD x1.toNat mv0).t,.bool ((s.getD x1.toNat mv0).o),.str ((s.getD x1.toNat mv0).h),(Cod.list 0 nB).v ((s.getD x1.toNat mv0).b)]])) ⟨by simp only [awb,List.map_append,List.map_cons,List.map_nil];rfl⟩) .n) .n) .n) (.r x2))
def Tf87 (s:List (Mv)):Tr (List (Mv)) Lf87 (awb s) Wf87:=(.g (.k6 0 []))
def bqC (s:List (Mv)):=Tr.lp (akm s)
theorem awR {s:List (Mv)}{n:Nat}{l_:Lf87}:bqC s (n+1) l_=(akm s l_).d (bqC s n):=rfl
def Ef87 (n:Nat) (s:List (Mv)):=(Tf87 s).d (bqC s n)
def Sf87 (x:(List (Mv))×Unit):=Ef87 (x.1.length+64) x.1
def wf87:Wk ((List (Mv))×Unit) (List (Mv)) Lf87 Wf87:=⟨fun x=>awb x.1,uf87,fun x=>Tf87 x.1,fun x=>akm x.1⟩
def Kf87:=aP 23 Tryz.func23 [] noZ ⟨26,(lookA [(3,⟨[0,3,4],[],0,[(3,45)],[0],[],[]⟩)]),noL,noL⟩ 0 Af87 (Cod.list mv0 rMv) Sf87 wf87 (fun x=>x.1.length+64) hWf87
def Af33:=(Row.cons (Cod.agg rPl) Row.nil)
def Tf33 (s:Pl):Tr Pl Empty noS (Cod.agg rPl).v:=(.c Af87 Sf87 (s.m,()) fun r2=>(.r (⟨s.p,s.e,s.l,r2⟩:Pl)))
def Ef33 (s:Pl):=(Tf33 s).d noE
def Sf33 (x:Pl×Unit):=Ef33 x.1
def wf33:Wk (Pl×Unit) Pl Empty (Cod.agg rPl).v:=wk0 fun x=>Tf33 x.1
def Kf33:=aP 7 Tryz.func7 [Kf87] noZ ⟨8,noL,noL,noL⟩ 128 Af33 (Cod.agg rPl) Sf33 wf33 (fun _=>0)
end
end Go.Ev
