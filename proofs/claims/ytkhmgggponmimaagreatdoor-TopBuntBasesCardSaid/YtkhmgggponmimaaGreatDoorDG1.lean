import Derived.Test.YtkhmgggponmimaaGreatDoorDP2
set_option linter.unusedSimpArgs false
set_option linter.unusedVariables false
namespace Go.Ev
open Go.RowKit Go.Proofs
set_option maxRecDepth 100000
set_option maxHeartbeats 4000000
set_option linter.unusedVariables false
noncomputable section
def Az22:=Row.nil
def Tz22:Tr St Empty noS (Cod.agg rSt).v:=(.r (⟨1,0,0,0,0,0,0,0,1,1,0,0,false⟩:St))
def Ez22:=(Tz22).d noE
def Sz22 (x:Unit):=Ez22
def wz22:Wk (Unit) St Empty (Cod.agg rSt).v:=wk0 fun x=>Tz22
def Kz22:=aP 36 Tryz.func36 [] noZ ⟨3,noL,noL,noL⟩ 128 Az22 (Cod.agg rSt) Sz22 wz22 (fun _=>0)
def Az42:=(Row.cons (Cod.list pl0 rPl) (Row.cons cI Row.nil))
inductive Lz42 where
 | k8 (x2:Int)
def uz42:Lz42→Nat
 | .k8 _=>8
def sLz42 (s:List (Pl)) (t:Int):Lz42→D
 | .k8 x2=>mD [(0,(Cod.list pl0 rPl).v s),(5,.int .i64 x2)] 0 [] 128 []
noncomputable def akl (s:List (Pl)) (t:Int):(l_:Lz42)→Tr Bool Lz42 (sLz42 s t) cB.v
 | .k8 x2=>(.i (decide (x2<((s.length:Nat):Int))) (.i (inR x2 s.length) (.c Az84 Sz84 ((s.getD x2.toNat pl0),()) fun r4=>(.i (!r4) (.r false) (.g (.k8 (w6 (x2+1)))))) .n) (.r true))
noncomputable def Tz42 (s:List (Pl)) (t:Int):Tr Bool Lz42 (sLz42 s t) cB.v:=(.i (decide (t<((s.length:Nat):Int))) (.i (decide (((s.length:Nat):Int)≤256)) (.r false) (.i (decide (258<((s.length:Nat):Int))) (.r false) (.g (.k8 0)))) (.i (decide (258<((s.length:Nat):Int))) (.r false) (.g (.k8 0))))
def awQ (s:List (Pl)) (t:Int):=Tr.lp (akl s t)
theorem awP {s:List (Pl)}{t:Int}{n:Nat}{l_:Lz42}:awQ s t (n+1) l_=(akl s t l_).d (awQ s t n):=rfl
def Ez42 (n:Nat) (s:List (Pl)) (t:Int):=(Tz42 s t).d (awQ s t n)
def Sz42 (x:(List (Pl))×Int×Unit):=Ez42 (x.1.length+64) x.1 x.2.1
def wz42:Wk ((List (Pl))×Int×Unit) Bool Lz42 cB.v:=⟨fun x=>sLz42 x.1 x.2.1,uz42,fun x=>Tz42 x.1 x.2.1,fun x=>akl x.1 x.2.1⟩
def Kz42:=aP 14 Tryz.func14 [Kz84] noZ ⟨32,(lookA [(4,⟨[0,5],[],0,[],[],[],[]⟩)]),noL,noL⟩ 128 Az42 cB Sz42 wz42 (fun x=>x.1.length+64)
def Az44:=(Row.cons (Cod.list pl0 rPl) Row.nil)
def Wz44 (r:(List (Pl))):V:=.el (r.map rPl.v)
theorem hWz44 (r:(List (Pl))):(Wz44 r).c=((Cod.list pl0 rPl).v r).c:=by
 first|rfl|exact aR|(show EVal.tup (V.cs _)=EVal.tup (V.cs _);simp only [V.cs_map,List.map_cons,List.map_nil,aR];rfl)
inductive Lz44 where
 | k6 (x2:Int) (x3:List (Pl))
def uz44:Lz44→Nat
 | .k6 _ _=>6
def az8 (s:List (Pl)) (x2:Int) (x3:List (List V)):D:=mD [(0,(Cod.list pl0 rPl).v s),(3,.gl 128),(4,.int .i64 x2)] 0 [] 129 [(128,(x3,29))]
def awa (s:List (Pl)):Lz44→D
 | .k6 x2 x3=>az8 s x2 (x3.map rPl.v)
noncomputable def akk (s:List (Pl)):(l_:Lz44)→Tr (List (Pl)) Lz44 (awa s) Wz44
 | .k6 x2 x3=>(.i (decide (x2<((s.length:Nat):Int))) (.i (inR x2 s.length) (.c A33 S33 ((s.getD x2.toNat pl0),()) fun r5=>(.i (Nat.ble (64*(((x3.map rPl.v)).length+1)) 1000000) (.j (.k6 (w6 (x2+1)) (x3++[r5])) (az8 s (w6 (x2+1)) ((x3.map rPl.v)++[(rPl.v r5)])) ⟨by simp only [awa,List.map_append,List.map_cons,List.map_nil]<;>rfl⟩) .n)) .n) (.r x3))
def Tz44 (s:List (Pl)):Tr (List (Pl)) Lz44 (awa s) Wz44:=(.g (.k6 0 []))
def bqA (s:List (Pl)):=Tr.lp (akk s)
theorem awO {s:List (Pl)}{n:Nat}{l_:Lz44}:bqA s (n+1) l_=(akk s l_).d (bqA s n):=rfl
def Ez44 (n:Nat) (s:List (Pl)):=(Tz44 s).d (bqA s n)
def Sz44 (x:(List (Pl))×Unit):=Ez44 (x.1.length+64) x.1
def wz44:Wk ((List (Pl))×Unit) (List (Pl)) Lz44 Wz44:=⟨fun x=>awa x.1,uz44,fun x=>Tz44 x.1,fun x=>akk x.1⟩
def Kz44:=aP 16 Tryz.func16 [K33] noZ ⟨20,(lookA [(3,⟨[0,3,4],[],0,[(3,29)],[128],[],[]⟩)]),noL,noL⟩ 128 Az44 (Cod.list pl0 rPl) Sz44 wz44 (fun x=>x.1.length+64) hWz44
