import Derived.Test.YthobdjmonidpoaaGreatDoorDP2
set_option linter.unusedSimpArgs false
set_option linter.unusedVariables false
namespace Go.Ev
open Go.RowKit Go.Proofs
set_option maxRecDepth 100000
set_option maxHeartbeats 4000000
set_option linter.unusedVariables false
noncomputable section
def Az22:=Row.nil
def Tz22:Tr St Empty noS (Cod.agg rSt).v:=(.r (⟨1,0,0,0,0,0,0,0,1,1,0,0,false⟩:St))
def Ez22:=(Tz22).d noE
def Sz22 (x:Unit):=Ez22
def wz22:Wk (Unit) St Empty (Cod.agg rSt).v:=wk0 fun x=>Tz22
def Kz22:=aV 13 Tryz.func13 [] noZ ⟨3,noL,noL,noL⟩ 128 Az22 (Cod.agg rSt) Sz22 wz22 (fun _=>0)
def Az23:=Row.nil
def Tz23:Tr St Empty noS (Cod.agg rSt).v:=(.r (⟨1,0,0,0,0,0,0,0,1,1,0,0,false⟩:St))
def Ez23:=(Tz23).d noE
def Sz23 (x:Unit):=Ez23
def wz23:Wk (Unit) St Empty (Cod.agg rSt).v:=wk0 fun x=>Tz23
def Kz23:=aV 30 Tryz.func30 [] noZ ⟨3,noL,noL,noL⟩ 128 Az23 (Cod.agg rSt) Sz23 wz23 (fun _=>0)
def Az42:=(Row.cons (Cod.list pl0 rPl) (Row.cons cI Row.nil))
inductive Lz42 where
 | k8 (x2:Int)
def uz42:Lz42→Nat
 | .k8 _=>8
def sLz42 (s:List (Pl)) (t:Int):Lz42→D
 | .k8 x2=>mD [(0,(Cod.list pl0 rPl).v s),(5,.int .i64 x2)] 0 [] 128 []
noncomputable def aks (s:List (Pl)) (t:Int):(l_:Lz42)→Tr Bool Lz42 (sLz42 s t) cB.v
 | .k8 x2=>(.i (decide (x2<((s.length:Nat):Int))) (.i (inR x2 s.length) (.c Az84 Sz84 ((s.getD x2.toNat pl0),()) fun r4=>(.i (!r4) (.r false) (.g (.k8 (w6 (x2+1)))))) .n) (.r true))
noncomputable def Tz42 (s:List (Pl)) (t:Int):Tr Bool Lz42 (sLz42 s t) cB.v:=(.i (decide (t<((s.length:Nat):Int))) (.i (decide (((s.length:Nat):Int)≤256)) (.r false) (.i (decide (258<((s.length:Nat):Int))) (.r false) (.g (.k8 0)))) (.i (decide (258<((s.length:Nat):Int))) (.r false) (.g (.k8 0))))
def awS (s:List (Pl)) (t:Int):=Tr.lp (aks s t)
theorem awR {s:List (Pl)}{t:Int}{n:Nat}{l_:Lz42}:awS s t (n+1) l_=(aks s t l_).d (awS s t n):=rfl
def Ez42 (n:Nat) (s:List (Pl)) (t:Int):=(Tz42 s t).d (awS s t n)
def Sz42 (x:(List (Pl))×Int×Unit):=Ez42 (x.1.length+64) x.1 x.2.1
def wz42:Wk ((List (Pl))×Int×Unit) Bool Lz42 cB.v:=⟨fun x=>sLz42 x.1 x.2.1,uz42,fun x=>Tz42 x.1 x.2.1,fun x=>aks x.1 x.2.1⟩
def Kz42:=aV 4 Tryz.func4 [Kz84] noZ ⟨32,(lookA [(4,⟨[0,5],[],0,[],[],[],[]⟩)]),noL,noL⟩ 128 Az42 cB Sz42 wz42 (fun x=>x.1.length+64)
def Az44:=(Row.cons (Cod.list pl0 rPl) Row.nil)
def Wz44 (r:(List (Pl))):V:=.el (r.map rPl.v)
theorem hWz44 (r:(List (Pl))):(Wz44 r).c=((Cod.list pl0 rPl).v r).c:=by
 first|rfl|exact bJ|(show EVal.tup (V.cs _)=EVal.tup (V.cs _);simp only [V.cs_map,List.map_cons,List.map_nil,bJ];rfl)
inductive Lz44 where
 | k6 (x2:Int) (x3:List (Pl))
def uz44:Lz44→Nat
 | .k6 _ _=>6
def azf (s:List (Pl)) (x2:Int) (x3:List (List V)):D:=mD [(0,(Cod.list pl0 rPl).v s),(3,.gl 128),(4,.int .i64 x2)] 0 [] 129 [(128,(x3,45))]
def awe (s:List (Pl)):Lz44→D
 | .k6 x2 x3=>azf s x2 (x3.map rPl.v)
noncomputable def akr (s:List (Pl)):(l_:Lz44)→Tr (List (Pl)) Lz44 (awe s) Wz44
 | .k6 x2 x3=>(.i (decide (x2<((s.length:Nat):Int))) (.i (inR x2 s.length) (.c A33 S33 ((s.getD x2.toNat pl0),()) fun r5=>(.i (Nat.ble (64*(((x3.map rPl.v)).length+1)) 1000000) (.j (.k6 (w6 (x2+1)) (x3++[r5])) (azf s (w6 (x2+1)) ((x3.map rPl.v)++[(rPl.v r5)])) ⟨by simp only [awe,List.map_append,List.map_cons,List.map_nil]<;>rfl⟩) .n)) .n) (.r x3))
def Tz44 (s:List (Pl)):Tr (List (Pl)) Lz44 (awe s) Wz44:=(.g (.k6 0 []))
def bqQ (s:List (Pl)):=Tr.lp (akr s)
theorem awQ {s:List (Pl)}{n:Nat}{l_:Lz44}:bqQ s (n+1) l_=(akr s l_).d (bqQ s n):=rfl
def Ez44 (n:Nat) (s:List (Pl)):=(Tz44 s).d (bqQ s n)
def Sz44 (x:(List (Pl))×Unit):=Ez44 (x.1.length+64) x.1
def wz44:Wk ((List (Pl))×Unit) (List (Pl)) Lz44 Wz44:=⟨fun x=>awe x.1,uz44,fun x=>Tz44 x.1,fun x=>akr x.1⟩
def Kz44:=aV 7 Tryz.func7 [K33] noZ ⟨20,(lookA [(3,⟨[0,3,4],[],0,[(3,45)],[128],[],[]⟩)]),noL,noL⟩ 128 Az44 (Cod.list pl0 rPl) Sz44 wz44 (fun x=>x.1.length+64) hWz44
def Az47:=(Row.cons (Cod.list st0 rSt) (Row.cons (Cod.list st0 rSt) Row.nil))
inductive Lz47 where
 | k8 (x1:Int)
def uz47:Lz47→Nat
 | .k8 _=>8
def sLz47 (s:List (St)) (t:List (St)):Lz47→D
 | .k8 x1=>mD [(0,(Cod.list st0 rSt).v s),(1,(Cod.list st0 rSt).v t),(5,.int .i64 x1)] 0 [] 128 []
noncomputable def akq (s:List (St)) (t:List (St)):(l_:Lz47)→Tr Bool Lz47 (sLz47 s t) cB.v
 | .k8 x1=>(.i (decide (x1<((s.length:Nat):Int))) (.i (inR x1 s.length) (.i (inR x1 t.length) (.i (!(((s.getD x1.toNat st0).inn==(t.getD x1.toNat st0).inn)&&(((s.getD x1.toNat st0).half==(t.getD x1.toNat st0).half)&&(((s.getD x1.toNat st0).outs==(t.getD x1.toNat st0).outs)&&(((s.getD x1.toNat st0).balls==(t.getD x1.toNat st0).balls)&&(((s.getD x1.toNat st0).strikes==(t.getD x1.toNat st0).strikes)&&(((s.getD x1.toNat st0).b1==(t.getD x1.toNat st0).b1)&&(((s.getD x1.toNat st0).b2==(t.getD x1.toNat st0).b2)&&(((s.getD x1.toNat st0).b3==(t.getD x1.toNat st0).b3)&&(((s.getD x1.toNat st0).n0==(t.getD x1.toNat st0).n0)&&(((s.getD x1.toNat st0).n1==(t.getD x1.toNat st0).n1)&&(((s.getD x1.toNat st0).c0==(t.getD x1.toNat st0).c0)&&(((s.getD x1.toNat st0).c1==(t.getD x1.toNat st0).c1)&&(((s.getD x1.toNat st0).over==(t.getD x1.toNat st0).over)&&true)))))))))))))) (.r false) (.g (.k8 (w6 (x1+1))))) .n) .n) (.r true))
def Tz47 (s:List (St)) (t:List (St)):Tr Bool Lz47 (sLz47 s t) cB.v:=(.i (!(((s.length:Nat):Int)==((t.length:Nat):Int))) (.r false) (.g (.k8 0)))
def awP (s:List (St)) (t:List (St)):=Tr.lp (akq s t)
theorem awO {s:List (St)}{t:List (St)}{n:Nat}{l_:Lz47}:awP s t (n+1) l_=(akq s t l_).d (awP s t n):=rfl
def Ez47 (n:Nat) (s:List (St)) (t:List (St)):=(Tz47 s t).d (awP s t n)
def Sz47 (x:(List (St))×(List (St))×Unit):=Ez47 (x.1.length+x.2.1.length+64) x.1 x.2.1
def wz47:Wk ((List (St))×(List (St))×Unit) Bool Lz47 cB.v:=⟨fun x=>sLz47 x.1 x.2.1,uz47,fun x=>Tz47 x.1 x.2.1,fun x=>akq x.1 x.2.1⟩
def Kz47:=aV 10 Tryz.func10 [] noZ ⟨26,(lookA [(4,⟨[0,1,5],[],0,[],[],[],[]⟩)]),noL,noL⟩ 128 Az47 cB Sz47 wz47 (fun x=>x.1.length+x.2.1.length+64)
end
end Go.Ev
