import Derived.Test.YtkhmgggponmimaaGreatDoorG4
set_option linter.unusedSimpArgs false
set_option linter.unusedVariables false
namespace Go.Ev
open Go.RowKit Go.Proofs
set_option maxRecDepth 100000
set_option maxHeartbeats 4000000
set_option linter.unusedVariables false
noncomputable section
def Ap22:=(Row.cons (Cod.agg rMv) Row.nil)
def Tp22 (s:Mv):Tr Bool Empty noS cB.v:=(.r s.o)
def Ep22 (s:Mv):=(Tp22 s).d noE
def Sp22 (x:Mv×Unit):=Ep22 x.1
def wp22:Wk (Mv×Unit) Bool Empty cB.v:=wk0 fun x=>Tp22 x.1
def Kp22:=aP 22 Tryz.func22 [] noZ ⟨5,noL,noL,noL⟩ 128 Ap22 cB Sp22 wp22 (fun _=>0)
def awT:=(Row.cons (Cod.list mv0 rMv) (Row.cons (Cod.fn0 22) Row.nil))
def wQ (r:(List (Mv))):V:=.el (r.map rMv.v)
theorem awx (r:(List (Mv))):(wQ r).c=((Cod.list mv0 rMv).v r).c:=by
 first|rfl|exact aR|(show EVal.tup (V.cs _)=EVal.tup (V.cs _);simp only [V.cs_map,List.map_cons,List.map_nil,aR];rfl)
inductive lD where
 | k6 (x2:Int) (x3:List (Mv))
def up21f22:lD→Nat
 | .k6 _ _=>6
def tE (s:List (Mv)) (x2:Int) (x3:List (List V)):D:=mD [(1,.raw (.func 22 [])),(5,.gl 128),(8,(Cod.list mv0 rMv).v s),(9,.int .i64 ((s.length:Nat):Int)),(10,.int .i64 x2)] 0 [] 129 [(128,(x3,45))]
def pG (s:List (Mv)) (t:Unit):lD→D
 | .k6 x2 x3=>tE s x2 (x3.map rMv.v)
noncomputable def mP (s:List (Mv)) (t:Unit):(l_:lD)→Tr (List (Mv)) lD (pG s t) wQ
 | .k6 x2 x3=>(.i (decide (x2<((s.length:Nat):Int))) (.i (inR x2 s.length) (.c Ap22 Sp22 ((s.getD x2.toNat mv0),()) fun r5=>(.i r5 (.i (Nat.ble (64*(((x3.map rMv.v)).length+1)) 1000000) (.j (.k6 (w6 (x2+1)) (x3++[(s.getD x2.toNat mv0)])) (tE s (w6 (x2+1)) ((x3.map rMv.v)++[[.int .i64 (s.getD x2.toNat mv0).f,.int .i64 (s.getD x2.toNat mv0).t,.bool ((s.getD x2.toNat mv0).o),.str ((s.getD x2.toNat mv0).h),(Cod.list 0 nB).v ((s.getD x2.toNat mv0).b)]])) ⟨by simp only [pG,List.map_append,List.map_cons,List.map_nil]<;>rfl⟩) .n) (.g (.k6 (w6 (x2+1)) x3)))) .n) (.r x3))
def aqt (s:List (Mv)) (t:Unit):Tr (List (Mv)) lD (pG s t) wQ:=(.g (.k6 0 []))
def pW (s:List (Mv)) (t:Unit):=Tr.lp (mP s t)
theorem uN {s:List (Mv)}{t:Unit}{n:Nat}{l_:lD}:pW s t (n+1) l_=(mP s t l_).d (pW s t n):=rfl
def ajH (n:Nat) (s:List (Mv)) (t:Unit):=(aqt s t).d (pW s t n)
def aqv (x:(List (Mv))×Unit×Unit):=ajH (x.1.length+1064) x.1 x.2.1
def wp21f22:Wk ((List (Mv))×Unit×Unit) (List (Mv)) lD wQ:=⟨fun x=>pG x.1 x.2.1,up21f22,fun x=>aqt x.1 x.2.1,fun x=>mP x.1 x.2.1⟩
def Kp21f22:=aP 21 Tryz.func21 [Kp22] noZ ⟨23,(lookA [(3,⟨[1,5,8,9,10],[],0,[(5,45)],[128],[],[]⟩)]),noL,noL⟩ 128 awT (Cod.list mv0 rMv) aqv wp21f22 (fun x=>x.1.length+1064) awx
def Ap6:=(Row.cons (Cod.agg rPl) Row.nil)
noncomputable def Tp6 (s:Pl):Tr ((Int)×(Int)×Unit) Empty noS (Cod.tup (Row.cons cI (Row.cons cI Row.nil))).v:=(.c A142 azR (s,()) fun r3=>(.i (!(r3==0)) (.r (0,r3,())) (.c awT aqv (s.m,(),()) fun r4=>(.r (((r4.length:Nat):Int),0,())))))
def Ep6 (s:Pl):=(Tp6 s).d noE
def Sp6 (x:Pl×Unit):=Ep6 x.1
def wp6:Wk (Pl×Unit) ((Int)×(Int)×Unit) Empty (Cod.tup (Row.cons cI (Row.cons cI Row.nil))).v:=wk0 fun x=>Tp6 x.1
def Kp6:=aP 6 Tryz.func6 [K142,Kp21f22] noZ ⟨14,noL,noL,noL⟩ 128 Ap6 (Cod.tup (Row.cons cI (Row.cons cI Row.nil))) Sp6 wp6 (fun _=>0)
def Ap24:=(Row.cons (Cod.agg rMv) Row.nil)
def Tp24 (s:Mv):Tr Bool Empty noS cB.v:=(.i (!s.o) (.r (s.t==4)) (.r false))
def Ep24 (s:Mv):=(Tp24 s).d noE
def Sp24 (x:Mv×Unit):=Ep24 x.1
def wp24:Wk (Mv×Unit) Bool Empty cB.v:=wk0 fun x=>Tp24 x.1
def Kp24:=aP 24 Tryz.func24 [] noZ ⟨11,noL,noL,noL⟩ 128 Ap24 cB Sp24 wp24 (fun _=>0)
def awS:=(Row.cons (Cod.list mv0 rMv) (Row.cons (Cod.fn0 24) Row.nil))
def wP (r:(List (Mv))):V:=.el (r.map rMv.v)
theorem aww (r:(List (Mv))):(wP r).c=((Cod.list mv0 rMv).v r).c:=by
 first|rfl|exact aR|(show EVal.tup (V.cs _)=EVal.tup (V.cs _);simp only [V.cs_map,List.map_cons,List.map_nil,aR];rfl)
inductive lC where
 | k6 (x2:Int) (x3:List (Mv))
def up21f24:lC→Nat
 | .k6 _ _=>6
def tD (s:List (Mv)) (x2:Int) (x3:List (List V)):D:=mD [(1,.raw (.func 24 [])),(5,.gl 128),(8,(Cod.list mv0 rMv).v s),(9,.int .i64 ((s.length:Nat):Int)),(10,.int .i64 x2)] 0 [] 129 [(128,(x3,45))]
def pF (s:List (Mv)) (t:Unit):lC→D
 | .k6 x2 x3=>tD s x2 (x3.map rMv.v)
noncomputable def mO (s:List (Mv)) (t:Unit):(l_:lC)→Tr (List (Mv)) lC (pF s t) wP
 | .k6 x2 x3=>(.i (decide (x2<((s.length:Nat):Int))) (.i (inR x2 s.length) (.c Ap24 Sp24 ((s.getD x2.toNat mv0),()) fun r5=>(.i r5 (.i (Nat.ble (64*(((x3.map rMv.v)).length+1)) 1000000) (.j (.k6 (w6 (x2+1)) (x3++[(s.getD x2.toNat mv0)])) (tD s (w6 (x2+1)) ((x3.map rMv.v)++[[.int .i64 (s.getD x2.toNat mv0).f,.int .i64 (s.getD x2.toNat mv0).t,.bool ((s.getD x2.toNat mv0).o),.str ((s.getD x2.toNat mv0).h),(Cod.list 0 nB).v ((s.getD x2.toNat mv0).b)]])) ⟨by simp only [pF,List.map_append,List.map_cons,List.map_nil]<;>rfl⟩) .n) (.g (.k6 (w6 (x2+1)) x3)))) .n) (.r x3))
def aqs (s:List (Mv)) (t:Unit):Tr (List (Mv)) lC (pF s t) wP:=(.g (.k6 0 []))
def pV (s:List (Mv)) (t:Unit):=Tr.lp (mO s t)
theorem uM {s:List (Mv)}{t:Unit}{n:Nat}{l_:lC}:pV s t (n+1) l_=(mO s t l_).d (pV s t n):=rfl
def ajG (n:Nat) (s:List (Mv)) (t:Unit):=(aqs s t).d (pV s t n)
def aqu (x:(List (Mv))×Unit×Unit):=ajG (x.1.length+1064) x.1 x.2.1
def wp21f24:Wk ((List (Mv))×Unit×Unit) (List (Mv)) lC wP:=⟨fun x=>pF x.1 x.2.1,up21f24,fun x=>aqs x.1 x.2.1,fun x=>mO x.1 x.2.1⟩
def Kp21f24:=aP 21 Tryz.func21 [Kp24] noZ ⟨23,(lookA [(3,⟨[1,5,8,9,10],[],0,[(5,45)],[128],[],[]⟩)]),noL,noL⟩ 128 awS (Cod.list mv0 rMv) aqu wp21f24 (fun x=>x.1.length+1064) aww
def Ap8:=(Row.cons (Cod.agg rPl) Row.nil)
noncomputable def Tp8 (s:Pl):Tr ((Int)×(Int)×Unit) Empty noS (Cod.tup (Row.cons cI (Row.cons cI Row.nil))).v:=(.c A142 azR (s,()) fun r3=>(.i (!(r3==0)) (.r (0,r3,())) (.c awS aqu (s.m,(),()) fun r4=>(.r (((r4.length:Nat):Int),0,())))))
def Ep8 (s:Pl):=(Tp8 s).d noE
def Sp8 (x:Pl×Unit):=Ep8 x.1
def wp8:Wk (Pl×Unit) ((Int)×(Int)×Unit) Empty (Cod.tup (Row.cons cI (Row.cons cI Row.nil))).v:=wk0 fun x=>Tp8 x.1
def Kp8:=aP 8 Tryz.func8 [K142,Kp21f24] noZ ⟨14,noL,noL,noL⟩ 128 Ap8 (Cod.tup (Row.cons cI (Row.cons cI Row.nil))) Sp8 wp8 (fun _=>0)
def Ap9:=(Row.cons (Cod.agg rPl) Row.nil)
inductive Lp9 where
 | k12 (x2:Int) (x3:Int)
def up9:Lp9→Nat
 | .k12 _ _=>12
def sLp9 (s:Pl):Lp9→D
 | .k12 x2 x3=>mD [(5,.int .i64 x2),(14,(Cod.list mv0 rMv).v s.m),(15,.int .i64 ((s.m.length:Nat):Int)),(16,.int .i64 x3)] 0 [] 128 []
noncomputable def Tp9J (s:Pl):(l_:Lp9)→Tr ((Int)×(Int)×Unit) Lp9 (sLp9 s) (Cod.tup (Row.cons cI (Row.cons cI Row.nil))).v
 | .k12 x2 x3=>(.i (decide (x3<((s.m.length:Nat):Int))) (.i (inR x3 s.m.length) (.i (!(s.m.getD x3.toNat mv0).o) (.g (.k12 (w6 (x2+(w6 ((s.m.getD x3.toNat mv0).t-(s.m.getD x3.toNat mv0).f)))) (w6 (x3+1)))) (.g (.k12 x2 (w6 (x3+1))))) .n) (.r (x2,0,())))
def Tp9 (s:Pl):Tr ((Int)×(Int)×Unit) Lp9 (sLp9 s) (Cod.tup (Row.cons cI (Row.cons cI Row.nil))).v:=(.c A142 azR (s,()) fun r5=>(.i (!(r5==0)) (.r (0,r5,())) (.g (.k12 0 0))))
def Ep9J (s:Pl):=Tr.lp (Tp9J s)
theorem bqg {s:Pl}{n:Nat}{l_:Lp9}:Ep9J s (n+1) l_=(Tp9J s l_).d (Ep9J s n):=rfl
def Ep9 (n:Nat) (s:Pl):=(Tp9 s).d (Ep9J s n)
def Sp9 (x:Pl×Unit):=Ep9 (x.1.m.length+1064) x.1
def wp9:Wk (Pl×Unit) ((Int)×(Int)×Unit) Lp9 (Cod.tup (Row.cons cI (Row.cons cI Row.nil))).v:=⟨fun x=>sLp9 x.1,up9,fun x=>Tp9 x.1,fun x=>Tp9J x.1⟩
def Kp9:=aP 9 Tryz.func9 [K142] noZ ⟨32,(lookA [(6,⟨[5,14,15,16],[],0,[],[],[],[]⟩)]),noL,noL⟩ 128 Ap9 (Cod.tup (Row.cons cI (Row.cons cI Row.nil))) Sp9 wp9 (fun x=>x.1.m.length+1064)
def Ap13:=(Row.cons (Cod.agg rSt) Row.nil)
inductive Lp13 where
 | k6 (x1:Int) (x2:Int)
def up13:Lp13→Nat
 | .k6 _ _=>6
def sLp13 (s:St):Lp13→D
 | .k6 x1 x2=>mD [(3,.int .i64 x1),(7,.agg [.int .i64 s.b1,.int .i64 s.b2,.int .i64 s.b3]),(8,.int .i64 x2)] 0 [] 128 []
noncomputable def ayc (s:St):(l_:Lp13)→Tr Int Lp13 (sLp13 s) cI.v
 | .k6 x1 x2=>(.i (decide (x2<3)) (.i (x2==0) (.i (decide (0<s.b1)) (.g (.k6 (w6 (x1+(w6 (x2+1)))) (w6 (x2+1)))) (.g (.k6 x1 (w6 (x2+1))))) (.i (x2==1) (.i (decide (0<s.b2)) (.g (.k6 (w6 (x1+(w6 (x2+1)))) (w6 (x2+1)))) (.g (.k6 x1 (w6 (x2+1))))) (.i (x2==2) (.i (decide (0<s.b3)) (.g (.k6 (w6 (x1+(w6 (x2+1)))) (w6 (x2+1)))) (.g (.k6 x1 (w6 (x2+1))))) .n))) (.r x1))
def Tp13 (s:St):Tr Int Lp13 (sLp13 s) cI.v:=(.g (.k6 0 0))
def bqB (s:St):=Tr.lp (ayc s)
theorem Ep13J_s {s:St}{n:Nat}{l_:Lp13}:bqB s (n+1) l_=(ayc s l_).d (bqB s n):=rfl
def Ep13 (n:Nat) (s:St):=(Tp13 s).d (bqB s n)
def Sp13 (x:St×Unit):=Ep13 1064 x.1
def wp13:Wk (St×Unit) Int Lp13 cI.v:=⟨fun x=>sLp13 x.1,up13,fun x=>Tp13 x.1,fun x=>ayc x.1⟩
def Kp13:=aP 13 Tryz.func13 [] noZ ⟨20,(lookA [(3,⟨[3,7,8],[],0,[],[],[],[]⟩)]),noL,noL⟩ 128 Ap13 cI Sp13 wp13 (fun x=>1064)
def Ap4:=(Row.cons (Cod.list pl0 rPl) (Row.cons cI Row.nil))
noncomputable def Tp4 (s:List (Pl)) (t:Int):Tr ((List (St))×(Bool)×Unit) Empty noS (Cod.tup (Row.cons (Cod.list st0 rSt) (Row.cons cB Row.nil))).v:=(.i (decide (t<((s.length:Nat):Int))) (.w ([],false,()) (.tup [.el [],.bool false]) ⟨by kernel_rfl⟩) (.c Az42 Sz42 (s,t,()) fun r4=>(.i (!r4) (.w ([],false,()) (.tup [.el [],.bool false]) ⟨by kernel_rfl⟩) (.c Az44 Sz44 (s,()) fun r5=>(.c Ag43 Sg43 (r5,()) fun r6=>(.i (r6.2.2.2.1==0) (.r (r6.1,(((r6.1.length:Nat):Int)==(w6 (((s.length:Nat):Int)+1))),())) (.r (r6.1,false,()))))))))
def Ep4 (s:List (Pl)) (t:Int):=(Tp4 s t).d noE
def Sp4 (x:(List (Pl))×Int×Unit):=Ep4 x.1 x.2.1
def wp4:Wk ((List (Pl))×Int×Unit) ((List (St))×(Bool)×Unit) Empty (Cod.tup (Row.cons (Cod.list st0 rSt) (Row.cons cB Row.nil))).v:=wk0 fun x=>Tp4 x.1 x.2.1
def Kp4:=aP 4 Tryz.func4 [Kz42,Kg43,Kz44] noZ ⟨39,noL,noL,noL⟩ 128 Ap4 (Cod.tup (Row.cons (Cod.list st0 rSt) (Row.cons cB Row.nil))) Sp4 wp4 (fun _=>0)
def Ap3:=(Row.cons (Cod.list pl0 rPl) Row.nil)
inductive Lp3 where
 | k10 (x3:List (St)) (x90:Int)
 | k29 (x15:List (St)) (x16:Int) (x17:Int) (x18:Int) (x19:Int) (x20:Int) (x21:Int) (x22:List (Int)) (x23:Int) (x24:Int) (x25:Int) (x26:Int) (x27:Int) (x28:Int) (x29:Int) (x30:Int) (x31:Int) (x32:Int) (x33:Int) (x34:Int) (x35:Int) (x36:Int) (x37:Int) (x38:Int) (x39:Bool) (x40:Int) (x41:Int) (x42:Int) (x43:Int) (x44:Int) (x45:Int) (x46:Int) (x47:Int) (x48:Int) (x49:Int) (x50:Int) (x51:Int) (x52:Bool) (x53:Int) (x54:Int) (x135:Int) (x136:List Nat) (x137:List Nat) (x138:Bool) (x139:List (Mv))
 | k33 (x56:List (St)) (x57:Int) (x58:Int) (x59:Int) (x60:List (Int)) (x61:Int) (x62:Int) (x63:Int) (x64:Int) (x65:Int) (x66:Int) (x67:Int) (x68:Int) (x69:Int) (x70:Int) (x71:Int) (x72:Int) (x73:Int) (x74:Bool) (x75:Int) (x76:Int) (x77:Int) (x78:Int) (x79:Int) (x80:Int) (x81:Int) (x82:Int) (x83:Int) (x84:Int) (x85:Int) (x86:Int) (x87:Bool) (x88:Int) (x89:Int) (x141:Int) (x142:List Nat) (x143:List Nat) (x144:Bool) (x145:List (Mv))
 | k42 (x91:List (St)) (x92:Int) (x93:Int) (x94:Int) (x95:List (Int)) (x96:Int) (x97:Int) (x98:Int) (x99:Int) (x100:Int) (x101:Int) (x102:Int) (x103:Int) (x104:Int) (x105:Int) (x106:Int) (x107:Int) (x108:Bool) (x109:Int) (x110:Int) (x111:Int) (x112:Int) (x113:Int) (x114:Int) (x115:Int) (x116:Int) (x117:Int) (x118:Int) (x119:Int) (x120:Int) (x121:Bool) (x122:Int) (x123:Int) (x146:Int) (x147:List (Mv)) (x148:Int) (x149:List Nat) (x150:List Nat) (x151:Bool) (x152:List (Mv)) (x153:Int) (x154:Int)
noncomputable def up3:Lp3→Nat
 | .k10 _ _=>10
 | .k29 _ _ _ _ _ _ _ _ _ _ _ _ _ _ _ _ _ _ _ _ _ _ _ _ _ _ _ _ _ _ _ _ _ _ _ _ _ _ _ _ _ _ _ _ _=>29
 | .k33 _ _ _ _ _ _ _ _ _ _ _ _ _ _ _ _ _ _ _ _ _ _ _ _ _ _ _ _ _ _ _ _ _ _ _ _ _ _ _=>33
 | .k42 _ _ _ _ _ _ _ _ _ _ _ _ _ _ _ _ _ _ _ _ _ _ _ _ _ _ _ _ _ _ _ _ _ _ _ _ _ _ _ _ _ _=>42
noncomputable def sLp3 (s:List (Pl)):Lp3→D
 | .k10 x3 x90=>mD [(3,(Cod.list st0 rSt).v x3),(33,(Cod.list pl0 rPl).v s),(34,.int .i64 ((s.length:Nat):Int)),(35,.int .i64 x90)] 0 [] 128 []
 | .k29 x15 x16 x17 x18 x19 x20 x21 x22 x23 x24 x25 x26 x27 x28 x29 x30 x31 x32 x33 x34 x35 x36 x37 x38 x39 x40 x41 x42 x43 x44 x45 x46 x47 x48 x49 x50 x51 x52 x53 x54 x135 x136 x137 x138 x139=>mD [(3,(Cod.list st0 rSt).v x15),(6,.ptr 0 0),(7,.ptr 1 0),(8,.ptr 2 0),(9,.int .i64 x16),(10,.int .i64 x17),(11,.int .i64 x18),(12,.int .i64 x19),(13,.int .i64 x20),(14,.int .i64 x21),(15,(Cod.list 0 nB).v x22),(16,.int .i64 x23),(17,.int .i64 x24),(18,.int .i64 x25),(19,.ptr 3 0),(21,.int .i64 x26),(33,(Cod.list pl0 rPl).v s),(34,.int .i64 ((s.length:Nat):Int)),(35,.int .i64 x135)] 4 [(0,.row ⟨[.str x136,.str x137,.bool x138,(Cod.list mv0 rMv).v x139],29,false⟩),(1,.row ⟨[.int .i64 x27,.int .i64 x28,.int .i64 x29,.int .i64 x30,.int .i64 x31,.int .i64 x32,.int .i64 x33,.int .i64 x34,.int .i64 x35,.int .i64 x36,.int .i64 x37,.int .i64 x38,.bool x39],33,false⟩),(2,.row ⟨[.int .i64 x40,.int .i64 x41,.int .i64 x42,.int .i64 x43,.int .i64 x44,.int .i64 x45,.int .i64 x46,.int .i64 x47,.int .i64 x48,.int .i64 x49,.int .i64 x50,.int .i64 x51,.bool x52],33,false⟩),(3,.row ⟨[.int .i64 x53,.int .i64 x54],31,false⟩)] 128 []
 | .k33 x56 x57 x58 x59 x60 x61 x62 x63 x64 x65 x66 x67 x68 x69 x70 x71 x72 x73 x74 x75 x76 x77 x78 x79 x80 x81 x82 x83 x84 x85 x86 x87 x88 x89 x141 x142 x143 x144 x145=>mD [(3,(Cod.list st0 rSt).v x56),(6,.ptr 0 0),(7,.ptr 1 0),(8,.ptr 2 0),(9,.int .i64 x57),(11,.int .i64 x58),(13,.int .i64 x59),(15,(Cod.list 0 nB).v x60),(17,.int .i64 x61),(19,.ptr 3 0),(33,(Cod.list pl0 rPl).v s),(34,.int .i64 ((s.length:Nat):Int)),(35,.int .i64 x141)] 4 [(0,.row ⟨[.str x142,.str x143,.bool x144,(Cod.list mv0 rMv).v x145],29,false⟩),(1,.row ⟨[.int .i64 x62,.int .i64 x63,.int .i64 x64,.int .i64 x65,.int .i64 x66,.int .i64 x67,.int .i64 x68,.int .i64 x69,.int .i64 x70,.int .i64 x71,.int .i64 x72,.int .i64 x73,.bool x74],33,false⟩),(2,.row ⟨[.int .i64 x75,.int .i64 x76,.int .i64 x77,.int .i64 x78,.int .i64 x79,.int .i64 x80,.int .i64 x81,.int .i64 x82,.int .i64 x83,.int .i64 x84,.int .i64 x85,.int .i64 x86,.bool x87],33,false⟩),(3,.row ⟨[.int .i64 x88,.int .i64 x89],31,false⟩)] 128 []
 | .k42 x91 x92 x93 x94 x95 x96 x97 x98 x99 x100 x101 x102 x103 x104 x105 x106 x107 x108 x109 x110 x111 x112 x113 x114 x115 x116 x117 x118 x119 x120 x121 x122 x123 x146 x147 x148 x149 x150 x151 x152 x153 x154=>mD [(3,(Cod.list st0 rSt).v x91),(6,.ptr 0 0),(7,.ptr 1 0),(8,.ptr 2 0),(9,.int .i64 x92),(11,.int .i64 x93),(13,.int .i64 x94),(15,(Cod.list 0 nB).v x95),(19,.ptr 3 0),(22,.int .i64 x153),(33,(Cod.list pl0 rPl).v s),(34,.int .i64 ((s.length:Nat):Int)),(35,.int .i64 x146),(163,(Cod.list mv0 rMv).v x147),(164,.int .i64 x148),(165,.int .i64 x154)] 4 [(0,.row ⟨[.str x149,.str x150,.bool x151,(Cod.list mv0 rMv).v x152],29,false⟩),(1,.row ⟨[.int .i64 x96,.int .i64 x97,.int .i64 x98,.int .i64 x99,.int .i64 x100,.int .i64 x101,.int .i64 x102,.int .i64 x103,.int .i64 x104,.int .i64 x105,.int .i64 x106,.int .i64 x107,.bool x108],33,false⟩),(2,.row ⟨[.int .i64 x109,.int .i64 x110,.int .i64 x111,.int .i64 x112,.int .i64 x113,.int .i64 x114,.int .i64 x115,.int .i64 x116,.int .i64 x117,.int .i64 x118,.int .i64 x119,.int .i64 x120,.bool x121],33,false⟩),(3,.row ⟨[.int .i64 x122,.int .i64 x123],31,false⟩)] 128 []
noncomputable def azQ (s:List (Pl)):(l_:Lp3)→Tr Bool Lp3 (sLp3 s) cB.v
 | .k10 x3 x90=>(.i (decide (x90<((s.length:Nat):Int))) (.i (inR x90 s.length) (.i (inR x90 x3.length) (.i (inR (w6 (x90+1)) x3.length) (.c A33 S33 ((s.getD x90.toNat pl0),()) fun r163=>(.c Ap6 Sp6 (r163,()) fun r164=>(.c A33 S33 ((s.getD x90.toNat pl0),()) fun r165=>(.c Ap8 Sp8 (r165,()) fun r166=>(.c A33 S33 ((s.getD x90.toNat pl0),()) fun r167=>(.c Ap9 Sp9 (r167,()) fun r168=>(.c A33 S33 ((s.getD x90.toNat pl0),()) fun r169=>(.c Az34 Sz34 ((x3.getD x90.toNat st0),r169,()) fun r170=>(.c A33 S33 ((s.getD x90.toNat pl0),()) fun r171=>(.c Az36 Sz36 ((x3.getD x90.toNat st0),r171,()) fun r172=>(.c A81 S81 ((x3.getD x90.toNat st0).balls,(x3.getD x90.toNat st0).strikes,(s.getD x90.toNat pl0).p,()) fun r173=>(.g (.k29 x3 r164.1 r164.2.1 r166.1 r166.2.1 r168.1 r168.2.1 r170.1 r170.2.1 r172.1 r172.2.1 r173.2.2.1 (x3.getD x90.toNat st0).inn (x3.getD x90.toNat st0).half (x3.getD x90.toNat st0).outs (x3.getD x90.toNat st0).balls (x3.getD x90.toNat st0).strikes (x3.getD x90.toNat st0).b1 (x3.getD x90.toNat st0).b2 (x3.getD x90.toNat st0).b3 (x3.getD x90.toNat st0).n0 (x3.getD x90.toNat st0).n1 (x3.getD x90.toNat st0).c0 (x3.getD x90.toNat st0).c1 ((x3.getD x90.toNat st0).over) (x3.getD (w6 (x90+1)).toNat st0).inn (x3.getD (w6 (x90+1)).toNat st0).half (x3.getD (w6 (x90+1)).toNat st0).outs (x3.getD (w6 (x90+1)).toNat st0).balls (x3.getD (w6 (x90+1)).toNat st0).strikes (x3.getD (w6 (x90+1)).toNat st0).b1 (x3.getD (w6 (x90+1)).toNat st0).b2 (x3.getD (w6 (x90+1)).toNat st0).b3 (x3.getD (w6 (x90+1)).toNat st0).n0 (x3.getD (w6 (x90+1)).toNat st0).n1 (x3.getD (w6 (x90+1)).toNat st0).c0 (x3.getD (w6 (x90+1)).toNat st0).c1 ((x3.getD (w6 (x90+1)).toNat st0).over) r173.1.1 r173.1.2.1 x90 ((s.getD x90.toNat pl0).p) ((s.getD x90.toNat pl0).e) ((s.getD x90.toNat pl0).l) ((s.getD x90.toNat pl0).m)))))))))))))) .n) .n) .n) (.c Aw27 Sw27 (()) fun r174=>(.r r174)))
 | .k29 x15 x16 x17 x18 x19 x20 x21 x22 x23 x24 x25 x26 x27 x28 x29 x30 x31 x32 x33 x34 x35 x36 x37 x38 x39 x40 x41 x42 x43 x44 x45 x46 x47 x48 x49 x50 x51 x52 x53 x54 x135 x136 x137 x138 x139=>(.i (!((w6 ((w6 ((w6 ((w6 ((w6 (x17+x19))+x21))+x23))+x25))+x26))==0)) (.r false) (.i (decide (x18<((x22.length:Nat):Int))) (.r false) (.i (x28==0) (.i (x28==0) (.i (!(x50==(w6 (x37+((x22.length:Nat):Int))))) (.r false) (.i ((w6 (1-x28))==0) (.i ((w6 (1-x28))==0) (.i (!(x50==x37)) (.r false) (.g (.k33 x15 x16 x18 x20 x22 x24 x27 x28 x29 x30 x31 x32 x33 x34 x35 x36 x37 x38 x39 x40 x41 x42 x43 x44 x45 x46 x47 x48 x49 x50 x51 x52 x53 x54 x135 x136 x137 x138 x139))) (.i ((w6 (1-x28))==1) (.i (!(x50==x38)) (.r false) (.g (.k33 x15 x16 x18 x20 x22 x24 x27 x28 x29 x30 x31 x32 x33 x34 x35 x36 x37 x38 x39 x40 x41 x42 x43 x44 x45 x46 x47 x48 x49 x50 x51 x52 x53 x54 x135 x136 x137 x138 x139))) .n)) (.i ((w6 (1-x28))==1) (.i ((w6 (1-x28))==0) (.i (!(x51==x37)) (.r false) (.g (.k33 x15 x16 x18 x20 x22 x24 x27 x28 x29 x30 x31 x32 x33 x34 x35 x36 x37 x38 x39 x40 x41 x42 x43 x44 x45 x46 x47 x48 x49 x50 x51 x52 x53 x54 x135 x136 x137 x138 x139))) (.i ((w6 (1-x28))==1) (.i (!(x51==x38)) (.r false) (.g (.k33 x15 x16 x18 x20 x22 x24 x27 x28 x29 x30 x31 x32 x33 x34 x35 x36 x37 x38 x39 x40 x41 x42 x43 x44 x45 x46 x47 x48 x49 x50 x51 x52 x53 x54 x135 x136 x137 x138 x139))) .n)) .n))) (.i (x28==1) (.i (!(x50==(w6 (x38+((x22.length:Nat):Int))))) (.r false) (.i ((w6 (1-x28))==0) (.i ((w6 (1-x28))==0) (.i (!(x50==x37)) (.r false) (.g (.k33 x15 x16 x18 x20 x22 x24 x27 x28 x29 x30 x31 x32 x33 x34 x35 x36 x37 x38 x39 x40 x41 x42 x43 x44 x45 x46 x47 x48 x49 x50 x51 x52 x53 x54 x135 x136 x137 x138 x139))) (.i ((w6 (1-x28))==1) (.i (!(x50==x38)) (.r false) (.g (.k33 x15 x16 x18 x20 x22 x24 x27 x28 x29 x30 x31 x32 x33 x34 x35 x36 x37 x38 x39 x40 x41 x42 x43 x44 x45 x46 x47 x48 x49 x50 x51 x52 x53 x54 x135 x136 x137 x138 x139))) .n)) (.i ((w6 (1-x28))==1) (.i ((w6 (1-x28))==0) (.i (!(x51==x37)) (.r false) (.g (.k33 x15 x16 x18 x20 x22 x24 x27 x28 x29 x30 x31 x32 x33 x34 x35 x36 x37 x38 x39 x40 x41 x42 x43 x44 x45 x46 x47 x48 x49 x50 x51 x52 x53 x54 x135 x136 x137 x138 x139))) (.i ((w6 (1-x28))==1) (.i (!(x51==x38)) (.r false) (.g (.k33 x15 x16 x18 x20 x22 x24 x27 x28 x29 x30 x31 x32 x33 x34 x35 x36 x37 x38 x39 x40 x41 x42 x43 x44 x45 x46 x47 x48 x49 x50 x51 x52 x53 x54 x135 x136 x137 x138 x139))) .n)) .n))) .n)) (.i (x28==1) (.i (x28==0) (.i (!(x51==(w6 (x37+((x22.length:Nat):Int))))) (.r false) (.i ((w6 (1-x28))==0) (.i ((w6 (1-x28))==0) (.i (!(x50==x37)) (.r false) (.g (.k33 x15 x16 x18 x20 x22 x24 x27 x28 x29 x30 x31 x32 x33 x34 x35 x36 x37 x38 x39 x40 x41 x42 x43 x44 x45 x46 x47 x48 x49 x50 x51 x52 x53 x54 x135 x136 x137 x138 x139))) (.i ((w6 (1-x28))==1) (.i (!(x50==x38)) (.r false) (.g (.k33 x15 x16 x18 x20 x22 x24 x27 x28 x29 x30 x31 x32 x33 x34 x35 x36 x37 x38 x39 x40 x41 x42 x43 x44 x45 x46 x47 x48 x49 x50 x51 x52 x53 x54 x135 x136 x137 x138 x139))) .n)) (.i ((w6 (1-x28))==1) (.i ((w6 (1-x28))==0) (.i (!(x51==x37)) (.r false) (.g (.k33 x15 x16 x18 x20 x22 x24 x27 x28 x29 x30 x31 x32 x33 x34 x35 x36 x37 x38 x39 x40 x41 x42 x43 x44 x45 x46 x47 x48 x49 x50 x51 x52 x53 x54 x135 x136 x137 x138 x139))) (.i ((w6 (1-x28))==1) (.i (!(x51==x38)) (.r false) (.g (.k33 x15 x16 x18 x20 x22 x24 x27 x28 x29 x30 x31 x32 x33 x34 x35 x36 x37 x38 x39 x40 x41 x42 x43 x44 x45 x46 x47 x48 x49 x50 x51 x52 x53 x54 x135 x136 x137 x138 x139))) .n)) .n))) (.i (x28==1) (.i (!(x51==(w6 (x38+((x22.length:Nat):Int))))) (.r false) (.i ((w6 (1-x28))==0) (.i ((w6 (1-x28))==0) (.i (!(x50==x37)) (.r false) (.g (.k33 x15 x16 x18 x20 x22 x24 x27 x28 x29 x30 x31 x32 x33 x34 x35 x36 x37 x38 x39 x40 x41 x42 x43 x44 x45 x46 x47 x48 x49 x50 x51 x52 x53 x54 x135 x136 x137 x138 x139))) (.i ((w6 (1-x28))==1) (.i (!(x50==x38)) (.r false) (.g (.k33 x15 x16 x18 x20 x22 x24 x27 x28 x29 x30 x31 x32 x33 x34 x35 x36 x37 x38 x39 x40 x41 x42 x43 x44 x45 x46 x47 x48 x49 x50 x51 x52 x53 x54 x135 x136 x137 x138 x139))) .n)) (.i ((w6 (1-x28))==1) (.i ((w6 (1-x28))==0) (.i (!(x51==x37)) (.r false) (.g (.k33 x15 x16 x18 x20 x22 x24 x27 x28 x29 x30 x31 x32 x33 x34 x35 x36 x37 x38 x39 x40 x41 x42 x43 x44 x45 x46 x47 x48 x49 x50 x51 x52 x53 x54 x135 x136 x137 x138 x139))) (.i ((w6 (1-x28))==1) (.i (!(x51==x38)) (.r false) (.g (.k33 x15 x16 x18 x20 x22 x24 x27 x28 x29 x30 x31 x32 x33 x34 x35 x36 x37 x38 x39 x40 x41 x42 x43 x44 x45 x46 x47 x48 x49 x50 x51 x52 x53 x54 x135 x136 x137 x138 x139))) .n)) .n))) .n)) .n))))
 | .k33 x56 x57 x58 x59 x60 x61 x62 x63 x64 x65 x66 x67 x68 x69 x70 x71 x72 x73 x74 x75 x76 x77 x78 x79 x80 x81 x82 x83 x84 x85 x86 x87 x88 x89 x141 x142 x143 x144 x145=>(.i (!(x61==0)) (.i (!((x80==0)&&((x81==0)&&((x82==0)&&true)))) (.r false) (.i (!(x77==0)) (.r false) (.i (!(x78==0)) (.r false) (.i (!(x79==0)) (.r false) (.g (.k10 x56 (w6 (x141+1)))))))) (.g (.k42 x56 x57 x58 x59 x60 x62 x63 x64 x65 x66 x67 x68 x69 x70 x71 x72 x73 x74 x75 x76 x77 x78 x79 x80 x81 x82 x83 x84 x85 x86 x87 x88 x89 x141 x145 ((x145.length:Nat):Int) x142 x143 x144 x145 0 0)))
 | .k42 x91 x92 x93 x94 x95 x96 x97 x98 x99 x100 x101 x102 x103 x104 x105 x106 x107 x108 x109 x110 x111 x112 x113 x114 x115 x116 x117 x118 x119 x120 x121 x122 x123 x146 x147 x148 x149 x150 x151 x152 x153 x154=>(.i (decide (x154<x148)) (.i (inR x154 x147.length) (.i ((x147.getD x154.toNat mv0).o) (.g (.k42 x91 x92 x93 x94 x95 x96 x97 x98 x99 x100 x101 x102 x103 x104 x105 x106 x107 x108 x109 x110 x111 x112 x113 x114 x115 x116 x117 x118 x119 x120 x121 x122 x123 x146 x147 x148 x149 x150 x151 x152 (w6 (x153+(x147.getD x154.toNat mv0).f)) (w6 (x154+1)))) (.g (.k42 x91 x92 x93 x94 x95 x96 x97 x98 x99 x100 x101 x102 x103 x104 x105 x106 x107 x108 x109 x110 x111 x112 x113 x114 x115 x116 x117 x118 x119 x120 x121 x122 x123 x146 x147 x148 x149 x150 x151 x152 x153 (w6 (x154+1))))) .n) (.i (!(((x95.length:Nat):Int)==x93)) (.r false) (.i (!(x111==(w6 (x98+x92)))) (.r false) (.c Ap13 Sp13 ((⟨x109,x110,x111,x112,x113,x114,x115,x116,x117,x118,x119,x120,x121⟩:St),()) fun r175=>(.c Ap13 Sp13 ((⟨x96,x97,x98,x99,x100,x101,x102,x103,x104,x105,x106,x107,x108⟩:St),()) fun r176=>(.i (!(r175==(w6 ((w6 ((w6 (r176-x153))+x94))-(w6 (4*x93)))))) (.r false) (.i (decide (x150=[])) (.i (!(x112==x122)) (.r false) (.i (!(x113==x123)) (.r false) (.i (!decide (x150=[])) (.i (!(x112==0)) (.r false) (.i (!(x113==0)) (.r false) (.g (.k10 x91 (w6 (x146+1)))))) (.g (.k10 x91 (w6 (x146+1))))))) (.i (!decide (x150=[])) (.i (!(x112==0)) (.r false) (.i (!(x113==0)) (.r false) (.g (.k10 x91 (w6 (x146+1)))))) (.g (.k10 x91 (w6 (x146+1))))))))))))
def Tp3 (s:List (Pl)):Tr Bool Lp3 (sLp3 s) cB.v:=(.c Ap4 Sp4 (s,12,()) fun r161=>(.i (!r161.2.1) (.c Aw27 Sw27 (()) fun r162=>(.r r162)) (.g (.k10 r161.1 0))))
def wX (s:List (Pl)):=Tr.lp (azQ s)
theorem oY {s:List (Pl)}{n:Nat}{l_:Lp3}:wX s (n+1) l_=(azQ s l_).d (wX s n):=rfl
def Ep3 (n:Nat) (s:List (Pl)):=(Tp3 s).d (wX s n)
def Sp3 (x:(List (Pl))×Unit):=Ep3 (x.1.length+1064) x.1
def wp3:Wk ((List (Pl))×Unit) Bool Lp3 cB.v:=⟨fun x=>sLp3 x.1,up3,fun x=>Tp3 x.1,fun x=>azQ x.1⟩
noncomputable def Kp3:=aP 3 Tryz.func3 [Kp4,Kw27,Kp6,K33,Kp8,Kp9,Kz34,Kz36,K81,Kp13] noZ ⟨237,(lookA [(5,⟨[3,33,34,35],[],0,[],[],[],[]⟩),(21,⟨[3,6,7,8,9,11,13,15,19,22,33,34,35,163,164,165],[0,1,2,3],4,[],[],[],[]⟩)]),(lookA [(14,⟨[3,6,7,8,9,10,11,12,13,14,15,16,17,18,19,21,33,34,35],[0,1,2,3],4,[],[],[],[]⟩),(16,⟨[3,6,7,8,9,11,13,15,17,19,33,34,35],[0,1,2,3],4,[],[],[],[]⟩)]),noL⟩ 128 Ap3 cB Sp3 wp3 (fun x=>x.1.length+1064)
end
end Go.Ev
