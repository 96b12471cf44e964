import Derived.Test.YtknnagbemkdlgaaGreatDoorDF0
set_option linter.unusedSimpArgs false
set_option linter.unusedVariables false
namespace Go.Ev
open Go.RowKit Go.Proofs
set_option maxRecDepth 100000
set_option maxHeartbeats 4000000
set_option linter.unusedSimpArgs false
noncomputable section
theorem Con.less {f:FuncId}{α ρ:Type}{A:Row α}{Q:Cod ρ}{S S':α→Option ρ}(h:FnT f (fOf A Q S)) (hs:∀x r,S' x=some r→S x=some r):FnT f (fOf A Q S'):=
 Fn.weak h fun a v hv=>by
  obtain⟨x,r,rfl,h1,rfl⟩:=mU hv
  unfold fOf
  rw [A.rt,Option.bind_some,hs x r h1];rfl
theorem lo137:((List.range 128).all fun r=>Sf137 (((r:Nat):Int),())==some (isP r))=true:=by kernel_rfl
def lM:List Nat:=[66,67,83,70,88,72]
theorem ff214 (r:Int):tZ lM r 70 (.k76 0)=some (-1):=by kernel_rfl
theorem aq0 {l:List Nat}{b:Nat}(h:∀x∈l,x<128) (h1:128≤b) (h2:b<256):S230 (l,((b:Nat):Int),())=some (-1):=by
 unfold S230
 rw [if_pos (by constructor<;>simp<;>omega)]
 simp only [Int.toNat_natCast,awP h h1]
theorem hi_k {r:Int}{k b:Nat}(hk:k=1∨k=2∨k=3) (hl:(bX r).length=k+1) (hb:(bX r).getD k 0=b) (h1:128≤b) (h2:b<256) (n:Nat):tZ lM r (n+1) .k10=some (-1):=by
 rw [ayT]
 have w1:w6 ((((bX r).length:Nat):Int)-1)=(k:Int):=by rw [hl];unfold w6;rw [dG]<;>omega
 simp only [aj8,TS,w1,Int.toNat_natCast,hb]
 simp only [hl]
 rcases hk with rfl|rfl|rfl
 · have c4:((((lM.getD 1 0:Nat)):Int)==(b:Int))=false:=by rw [show lM.getD 1 0=67 from rfl];exact beq_eq_false_iff_ne.2 (by omega)
   have c6:=aq0 (l:=(lM.take lM.length).drop (w6 (((1:Nat):Int)+1)).toNat) (by decide) h1 h2
   simp only [show decide (((1:Nat):Int)<((lM.length:Nat):Int))=true by decide,show inR ((1:Nat):Int) lM.length=true by decide,show inR ((1:Nat):Int) (1+1)=true by decide,c4,show(decide ((0:Int)≤w6 (((1:Nat):Int)+1))&&decide (w6 (((1:Nat):Int)+1)≤((lM.length:Nat):Int)))=true by decide,c6,Bool.not_false,cond_true,obind_some];rfl
 · have c4:((((lM.getD 2 0:Nat)):Int)==(b:Int))=false:=by rw [show lM.getD 2 0=83 from rfl];exact beq_eq_false_iff_ne.2 (by omega)
   have c6:=aq0 (l:=(lM.take lM.length).drop (w6 (((2:Nat):Int)+1)).toNat) (by decide) h1 h2
   simp only [show decide (((2:Nat):Int)<((lM.length:Nat):Int))=true by decide,show inR ((2:Nat):Int) lM.length=true by decide,show inR ((2:Nat):Int) (2+1)=true by decide,c4,show(decide ((0:Int)≤w6 (((2:Nat):Int)+1))&&decide (w6 (((2:Nat):Int)+1)≤((lM.length:Nat):Int)))=true by decide,c6,Bool.not_false,cond_true,obind_some];rfl
 · have c4:((((lM.getD 3 0:Nat)):Int)==(b:Int))=false:=by rw [show lM.getD 3 0=70 from rfl];exact beq_eq_false_iff_ne.2 (by omega)
   have c6:=aq0 (l:=(lM.take lM.length).drop (w6 (((3:Nat):Int)+1)).toNat) (by decide) h1 h2
   simp only [show decide (((3:Nat):Int)<((lM.length:Nat):Int))=true by decide,show inR ((3:Nat):Int) lM.length=true by decide,show inR ((3:Nat):Int) (3+1)=true by decide,c4,show(decide ((0:Int)≤w6 (((3:Nat):Int)+1))&&decide (w6 (((3:Nat):Int)+1)≤((lM.length:Nat):Int)))=true by decide,c6,Bool.not_false,cond_true,obind_some];rfl
theorem hi214 {r:Int}(h:128≤r) (n:Nat):tZ lM r (n+1) .k10=some (-1):=by
 rcases runeE_cases r h with⟨a,b,e,h1,h2⟩ | ⟨a,c,b,e,h1,h2⟩ | ⟨a,c,d,b,e,h1,h2⟩
 · exact hi_k (k:=1) (b:=b) (by simp) (by rw [e];rfl) (by rw [e];rfl) h1 h2 n
 · exact hi_k (k:=2) (b:=b) (by simp) (by rw [e];rfl) (by rw [e];rfl) h1 h2 n
 · exact hi_k (k:=3) (b:=b) (by simp) (by rw [e];rfl) (by rw [e];rfl) h1 h2 n
theorem m214 {r:Int}(h:128≤r):Sf214 (lM,r,())=some (-1):=by
 show Ef214 (6+64) lM r=_
 unfold Ef214 Tf214
 have c0:decide (0≤r)=true:=by rw [decide_eq_true_eq];omega
 have c1:decide (r<128)=false:=by rw [decide_eq_false_iff_not];omega
 obtain⟨v,hv⟩:∃v,ayG (r,())=some v:=by
  show ∃v,Ef231 r=some v
  unfold Ef231 Tf231
  simp only [TS]
  cases decide (0≤r)<;>cases decide (r<55296)<;>cases decide (57343<r)<;>cases decide (r≤1114111)<;>exact⟨_,rfl⟩
 simp only [TS,c0,c1,cond_true,cond_false,hv,obind_some,ff214]
 have e:=hi214 h 69
 cases r==65533 with
 | true=>rfl
 | false=>
   cases v with
   | false=>rfl
   | true=>exact e
theorem m137' {r:Int}(h:0≤r):Sf137 (r,())=some (isP r.toNat):=by
 obtain⟨k,rfl⟩:∃k:Nat,r=(k:Int):=⟨r.toNat,by omega⟩
 rw [Int.toNat_natCast]
 by_cases hk:k<128
 · exact eq_of_beq (List.all_eq_true.1 lo137 k (List.mem_range.2 hk))
 · have e:ayI (lM,((k:Nat):Int),())=some false:=by
    show Ef190 lM _=_
    unfold Ef190 Tf190
    simp only [TS,m214 (show(128:Int)≤(k:Int) by omega),obind_some];rfl
   rw [lS (by omega)]
   show Ef137 _=_
   unfold Ef137 Tf137
   simp only [TS]
   show aT (ayI (lM,((k:Nat):Int),())) _=_
   rw [e];rfl
def A137:Row (Int×Unit):=Row.cons (axj .i32) Row.nil
def S137 (x:Int×Unit):Option Bool:=if 0≤x.1 then some (isP x.1.toNat)else none
def K137:Con Tryz.prog gT:=Con.of 130 A137 cB S137 (Con.less Kf137.ok fun x r h=>by
 unfold S137 at h
 split at h
 · rename_i h0;exact(m137' h0).trans h
 · cases h)
def eJ (l:List Mv):Bool:=decide (l.length≤300)&&l.all fun m=>decide (m.b.length≤1000)
theorem cp_j (s:List Mv) (h:eJ s=true):∀j n k,k+j=s.length→ayS s (n+j+1) (.k6 (k:Int) (s.take k))=some s:=by
 simp only [eJ,Bool.and_eq_true,decide_eq_true_eq,List.all_eq_true]at h
 intro j
 induction j with
 | zero=>
   intro n k hk
   have c1:decide ((k:Int)<((s.length:Nat):Int))=false:=by rw [decide_eq_false_iff_not];omega
   rw [akd]
   simp only [akJ,TS,c1,cond_false]
   rw [List.take_of_length_le (by omega)]
 | succ j ih=>
   intro n k hk
   have hlt:k<s.length:=by omega
   obtain⟨x,hx⟩:∃x,s[k]? = some x:=⟨s[k],List.getElem?_eq_getElem hlt⟩
   have hm:=h.2 x (List.mem_of_getElem? hx)
   have c1:decide ((k:Int)<((s.length:Nat):Int))=true:=by rw [decide_eq_true_eq];omega
   have c2:inR (k:Int) s.length=true:=by simp [inR];omega
   have hg:s.getD k mv0=x:=by rw [List.getD_eq_getElem?_getD,hx];rfl
   have c3:Nat.ble (8*x.b.length) 1000000=true:=by rw [Nat.ble_eq];omega
   have c4:Nat.ble (64*((s.take k).length+1)) 1000000=true:=by rw [Nat.ble_eq,List.length_take];omega
   have w4:w6 ((k:Int)+1)=((k+1:Nat):Int):=by unfold w6;rw [dG]<;>omega
   have ht:s.take k++[x]=s.take (k+1):=by rw [List.take_add_one,hx];rfl
   rw [akd]
   simp only [akJ,TS,c1,c2,Int.toNat_natCast,hg,c3,List.length_map,c4,cond_true,w4,ht]
   rw [show n+(j+1)=n+j+1 by omega]
   exact ih n (k+1) (by omega)
theorem m87 (s:List Mv) (h:eJ s=true):Sf87 (s,())=some s:=by
 show Ef87 (s.length+64) s=_
 unfold Ef87 Tf87
 simp only [TS]
 have e:=cp_j s h s.length 63 0 (by omega)
 rw [show 63+s.length+1=s.length+64 by omega,List.take_zero]at e
 exact e
theorem m33 (p:Pl) (h:eJ p.m=true):Sf33 (p,())=some p:=by
 show Ef33 p=_
 unfold Ef33 Tf33
 simp only [TS,m87 p.m h,obind_some]
end
end Go.Ev
namespace Go.Ev
open Go.RowKit Go.Proofs
set_option maxRecDepth 100000
set_option maxHeartbeats 4000000
set_option linter.unusedVariables false
noncomputable section
def Af139:=(Row.cons (axj .i32) Row.nil)
def Tf139 (s:Int):Tr Bool Empty noS cB.v:=(.i (s==88) (.r true) (.r (s==72)))
def Ef139 (s:Int):=(Tf139 s).d noE
def ayK (x:Int×Unit):=Ef139 x.1
def wf139:Wk (Int×Unit) Bool Empty cB.v:=wk0 fun x=>Tf139 x.1
def Kf139:=a4 131 Tryz.func131 [] noZ ⟨9,noL,noL,noL⟩ 128 Af139 cB ayK wf139 (fun _=>0)
def Af193:=(Row.cons cS Row.nil)
inductive ax9 where
 | k8 (x3:Nat)
def uf193:ax9→Nat
 | .k8 _=>8
def az7 (s:List Nat):ax9→D
 | .k8 x3=>mD [(0,.str s),(9,.ptr 0 0)] 1 [(0,.iter s x3)] 128 []
noncomputable def tX (s:List Nat):(l_:ax9)→Tr Int ax9 (az7 s) cI.v
 | .k8 x3=>(.i (Nat.blt x3 s.length) (.c A137 S137 ((((gF s x3).1:Nat):Int),()) fun r6=>(.i (!r6) (.r 14) (.c Af139 ayK ((((gF s x3).1:Nat):Int),()) fun r7=>(.i r7 (.i (decide (((x3:Nat):Int)<(w6 (((s.length:Nat):Int)-1)))) (.r 14) (.g (.k8 (x3+(gF s x3).2)))) (.g (.k8 (x3+(gF s x3).2))))))) (.r 0))
def Tf193 (s:List Nat):Tr Int ax9 (az7 s) cI.v:=(.i (decide (24<((s.length:Nat):Int))) (.r 5) (.g (.k8 0)))
def Ef193J (s:List Nat):=Tr.lp (tX s)
def Ef193 (n:Nat) (s:List Nat):=(Tf193 s).d (Ef193J s n)
def Sf193 (x:(List Nat)×Unit):=Ef193 (x.1.length+64) x.1
def wf193:Wk ((List Nat)×Unit) Int ax9 cI.v:=⟨fun x=>az7 x.1,uf193,fun x=>Tf193 x.1,fun x=>tX x.1⟩
def Kf193:=a4 101 Tryz.func101 [K137,Kf139] noZ ⟨28,(lookA [(4,⟨[0,9],[0],1,[],[],[],[]⟩)]),noL,noL⟩ 128 Af193 cI Sf193 wf193 (fun x=>x.1.length+64)
def Af215:=(Row.cons cS Row.nil)
def Tf215 (s:List Nat):Tr Bool Empty noS cB.v:=(.i (((s.length:Nat):Int)==1) (.c ajl vV ([75,87,72,73,88,78,89],s,()) fun r2=>(.r r2)) (.r false))
def Ef215 (s:List Nat):=(Tf215 s).d noE
def Sf215 (x:(List Nat)×Unit):=Ef215 x.1
def wf215:Wk ((List Nat)×Unit) Bool Empty cB.v:=wk0 fun x=>Tf215 x.1
def Kf215:=a4 132 Tryz.func132 [K181] noZ ⟨10,noL,noL,noL⟩ 128 Af215 cB Sf215 wf215 (fun _=>0)
def Af194:=(Row.cons cS Row.nil)
def Tf194 (s:List Nat):Tr Int Empty noS cI.v:=(.i (!decide (s=[])) (.c Af215 Sf215 (s,()) fun r2=>(.i (!r2) (.r 13) (.r 0))) (.r 0))
def Ef194 (s:List Nat):=(Tf194 s).d noE
def Sf194 (x:(List Nat)×Unit):=Ef194 x.1
def wf194:Wk ((List Nat)×Unit) Int Empty cI.v:=wk0 fun x=>Tf194 x.1
def Kf194:=a4 102 Tryz.func102 [Kf215] noZ ⟨10,noL,noL,noL⟩ 128 Af194 cI Sf194 wf194 (fun _=>0)
def axe:=(Row.cons cI (Row.cons cI (Row.cons cI Row.nil)))
def Tf136 (s:Int) (t:Int) (u:Int):Tr Bool Empty noS cB.v:=(.i (decide (t≤s)) (.r (decide (s≤u))) (.r false))
def Ef136 (s:Int) (t:Int) (u:Int):=(Tf136 s t u).d noE
def aqZ (x:Int×Int×Int×Unit):=Ef136 x.1 x.2.1 x.2.2.1
def wf136:Wk (Int×Int×Int×Unit) Bool Empty cB.v:=wk0 fun x=>Tf136 x.1 x.2.1 x.2.2.1
def ayO:=a4 134 Tryz.func134 [] noZ ⟨15,noL,noL,noL⟩ 128 axe cB aqZ wf136 (fun _=>0)
def Af234:=(Row.cons cI Row.nil)
def Tf234 (s:Int):Tr Int Empty noS cI.v:=(.c axe aqZ (s,0,3,()) fun r2=>(.i (!r2) (.r 3) (.r 0)))
def Ef234 (s:Int):=(Tf234 s).d noE
def Sf234 (x:Int×Unit):=Ef234 x.1
def wf234:Wk (Int×Unit) Int Empty cI.v:=wk0 fun x=>Tf234 x.1
def Kf234:=a4 150 Tryz.func150 [ayO] noZ ⟨6,noL,noL,noL⟩ 128 Af234 cI Sf234 wf234 (fun _=>0)
def Af235:=(Row.cons cI Row.nil)
def Tf235 (s:Int):Tr Int Empty noS cI.v:=(.c axe aqZ (s,1,4,()) fun r2=>(.i (!r2) (.r 3) (.r 0)))
def Ef235 (s:Int):=(Tf235 s).d noE
def Sf235 (x:Int×Unit):=Ef235 x.1
def wf235:Wk (Int×Unit) Int Empty cI.v:=wk0 fun x=>Tf235 x.1
def Kf235:=a4 151 Tryz.func151 [ayO] noZ ⟨6,noL,noL,noL⟩ 128 Af235 cI Sf235 wf235 (fun _=>0)
def Af247:=(Row.cons cB (Row.cons cS Row.nil))
inductive ax6 where
 | k4_0
 | k4_1
 | k4_2
 | k4_3
 | k4_4
 | k4_5
 | k4_6
 | k4_7
 | k4_8
 | k4_9
 | k4_10
 | k4_11
 | k4_12
 | k4_13
 | k4_14
def uf247:ax6→Nat
 | .k4_0=>4
 | .k4_1=>4
 | .k4_2=>4
 | .k4_3=>4
 | .k4_4=>4
 | .k4_5=>4
 | .k4_6=>4
 | .k4_7=>4
 | .k4_8=>4
 | .k4_9=>4
 | .k4_10=>4
 | .k4_11=>4
 | .k4_12=>4
 | .k4_13=>4
 | .k4_14=>4
noncomputable def az3 (s:Bool) (t:List Nat):ax6→D
 | .k4_0=>mD [(0,.bool s),(1,.str t),(4,.ptr 0 0),(8,.agg gW),(9,.int .i64 0)] 1 [(0,.row ⟨[.bool false,.str [],.int .i64 0,.int .i64 0],182,false⟩)] 128 []
 | .k4_1=>mD [(0,.bool s),(1,.str t),(4,.ptr 0 0),(8,.agg gW),(9,.int .i64 1)] 1 [(0,.row ⟨[.bool false,.str [],.int .i64 0,.int .i64 0],182,false⟩)] 128 []
 | .k4_2=>mD [(0,.bool s),(1,.str t),(4,.ptr 0 0),(8,.agg gW),(9,.int .i64 2)] 1 [(0,.row ⟨[.bool false,.str [],.int .i64 0,.int .i64 0],182,false⟩)] 128 []
 | .k4_3=>mD [(0,.bool s),(1,.str t),(4,.ptr 0 0),(8,.agg gW),(9,.int .i64 3)] 1 [(0,.row ⟨[.bool false,.str [],.int .i64 0,.int .i64 0],182,false⟩)] 128 []
 | .k4_4=>mD [(0,.bool s),(1,.str t),(4,.ptr 0 0),(8,.agg gW),(9,.int .i64 4)] 1 [(0,.row ⟨[.bool false,.str [],.int .i64 0,.int .i64 0],182,false⟩)] 128 []
 | .k4_5=>mD [(0,.bool s),(1,.str t),(4,.ptr 0 0),(8,.agg gW),(9,.int .i64 5)] 1 [(0,.row ⟨[.bool false,.str [],.int .i64 0,.int .i64 0],182,false⟩)] 128 []
 | .k4_6=>mD [(0,.bool s),(1,.str t),(4,.ptr 0 0),(8,.agg gW),(9,.int .i64 6)] 1 [(0,.row ⟨[.bool false,.str [],.int .i64 0,.int .i64 0],182,false⟩)] 128 []
 | .k4_7=>mD [(0,.bool s),(1,.str t),(4,.ptr 0 0),(8,.agg gW),(9,.int .i64 7)] 1 [(0,.row ⟨[.bool false,.str [],.int .i64 0,.int .i64 0],182,false⟩)] 128 []
 | .k4_8=>mD [(0,.bool s),(1,.str t),(4,.ptr 0 0),(8,.agg gW),(9,.int .i64 8)] 1 [(0,.row ⟨[.bool false,.str [],.int .i64 0,.int .i64 0],182,false⟩)] 128 []
 | .k4_9=>mD [(0,.bool s),(1,.str t),(4,.ptr 0 0),(8,.agg gW),(9,.int .i64 9)] 1 [(0,.row ⟨[.bool false,.str [],.int .i64 0,.int .i64 0],182,false⟩)] 128 []
 | .k4_10=>mD [(0,.bool s),(1,.str t),(4,.ptr 0 0),(8,.agg gW),(9,.int .i64 10)] 1 [(0,.row ⟨[.bool false,.str [],.int .i64 0,.int .i64 0],182,false⟩)] 128 []
 | .k4_11=>mD [(0,.bool s),(1,.str t),(4,.ptr 0 0),(8,.agg gW),(9,.int .i64 11)] 1 [(0,.row ⟨[.bool false,.str [],.int .i64 0,.int .i64 0],182,false⟩)] 128 []
 | .k4_12=>mD [(0,.bool s),(1,.str t),(4,.ptr 0 0),(8,.agg gW),(9,.int .i64 12)] 1 [(0,.row ⟨[.bool false,.str [],.int .i64 0,.int .i64 0],182,false⟩)] 128 []
 | .k4_13=>mD [(0,.bool s),(1,.str t),(4,.ptr 0 0),(8,.agg gW),(9,.int .i64 13)] 1 [(0,.row ⟨[.bool false,.str [],.int .i64 0,.int .i64 0],182,false⟩)] 128 []
 | .k4_14=>mD [(0,.bool s),(1,.str t),(4,.ptr 0 0),(8,.agg gW),(9,.int .i64 14)] 1 [(0,.row ⟨[.bool false,.str [],.int .i64 0,.int .i64 0],182,false⟩)] 128 []
noncomputable def aj7 (s:Bool) (t:List Nat):(l_:ax6)→Tr ((Wy)×(Bool)×Unit) ax6 (az3 s t) (Cod.tup (Row.cons (Cod.agg rWay) (Row.cons cB Row.nil))).v
 | .k4_0=>(.i (false==s) (.i (decide ([98]=t)) (.r ((⟨false,[98],3,3⟩:Wy),true,())) (.g .k4_1)) (.g .k4_1))
 | .k4_1=>(.i (false==s) (.i (decide ([97]=t)) (.r ((⟨false,[97],3,3⟩:Wy),true,())) (.g .k4_2)) (.g .k4_2))
 | .k4_2=>(.i (false==s) (.i (decide ([115]=t)) (.r ((⟨false,[115],0,3⟩:Wy),true,())) (.g .k4_3)) (.g .k4_3))
 | .k4_3=>(.i (false==s) (.i (decide ([112]=t)) (.r ((⟨false,[112],3,3⟩:Wy),true,())) (.g .k4_4)) (.g .k4_4))
 | .k4_4=>(.i (false==s) (.i (decide ([107]=t)) (.r ((⟨false,[107],0,3⟩:Wy),true,())) (.g .k4_5)) (.g .k4_5))
 | .k4_5=>(.i (false==s) (.i (decide ([116]=t)) (.r ((⟨false,[116],3,3⟩:Wy),true,())) (.g .k4_6)) (.g .k4_6))
 | .k4_6=>(.i (false==s) (.i (decide ([111]=t)) (.r ((⟨false,[111],3,3⟩:Wy),true,())) (.g .k4_7)) (.g .k4_7))
 | .k4_7=>(.i (true==s) (.i (decide ([102]=t)) (.r ((⟨true,[102],2,2⟩:Wy),true,())) (.g .k4_8)) (.g .k4_8))
 | .k4_8=>(.i (true==s) (.i (decide ([103]=t)) (.r ((⟨true,[103],3,4⟩:Wy),true,())) (.g .k4_9)) (.g .k4_9))
 | .k4_9=>(.i (true==s) (.i (decide ([99]=t)) (.r ((⟨true,[99],2,0⟩:Wy),true,())) (.g .k4_10)) (.g .k4_10))
 | .k4_10=>(.i (true==s) (.i (decide ([100]=t)) (.r ((⟨true,[100],0,1⟩:Wy),true,())) (.g .k4_11)) (.g .k4_11))
 | .k4_11=>(.i (true==s) (.i (decide ([107]=t)) (.r ((⟨true,[107],2,0⟩:Wy),true,())) (.g .k4_12)) (.g .k4_12))
 | .k4_12=>(.i (true==s) (.i (decide ([110]=t)) (.r ((⟨true,[110],2,3⟩:Wy),true,())) (.g .k4_13)) (.g .k4_13))
 | .k4_13=>(.i (true==s) (.i (decide ([121]=t)) (.r ((⟨true,[121],2,0⟩:Wy),true,())) (.g .k4_14)) (.g .k4_14))
 | .k4_14=>(.r ((⟨false,[],0,0⟩:Wy),false,()))
def Tf247 (s:Bool) (t:List Nat):Tr ((Wy)×(Bool)×Unit) ax6 (az3 s t) (Cod.tup (Row.cons (Cod.agg rWay) (Row.cons cB Row.nil))).v:=(.g .k4_0)
def Ef247J (s:Bool) (t:List Nat):=Tr.lp (aj7 s t)
def Ef247 (n:Nat) (s:Bool) (t:List Nat):=(Tf247 s t).d (Ef247J s t n)
def Sf247 (x:Bool×(List Nat)×Unit):=Ef247 (x.2.1.length+64) x.1 x.2.1
def wf247:Wk (Bool×(List Nat)×Unit) ((Wy)×(Bool)×Unit) ax6 (Cod.tup (Row.cons (Cod.agg rWay) (Row.cons cB Row.nil))).v:=⟨fun x=>az3 x.1 x.2.1,uf247,fun x=>Tf247 x.1 x.2.1,fun x=>aj7 x.1 x.2.1⟩
def Kf247:=a4 163 Tryz.func163 [] noZ ⟨25,(lookA [(2,⟨[0,1,4,8,9],[0],1,[],[],[],[]⟩)]),noL,noL⟩ 128 Af247 (Cod.tup (Row.cons (Cod.agg rWay) (Row.cons cB Row.nil))) Sf247 wf247 (fun x=>x.2.1.length+64)
def Af248:=(Row.cons cI (Row.cons cI (Row.cons cI Row.nil)))
def Tf248 (s:Int) (t:Int) (u:Int):Tr Bool Empty noS cB.v:=(.i (s==1) (.r (u==t)) (.i (s==2) (.r (u==(w6 (t+1)))) (.i (s==3) (.r (decide (t<u))) (.i (s==4) (.r (decide (t≤u))) (.r false)))))
def Ef248 (s:Int) (t:Int) (u:Int):=(Tf248 s t u).d noE
def ayF (x:Int×Int×Int×Unit):=Ef248 x.1 x.2.1 x.2.2.1
def wf248:Wk (Int×Int×Int×Unit) Bool Empty cB.v:=wk0 fun x=>Tf248 x.1 x.2.1 x.2.2.1
def Kf248:=a4 164 Tryz.func164 [] noZ ⟨29,noL,noL,noL⟩ 128 Af248 cB ayF wf248 (fun _=>0)
def Af236:=(Row.cons (Cod.agg rMv) Row.nil)
noncomputable def Tf236 (s:Mv):Tr Int Empty noS cI.v:=(.c Af247 Sf247 (s.o,s.h,()) fun r4=>(.i (!r4.2.1) (.r 13) (.i (s.f==0) (.c Af248 ayF (r4.1.r,s.f,s.t,()) fun r5=>(.i (!r5) (.r 15) (.r 0))) (.c Af248 ayF (r4.1.b,s.f,s.t,()) fun r6=>(.i (!r6) (.r 15) (.r 0))))))
def Ef236 (s:Mv):=(Tf236 s).d noE
def Sf236 (x:Mv×Unit):=Ef236 x.1
def wf236:Wk (Mv×Unit) Int Empty cI.v:=wk0 fun x=>Tf236 x.1
def Kf236:=a4 152 Tryz.func152 [Kf247,Kf248] noZ ⟨30,noL,noL,noL⟩ 128 Af236 cI Sf236 wf236 (fun _=>0)
def Af237:=(Row.cons (Cod.agg rMv) Row.nil)
inductive ax7 where
 | k8 (x2:Int)
def uf237:ax7→Nat
 | .k8 _=>8
def az4 (s:Mv):ax7→D
 | .k8 x2=>mD [(1,.ptr 0 0),(20,(Cod.list 0 vZ).v s.b),(21,.int .i64 ((s.b.length:Nat):Int)),(22,.int .i64 x2)] 1 [(0,.row ⟨(rMv.v s),71,false⟩)] 128 []
noncomputable def yL (s:Mv):(l_:ax7)→Tr Int ax7 (az4 s) cI.v
 | .k8 x2=>(.i (decide (x2<((s.b.length:Nat):Int))) (.i (inR x2 s.b.length) (.c axe aqZ ((s.b.getD x2.toNat 0),1,9,()) fun r4=>(.i (!r4) (.r 16) (.i (decide (0<x2)) (.i (inR (w6 (x2-1)) s.b.length) (.i ((s.b.getD x2.toNat 0)==(s.b.getD (w6 (x2-1)).toNat 0)) (.r 16) (.g (.k8 (w6 (x2+1))))) .n) (.g (.k8 (w6 (x2+1))))))) .n) (.r 0))
def Tf237 (s:Mv):Tr Int ax7 (az4 s) cI.v:=(.i (decide (9<((s.b.length:Nat):Int))) (.r 16) (.i s.o (.i (((s.b.length:Nat):Int)==0) (.r 16) (.g (.k8 0))) (.g (.k8 0))))
def Ef237J (s:Mv):=Tr.lp (yL s)
def Ef237 (n:Nat) (s:Mv):=(Tf237 s).d (Ef237J s n)
def Sf237 (x:Mv×Unit):=Ef237 64 x.1
def wf237:Wk (Mv×Unit) Int ax7 cI.v:=⟨fun x=>az4 x.1,uf237,fun x=>Tf237 x.1,fun x=>yL x.1⟩
def Kf237:=a4 153 Tryz.func153 [ayO] noZ ⟨45,(lookA [(4,⟨[1,20,21,22],[0],1,[],[],[],[]⟩)]),noL,noL⟩ 128 Af237 cI Sf237 wf237 (fun x=>64)
def Af192:=(Row.cons (Cod.list 0 vZ) Row.nil)
inductive axa where
 | k4 (x1:Int)
def uf192:axa→Nat
 | .k4 _=>4
def az8 (s:List (Int)):axa→D
 | .k4 x1=>mD [(5,(Cod.list 0 vZ).v s),(6,.int .i64 ((s.length:Nat):Int)),(7,.int .i64 x1)] 0 [] 128 []
def yN (s:List (Int)):(l_:axa)→Tr Int axa (az8 s) cI.v
 | .k4 x1=>(.i (decide (x1<((s.length:Nat):Int))) (.i (inR x1 s.length) (.i (!((s.getD x1.toNat 0)==0)) (.r (s.getD x1.toNat 0)) (.g (.k4 (w6 (x1+1))))) .n) (.r 0))
def Tf192 (s:List (Int)):Tr Int axa (az8 s) cI.v:=(.g (.k4 0))
def Ef192J (s:List (Int)):=Tr.lp (yN s)
def Ef192 (n:Nat) (s:List (Int)):=(Tf192 s).d (Ef192J s n)
def ayH (x:(List (Int))×Unit):=Ef192 (x.1.length+64) x.1
def wf192:Wk ((List (Int))×Unit) Int axa cI.v:=⟨fun x=>az8 x.1,uf192,fun x=>Tf192 x.1,fun x=>yN x.1⟩
def Kf192:=a4 100 Tryz.func100 [] noZ ⟨15,(lookA [(2,⟨[5,6,7],[],0,[],[],[],[]⟩)]),noL,noL⟩ 128 Af192 cI ayH wf192 (fun x=>x.1.length+64)
def Af216:=(Row.cons (Cod.agg rMv) Row.nil)
noncomputable def Tf216 (s:Mv):Tr Int Empty noS cI.v:=(.c Af234 Sf234 (s.f,()) fun r6=>(.c Af235 Sf235 (s.t,()) fun r7=>(.c Af236 Sf236 (s,()) fun r8=>(.c Af237 Sf237 (s,()) fun r9=>(.c Af192 ayH ([r6,r7,r8,r9],()) fun r10=>(.r r10))))))
def Ef216 (s:Mv):=(Tf216 s).d noE
def Sf216 (x:Mv×Unit):=Ef216 x.1
def wf216:Wk (Mv×Unit) Int Empty cI.v:=wk0 fun x=>Tf216 x.1
def Kf216:=a4 133 Tryz.func133 [Kf192,Kf234,Kf235,Kf236,Kf237] noZ ⟨15,noL,noL,noL⟩ 128 Af216 cI Sf216 wf216 (fun _=>0)
def Af195:=(Row.cons (Cod.list mv0 rMv) Row.nil)
inductive ax8 where
 | k8 (x2:Int)
def uf195:ax8→Nat
 | .k8 _=>8
def az6 (s:List (Mv)):ax8→D
 | .k8 x2=>mD [(0,(Cod.list mv0 rMv).v s),(9,(Cod.list mv0 rMv).v s),(10,.int .i64 ((s.length:Nat):Int)),(11,.int .i64 x2)] 0 [] 128 []
noncomputable def yM (s:List (Mv)):(l_:ax8)→Tr Int ax8 (az6 s) cI.v
 | .k8 x2=>(.i (decide (x2<((s.length:Nat):Int))) (.i (inR x2 s.length) (.c Af216 Sf216 ((s.getD x2.toNat mv0),()) fun r4=>(.i (!(r4==0)) (.r r4) (.i (decide (0<x2)) (.i (inR (w6 (x2-1)) s.length) (.i (decide ((s.getD (w6 (x2-1)).toNat mv0).f≤(s.getD x2.toNat mv0).f)) (.r 11) (.g (.k8 (w6 (x2+1))))) .n) (.g (.k8 (w6 (x2+1))))))) .n) (.r 0))
def Tf195 (s:List (Mv)):Tr Int ax8 (az6 s) cI.v:=(.i (decide (4<((s.length:Nat):Int))) (.r 5) (.g (.k8 0)))
def Ef195J (s:List (Mv)):=Tr.lp (yM s)
def Ef195 (n:Nat) (s:List (Mv)):=(Tf195 s).d (Ef195J s n)
def Sf195 (x:(List (Mv))×Unit):=Ef195 (x.1.length+64) x.1
def wf195:Wk ((List (Mv))×Unit) Int ax8 cI.v:=⟨fun x=>az6 x.1,uf195,fun x=>Tf195 x.1,fun x=>yM x.1⟩
def Kf195:=a4 103 Tryz.func103 [Kf216] noZ ⟨35,(lookA [(4,⟨[0,9,10,11],[],0,[],[],[],[]⟩)]),noL,noL⟩ 128 Af195 cI Sf195 wf195 (fun x=>x.1.length+64)
def Af142:=(Row.cons (Cod.agg rPl) Row.nil)
def Tf142 (s:Pl):Tr Int Empty noS cI.v:=(.c Af193 Sf193 (s.p,()) fun r5=>(.c Af194 Sf194 (s.e,()) fun r6=>(.c Af195 Sf195 (s.m,()) fun r7=>(.c Af192 ayH ([r5,r6,r7],()) fun r8=>(.r r8)))))
def Ef142 (s:Pl):=(Tf142 s).d noE
def Sf142 (x:Pl×Unit):=Ef142 x.1
def wf142:Wk (Pl×Unit) Int Empty cI.v:=wk0 fun x=>Tf142 x.1
def Kf142:=a4 60 Tryz.func60 [Kf192,Kf193,Kf194,Kf195] noZ ⟨14,noL,noL,noL⟩ 128 Af142 cI Sf142 wf142 (fun _=>0)
def Af83:=(Row.cons cS (Row.cons cU8 Row.nil))
inductive Lf83 where
 | k4 (x1:Int)
def uf83:Lf83→Nat
 | .k4 _=>4
def sLf83 (s:List Nat) (t:Int):Lf83→D
 | .k4 x1=>mD [(0,.str s),(1,.int .u8 t),(5,.int .i64 x1)] 0 [] 128 []
noncomputable def awt (s:List Nat) (t:Int):(l_:Lf83)→Tr Bool Lf83 (sLf83 s t) cB.v
 | .k4 x1=>(.i (decide (x1<((s.length:Nat):Int))) (.i (inR x1 s.length) (.i (((s.getD x1.toNat 0:Nat):Int)==t) (.r true) (.g (.k4 (w6 (x1+1))))) .n) (.r false))
def Tf83 (s:List Nat) (t:Int):Tr Bool Lf83 (sLf83 s t) cB.v:=(.g (.k4 0))
def Ef83J (s:List Nat) (t:Int):=Tr.lp (awt s t)
def Ef83 (n:Nat) (s:List Nat) (t:Int):=(Tf83 s t).d (Ef83J s t n)
def Sf83 (x:(List Nat)×Int×Unit):=Ef83 (x.1.length+64) x.1 x.2.1
def Af64:=(Row.cons cI (Row.cons cI (Row.cons cI Row.nil)))
def Tf64 (s:Int) (t:Int) (u:Int):Tr Int Empty noS cI.v:=(.i (decide (s<t)) (.r 3) (.i (decide (u<s)) (.r 3) (.r 0)))
def Ef64 (s:Int) (t:Int) (u:Int):=(Tf64 s t u).d noE
def Sf64 (x:Int×Int×Int×Unit):=Ef64 x.1 x.2.1 x.2.2.1
def Af65:=(Row.cons (Cod.list 0 vZ) Row.nil)
inductive Lf65 where
 | k4 (x1:Int)
def uf65:Lf65→Nat
 | .k4 _=>4
def sLf65 (s:List (Int)):Lf65→D
 | .k4 x1=>mD [(0,(Cod.list 0 vZ).v s),(3,.int .i64 x1)] 0 [] 128 []
noncomputable def aww (s:List (Int)):(l_:Lf65)→Tr Int Lf65 (sLf65 s) cI.v
 | .k4 x1=>(.i (decide (x1<((s.length:Nat):Int))) (.i (inR x1 s.length) (.i (!((s.getD x1.toNat 0)==0)) (.i (inR x1 s.length) (.r (s.getD x1.toNat 0)) .n) (.g (.k4 (w6 (x1+1))))) .n) (.r 0))
def Tf65 (s:List (Int)):Tr Int Lf65 (sLf65 s) cI.v:=(.g (.k4 0))
def Ef65J (s:List (Int)):=Tr.lp (aww s)
def Ef65 (n:Nat) (s:List (Int)):=(Tf65 s).d (Ef65J s n)
def Sf65 (x:(List (Int))×Unit):=Ef65 (x.1.length+64) x.1
def Af172:=(Row.cons cS (Row.cons cB Row.nil))
noncomputable def Tf172 (s:List Nat) (t:Bool):Tr Bool Empty noS cB.v:=(.i (!(((s.length:Nat):Int)==1)) (.r false) (.i t (.i (inR 0 s.length) (.c Af83 Sf83 ([102,103,99,100,107,110,121],((s.getD 0 0:Nat):Int),()) fun r3=>(.r r3)) .n) (.i (inR 0 s.length) (.c Af83 Sf83 ([98,97,115,112,107,116,111],((s.getD 0 0:Nat):Int),()) fun r4=>(.r r4)) .n)))
def Ef172 (s:List Nat) (t:Bool):=(Tf172 s t).d noE
def Sf172 (x:(List Nat)×Bool×Unit):=Ef172 x.1 x.2.1
def Af173:=(Row.cons (Cod.agg rMv) Row.nil)
noncomputable def Tf173 (s:Mv):Tr Bool Empty noS cB.v:=(.i (!s.o) (.i (decide (s.f<s.t)) (.i (decide (0<s.f)) (.r true) (.i (inR 0 s.h.length) (.c Af83 Sf83 ([115,107],((s.h.getD 0 0:Nat):Int),()) fun r2=>(.r (!r2))) .n)) (.r false)) (.i (decide (s.h=[100])) (.i (decide (0<s.f)) (.r (s.t==s.f)) (.r false)) (.i (decide (s.h=[103])) (.r (decide (s.f≤s.t))) (.i (decide (s.h=[110])) (.i (decide (s.f<s.t)) (.i (decide (0<s.f)) (.r true) (.r (s.t==1))) (.r false)) (.i (decide (s.h=[102])) (.r (s.t==(w6 (s.f+1)))) (.i (s.f==0) (.r (s.t==1)) (.r false)))))))
def Ef173 (s:Mv):=(Tf173 s).d noE
def Sf173 (x:Mv×Unit):=Ef173 x.1
def Af174:=(Row.cons (Cod.agg rMv) Row.nil)
inductive ak1 where
 | k8 (x1:Int)
def uf174:ak1→Nat
 | .k8 _=>8
def ay1 (s:Mv):ak1→D
 | .k8 x1=>mD [(1,.ptr 0 0),(3,.int .i64 x1)] 1 [(0,.row ⟨(rMv.v s),71,false⟩)] 128 []
noncomputable def aj9 (s:Mv):(l_:ak1)→Tr Int ak1 (ay1 s) cI.v
 | .k8 x1=>(.i (decide (x1<((s.b.length:Nat):Int))) (.i (inR x1 s.b.length) (.i (decide ((s.b.getD x1.toNat 0)<1)) (.r 16) (.i (inR x1 s.b.length) (.i (decide (9<(s.b.getD x1.toNat 0))) (.r 16) (.i (decide (0<x1)) (.i (inR x1 s.b.length) (.i (inR (w6 (x1-1)) s.b.length) (.i ((s.b.getD x1.toNat 0)==(s.b.getD (w6 (x1-1)).toNat 0)) (.r 16) (.g (.k8 (w6 (x1+1))))) .n) .n) (.g (.k8 (w6 (x1+1)))))) .n)) .n) (.r 0))
def Tf174 (s:Mv):Tr Int ak1 (ay1 s) cI.v:=(.i (decide (9<((s.b.length:Nat):Int))) (.r 16) (.i s.o (.i (((s.b.length:Nat):Int)==0) (.r 16) (.g (.k8 0))) (.g (.k8 0))))
def Ef174J (s:Mv):=Tr.lp (aj9 s)
def Ef174 (n:Nat) (s:Mv):=(Tf174 s).d (Ef174J s n)
def Sf174 (x:Mv×Unit):=Ef174 64 x.1
noncomputable def Tf116 (s:Mv):Tr Int Empty noS cI.v:=(.c Af64 Sf64 (s.f,0,3,()) fun r7=>(.c Af64 Sf64 (s.t,1,4,()) fun r8=>(.c Af65 Sf65 ([r7,r8],()) fun r9=>(.i (!(r9==0)) (.r r9) (.c Af172 Sf172 (s.h,s.o,()) fun r10=>(.i (!r10) (.r 13) (.c Af173 Sf173 (s,()) fun r11=>(.i (!r11) (.r 15) (.c Af174 Sf174 (s,()) fun r12=>(.r r12))))))))))
def Ef116 (s:Mv):=(Tf116 s).d noE
def Sf116 (x:Mv×Unit):=Ef116 x.1
def iM:=(Row.cons cI (Row.cons cI (Row.cons cI Row.nil)))
def Tf118 (s:Int) (t:Int) (u:Int):Tr Bool Empty noS cB.v:=(.i (decide (t≤s)) (.r (decide (s≤u))) (.r false))
def Ef118 (s:Int) (t:Int) (u:Int):=(Tf118 s t u).d noE
def iD (x:Int×Int×Int×Unit):=Ef118 x.1 x.2.1 x.2.2.1
def wf118:Wk (Int×Int×Int×Unit) Bool Empty cB.v:=wk0 fun x=>Tf118 x.1 x.2.1 x.2.2.1
def ayP:=a4 74 Tryz.func74 [] noZ ⟨15,noL,noL,noL⟩ 128 iM cB iD wf118 (fun _=>0)
def Af69:=(Row.cons (Cod.agg rSt) Row.nil)
def Tf69 (s:St):Tr Int Empty noS cI.v:=(.c iM iD (s.inn,1,30,()) fun r2=>(.i (!r2) (.r 3) (.r 0)))
def Ef69 (s:St):=(Tf69 s).d noE
def Sf69 (x:St×Unit):=Ef69 x.1
def wf69:Wk (St×Unit) Int Empty cI.v:=wk0 fun x=>Tf69 x.1
def Kf69:=a4 35 Tryz.func35 [ayP] noZ ⟨7,noL,noL,noL⟩ 128 Af69 cI Sf69 wf69 (fun _=>0)
def Af62:=(Row.cons (Cod.agg rSt) Row.nil)
def Tf62 (s:St):Tr Int Empty noS cI.v:=(.i (s.half==0) (.r s.n0) (.i (s.half==1) (.r s.n1) .n))
def Ef62 (s:St):=(Tf62 s).d noE
def Sf62 (x:St×Unit):=Ef62 x.1
def wf62:Wk (St×Unit) Int Empty cI.v:=wk0 fun x=>Tf62 x.1
def Kf62:=a4 54 Tryz.func54 [] noZ ⟨8,noL,noL,noL⟩ 128 Af62 cI Sf62 wf62 (fun _=>0)
def Af146:=(Row.cons cI Row.nil)
def Tf146 (s:Int):Tr Int Empty noS cI.v:=(.r (w6 ((s.tmod 9)+1)))
def Ef146 (s:Int):=(Tf146 s).d noE
def Sf146 (x:Int×Unit):=Ef146 x.1
def wf146:Wk (Int×Unit) Int Empty cI.v:=wk0 fun x=>Tf146 x.1
def Kf146:=a4 53 Tryz.func53 [] noZ ⟨6,noL,noL,noL⟩ 128 Af146 cI Sf146 wf146 (fun _=>0)
def ayW:=(Row.cons cI (Row.cons cI Row.nil))
inductive axb where
 | k6 (x2:Int) (x3:Int)
def uf121:axb→Nat
 | .k6 _ _=>6
def az9 (s:Int) (t:Int):axb→D
 | .k6 x2 x3=>mD [(1,.int .i64 t),(5,.int .i64 x2),(8,.int .i64 x3)] 0 [] 128 []
def yO (s:Int) (t:Int):(l_:axb)→Tr Int axb (az9 s t) cI.v
 | .k6 x2 x3=>(.i (decide (x3<9)) (.c Af146 Sf146 (x2,()) fun r5=>(.i (r5==t) (.r x3) (.g (.k6 r5 (w6 (x3+1)))))) (.r 9))
def Tf121 (s:Int) (t:Int):Tr Int axb (az9 s t) cI.v:=(.g (.k6 s 0))
def Ef121J (s:Int) (t:Int):=Tr.lp (yO s t)
def Ef121 (n:Nat) (s:Int) (t:Int):=(Tf121 s t).d (Ef121J s t n)
def ax2 (x:Int×Int×Unit):=Ef121 64 x.1 x.2.1
def wf121:Wk (Int×Int×Unit) Int axb cI.v:=⟨fun x=>az9 x.1 x.2.1,uf121,fun x=>Tf121 x.1 x.2.1,fun x=>yO x.1 x.2.1⟩
def Kf121:=a4 76 Tryz.func76 [Kf146] noZ ⟨18,(lookA [(3,⟨[1,5,8],[],0,[],[],[],[]⟩)]),noL,noL⟩ 128 ayW cI ax2 wf121 (fun x=>64)
def Af73:=(Row.cons (Cod.agg rSt) Row.nil)
inductive Lf73 where
 | k6 (x1:Int) (x5:Int) (x6:Int)
def uf73:Lf73→Nat
 | .k6 _ _ _=>6
def sLf73 (s:St):Lf73→D
 | .k6 x1 x5 x6=>mD [(1,.ptr 0 0),(3,.int .i64 x5),(4,.int .i64 x6),(9,.agg [.int .i64 s.b1,.int .i64 s.b2,.int .i64 s.b3]),(10,.int .i64 x1)] 1 [(0,.row ⟨(rSt.v s),37,false⟩)] 128 []
noncomputable def l7 (s:St):(l_:Lf73)→Tr Int Lf73 (sLf73 s) cI.v
 | .k6 x1 x5 x6=>(.i (decide (x1<3)) (.i (x1==0) (.i (s.b1==0) (.g (.k6 (w6 (x1+1)) x5 x6)) (.c Af62 Sf62 (s,()) fun r22=>(.c ayW ax2 (s.b1,r22,()) fun r23=>(.c iM iD (r23,x5,(w6 (x5+s.outs)),()) fun r24=>(.i (!r24) (.r 11) (.i (decide (r23≤x6)) (.r 11) (.g (.k6 (w6 (x1+1)) (w6 (x5+1)) r23)))))))) (.i (x1==1) (.i (s.b2==0) (.g (.k6 (w6 (x1+1)) x5 x6)) (.c Af62 Sf62 (s,()) fun r19=>(.c ayW ax2 (s.b2,r19,()) fun r20=>(.c iM iD (r20,x5,(w6 (x5+s.outs)),()) fun r21=>(.i (!r21) (.r 11) (.i (decide (r20≤x6)) (.r 11) (.g (.k6 (w6 (x1+1)) (w6 (x5+1)) r20)))))))) (.i (x1==2) (.i (s.b3==0) (.g (.k6 (w6 (x1+1)) x5 x6)) (.c Af62 Sf62 (s,()) fun r16=>(.c ayW ax2 (s.b3,r16,()) fun r17=>(.c iM iD (r17,x5,(w6 (x5+s.outs)),()) fun r18=>(.i (!r18) (.r 11) (.i (decide (r17≤x6)) (.r 11) (.g (.k6 (w6 (x1+1)) (w6 (x5+1)) r17)))))))) .n))) (.r 0))
def Tf73 (s:St):Tr Int Lf73 (sLf73 s) cI.v:=(.g (.k6 0 0 (-1)))
def Ef73J (s:St):=Tr.lp (l7 s)
def Ef73 (n:Nat) (s:St):=(Tf73 s).d (Ef73J s n)
def Sf73 (x:St×Unit):=Ef73 64 x.1
def wf73:Wk (St×Unit) Int Lf73 cI.v:=⟨fun x=>sLf73 x.1,uf73,fun x=>Tf73 x.1,fun x=>l7 x.1⟩
def Kf73:=a4 39 Tryz.func39 [Kf62,ayP,Kf121] noZ ⟨36,(lookA [(3,⟨[1,3,4,9,10],[0],1,[],[],[],[]⟩)]),noL,noL⟩ 128 Af73 cI Sf73 wf73 (fun x=>64)
def Af175:=(Row.cons (Cod.agg rSt) Row.nil)
def Tf175 (s:St):Tr St Empty noS (Cod.agg rSt).v:=(.r (⟨s.inn,s.half,0,0,0,0,0,0,s.n0,s.n1,s.c0,s.c1,s.over⟩:St))
def Ef175 (s:St):=(Tf175 s).d noE
def Sf175 (x:St×Unit):=Ef175 x.1
def wf175:Wk (St×Unit) St Empty (Cod.agg rSt).v:=wk0 fun x=>Tf175 x.1
def Kf175:=a4 98 Tryz.func98 [] noZ ⟨9,noL,noL,noL⟩ 128 Af175 (Cod.agg rSt) Sf175 wf175 (fun _=>0)
def Af177:=(Row.cons (Cod.agg rSt) Row.nil)
def Tf177 (s:St):Tr Bool Empty noS cB.v:=(.r (decide (s.c0<s.c1)))
def Ef177 (s:St):=(Tf177 s).d noE
def ayJ (x:St×Unit):=Ef177 x.1
def wf177:Wk (St×Unit) Bool Empty cB.v:=wk0 fun x=>Tf177 x.1
def Kf177:=a4 97 Tryz.func97 [] noZ ⟨10,noL,noL,noL⟩ 128 Af177 cB ayJ wf177 (fun _=>0)
def Af176:=(Row.cons (Cod.agg rSt) Row.nil)
def Tf176 (s:St):Tr Bool Empty noS cB.v:=(.i (decide (s.inn<9)) (.r false) (.c Af177 ayJ (s,()) fun r2=>(.i r2 (.r true) (.i (s.half==1) (.i (!(s.c0==s.c1)) (.r true) (.r (s.inn==30))) (.r false)))))
def Ef176 (s:St):=(Tf176 s).d noE
def Sf176 (x:St×Unit):=Ef176 x.1
def wf176:Wk (St×Unit) Bool Empty cB.v:=wk0 fun x=>Tf176 x.1
def Kf176:=a4 99 Tryz.func99 [Kf177] noZ ⟨27,noL,noL,noL⟩ 128 Af176 cB Sf176 wf176 (fun _=>0)
def Af119:=(Row.cons (Cod.agg rSt) Row.nil)
noncomputable def Tf119 (s:St):Tr Bool Empty noS cB.v:=(.c Af175 Sf175 (s,()) fun r3=>(.i ((s.inn==r3.inn)&&((s.half==r3.half)&&((s.outs==r3.outs)&&((s.balls==r3.balls)&&((s.strikes==r3.strikes)&&((s.b1==r3.b1)&&((s.b2==r3.b2)&&((s.b3==r3.b3)&&((s.n0==r3.n0)&&((s.n1==r3.n1)&&((s.c0==r3.c0)&&((s.c1==r3.c1)&&((s.over==r3.over)&&true))))))))))))) (.c Af176 Sf176 (s,()) fun r4=>(.r r4)) (.r false)))
def Ef119 (s:St):=(Tf119 s).d noE
def Sf119 (x:St×Unit):=Ef119 x.1
def wf119:Wk (St×Unit) Bool Empty cB.v:=wk0 fun x=>Tf119 x.1
def Kf119:=a4 75 Tryz.func75 [Kf175,Kf176] noZ ⟨11,noL,noL,noL⟩ 128 Af119 cB Sf119 wf119 (fun _=>0)
def Af120:=(Row.cons (Cod.agg rSt) Row.nil)
def Tf120 (s:St):Tr Bool Empty noS cB.v:=(.i (decide (9≤s.inn)) (.i (s.half==1) (.c Af177 ayJ (s,()) fun r2=>(.r r2)) (.r false)) (.r false))
def Ef120 (s:St):=(Tf120 s).d noE
def ayL (x:St×Unit):=Ef120 x.1
def wf120:Wk (St×Unit) Bool Empty cB.v:=wk0 fun x=>Tf120 x.1
def Kf120:=a4 56 Tryz.func56 [Kf177] noZ ⟨15,noL,noL,noL⟩ 128 Af120 cB ayL wf120 (fun _=>0)
def Af72:=(Row.cons (Cod.agg rSt) Row.nil)
noncomputable def Tf72 (s:St):Tr Int Empty noS cI.v:=(.i s.over (.c Af119 Sf119 (s,()) fun r4=>(.i (!r4) (.r 19) (.i (!s.over) (.c Af120 ayL (s,()) fun r5=>(.i r5 (.r 19) (.r 0))) (.r 0)))) (.i (!s.over) (.c Af120 ayL (s,()) fun r6=>(.i r6 (.r 19) (.r 0))) (.r 0)))
def Ef72 (s:St):=(Tf72 s).d noE
def Sf72 (x:St×Unit):=Ef72 x.1
def wf72:Wk (St×Unit) Int Empty cI.v:=wk0 fun x=>Tf72 x.1
def Kf72:=a4 38 Tryz.func38 [Kf119,Kf120] noZ ⟨19,noL,noL,noL⟩ 128 Af72 cI Sf72 wf72 (fun _=>0)
def Af71:=(Row.cons (Cod.agg rSt) Row.nil)
inductive Lf71 where
 | k6 (x4:Bool) (x6:Int)
 | k16 (x10:Bool) (x13:Int)
def uf71:Lf71→Nat
 | .k6 _ _=>6
 | .k16 _ _=>16
noncomputable def sLf71 (s:St):Lf71→D
 | .k6 x4 x6=>mD [(1,.ptr 0 0),(3,.bool x4),(21,.agg [.int .i64 s.b1,.int .i64 s.b2,.int .i64 s.b3]),(22,.int .i64 x6)] 1 [(0,.row ⟨(rSt.v s),37,false⟩)] 128 []
 | .k16 x10 x13=>mD [(1,.ptr 0 0),(3,.bool x10),(31,.int .i64 x13)] 1 [(0,.row ⟨(rSt.v s),37,false⟩)] 128 []
noncomputable def awv (s:St):(l_:Lf71)→Tr Int Lf71 (sLf71 s) cI.v
 | .k6 x4 x6=>(.i (decide (x6<3)) (.i (x6==0) (.i x4 (.c iM iD (s.b1,0,9,()) fun r28=>(.g (.k6 r28 (w6 (x6+1))))) (.g (.k6 false (w6 (x6+1))))) (.i (x6==1) (.i x4 (.c iM iD (s.b2,0,9,()) fun r27=>(.g (.k6 r27 (w6 (x6+1))))) (.g (.k6 false (w6 (x6+1))))) (.i (x6==2) (.i x4 (.c iM iD (s.b3,0,9,()) fun r26=>(.g (.k6 r26 (w6 (x6+1))))) (.g (.k6 false (w6 (x6+1))))) .n))) (.g (.k16 x4 0)))
 | .k16 x10 x13=>(.i (decide (x13<2)) (.i x10 (.i (x13==0) (.c iM iD (s.n0,1,9,()) fun r32=>(.i r32 (.i (x13==0) (.c iM iD (s.c0,0,9999,()) fun r34=>(.g (.k16 r34 (w6 (x13+1))))) (.i (x13==1) (.c iM iD (s.c1,0,9999,()) fun r33=>(.g (.k16 r33 (w6 (x13+1))))) .n)) (.g (.k16 false (w6 (x13+1)))))) (.i (x13==1) (.c iM iD (s.n1,1,9,()) fun r29=>(.i r29 (.i (x13==0) (.c iM iD (s.c0,0,9999,()) fun r31=>(.g (.k16 r31 (w6 (x13+1))))) (.i (x13==1) (.c iM iD (s.c1,0,9999,()) fun r30=>(.g (.k16 r30 (w6 (x13+1))))) .n)) (.g (.k16 false (w6 (x13+1)))))) .n)) (.g (.k16 false (w6 (x13+1))))) (.i (!x10) (.r 3) (.r 0)))
noncomputable def Tf71 (s:St):Tr Int Lf71 (sLf71 s) cI.v:=(.c iM iD (s.outs,0,2,()) fun r23=>(.i r23 (.c iM iD (s.balls,0,3,()) fun r24=>(.i r24 (.c iM iD (s.strikes,0,2,()) fun r25=>(.g (.k6 r25 0))) (.g (.k6 false 0)))) (.g (.k6 false 0))))
def Ef71J (s:St):=Tr.lp (awv s)
def Ef71 (n:Nat) (s:St):=(Tf71 s).d (Ef71J s n)
def Sf71 (x:St×Unit):=Ef71 64 x.1
def wf71:Wk (St×Unit) Int Lf71 cI.v:=⟨fun x=>sLf71 x.1,uf71,fun x=>Tf71 x.1,fun x=>awv x.1⟩
def Kf71:=a4 37 Tryz.func37 [ayP] noZ ⟨52,(lookA [(3,⟨[1,3,21,22],[0],1,[],[],[],[]⟩),(8,⟨[1,3,31],[0],1,[],[],[],[]⟩)]),noL,noL⟩ 128 Af71 cI Sf71 wf71 (fun x=>64)
def Af70:=(Row.cons (Cod.agg rSt) Row.nil)
def Tf70 (s:St):Tr Int Empty noS cI.v:=(.c iM iD (s.half,0,1,()) fun r2=>(.i (!r2) (.r 17) (.r 0)))
def Ef70 (s:St):=(Tf70 s).d noE
def Sf70 (x:St×Unit):=Ef70 x.1
def wf70:Wk (St×Unit) Int Empty cI.v:=wk0 fun x=>Tf70 x.1
def Kf70:=a4 36 Tryz.func36 [ayP] noZ ⟨7,noL,noL,noL⟩ 128 Af70 cI Sf70 wf70 (fun _=>0)
noncomputable def eK:=(Row.cons (Cod.agg rSt) (Row.cons (Cod.lit (Els.cons (Row.cons (Cod.fn0 35) Row.nil) (Els.cons (Row.cons (Cod.fn0 36) Row.nil) (Els.cons (Row.cons (Cod.fn0 37) Row.nil) (Els.cons (Row.cons (Cod.fn0 38) Row.nil) (Els.cons (Row.cons (Cod.fn0 39) Row.nil) Els.nil)))))) Row.nil))
inductive aU where
 | k4 (x2:Int)
def kB:aU→Nat
 | .k4 _=>4
noncomputable def b4 (s:St) (t:((Unit)×Unit)×((Unit)×Unit)×((Unit)×Unit)×((Unit)×Unit)×((Unit)×Unit)×Unit):aU→D
 | .k4 x2=>mD [(2,.ptr 0 0),(8,.el [[.raw (.func 35 [])],[.raw (.func 36 [])],[.raw (.func 37 [])],[.raw (.func 38 [])],[.raw (.func 39 [])]]),(9,.int .i64 5),(10,.int .i64 x2)] 1 [(0,.row ⟨(rSt.v s),37,false⟩)] 128 []
noncomputable def aN (s:St) (t:((Unit)×Unit)×((Unit)×Unit)×((Unit)×Unit)×((Unit)×Unit)×((Unit)×Unit)×Unit):(l_:aU)→Tr Int aU (b4 s t) cI.v
 | .k4 x2=>(.i (decide (x2<5)) (.i (x2==0) (.c Af69 Sf69 (s,()) fun r12=>(.i (!(r12==0)) (.r r12) (.g (.k4 (w6 (x2+1)))))) (.i (x2==1) (.c Af70 Sf70 (s,()) fun r11=>(.i (!(r11==0)) (.r r11) (.g (.k4 (w6 (x2+1)))))) (.i (x2==2) (.c Af71 Sf71 (s,()) fun r10=>(.i (!(r10==0)) (.r r10) (.g (.k4 (w6 (x2+1)))))) (.i (x2==3) (.c Af72 Sf72 (s,()) fun r9=>(.i (!(r9==0)) (.r r9) (.g (.k4 (w6 (x2+1)))))) (.i (x2==4) (.c Af73 Sf73 (s,()) fun r8=>(.i (!(r8==0)) (.r r8) (.g (.k4 (w6 (x2+1)))))) .n))))) (.r 0))
def cH (s:St) (t:((Unit)×Unit)×((Unit)×Unit)×((Unit)×Unit)×((Unit)×Unit)×((Unit)×Unit)×Unit):Tr Int aU (b4 s t) cI.v:=(.g (.k4 0))
def jM (s:St) (t:((Unit)×Unit)×((Unit)×Unit)×((Unit)×Unit)×((Unit)×Unit)×((Unit)×Unit)×Unit):=Tr.lp (aN s t)
def cK (n:Nat) (s:St) (t:((Unit)×Unit)×((Unit)×Unit)×((Unit)×Unit)×((Unit)×Unit)×((Unit)×Unit)×Unit):=(cH s t).d (jM s t n)
def cJ (x:St×(((Unit)×Unit)×((Unit)×Unit)×((Unit)×Unit)×((Unit)×Unit)×((Unit)×Unit)×Unit)×Unit):=cK 64 x.1 x.2.1
def kA:Wk (St×(((Unit)×Unit)×((Unit)×Unit)×((Unit)×Unit)×((Unit)×Unit)×((Unit)×Unit)×Unit)×Unit) Int aU cI.v:=⟨fun x=>b4 x.1 x.2.1,kB,fun x=>cH x.1 x.2.1,fun x=>aN x.1 x.2.1⟩
def kD:=a4 34 Tryz.func34 [Kf69,Kf70,Kf71,Kf72,Kf73] noZ ⟨21,(lookA [(2,⟨[2,8,9,10],[0],1,[],[],[],[]⟩)]),noL,noL⟩ 128 eK cI cJ kA (fun x=>64)
def Af18:=(Row.cons (Cod.agg rSt) Row.nil)
def Tf18 (s:St):Tr Int Empty noS cI.v:=(.c eK cJ (s,(((),()),((),()),((),()),((),()),((),()),()),()) fun r2=>(.r r2))
def Ef18 (s:St):=(Tf18 s).d noE
def Sf18 (x:St×Unit):=Ef18 x.1
def wf18:Wk (St×Unit) Int Empty cI.v:=wk0 fun x=>Tf18 x.1
def Kf18:=a4 16 Tryz.func16 [kD] noZ ⟨6,noL,noL,noL⟩ 128 Af18 cI Sf18 wf18 (fun _=>0)
def Af138:=(Row.cons (Cod.agg (Row.cons cI (Row.cons cI Row.nil))) (Row.cons (axj .i32) Row.nil))
noncomputable def Tf138 (s:(Int)×(Int)×Unit) (t:Int):Tr ((Int)×(Int)×Unit) Empty noS (Cod.agg (Row.cons cI (Row.cons cI Row.nil))).v:=(.i (t==66) (.r ((w6 (s.1+1)),s.2.1,())) (.i (t==67) (.r (s.1,(w6 (s.2.1+1)),())) (.i (t==83) (.r (s.1,(w6 (s.2.1+1)),())) (.i (t==70) (.i (decide (s.2.1<2)) (.r (s.1,(w6 (s.2.1+1)),())) (.r (s.1,s.2.1,()))) (.r (s.1,s.2.1,()))))))
def Ef138 (s:(Int)×(Int)×Unit) (t:Int):=(Tf138 s t).d noE
def Sf138 (x:((Int)×(Int)×Unit)×Int×Unit):=Ef138 x.1 x.2.1
def wf138:Wk (((Int)×(Int)×Unit)×Int×Unit) ((Int)×(Int)×Unit) Empty (Cod.agg (Row.cons cI (Row.cons cI Row.nil))).v:=wk0 fun x=>Tf138 x.1 x.2.1
def Kf138:=a4 135 Tryz.func135 [] noZ ⟨29,noL,noL,noL⟩ 128 Af138 (Cod.agg (Row.cons cI (Row.cons cI Row.nil))) Sf138 wf138 (fun _=>0)
def Af81:=(Row.cons cI (Row.cons cI (Row.cons cS Row.nil)))
inductive Lf81 where
 | k14 (x5:Bool) (x6:Int) (x7:Int) (x8:Nat)
def uf81:Lf81→Nat
 | .k14 _ _ _ _=>14
noncomputable def sLf81 (s:Int) (t:Int) (u:List Nat):Lf81→D
 | .k14 x5 x6 x7 x8=>mD [(6,.ptr 0 0),(9,.ptr 1 0),(10,.bool x5),(30,.ptr 2 0)] 3 [(0,.row ⟨[.int .i64 0,.int .i64 0],35,false⟩),(1,.row ⟨[.int .i64 x6,.int .i64 x7],35,false⟩),(2,.iter u x8)] 128 []
noncomputable def awu (s:Int) (t:Int) (u:List Nat):(l_:Lf81)→Tr (((Int)×(Int)×Unit)×(Int)×(Int)×Unit) Lf81 (sLf81 s t u) (Cod.tup (Row.cons (Cod.agg (Row.cons cI (Row.cons cI Row.nil))) (Row.cons cI (Row.cons cI Row.nil)))).v
 | .k14 x5 x6 x7 x8=>(.i (Nat.blt x8 u.length) (.i x5 (.r ((0,0,()),((x8:Nat):Int),14,())) (.c A137 S137 ((((gF u x8).1:Nat):Int),()) fun r17=>(.i (!r17) (.r ((0,0,()),((x8:Nat):Int),14,())) (.c Af138 Sf138 ((x6,x7,()),(((gF u x8).1:Nat):Int),()) fun r18=>(.i (r18.1==4) (.g (.k14 true r18.1 r18.2.1 (x8+(gF u x8).2))) (.i (r18.2.1==3) (.g (.k14 true r18.1 r18.2.1 (x8+(gF u x8).2))) (.c Af139 ayK ((((gF u x8).1:Nat):Int),()) fun r19=>(.g (.k14 r19 r18.1 r18.2.1 (x8+(gF u x8).2)))))))))) (.r ((x6,x7,()),0,0,())))
noncomputable def Tf81 (s:Int) (t:Int) (u:List Nat):Tr (((Int)×(Int)×Unit)×(Int)×(Int)×Unit) Lf81 (sLf81 s t u) (Cod.tup (Row.cons (Cod.agg (Row.cons cI (Row.cons cI Row.nil))) (Row.cons cI (Row.cons cI Row.nil)))).v:=(.c axe aqZ (s,0,3,()) fun r15=>(.i (!r15) (.r ((0,0,()),0,3,())) (.c axe aqZ (t,0,2,()) fun r16=>(.i (!r16) (.r ((0,0,()),0,3,())) (.i (decide (24<((u.length:Nat):Int))) (.r ((0,0,()),0,5,())) (.g (.k14 false s t 0)))))))
def Ef81J (s:Int) (t:Int) (u:List Nat):=Tr.lp (awu s t u)
def Ef81 (n:Nat) (s:Int) (t:Int) (u:List Nat):=(Tf81 s t u).d (Ef81J s t u n)
def Sf81 (x:Int×Int×(List Nat)×Unit):=Ef81 (x.2.2.1.length+64) x.1 x.2.1 x.2.2.1
noncomputable def wf81:Wk (Int×Int×(List Nat)×Unit) (((Int)×(Int)×Unit)×(Int)×(Int)×Unit) Lf81 (Cod.tup (Row.cons (Cod.agg (Row.cons cI (Row.cons cI Row.nil))) (Row.cons cI (Row.cons cI Row.nil)))).v:=⟨fun x=>sLf81 x.1 x.2.1 x.2.2.1,uf81,fun x=>Tf81 x.1 x.2.1 x.2.2.1,fun x=>awu x.1 x.2.1 x.2.2.1⟩
noncomputable def Kf81:=a4 104 Tryz.func104 [ayO,K137,Kf138,Kf139] noZ ⟨59,(lookA [(7,⟨[6,9,10,30],[0,1,2],3,[],[],[],[]⟩)]),noL,noL⟩ 128 Af81 (Cod.tup (Row.cons (Cod.agg (Row.cons cI (Row.cons cI Row.nil))) (Row.cons cI (Row.cons cI Row.nil)))) Sf81 wf81 (fun x=>x.2.2.1.length+64)
end
end Go.Ev
