import Derived.Test.YtembhfobljiaoaaGreatDoorDF0
set_option linter.unusedSimpArgs false
set_option linter.unusedVariables false
namespace Go.Ev
open Go.RowKit Go.Proofs
set_option maxRecDepth 100000
set_option maxHeartbeats 4000000
set_option linter.unusedSimpArgs false
noncomputable section
theorem Con.less {f:FuncId}{α ρ:Type}{A:Row α}{Q:Cod ρ}{S S':α→Option ρ}(h:FnT f (fOf A Q S)) (hs:∀x r,S' x=some r→S x=some r):FnT f (fOf A Q S'):=
 Fn.weak h fun a v hv=>by
  obtain⟨x,r,rfl,h1,rfl⟩:=qR hv
  unfold fOf
  rw [A.rt,Option.bind_some,hs x r h1];rfl
theorem lo137:((List.range 128).all fun r=>Sf137 (((r:Nat):Int),())==some (isP r))=true:=by kernel_rfl
def lN:List Nat:=[66,67,83,70,88,72]
theorem ff214 (r:Int):t9 lN r 70 (.k76 0)=some (-1):=by kernel_rfl
theorem aq2 {l:List Nat}{b:Nat}(h:∀x∈l,x<128) (h1:128≤b) (h2:b<256):S230 (l,((b:Nat):Int),())=some (-1):=by
 unfold S230
 rw [if_pos (by constructor<;>simp<;>omega)]
 simp only [Int.toNat_natCast,awA h h1]
theorem hi_k {r:Int}{k b:Nat}(hk:k=1∨k=2∨k=3) (hl:(bT r).length=k+1) (hb:(bT r).getD k 0=b) (h1:128≤b) (h2:b<256) (n:Nat):t9 lN r (n+1) .k10=some (-1):=by
 rw [awy]
 have w1:w6 ((((bT r).length:Nat):Int)-1)=(k:Int):=by rw [hl];unfold w6;rw [pH]<;>omega
 simp only [aj8,TS,w1,Int.toNat_natCast,hb]
 simp only [hl]
 rcases hk with rfl|rfl|rfl
 · have c4:((((lN.getD 1 0:Nat)):Int)==(b:Int))=false:=by rw [show lN.getD 1 0=67 from rfl];exact beq_eq_false_iff_ne.2 (by omega)
   have c6:=aq2 (l:=(lN.take lN.length).drop (w6 (((1:Nat):Int)+1)).toNat) (by decide) h1 h2
   simp only [show decide (((1:Nat):Int)<((lN.length:Nat):Int))=true by decide,show inR ((1:Nat):Int) lN.length=true by decide,show inR ((1:Nat):Int) (1+1)=true by decide,c4,show(decide ((0:Int)≤w6 (((1:Nat):Int)+1))&&decide (w6 (((1:Nat):Int)+1)≤((lN.length:Nat):Int)))=true by decide,c6,Bool.not_false,cond_true,obind_some];rfl
 · have c4:((((lN.getD 2 0:Nat)):Int)==(b:Int))=false:=by rw [show lN.getD 2 0=83 from rfl];exact beq_eq_false_iff_ne.2 (by omega)
   have c6:=aq2 (l:=(lN.take lN.length).drop (w6 (((2:Nat):Int)+1)).toNat) (by decide) h1 h2
   simp only [show decide (((2:Nat):Int)<((lN.length:Nat):Int))=true by decide,show inR ((2:Nat):Int) lN.length=true by decide,show inR ((2:Nat):Int) (2+1)=true by decide,c4,show(decide ((0:Int)≤w6 (((2:Nat):Int)+1))&&decide (w6 (((2:Nat):Int)+1)≤((lN.length:Nat):Int)))=true by decide,c6,Bool.not_false,cond_true,obind_some];rfl
 · have c4:((((lN.getD 3 0:Nat)):Int)==(b:Int))=false:=by rw [show lN.getD 3 0=70 from rfl];exact beq_eq_false_iff_ne.2 (by omega)
   have c6:=aq2 (l:=(lN.take lN.length).drop (w6 (((3:Nat):Int)+1)).toNat) (by decide) h1 h2
   simp only [show decide (((3:Nat):Int)<((lN.length:Nat):Int))=true by decide,show inR ((3:Nat):Int) lN.length=true by decide,show inR ((3:Nat):Int) (3+1)=true by decide,c4,show(decide ((0:Int)≤w6 (((3:Nat):Int)+1))&&decide (w6 (((3:Nat):Int)+1)≤((lN.length:Nat):Int)))=true by decide,c6,Bool.not_false,cond_true,obind_some];rfl
theorem hi214 {r:Int}(h:128≤r) (n:Nat):t9 lN r (n+1) .k10=some (-1):=by
 rcases runeE_cases r h with⟨a,b,e,h1,h2⟩ | ⟨a,c,b,e,h1,h2⟩ | ⟨a,c,d,b,e,h1,h2⟩
 · exact hi_k (k:=1) (b:=b) (by simp) (by rw [e];rfl) (by rw [e];rfl) h1 h2 n
 · exact hi_k (k:=2) (b:=b) (by simp) (by rw [e];rfl) (by rw [e];rfl) h1 h2 n
 · exact hi_k (k:=3) (b:=b) (by simp) (by rw [e];rfl) (by rw [e];rfl) h1 h2 n
theorem m214 {r:Int}(h:128≤r):Sf214 (lN,r,())=some (-1):=by
 show Ef214 (6+64) lN r=_
 unfold Ef214 Tf214
 have c0:decide (0≤r)=true:=by rw [decide_eq_true_eq];omega
 have c1:decide (r<128)=false:=by rw [decide_eq_false_iff_not];omega
 obtain⟨v,hv⟩:∃v,awl (r,())=some v:=by
  show ∃v,Ef231 r=some v
  unfold Ef231 Tf231
  simp only [TS]
  cases decide (0≤r)<;>cases decide (r<55296)<;>cases decide (57343<r)<;>cases decide (r≤1114111)<;>exact⟨_,rfl⟩
 simp only [TS,c0,c1,cond_true,cond_false,hv,obind_some,ff214]
 have e:=hi214 h 69
 cases r==65533 with
 | true=>rfl
 | false=>
   cases v with
   | false=>rfl
   | true=>exact e
theorem m137' {r:Int}(h:0≤r):Sf137 (r,())=some (isP r.toNat):=by
 obtain⟨k,rfl⟩:∃k:Nat,r=(k:Int):=⟨r.toNat,by omega⟩
 rw [Int.toNat_natCast]
 by_cases hk:k<128
 · exact eq_of_beq (List.all_eq_true.1 lo137 k (List.mem_range.2 hk))
 · have e:awn (lN,((k:Nat):Int),())=some false:=by
    show Ef190 lN _=_
    unfold Ef190 Tf190
    simp only [TS,m214 (show(128:Int)≤(k:Int) by omega),obind_some];rfl
   rw [lS (by omega)]
   show Ef137 _=_
   unfold Ef137 Tf137
   simp only [TS]
   show aV (awn (lN,((k:Nat):Int),())) _=_
   rw [e];rfl
def A137:Row (Int×Unit):=Row.cons (ax2 .i32) Row.nil
def S137 (x:Int×Unit):Option Bool:=if 0≤x.1 then some (isP x.1.toNat)else none
def K137:Con Tryz.prog gT:=Con.of 127 A137 cB S137 (Con.less Kf137.ok fun x r h=>by
 unfold S137 at h
 split at h
 · rename_i h0;exact(m137' h0).trans h
 · cases h)
def rD (l:List Mv):Bool:=decide (l.length≤300)&&l.all fun m=>decide (m.b.length≤1000)
theorem cp_j (s:List Mv) (h:rD s=true):∀j n k,k+j=s.length→awx s (n+j+1) (.k6 (k:Int) (s.take k))=some s:=by
 simp only [rD,Bool.and_eq_true,decide_eq_true_eq,List.all_eq_true]at h
 intro j
 induction j with
 | zero=>
   intro n k hk
   have c1:decide ((k:Int)<((s.length:Nat):Int))=false:=by rw [decide_eq_false_iff_not];omega
   rw [ak0]
   simp only [akL,TS,c1,cond_false]
   rw [List.take_of_length_le (by omega)]
 | succ j ih=>
   intro n k hk
   have hlt:k<s.length:=by omega
   obtain⟨x,hx⟩:∃x,s[k]? = some x:=⟨s[k],List.getElem?_eq_getElem hlt⟩
   have hm:=h.2 x (List.mem_of_getElem? hx)
   have c1:decide ((k:Int)<((s.length:Nat):Int))=true:=by rw [decide_eq_true_eq];omega
   have c2:inR (k:Int) s.length=true:=by simp [inR];omega
   have hg:s.getD k mv0=x:=by rw [List.getD_eq_getElem?_getD,hx];rfl
   have c3:Nat.ble (8*x.b.length) 1000000=true:=by rw [Nat.ble_eq];omega
   have c4:Nat.ble (64*((s.take k).length+1)) 1000000=true:=by rw [Nat.ble_eq,List.length_take];omega
   have w4:w6 ((k:Int)+1)=((k+1:Nat):Int):=by unfold w6;rw [pH]<;>omega
   have ht:s.take k++[x]=s.take (k+1):=by rw [List.take_add_one,hx];rfl
   rw [ak0]
   simp only [akL,TS,c1,c2,Int.toNat_natCast,hg,c3,List.length_map,c4,cond_true,w4,ht]
   rw [show n+(j+1)=n+j+1 by omega]
   exact ih n (k+1) (by omega)
theorem m87 (s:List Mv) (h:rD s=true):Sf87 (s,())=some s:=by
 show Ef87 (s.length+64) s=_
 unfold Ef87 Tf87
 simp only [TS]
 have e:=cp_j s h s.length 63 0 (by omega)
 rw [show 63+s.length+1=s.length+64 by omega,List.take_zero]at e
 exact e
theorem m33 (p:Pl) (h:rD p.m=true):Sf33 (p,())=some p:=by
 show Ef33 p=_
 unfold Ef33 Tf33
 simp only [TS,m87 p.m h,obind_some]
end
end Go.Ev
namespace Go.Ev
open Go.RowKit Go.Proofs
set_option maxRecDepth 100000
set_option maxHeartbeats 4000000
set_option linter.unusedVariables false
noncomputable section
def Af139:=(Row.cons (ax2 .i32) Row.nil)
def Tf139 (s:Int):Tr Bool Empty noS cB.v:=(.i (s==88) (.r true) (.r (s==72)))
def Ef139 (s:Int):=(Tf139 s).d noE
def awp (x:Int×Unit):=Ef139 x.1
def wf139:Wk (Int×Unit) Bool Empty cB.v:=wk0 fun x=>Tf139 x.1
def Kf139:=aY 128 Tryz.func128 [] noZ ⟨9,noL,noL,noL⟩ 128 Af139 cB awp wf139 (fun _=>0)
def Af193:=(Row.cons cS Row.nil)
inductive axr where
 | k8 (x3:Nat)
def uf193:axr→Nat
 | .k8 _=>8
def azh (s:List Nat):axr→D
 | .k8 x3=>mD [(0,.str s),(9,.ptr 0 0)] 1 [(0,.iter s x3)] 128 []
noncomputable def t7 (s:List Nat):(l_:axr)→Tr Int axr (azh s) cI.v
 | .k8 x3=>(.i (Nat.blt x3 s.length) (.c A137 S137 ((((gB s x3).1:Nat):Int),()) fun r6=>(.i (!r6) (.r 14) (.c Af139 awp ((((gB s x3).1:Nat):Int),()) fun r7=>(.i r7 (.i (decide (((x3:Nat):Int)<(w6 (((s.length:Nat):Int)-1)))) (.r 14) (.g (.k8 (x3+(gB s x3).2)))) (.g (.k8 (x3+(gB s x3).2))))))) (.r 0))
def Tf193 (s:List Nat):Tr Int axr (azh s) cI.v:=(.i (decide (24<((s.length:Nat):Int))) (.r 5) (.g (.k8 0)))
def Ef193J (s:List Nat):=Tr.lp (t7 s)
def Ef193 (n:Nat) (s:List Nat):=(Tf193 s).d (Ef193J s n)
def Sf193 (x:(List Nat)×Unit):=Ef193 (x.1.length+64) x.1
def wf193:Wk ((List Nat)×Unit) Int axr cI.v:=⟨fun x=>azh x.1,uf193,fun x=>Tf193 x.1,fun x=>t7 x.1⟩
def Kf193:=aY 101 Tryz.func101 [K137,Kf139] noZ ⟨28,(lookA [(4,⟨[0,9],[0],1,[],[],[],[]⟩)]),noL,noL⟩ 128 Af193 cI Sf193 wf193 (fun x=>x.1.length+64)
def Af215:=(Row.cons cS Row.nil)
def Tf215 (s:List Nat):Tr Bool Empty noS cB.v:=(.i (((s.length:Nat):Int)==1) (.c ajm v7 ([75,87,72,73,88,78,89],s,()) fun r2=>(.r r2)) (.r false))
def Ef215 (s:List Nat):=(Tf215 s).d noE
def Sf215 (x:(List Nat)×Unit):=Ef215 x.1
def wf215:Wk ((List Nat)×Unit) Bool Empty cB.v:=wk0 fun x=>Tf215 x.1
def Kf215:=aY 129 Tryz.func129 [K181] noZ ⟨10,noL,noL,noL⟩ 128 Af215 cB Sf215 wf215 (fun _=>0)
def Af194:=(Row.cons cS Row.nil)
def Tf194 (s:List Nat):Tr Int Empty noS cI.v:=(.i (!decide (s=[])) (.c Af215 Sf215 (s,()) fun r2=>(.i (!r2) (.r 13) (.r 0))) (.r 0))
def Ef194 (s:List Nat):=(Tf194 s).d noE
def Sf194 (x:(List Nat)×Unit):=Ef194 x.1
def wf194:Wk ((List Nat)×Unit) Int Empty cI.v:=wk0 fun x=>Tf194 x.1
def Kf194:=aY 102 Tryz.func102 [Kf215] noZ ⟨10,noL,noL,noL⟩ 128 Af194 cI Sf194 wf194 (fun _=>0)
def axw:=(Row.cons cI (Row.cons cI (Row.cons cI Row.nil)))
def Tf136 (s:Int) (t:Int) (u:Int):Tr Bool Empty noS cB.v:=(.i (decide (t≤s)) (.r (decide (s≤u))) (.r false))
def Ef136 (s:Int) (t:Int) (u:Int):=(Tf136 s t u).d noE
def aq1 (x:Int×Int×Int×Unit):=Ef136 x.1 x.2.1 x.2.2.1
def wf136:Wk (Int×Int×Int×Unit) Bool Empty cB.v:=wk0 fun x=>Tf136 x.1 x.2.1 x.2.2.1
def awt:=aY 131 Tryz.func131 [] noZ ⟨15,noL,noL,noL⟩ 128 axw cB aq1 wf136 (fun _=>0)
def Af234:=(Row.cons cI Row.nil)
def Tf234 (s:Int):Tr Int Empty noS cI.v:=(.c axw aq1 (s,0,3,()) fun r2=>(.i (!r2) (.r 3) (.r 0)))
def Ef234 (s:Int):=(Tf234 s).d noE
def Sf234 (x:Int×Unit):=Ef234 x.1
def wf234:Wk (Int×Unit) Int Empty cI.v:=wk0 fun x=>Tf234 x.1
def Kf234:=aY 146 Tryz.func146 [awt] noZ ⟨6,noL,noL,noL⟩ 128 Af234 cI Sf234 wf234 (fun _=>0)
def Af235:=(Row.cons cI Row.nil)
def Tf235 (s:Int):Tr Int Empty noS cI.v:=(.c axw aq1 (s,1,4,()) fun r2=>(.i (!r2) (.r 3) (.r 0)))
def Ef235 (s:Int):=(Tf235 s).d noE
def Sf235 (x:Int×Unit):=Ef235 x.1
def wf235:Wk (Int×Unit) Int Empty cI.v:=wk0 fun x=>Tf235 x.1
def Kf235:=aY 147 Tryz.func147 [awt] noZ ⟨6,noL,noL,noL⟩ 128 Af235 cI Sf235 wf235 (fun _=>0)
def Af247:=(Row.cons cB (Row.cons cS Row.nil))
inductive axo where
 | k4_0
 | k4_1
 | k4_2
 | k4_3
 | k4_4
 | k4_5
 | k4_6
 | k4_7
 | k4_8
 | k4_9
 | k4_10
 | k4_11
 | k4_12
 | k4_13
 | k4_14
def uf247:axo→Nat
 | .k4_0=>4
 | .k4_1=>4
 | .k4_2=>4
 | .k4_3=>4
 | .k4_4=>4
 | .k4_5=>4
 | .k4_6=>4
 | .k4_7=>4
 | .k4_8=>4
 | .k4_9=>4
 | .k4_10=>4
 | .k4_11=>4
 | .k4_12=>4
 | .k4_13=>4
 | .k4_14=>4
noncomputable def azd (s:Bool) (t:List Nat):axo→D
 | .k4_0=>mD [(0,.bool s),(1,.str t),(4,.ptr 0 0),(8,.agg gW),(9,.int .i64 0)] 1 [(0,.row ⟨[.bool false,.str [],.int .i64 0,.int .i64 0],177,false⟩)] 128 []
 | .k4_1=>mD [(0,.bool s),(1,.str t),(4,.ptr 0 0),(8,.agg gW),(9,.int .i64 1)] 1 [(0,.row ⟨[.bool false,.str [],.int .i64 0,.int .i64 0],177,false⟩)] 128 []
 | .k4_2=>mD [(0,.bool s),(1,.str t),(4,.ptr 0 0),(8,.agg gW),(9,.int .i64 2)] 1 [(0,.row ⟨[.bool false,.str [],.int .i64 0,.int .i64 0],177,false⟩)] 128 []
 | .k4_3=>mD [(0,.bool s),(1,.str t),(4,.ptr 0 0),(8,.agg gW),(9,.int .i64 3)] 1 [(0,.row ⟨[.bool false,.str [],.int .i64 0,.int .i64 0],177,false⟩)] 128 []
 | .k4_4=>mD [(0,.bool s),(1,.str t),(4,.ptr 0 0),(8,.agg gW),(9,.int .i64 4)] 1 [(0,.row ⟨[.bool false,.str [],.int .i64 0,.int .i64 0],177,false⟩)] 128 []
 | .k4_5=>mD [(0,.bool s),(1,.str t),(4,.ptr 0 0),(8,.agg gW),(9,.int .i64 5)] 1 [(0,.row ⟨[.bool false,.str [],.int .i64 0,.int .i64 0],177,false⟩)] 128 []
 | .k4_6=>mD [(0,.bool s),(1,.str t),(4,.ptr 0 0),(8,.agg gW),(9,.int .i64 6)] 1 [(0,.row ⟨[.bool false,.str [],.int .i64 0,.int .i64 0],177,false⟩)] 128 []
 | .k4_7=>mD [(0,.bool s),(1,.str t),(4,.ptr 0 0),(8,.agg gW),(9,.int .i64 7)] 1 [(0,.row ⟨[.bool false,.str [],.int .i64 0,.int .i64 0],177,false⟩)] 128 []
 | .k4_8=>mD [(0,.bool s),(1,.str t),(4,.ptr 0 0),(8,.agg gW),(9,.int .i64 8)] 1 [(0,.row ⟨[.bool false,.str [],.int .i64 0,.int .i64 0],177,false⟩)] 128 []
 | .k4_9=>mD [(0,.bool s),(1,.str t),(4,.ptr 0 0),(8,.agg gW),(9,.int .i64 9)] 1 [(0,.row ⟨[.bool false,.str [],.int .i64 0,.int .i64 0],177,false⟩)] 128 []
 | .k4_10=>mD [(0,.bool s),(1,.str t),(4,.ptr 0 0),(8,.agg gW),(9,.int .i64 10)] 1 [(0,.row ⟨[.bool false,.str [],.int .i64 0,.int .i64 0],177,false⟩)] 128 []
 | .k4_11=>mD [(0,.bool s),(1,.str t),(4,.ptr 0 0),(8,.agg gW),(9,.int .i64 11)] 1 [(0,.row ⟨[.bool false,.str [],.int .i64 0,.int .i64 0],177,false⟩)] 128 []
 | .k4_12=>mD [(0,.bool s),(1,.str t),(4,.ptr 0 0),(8,.agg gW),(9,.int .i64 12)] 1 [(0,.row ⟨[.bool false,.str [],.int .i64 0,.int .i64 0],177,false⟩)] 128 []
 | .k4_13=>mD [(0,.bool s),(1,.str t),(4,.ptr 0 0),(8,.agg gW),(9,.int .i64 13)] 1 [(0,.row ⟨[.bool false,.str [],.int .i64 0,.int .i64 0],177,false⟩)] 128 []
 | .k4_14=>mD [(0,.bool s),(1,.str t),(4,.ptr 0 0),(8,.agg gW),(9,.int .i64 14)] 1 [(0,.row ⟨[.bool false,.str [],.int .i64 0,.int .i64 0],177,false⟩)] 128 []
noncomputable def aj7 (s:Bool) (t:List Nat):(l_:axo)→Tr ((Wy)×(Bool)×Unit) axo (azd s t) (Cod.tup (Row.cons (Cod.agg rWay) (Row.cons cB Row.nil))).v
 | .k4_0=>(.i (false==s) (.i (decide ([98]=t)) (.r ((⟨false,[98],3,3⟩:Wy),true,())) (.g .k4_1)) (.g .k4_1))
 | .k4_1=>(.i (false==s) (.i (decide ([97]=t)) (.r ((⟨false,[97],3,3⟩:Wy),true,())) (.g .k4_2)) (.g .k4_2))
 | .k4_2=>(.i (false==s) (.i (decide ([115]=t)) (.r ((⟨false,[115],0,3⟩:Wy),true,())) (.g .k4_3)) (.g .k4_3))
 | .k4_3=>(.i (false==s) (.i (decide ([112]=t)) (.r ((⟨false,[112],3,3⟩:Wy),true,())) (.g .k4_4)) (.g .k4_4))
 | .k4_4=>(.i (false==s) (.i (decide ([107]=t)) (.r ((⟨false,[107],0,3⟩:Wy),true,())) (.g .k4_5)) (.g .k4_5))
 | .k4_5=>(.i (false==s) (.i (decide ([116]=t)) (.r ((⟨false,[116],3,3⟩:Wy),true,())) (.g .k4_6)) (.g .k4_6))
 | .k4_6=>(.i (false==s) (.i (decide ([111]=t)) (.r ((⟨false,[111],3,3⟩:Wy),true,())) (.g .k4_7)) (.g .k4_7))
 | .k4_7=>(.i (true==s) (.i (decide ([102]=t)) (.r ((⟨true,[102],2,2⟩:Wy),true,())) (.g .k4_8)) (.g .k4_8))
 | .k4_8=>(.i (true==s) (.i (decide ([103]=t)) (.r ((⟨true,[103],3,4⟩:Wy),true,())) (.g .k4_9)) (.g .k4_9))
 | .k4_9=>(.i (true==s) (.i (decide ([99]=t)) (.r ((⟨true,[99],2,0⟩:Wy),true,())) (.g .k4_10)) (.g .k4_10))
 | .k4_10=>(.i (true==s) (.i (decide ([100]=t)) (.r ((⟨true,[100],0,1⟩:Wy),true,())) (.g .k4_11)) (.g .k4_11))
 | .k4_11=>(.i (true==s) (.i (decide ([107]=t)) (.r ((⟨true,[107],2,0⟩:Wy),true,())) (.g .k4_12)) (.g .k4_12))
 | .k4_12=>(.i (true==s) (.i (decide ([110]=t)) (.r ((⟨true,[110],2,3⟩:Wy),true,())) (.g .k4_13)) (.g .k4_13))
 | .k4_13=>(.i (true==s) (.i (decide ([121]=t)) (.r ((⟨true,[121],2,0⟩:Wy),true,())) (.g .k4_14)) (.g .k4_14))
 | .k4_14=>(.r ((⟨false,[],0,0⟩:Wy),false,()))
def Tf247 (s:Bool) (t:List Nat):Tr ((Wy)×(Bool)×Unit) axo (azd s t) (Cod.tup (Row.cons (Cod.agg rWay) (Row.cons cB Row.nil))).v:=(.g .k4_0)
def Ef247J (s:Bool) (t:List Nat):=Tr.lp (aj7 s t)
def Ef247 (n:Nat) (s:Bool) (t:List Nat):=(Tf247 s t).d (Ef247J s t n)
def Sf247 (x:Bool×(List Nat)×Unit):=Ef247 (x.2.1.length+64) x.1 x.2.1
def wf247:Wk (Bool×(List Nat)×Unit) ((Wy)×(Bool)×Unit) axo (Cod.tup (Row.cons (Cod.agg rWay) (Row.cons cB Row.nil))).v:=⟨fun x=>azd x.1 x.2.1,uf247,fun x=>Tf247 x.1 x.2.1,fun x=>aj7 x.1 x.2.1⟩
def Kf247:=aY 158 Tryz.func158 [] noZ ⟨25,(lookA [(2,⟨[0,1,4,8,9],[0],1,[],[],[],[]⟩)]),noL,noL⟩ 128 Af247 (Cod.tup (Row.cons (Cod.agg rWay) (Row.cons cB Row.nil))) Sf247 wf247 (fun x=>x.2.1.length+64)
def Af248:=(Row.cons cI (Row.cons cI (Row.cons cI Row.nil)))
def Tf248 (s:Int) (t:Int) (u:Int):Tr Bool Empty noS cB.v:=(.i (s==1) (.r (u==t)) (.i (s==2) (.r (u==(w6 (t+1)))) (.i (s==3) (.r (decide (t<u))) (.i (s==4) (.r (decide (t≤u))) (.r false)))))
def Ef248 (s:Int) (t:Int) (u:Int):=(Tf248 s t u).d noE
def awk (x:Int×Int×Int×Unit):=Ef248 x.1 x.2.1 x.2.2.1
def wf248:Wk (Int×Int×Int×Unit) Bool Empty cB.v:=wk0 fun x=>Tf248 x.1 x.2.1 x.2.2.1
def Kf248:=aY 159 Tryz.func159 [] noZ ⟨29,noL,noL,noL⟩ 128 Af248 cB awk wf248 (fun _=>0)
def Af236:=(Row.cons (Cod.agg rMv) Row.nil)
noncomputable def Tf236 (s:Mv):Tr Int Empty noS cI.v:=(.c Af247 Sf247 (s.o,s.h,()) fun r4=>(.i (!r4.2.1) (.r 13) (.i (s.f==0) (.c Af248 awk (r4.1.r,s.f,s.t,()) fun r5=>(.i (!r5) (.r 15) (.r 0))) (.c Af248 awk (r4.1.b,s.f,s.t,()) fun r6=>(.i (!r6) (.r 15) (.r 0))))))
def Ef236 (s:Mv):=(Tf236 s).d noE
def Sf236 (x:Mv×Unit):=Ef236 x.1
def wf236:Wk (Mv×Unit) Int Empty cI.v:=wk0 fun x=>Tf236 x.1
def Kf236:=aY 148 Tryz.func148 [Kf247,Kf248] noZ ⟨30,noL,noL,noL⟩ 128 Af236 cI Sf236 wf236 (fun _=>0)
def Af237:=(Row.cons (Cod.agg rMv) Row.nil)
inductive axp where
 | k8 (x2:Int)
def uf237:axp→Nat
 | .k8 _=>8
def aze (s:Mv):axp→D
 | .k8 x2=>mD [(1,.ptr 0 0),(20,(Cod.list 0 lK).v s.b),(21,.int .i64 ((s.b.length:Nat):Int)),(22,.int .i64 x2)] 1 [(0,.row ⟨(rMv.v s),38,false⟩)] 128 []
noncomputable def yR (s:Mv):(l_:axp)→Tr Int axp (aze s) cI.v
 | .k8 x2=>(.i (decide (x2<((s.b.length:Nat):Int))) (.i (inR x2 s.b.length) (.c axw aq1 ((s.b.getD x2.toNat 0),1,9,()) fun r4=>(.i (!r4) (.r 16) (.i (decide (0<x2)) (.i (inR (w6 (x2-1)) s.b.length) (.i ((s.b.getD x2.toNat 0)==(s.b.getD (w6 (x2-1)).toNat 0)) (.r 16) (.g (.k8 (w6 (x2+1))))) .n) (.g (.k8 (w6 (x2+1))))))) .n) (.r 0))
def Tf237 (s:Mv):Tr Int axp (aze s) cI.v:=(.i (decide (9<((s.b.length:Nat):Int))) (.r 16) (.i s.o (.i (((s.b.length:Nat):Int)==0) (.r 16) (.g (.k8 0))) (.g (.k8 0))))
def Ef237J (s:Mv):=Tr.lp (yR s)
def Ef237 (n:Nat) (s:Mv):=(Tf237 s).d (Ef237J s n)
def Sf237 (x:Mv×Unit):=Ef237 64 x.1
def wf237:Wk (Mv×Unit) Int axp cI.v:=⟨fun x=>aze x.1,uf237,fun x=>Tf237 x.1,fun x=>yR x.1⟩
def Kf237:=aY 149 Tryz.func149 [awt] noZ ⟨45,(lookA [(4,⟨[1,20,21,22],[0],1,[],[],[],[]⟩)]),noL,noL⟩ 128 Af237 cI Sf237 wf237 (fun x=>64)
def Af192:=(Row.cons (Cod.list 0 lK) Row.nil)
inductive axs where
 | k4 (x1:Int)
def uf192:axs→Nat
 | .k4 _=>4
def azi (s:List (Int)):axs→D
 | .k4 x1=>mD [(5,(Cod.list 0 lK).v s),(6,.int .i64 ((s.length:Nat):Int)),(7,.int .i64 x1)] 0 [] 128 []
def yT (s:List (Int)):(l_:axs)→Tr Int axs (azi s) cI.v
 | .k4 x1=>(.i (decide (x1<((s.length:Nat):Int))) (.i (inR x1 s.length) (.i (!((s.getD x1.toNat 0)==0)) (.r (s.getD x1.toNat 0)) (.g (.k4 (w6 (x1+1))))) .n) (.r 0))
def Tf192 (s:List (Int)):Tr Int axs (azi s) cI.v:=(.g (.k4 0))
def Ef192J (s:List (Int)):=Tr.lp (yT s)
def Ef192 (n:Nat) (s:List (Int)):=(Tf192 s).d (Ef192J s n)
def awm (x:(List (Int))×Unit):=Ef192 (x.1.length+64) x.1
def wf192:Wk ((List (Int))×Unit) Int axs cI.v:=⟨fun x=>azi x.1,uf192,fun x=>Tf192 x.1,fun x=>yT x.1⟩
def Kf192:=aY 100 Tryz.func100 [] noZ ⟨15,(lookA [(2,⟨[5,6,7],[],0,[],[],[],[]⟩)]),noL,noL⟩ 128 Af192 cI awm wf192 (fun x=>x.1.length+64)
def Af216:=(Row.cons (Cod.agg rMv) Row.nil)
noncomputable def Tf216 (s:Mv):Tr Int Empty noS cI.v:=(.c Af234 Sf234 (s.f,()) fun r6=>(.c Af235 Sf235 (s.t,()) fun r7=>(.c Af236 Sf236 (s,()) fun r8=>(.c Af237 Sf237 (s,()) fun r9=>(.c Af192 awm ([r6,r7,r8,r9],()) fun r10=>(.r r10))))))
def Ef216 (s:Mv):=(Tf216 s).d noE
def Sf216 (x:Mv×Unit):=Ef216 x.1
def wf216:Wk (Mv×Unit) Int Empty cI.v:=wk0 fun x=>Tf216 x.1
def Kf216:=aY 130 Tryz.func130 [Kf192,Kf234,Kf235,Kf236,Kf237] noZ ⟨15,noL,noL,noL⟩ 128 Af216 cI Sf216 wf216 (fun _=>0)
def Af195:=(Row.cons (Cod.list mv0 rMv) Row.nil)
inductive axq where
 | k8 (x2:Int)
def uf195:axq→Nat
 | .k8 _=>8
def azg (s:List (Mv)):axq→D
 | .k8 x2=>mD [(0,(Cod.list mv0 rMv).v s),(9,(Cod.list mv0 rMv).v s),(10,.int .i64 ((s.length:Nat):Int)),(11,.int .i64 x2)] 0 [] 128 []
noncomputable def yS (s:List (Mv)):(l_:axq)→Tr Int axq (azg s) cI.v
 | .k8 x2=>(.i (decide (x2<((s.length:Nat):Int))) (.i (inR x2 s.length) (.c Af216 Sf216 ((s.getD x2.toNat mv0),()) fun r4=>(.i (!(r4==0)) (.r r4) (.i (decide (0<x2)) (.i (inR (w6 (x2-1)) s.length) (.i (decide ((s.getD (w6 (x2-1)).toNat mv0).f≤(s.getD x2.toNat mv0).f)) (.r 11) (.g (.k8 (w6 (x2+1))))) .n) (.g (.k8 (w6 (x2+1))))))) .n) (.r 0))
def Tf195 (s:List (Mv)):Tr Int axq (azg s) cI.v:=(.i (decide (4<((s.length:Nat):Int))) (.r 5) (.g (.k8 0)))
def Ef195J (s:List (Mv)):=Tr.lp (yS s)
def Ef195 (n:Nat) (s:List (Mv)):=(Tf195 s).d (Ef195J s n)
def Sf195 (x:(List (Mv))×Unit):=Ef195 (x.1.length+64) x.1
def wf195:Wk ((List (Mv))×Unit) Int axq cI.v:=⟨fun x=>azg x.1,uf195,fun x=>Tf195 x.1,fun x=>yS x.1⟩
def Kf195:=aY 103 Tryz.func103 [Kf216] noZ ⟨35,(lookA [(4,⟨[0,9,10,11],[],0,[],[],[],[]⟩)]),noL,noL⟩ 128 Af195 cI Sf195 wf195 (fun x=>x.1.length+64)
def Af142:=(Row.cons (Cod.agg rPl) Row.nil)
def Tf142 (s:Pl):Tr Int Empty noS cI.v:=(.c Af193 Sf193 (s.p,()) fun r5=>(.c Af194 Sf194 (s.e,()) fun r6=>(.c Af195 Sf195 (s.m,()) fun r7=>(.c Af192 awm ([r5,r6,r7],()) fun r8=>(.r r8)))))
def Ef142 (s:Pl):=(Tf142 s).d noE
def Sf142 (x:Pl×Unit):=Ef142 x.1
def wf142:Wk (Pl×Unit) Int Empty cI.v:=wk0 fun x=>Tf142 x.1
def Kf142:=aY 57 Tryz.func57 [Kf192,Kf193,Kf194,Kf195] noZ ⟨14,noL,noL,noL⟩ 128 Af142 cI Sf142 wf142 (fun _=>0)
def Af83:=(Row.cons cS (Row.cons cU8 Row.nil))
inductive Lf83 where
 | k4 (x1:Int)
def uf83:Lf83→Nat
 | .k4 _=>4
def sLf83 (s:List Nat) (t:Int):Lf83→D
 | .k4 x1=>mD [(0,.str s),(1,.int .u8 t),(5,.int .i64 x1)] 0 [] 128 []
noncomputable def aw9 (s:List Nat) (t:Int):(l_:Lf83)→Tr Bool Lf83 (sLf83 s t) cB.v
 | .k4 x1=>(.i (decide (x1<((s.length:Nat):Int))) (.i (inR x1 s.length) (.i (((s.getD x1.toNat 0:Nat):Int)==t) (.r true) (.g (.k4 (w6 (x1+1))))) .n) (.r false))
def Tf83 (s:List Nat) (t:Int):Tr Bool Lf83 (sLf83 s t) cB.v:=(.g (.k4 0))
def Ef83J (s:List Nat) (t:Int):=Tr.lp (aw9 s t)
def Ef83 (n:Nat) (s:List Nat) (t:Int):=(Tf83 s t).d (Ef83J s t n)
def Sf83 (x:(List Nat)×Int×Unit):=Ef83 (x.1.length+64) x.1 x.2.1
def pF:=(Row.cons cI (Row.cons cI (Row.cons cI Row.nil)))
def Tf64 (s:Int) (t:Int) (u:Int):Tr Int Empty noS cI.v:=(.i (decide (s<t)) (.r 3) (.i (decide (u<s)) (.r 3) (.r 0)))
def Ef64 (s:Int) (t:Int) (u:Int):=(Tf64 s t u).d noE
def oO (x:Int×Int×Int×Unit):=Ef64 x.1 x.2.1 x.2.2.1
def wf64:Wk (Int×Int×Int×Unit) Int Empty cI.v:=wk0 fun x=>Tf64 x.1 x.2.1 x.2.2.1
def Kf64:=aY 10 Tryz.func10 [] noZ ⟨15,noL,noL,noL⟩ 128 pF cI oO wf64 (fun _=>0)
def Af65:=(Row.cons (Cod.list 0 lK) Row.nil)
inductive Lf65 where
 | k4 (x1:Int)
def uf65:Lf65→Nat
 | .k4 _=>4
def sLf65 (s:List (Int)):Lf65→D
 | .k4 x1=>mD [(0,(Cod.list 0 lK).v s),(3,.int .i64 x1)] 0 [] 128 []
noncomputable def akM (s:List (Int)):(l_:Lf65)→Tr Int Lf65 (sLf65 s) cI.v
 | .k4 x1=>(.i (decide (x1<((s.length:Nat):Int))) (.i (inR x1 s.length) (.i (!((s.getD x1.toNat 0)==0)) (.i (inR x1 s.length) (.r (s.getD x1.toNat 0)) .n) (.g (.k4 (w6 (x1+1))))) .n) (.r 0))
def Tf65 (s:List (Int)):Tr Int Lf65 (sLf65 s) cI.v:=(.g (.k4 0))
def Ef65J (s:List (Int)):=Tr.lp (akM s)
def Ef65 (n:Nat) (s:List (Int)):=(Tf65 s).d (Ef65J s n)
def Sf65 (x:(List (Int))×Unit):=Ef65 (x.1.length+64) x.1
def wf65:Wk ((List (Int))×Unit) Int Lf65 cI.v:=⟨fun x=>sLf65 x.1,uf65,fun x=>Tf65 x.1,fun x=>akM x.1⟩
def Kf65:=aY 11 Tryz.func11 [] noZ ⟨19,(lookA [(2,⟨[0,3],[],0,[],[],[],[]⟩)]),noL,noL⟩ 128 Af65 cI Sf65 wf65 (fun x=>x.1.length+64)
def Af172:=(Row.cons cS (Row.cons cB Row.nil))
noncomputable def Tf172 (s:List Nat) (t:Bool):Tr Bool Empty noS cB.v:=(.i (!(((s.length:Nat):Int)==1)) (.r false) (.i t (.i (inR 0 s.length) (.c Af83 Sf83 ([102,103,99,100,107,110,121],((s.getD 0 0:Nat):Int),()) fun r3=>(.r r3)) .n) (.i (inR 0 s.length) (.c Af83 Sf83 ([98,97,115,112,107,116,111],((s.getD 0 0:Nat):Int),()) fun r4=>(.r r4)) .n)))
def Ef172 (s:List Nat) (t:Bool):=(Tf172 s t).d noE
def Sf172 (x:(List Nat)×Bool×Unit):=Ef172 x.1 x.2.1
def Af173:=(Row.cons (Cod.agg rMv) Row.nil)
noncomputable def Tf173 (s:Mv):Tr Bool Empty noS cB.v:=(.i (!s.o) (.i (decide (s.f<s.t)) (.i (decide (0<s.f)) (.r true) (.i (inR 0 s.h.length) (.c Af83 Sf83 ([115,107],((s.h.getD 0 0:Nat):Int),()) fun r2=>(.r (!r2))) .n)) (.r false)) (.i (decide (s.h=[100])) (.i (decide (0<s.f)) (.r (s.t==s.f)) (.r false)) (.i (decide (s.h=[103])) (.r (decide (s.f≤s.t))) (.i (decide (s.h=[110])) (.i (decide (s.f<s.t)) (.i (decide (0<s.f)) (.r true) (.r (s.t==1))) (.r false)) (.i (decide (s.h=[102])) (.r (s.t==(w6 (s.f+1)))) (.i (s.f==0) (.r (s.t==1)) (.r false)))))))
def Ef173 (s:Mv):=(Tf173 s).d noE
def Sf173 (x:Mv×Unit):=Ef173 x.1
def Af174:=(Row.cons (Cod.agg rMv) Row.nil)
inductive akS where
 | k8 (x1:Int)
def uf174:akS→Nat
 | .k8 _=>8
def ayF (s:Mv):akS→D
 | .k8 x1=>mD [(1,.ptr 0 0),(3,.int .i64 x1)] 1 [(0,.row ⟨(rMv.v s),38,false⟩)] 128 []
noncomputable def aj9 (s:Mv):(l_:akS)→Tr Int akS (ayF s) cI.v
 | .k8 x1=>(.i (decide (x1<((s.b.length:Nat):Int))) (.i (inR x1 s.b.length) (.i (decide ((s.b.getD x1.toNat 0)<1)) (.r 16) (.i (inR x1 s.b.length) (.i (decide (9<(s.b.getD x1.toNat 0))) (.r 16) (.i (decide (0<x1)) (.i (inR x1 s.b.length) (.i (inR (w6 (x1-1)) s.b.length) (.i ((s.b.getD x1.toNat 0)==(s.b.getD (w6 (x1-1)).toNat 0)) (.r 16) (.g (.k8 (w6 (x1+1))))) .n) .n) (.g (.k8 (w6 (x1+1)))))) .n)) .n) (.r 0))
def Tf174 (s:Mv):Tr Int akS (ayF s) cI.v:=(.i (decide (9<((s.b.length:Nat):Int))) (.r 16) (.i s.o (.i (((s.b.length:Nat):Int)==0) (.r 16) (.g (.k8 0))) (.g (.k8 0))))
def Ef174J (s:Mv):=Tr.lp (aj9 s)
def Ef174 (n:Nat) (s:Mv):=(Tf174 s).d (Ef174J s n)
def Sf174 (x:Mv×Unit):=Ef174 64 x.1
noncomputable def Tf116 (s:Mv):Tr Int Empty noS cI.v:=(.c pF oO (s.f,0,3,()) fun r7=>(.c pF oO (s.t,1,4,()) fun r8=>(.c Af65 Sf65 ([r7,r8],()) fun r9=>(.i (!(r9==0)) (.r r9) (.c Af172 Sf172 (s.h,s.o,()) fun r10=>(.i (!r10) (.r 13) (.c Af173 Sf173 (s,()) fun r11=>(.i (!r11) (.r 15) (.c Af174 Sf174 (s,()) fun r12=>(.r r12))))))))))
def Ef116 (s:Mv):=(Tf116 s).d noE
def Sf116 (x:Mv×Unit):=Ef116 x.1
def Af66:=(Row.cons (Cod.agg rSt) Row.nil)
noncomputable def Tf66 (s:St):Tr Bool Empty noS cB.v:=(.i (!(s.outs==0)) (.r false) (.i (!(s.balls==0)) (.r false) (.i (!(s.strikes==0)) (.r false) (.i (!((s.b1==0)&&((s.b2==0)&&((s.b3==0)&&true)))) (.r false) (.i (decide (s.inn<9)) (.r false) (.i (decide (s.c0<s.c1)) (.r true) (.i (s.half==1) (.i (!(s.c0==s.c1)) (.r true) (.r (s.inn==30))) (.r false))))))))
def Ef66 (s:St):=(Tf66 s).d noE
def Sf66 (x:St×Unit):=Ef66 x.1
def wf66:Wk (St×Unit) Bool Empty cB.v:=wk0 fun x=>Tf66 x.1
def Kf66:=aY 12 Tryz.func12 [] noZ ⟨53,noL,noL,noL⟩ 128 Af66 cB Sf66 wf66 (fun _=>0)
def Af67:=(Row.cons (Cod.agg rSt) Row.nil)
def Tf67 (s:St):Tr Bool Empty noS cB.v:=(.i (decide (9≤s.inn)) (.i (s.half==1) (.r (decide (s.c0<s.c1))) (.r false)) (.r false))
def Ef67 (s:St):=(Tf67 s).d noE
def Sf67 (x:St×Unit):=Ef67 x.1
def wf67:Wk (St×Unit) Bool Empty cB.v:=wk0 fun x=>Tf67 x.1
def Kf67:=aY 13 Tryz.func13 [] noZ ⟨20,noL,noL,noL⟩ 128 Af67 cB Sf67 wf67 (fun _=>0)
def ayB:=(Row.cons cI Row.nil)
def Tf154 (s:Int):Tr Int Empty noS cI.v:=(.r (w6 ((s.tmod 9)+1)))
def Ef154 (s:Int):=(Tf154 s).d noE
def akR (x:Int×Unit):=Ef154 x.1
def wf154:Wk (Int×Unit) Int Empty cI.v:=wk0 fun x=>Tf154 x.1
def Kf154:=aY 69 Tryz.func69 [] noZ ⟨6,noL,noL,noL⟩ 128 ayB cI akR wf154 (fun _=>0)
def sT:=(Row.cons (Cod.agg rSt) (Row.cons cI Row.nil))
inductive aqb where
 | k4 (x2:Int) (x4:Int)
def uf117:aqb→Nat
 | .k4 _ _=>4
def azk (s:St) (t:Int):aqb→D
 | .k4 x2 x4=>mD [(2,.ptr 0 0),(5,.int .i64 x4),(6,.int .i64 x2)] 1 [(0,.row ⟨(rSt.v s),25,false⟩)] 128 []
noncomputable def rQ (s:St) (t:Int):(l_:aqb)→Tr Int aqb (azk s t) cI.v
 | .k4 x2 x4=>(.i (s.half==0) (.i (!(x2==s.n0)) (.c ayB akR (x2,()) fun r11=>(.g (.k4 r11 (w6 (x4+1))))) (.r x4)) (.i (s.half==1) (.i (!(x2==s.n1)) (.c ayB akR (x2,()) fun r10=>(.g (.k4 r10 (w6 (x4+1))))) (.r x4)) .n))
def Tf117 (s:St) (t:Int):Tr Int aqb (azk s t) cI.v:=(.c ayB akR (t,()) fun r9=>(.g (.k4 r9 0)))
def Ef117J (s:St) (t:Int):=Tr.lp (rQ s t)
def Ef117 (n:Nat) (s:St) (t:Int):=(Tf117 s t).d (Ef117J s t n)
def oP (x:St×Int×Unit):=Ef117 64 x.1 x.2.1
def wf117:Wk (St×Int×Unit) Int aqb cI.v:=⟨fun x=>azk x.1 x.2.1,uf117,fun x=>Tf117 x.1 x.2.1,fun x=>rQ x.1 x.2.1⟩
def Kf117:=aY 37 Tryz.func37 [Kf154] noZ ⟨21,(lookA [(2,⟨[2,5,6],[0],1,[],[],[],[]⟩)]),noL,noL⟩ 128 sT cI oP wf117 (fun x=>64)
def Af68:=(Row.cons (Cod.agg rSt) Row.nil)
inductive Lf68 where
 | k6 (x1:Int) (x3:Int) (x4:Int)
def uf68:Lf68→Nat
 | .k6 _ _ _=>6
def sLf68 (s:St):Lf68→D
 | .k6 x1 x3 x4=>mD [(1,.ptr 0 0),(3,.int .i64 x3),(4,.int .i64 x4),(5,.int .i64 x1)] 1 [(0,.row ⟨(rSt.v s),25,false⟩)] 128 []
noncomputable def mA (s:St):(l_:Lf68)→Tr Bool Lf68 (sLf68 s) cB.v
 | .k6 x1 x3 x4=>(.i (decide (x1<3)) (.i (x1==0) (.i (s.b1==0) (.g (.k6 (w6 (x1+1)) x3 x4)) (.i (x1==0) (.c sT oP (s,s.b1,()) fun r22=>(.i (decide (r22<x3)) (.r false) (.i (decide ((w6 (x3+s.outs))<r22)) (.r false) (.i (decide (r22≤x4)) (.r false) (.g (.k6 (w6 (x1+1)) (w6 (x3+1)) r22)))))) (.i (x1==1) (.c sT oP (s,s.b2,()) fun r21=>(.i (decide (r21<x3)) (.r false) (.i (decide ((w6 (x3+s.outs))<r21)) (.r false) (.i (decide (r21≤x4)) (.r false) (.g (.k6 (w6 (x1+1)) (w6 (x3+1)) r21)))))) (.i (x1==2) (.c sT oP (s,s.b3,()) fun r20=>(.i (decide (r20<x3)) (.r false) (.i (decide ((w6 (x3+s.outs))<r20)) (.r false) (.i (decide (r20≤x4)) (.r false) (.g (.k6 (w6 (x1+1)) (w6 (x3+1)) r20)))))) .n)))) (.i (x1==1) (.i (s.b2==0) (.g (.k6 (w6 (x1+1)) x3 x4)) (.i (x1==0) (.c sT oP (s,s.b1,()) fun r19=>(.i (decide (r19<x3)) (.r false) (.i (decide ((w6 (x3+s.outs))<r19)) (.r false) (.i (decide (r19≤x4)) (.r false) (.g (.k6 (w6 (x1+1)) (w6 (x3+1)) r19)))))) (.i (x1==1) (.c sT oP (s,s.b2,()) fun r18=>(.i (decide (r18<x3)) (.r false) (.i (decide ((w6 (x3+s.outs))<r18)) (.r false) (.i (decide (r18≤x4)) (.r false) (.g (.k6 (w6 (x1+1)) (w6 (x3+1)) r18)))))) (.i (x1==2) (.c sT oP (s,s.b3,()) fun r17=>(.i (decide (r17<x3)) (.r false) (.i (decide ((w6 (x3+s.outs))<r17)) (.r false) (.i (decide (r17≤x4)) (.r false) (.g (.k6 (w6 (x1+1)) (w6 (x3+1)) r17)))))) .n)))) (.i (x1==2) (.i (s.b3==0) (.g (.k6 (w6 (x1+1)) x3 x4)) (.i (x1==0) (.c sT oP (s,s.b1,()) fun r16=>(.i (decide (r16<x3)) (.r false) (.i (decide ((w6 (x3+s.outs))<r16)) (.r false) (.i (decide (r16≤x4)) (.r false) (.g (.k6 (w6 (x1+1)) (w6 (x3+1)) r16)))))) (.i (x1==1) (.c sT oP (s,s.b2,()) fun r15=>(.i (decide (r15<x3)) (.r false) (.i (decide ((w6 (x3+s.outs))<r15)) (.r false) (.i (decide (r15≤x4)) (.r false) (.g (.k6 (w6 (x1+1)) (w6 (x3+1)) r15)))))) (.i (x1==2) (.c sT oP (s,s.b3,()) fun r14=>(.i (decide (r14<x3)) (.r false) (.i (decide ((w6 (x3+s.outs))<r14)) (.r false) (.i (decide (r14≤x4)) (.r false) (.g (.k6 (w6 (x1+1)) (w6 (x3+1)) r14)))))) .n)))) .n))) (.r true))
def Tf68 (s:St):Tr Bool Lf68 (sLf68 s) cB.v:=(.g (.k6 0 0 (-1)))
def Ef68J (s:St):=Tr.lp (mA s)
def Ef68 (n:Nat) (s:St):=(Tf68 s).d (Ef68J s n)
def Sf68 (x:St×Unit):=Ef68 64 x.1
def wf68:Wk (St×Unit) Bool Lf68 cB.v:=⟨fun x=>sLf68 x.1,uf68,fun x=>Tf68 x.1,fun x=>mA x.1⟩
def Kf68:=aY 14 Tryz.func14 [Kf117] noZ ⟨41,(lookA [(3,⟨[1,3,4,5],[0],1,[],[],[],[]⟩)]),noL,noL⟩ 128 Af68 cB Sf68 wf68 (fun x=>64)
def Af17:=(Row.cons (Cod.agg rSt) Row.nil)
inductive Lf17 where
 | k29 (x12:Int) (x13:Int) (x14:Int) (x15:Int) (x16:Int) (x17:Int) (x18:Int) (x19:Int) (x20:Int) (x21:Int)
 | k33
def uf17:Lf17→Nat
 | .k29 _ _ _ _ _ _ _ _ _ _=>29
 | .k33=>33
noncomputable def sLf17 (s:St):Lf17→D
 | .k29 x12 x13 x14 x15 x16 x17 x18 x19 x20 x21=>mD [(1,.ptr 0 0),(3,.el [[.int .i64 x12],[.int .i64 x13],[.int .i64 x14],[.int .i64 x15],[.int .i64 x16],[.int .i64 x17],[.int .i64 x18],[.int .i64 x19],[.int .i64 x20],[.int .i64 x21]])] 1 [(0,.row ⟨(rSt.v s),25,false⟩)] 0 []
 | .k33=>mD [(1,.ptr 0 0)] 1 [(0,.row ⟨(rSt.v s),25,false⟩)] 0 []
noncomputable def awc (s:St):(l_:Lf17)→Tr Int Lf17 (sLf17 s) cI.v
 | .k29 x12 x13 x14 x15 x16 x17 x18 x19 x20 x21=>(.c Af65 Sf65 ([x12,x13,x14,x15,x16,x17,x18,x19,x20,x21],()) fun r82=>(.i (!(r82==0)) (.r 3) (.g .k33)))
 | .k33=>(.i s.over (.c Af66 Sf66 (s,()) fun r83=>(.i (!r83) (.r 19) (.i (!s.over) (.c Af67 Sf67 (s,()) fun r84=>(.i r84 (.r 19) (.c Af68 Sf68 (s,()) fun r85=>(.i (!r85) (.r 11) (.r 0))))) (.c Af68 Sf68 (s,()) fun r86=>(.i (!r86) (.r 11) (.r 0)))))) (.i (!s.over) (.c Af67 Sf67 (s,()) fun r87=>(.i r87 (.r 19) (.c Af68 Sf68 (s,()) fun r88=>(.i (!r88) (.r 11) (.r 0))))) (.c Af68 Sf68 (s,()) fun r89=>(.i (!r89) (.r 11) (.r 0)))))
noncomputable def Tf17 (s:St):Tr Int Lf17 (sLf17 s) cI.v:=(.c pF oO (s.inn,1,30,()) fun r61=>(.i (!(r61==0)) (.r 3) (.i (!(s.half==0)) (.i (!(s.half==1)) (.r 17) (.c pF oO (s.outs,0,2,()) fun r62=>(.c pF oO (s.balls,0,3,()) fun r63=>(.c pF oO (s.strikes,0,2,()) fun r64=>(.c pF oO (s.b1,0,9,()) fun r65=>(.c pF oO (s.b2,0,9,()) fun r66=>(.c pF oO (s.b3,0,9,()) fun r67=>(.c pF oO (s.n0,1,9,()) fun r68=>(.c pF oO (s.c0,0,9999,()) fun r69=>(.c pF oO (s.n1,1,9,()) fun r70=>(.c pF oO (s.c1,0,9999,()) fun r71=>(.g (.k29 r62 r63 r64 r65 r66 r67 r68 r69 r70 r71))))))))))))) (.c pF oO (s.outs,0,2,()) fun r72=>(.c pF oO (s.balls,0,3,()) fun r73=>(.c pF oO (s.strikes,0,2,()) fun r74=>(.c pF oO (s.b1,0,9,()) fun r75=>(.c pF oO (s.b2,0,9,()) fun r76=>(.c pF oO (s.b3,0,9,()) fun r77=>(.c pF oO (s.n0,1,9,()) fun r78=>(.c pF oO (s.c0,0,9999,()) fun r79=>(.c pF oO (s.n1,1,9,()) fun r80=>(.c pF oO (s.c1,0,9999,()) fun r81=>(.g (.k29 r72 r73 r74 r75 r76 r77 r78 r79 r80 r81)))))))))))))))
def Ef17J (s:St):=Tr.lp (awc s)
def Ef17 (n:Nat) (s:St):=(Tf17 s).d (Ef17J s n)
def Sf17 (x:St×Unit):=Ef17 64 x.1
def wf17:Wk (St×Unit) Int Lf17 cI.v:=⟨fun x=>sLf17 x.1,uf17,fun x=>Tf17 x.1,fun x=>awc x.1⟩
def Kf17:=aY 4 Tryz.func4 [Kf64,Kf65,Kf66,Kf67,Kf68] noZ ⟨79,noL,(lookA [(14,⟨[1,3],[0],1,[],[],[(11,1)],[]⟩),(16,⟨[1],[0],1,[],[],[],[]⟩)]),noL⟩ 0 Af17 cI Sf17 wf17 (fun x=>64)
def iI:=(Row.cons cI (Row.cons cI (Row.cons cI Row.nil)))
def Tf118 (s:Int) (t:Int) (u:Int):Tr Bool Empty noS cB.v:=(.i (decide (t≤s)) (.r (decide (s≤u))) (.r false))
def Ef118 (s:Int) (t:Int) (u:Int):=(Tf118 s t u).d noE
def hZ (x:Int×Int×Int×Unit):=Ef118 x.1 x.2.1 x.2.2.1
def wf118:Wk (Int×Int×Int×Unit) Bool Empty cB.v:=wk0 fun x=>Tf118 x.1 x.2.1 x.2.2.1
def awu:=aY 79 Tryz.func79 [] noZ ⟨15,noL,noL,noL⟩ 128 iI cB hZ wf118 (fun _=>0)
def Af69:=(Row.cons (Cod.agg rSt) Row.nil)
def Tf69 (s:St):Tr Int Empty noS cI.v:=(.c iI hZ (s.inn,1,30,()) fun r2=>(.i (!r2) (.r 3) (.r 0)))
def Ef69 (s:St):=(Tf69 s).d noE
def Sf69 (x:St×Unit):=Ef69 x.1
def wf69:Wk (St×Unit) Int Empty cI.v:=wk0 fun x=>Tf69 x.1
def Kf69:=aY 42 Tryz.func42 [awu] noZ ⟨7,noL,noL,noL⟩ 128 Af69 cI Sf69 wf69 (fun _=>0)
def Af62:=(Row.cons (Cod.agg rSt) Row.nil)
def Tf62 (s:St):Tr Int Empty noS cI.v:=(.i (s.half==0) (.r s.n0) (.i (s.half==1) (.r s.n1) .n))
def Ef62 (s:St):=(Tf62 s).d noE
def Sf62 (x:St×Unit):=Ef62 x.1
def wf62:Wk (St×Unit) Int Empty cI.v:=wk0 fun x=>Tf62 x.1
def Kf62:=aY 62 Tryz.func62 [] noZ ⟨8,noL,noL,noL⟩ 128 Af62 cI Sf62 wf62 (fun _=>0)
def Af146:=(Row.cons cI Row.nil)
def Tf146 (s:Int):Tr Int Empty noS cI.v:=(.r (w6 ((s.tmod 9)+1)))
def Ef146 (s:Int):=(Tf146 s).d noE
def Sf146 (x:Int×Unit):=Ef146 x.1
def wf146:Wk (Int×Unit) Int Empty cI.v:=wk0 fun x=>Tf146 x.1
def Kf146:=aY 61 Tryz.func61 [] noZ ⟨6,noL,noL,noL⟩ 128 Af146 cI Sf146 wf146 (fun _=>0)
def ayC:=(Row.cons cI (Row.cons cI Row.nil))
inductive axt where
 | k6 (x2:Int) (x3:Int)
def uf121:axt→Nat
 | .k6 _ _=>6
def azj (s:Int) (t:Int):axt→D
 | .k6 x2 x3=>mD [(1,.int .i64 t),(5,.int .i64 x2),(8,.int .i64 x3)] 0 [] 128 []
def yU (s:Int) (t:Int):(l_:axt)→Tr Int axt (azj s t) cI.v
 | .k6 x2 x3=>(.i (decide (x3<9)) (.c Af146 Sf146 (x2,()) fun r5=>(.i (r5==t) (.r x3) (.g (.k6 r5 (w6 (x3+1)))))) (.r 9))
def Tf121 (s:Int) (t:Int):Tr Int axt (azj s t) cI.v:=(.g (.k6 s 0))
def Ef121J (s:Int) (t:Int):=Tr.lp (yU s t)
def Ef121 (n:Nat) (s:Int) (t:Int):=(Tf121 s t).d (Ef121J s t n)
def axk (x:Int×Int×Unit):=Ef121 64 x.1 x.2.1
def wf121:Wk (Int×Int×Unit) Int axt cI.v:=⟨fun x=>azj x.1 x.2.1,uf121,fun x=>Tf121 x.1 x.2.1,fun x=>yU x.1 x.2.1⟩
def Kf121:=aY 81 Tryz.func81 [Kf146] noZ ⟨18,(lookA [(3,⟨[1,5,8],[],0,[],[],[],[]⟩)]),noL,noL⟩ 128 ayC cI axk wf121 (fun x=>64)
def Af73:=(Row.cons (Cod.agg rSt) Row.nil)
inductive Lf73 where
 | k6 (x1:Int) (x5:Int) (x6:Int)
def uf73:Lf73→Nat
 | .k6 _ _ _=>6
def sLf73 (s:St):Lf73→D
 | .k6 x1 x5 x6=>mD [(1,.ptr 0 0),(3,.int .i64 x5),(4,.int .i64 x6),(9,.agg [.int .i64 s.b1,.int .i64 s.b2,.int .i64 s.b3]),(10,.int .i64 x1)] 1 [(0,.row ⟨(rSt.v s),28,false⟩)] 128 []
noncomputable def l9 (s:St):(l_:Lf73)→Tr Int Lf73 (sLf73 s) cI.v
 | .k6 x1 x5 x6=>(.i (decide (x1<3)) (.i (x1==0) (.i (s.b1==0) (.g (.k6 (w6 (x1+1)) x5 x6)) (.c Af62 Sf62 (s,()) fun r22=>(.c ayC axk (s.b1,r22,()) fun r23=>(.c iI hZ (r23,x5,(w6 (x5+s.outs)),()) fun r24=>(.i (!r24) (.r 11) (.i (decide (r23≤x6)) (.r 11) (.g (.k6 (w6 (x1+1)) (w6 (x5+1)) r23)))))))) (.i (x1==1) (.i (s.b2==0) (.g (.k6 (w6 (x1+1)) x5 x6)) (.c Af62 Sf62 (s,()) fun r19=>(.c ayC axk (s.b2,r19,()) fun r20=>(.c iI hZ (r20,x5,(w6 (x5+s.outs)),()) fun r21=>(.i (!r21) (.r 11) (.i (decide (r20≤x6)) (.r 11) (.g (.k6 (w6 (x1+1)) (w6 (x5+1)) r20)))))))) (.i (x1==2) (.i (s.b3==0) (.g (.k6 (w6 (x1+1)) x5 x6)) (.c Af62 Sf62 (s,()) fun r16=>(.c ayC axk (s.b3,r16,()) fun r17=>(.c iI hZ (r17,x5,(w6 (x5+s.outs)),()) fun r18=>(.i (!r18) (.r 11) (.i (decide (r17≤x6)) (.r 11) (.g (.k6 (w6 (x1+1)) (w6 (x5+1)) r17)))))))) .n))) (.r 0))
def Tf73 (s:St):Tr Int Lf73 (sLf73 s) cI.v:=(.g (.k6 0 0 (-1)))
def Ef73J (s:St):=Tr.lp (l9 s)
def Ef73 (n:Nat) (s:St):=(Tf73 s).d (Ef73J s n)
def Sf73 (x:St×Unit):=Ef73 64 x.1
def wf73:Wk (St×Unit) Int Lf73 cI.v:=⟨fun x=>sLf73 x.1,uf73,fun x=>Tf73 x.1,fun x=>l9 x.1⟩
def Kf73:=aY 46 Tryz.func46 [Kf62,awu,Kf121] noZ ⟨36,(lookA [(3,⟨[1,3,4,9,10],[0],1,[],[],[],[]⟩)]),noL,noL⟩ 128 Af73 cI Sf73 wf73 (fun x=>64)
def Af175:=(Row.cons (Cod.agg rSt) Row.nil)
def Tf175 (s:St):Tr St Empty noS (Cod.agg rSt).v:=(.r (⟨s.inn,s.half,0,0,0,0,0,0,s.n0,s.n1,s.c0,s.c1,s.over⟩:St))
def Ef175 (s:St):=(Tf175 s).d noE
def Sf175 (x:St×Unit):=Ef175 x.1
def wf175:Wk (St×Unit) St Empty (Cod.agg rSt).v:=wk0 fun x=>Tf175 x.1
def Kf175:=aY 108 Tryz.func108 [] noZ ⟨9,noL,noL,noL⟩ 128 Af175 (Cod.agg rSt) Sf175 wf175 (fun _=>0)
def Af177:=(Row.cons (Cod.agg rSt) Row.nil)
def Tf177 (s:St):Tr Bool Empty noS cB.v:=(.r (decide (s.c0<s.c1)))
def Ef177 (s:St):=(Tf177 s).d noE
def awo (x:St×Unit):=Ef177 x.1
def wf177:Wk (St×Unit) Bool Empty cB.v:=wk0 fun x=>Tf177 x.1
def Kf177:=aY 107 Tryz.func107 [] noZ ⟨10,noL,noL,noL⟩ 128 Af177 cB awo wf177 (fun _=>0)
def Af176:=(Row.cons (Cod.agg rSt) Row.nil)
def Tf176 (s:St):Tr Bool Empty noS cB.v:=(.i (decide (s.inn<9)) (.r false) (.c Af177 awo (s,()) fun r2=>(.i r2 (.r true) (.i (s.half==1) (.i (!(s.c0==s.c1)) (.r true) (.r (s.inn==30))) (.r false)))))
def Ef176 (s:St):=(Tf176 s).d noE
def Sf176 (x:St×Unit):=Ef176 x.1
def wf176:Wk (St×Unit) Bool Empty cB.v:=wk0 fun x=>Tf176 x.1
def Kf176:=aY 109 Tryz.func109 [Kf177] noZ ⟨27,noL,noL,noL⟩ 128 Af176 cB Sf176 wf176 (fun _=>0)
def Af119:=(Row.cons (Cod.agg rSt) Row.nil)
noncomputable def Tf119 (s:St):Tr Bool Empty noS cB.v:=(.c Af175 Sf175 (s,()) fun r3=>(.i ((s.inn==r3.inn)&&((s.half==r3.half)&&((s.outs==r3.outs)&&((s.balls==r3.balls)&&((s.strikes==r3.strikes)&&((s.b1==r3.b1)&&((s.b2==r3.b2)&&((s.b3==r3.b3)&&((s.n0==r3.n0)&&((s.n1==r3.n1)&&((s.c0==r3.c0)&&((s.c1==r3.c1)&&((s.over==r3.over)&&true))))))))))))) (.c Af176 Sf176 (s,()) fun r4=>(.r r4)) (.r false)))
def Ef119 (s:St):=(Tf119 s).d noE
def Sf119 (x:St×Unit):=Ef119 x.1
def wf119:Wk (St×Unit) Bool Empty cB.v:=wk0 fun x=>Tf119 x.1
def Kf119:=aY 80 Tryz.func80 [Kf175,Kf176] noZ ⟨11,noL,noL,noL⟩ 128 Af119 cB Sf119 wf119 (fun _=>0)
def Af120:=(Row.cons (Cod.agg rSt) Row.nil)
def Tf120 (s:St):Tr Bool Empty noS cB.v:=(.i (decide (9≤s.inn)) (.i (s.half==1) (.c Af177 awo (s,()) fun r2=>(.r r2)) (.r false)) (.r false))
def Ef120 (s:St):=(Tf120 s).d noE
def awq (x:St×Unit):=Ef120 x.1
def wf120:Wk (St×Unit) Bool Empty cB.v:=wk0 fun x=>Tf120 x.1
def Kf120:=aY 64 Tryz.func64 [Kf177] noZ ⟨15,noL,noL,noL⟩ 128 Af120 cB awq wf120 (fun _=>0)
def Af72:=(Row.cons (Cod.agg rSt) Row.nil)
noncomputable def Tf72 (s:St):Tr Int Empty noS cI.v:=(.i s.over (.c Af119 Sf119 (s,()) fun r4=>(.i (!r4) (.r 19) (.i (!s.over) (.c Af120 awq (s,()) fun r5=>(.i r5 (.r 19) (.r 0))) (.r 0)))) (.i (!s.over) (.c Af120 awq (s,()) fun r6=>(.i r6 (.r 19) (.r 0))) (.r 0)))
def Ef72 (s:St):=(Tf72 s).d noE
def Sf72 (x:St×Unit):=Ef72 x.1
def wf72:Wk (St×Unit) Int Empty cI.v:=wk0 fun x=>Tf72 x.1
def Kf72:=aY 45 Tryz.func45 [Kf119,Kf120] noZ ⟨19,noL,noL,noL⟩ 128 Af72 cI Sf72 wf72 (fun _=>0)
def Af71:=(Row.cons (Cod.agg rSt) Row.nil)
inductive Lf71 where
 | k6 (x4:Bool) (x6:Int)
 | k16 (x10:Bool) (x13:Int)
def uf71:Lf71→Nat
 | .k6 _ _=>6
 | .k16 _ _=>16
noncomputable def sLf71 (s:St):Lf71→D
 | .k6 x4 x6=>mD [(1,.ptr 0 0),(3,.bool x4),(21,.agg [.int .i64 s.b1,.int .i64 s.b2,.int .i64 s.b3]),(22,.int .i64 x6)] 1 [(0,.row ⟨(rSt.v s),28,false⟩)] 128 []
 | .k16 x10 x13=>mD [(1,.ptr 0 0),(3,.bool x10),(31,.int .i64 x13)] 1 [(0,.row ⟨(rSt.v s),28,false⟩)] 128 []
noncomputable def awb (s:St):(l_:Lf71)→Tr Int Lf71 (sLf71 s) cI.v
 | .k6 x4 x6=>(.i (decide (x6<3)) (.i (x6==0) (.i x4 (.c iI hZ (s.b1,0,9,()) fun r28=>(.g (.k6 r28 (w6 (x6+1))))) (.g (.k6 false (w6 (x6+1))))) (.i (x6==1) (.i x4 (.c iI hZ (s.b2,0,9,()) fun r27=>(.g (.k6 r27 (w6 (x6+1))))) (.g (.k6 false (w6 (x6+1))))) (.i (x6==2) (.i x4 (.c iI hZ (s.b3,0,9,()) fun r26=>(.g (.k6 r26 (w6 (x6+1))))) (.g (.k6 false (w6 (x6+1))))) .n))) (.g (.k16 x4 0)))
 | .k16 x10 x13=>(.i (decide (x13<2)) (.i x10 (.i (x13==0) (.c iI hZ (s.n0,1,9,()) fun r32=>(.i r32 (.i (x13==0) (.c iI hZ (s.c0,0,9999,()) fun r34=>(.g (.k16 r34 (w6 (x13+1))))) (.i (x13==1) (.c iI hZ (s.c1,0,9999,()) fun r33=>(.g (.k16 r33 (w6 (x13+1))))) .n)) (.g (.k16 false (w6 (x13+1)))))) (.i (x13==1) (.c iI hZ (s.n1,1,9,()) fun r29=>(.i r29 (.i (x13==0) (.c iI hZ (s.c0,0,9999,()) fun r31=>(.g (.k16 r31 (w6 (x13+1))))) (.i (x13==1) (.c iI hZ (s.c1,0,9999,()) fun r30=>(.g (.k16 r30 (w6 (x13+1))))) .n)) (.g (.k16 false (w6 (x13+1)))))) .n)) (.g (.k16 false (w6 (x13+1))))) (.i (!x10) (.r 3) (.r 0)))
noncomputable def Tf71 (s:St):Tr Int Lf71 (sLf71 s) cI.v:=(.c iI hZ (s.outs,0,2,()) fun r23=>(.i r23 (.c iI hZ (s.balls,0,3,()) fun r24=>(.i r24 (.c iI hZ (s.strikes,0,2,()) fun r25=>(.g (.k6 r25 0))) (.g (.k6 false 0)))) (.g (.k6 false 0))))
def Ef71J (s:St):=Tr.lp (awb s)
def Ef71 (n:Nat) (s:St):=(Tf71 s).d (Ef71J s n)
def Sf71 (x:St×Unit):=Ef71 64 x.1
def wf71:Wk (St×Unit) Int Lf71 cI.v:=⟨fun x=>sLf71 x.1,uf71,fun x=>Tf71 x.1,fun x=>awb x.1⟩
def Kf71:=aY 44 Tryz.func44 [awu] noZ ⟨52,(lookA [(3,⟨[1,3,21,22],[0],1,[],[],[],[]⟩),(8,⟨[1,3,31],[0],1,[],[],[],[]⟩)]),noL,noL⟩ 128 Af71 cI Sf71 wf71 (fun x=>64)
def Af70:=(Row.cons (Cod.agg rSt) Row.nil)
def Tf70 (s:St):Tr Int Empty noS cI.v:=(.c iI hZ (s.half,0,1,()) fun r2=>(.i (!r2) (.r 17) (.r 0)))
def Ef70 (s:St):=(Tf70 s).d noE
def Sf70 (x:St×Unit):=Ef70 x.1
def wf70:Wk (St×Unit) Int Empty cI.v:=wk0 fun x=>Tf70 x.1
def Kf70:=aY 43 Tryz.func43 [awu] noZ ⟨7,noL,noL,noL⟩ 128 Af70 cI Sf70 wf70 (fun _=>0)
noncomputable def eF:=(Row.cons (Cod.agg rSt) (Row.cons (Cod.lit (Els.cons (Row.cons (Cod.fn0 42) Row.nil) (Els.cons (Row.cons (Cod.fn0 43) Row.nil) (Els.cons (Row.cons (Cod.fn0 44) Row.nil) (Els.cons (Row.cons (Cod.fn0 45) Row.nil) (Els.cons (Row.cons (Cod.fn0 46) Row.nil) Els.nil)))))) Row.nil))
inductive aX where
 | k4 (x2:Int)
def j7:aX→Nat
 | .k4 _=>4
noncomputable def bX (s:St) (t:((Unit)×Unit)×((Unit)×Unit)×((Unit)×Unit)×((Unit)×Unit)×((Unit)×Unit)×Unit):aX→D
 | .k4 x2=>mD [(2,.ptr 0 0),(8,.el [[.raw (.func 42 [])],[.raw (.func 43 [])],[.raw (.func 44 [])],[.raw (.func 45 [])],[.raw (.func 46 [])]]),(9,.int .i64 5),(10,.int .i64 x2)] 1 [(0,.row ⟨(rSt.v s),28,false⟩)] 128 []
noncomputable def aM (s:St) (t:((Unit)×Unit)×((Unit)×Unit)×((Unit)×Unit)×((Unit)×Unit)×((Unit)×Unit)×Unit):(l_:aX)→Tr Int aX (bX s t) cI.v
 | .k4 x2=>(.i (decide (x2<5)) (.i (x2==0) (.c Af69 Sf69 (s,()) fun r12=>(.i (!(r12==0)) (.r r12) (.g (.k4 (w6 (x2+1)))))) (.i (x2==1) (.c Af70 Sf70 (s,()) fun r11=>(.i (!(r11==0)) (.r r11) (.g (.k4 (w6 (x2+1)))))) (.i (x2==2) (.c Af71 Sf71 (s,()) fun r10=>(.i (!(r10==0)) (.r r10) (.g (.k4 (w6 (x2+1)))))) (.i (x2==3) (.c Af72 Sf72 (s,()) fun r9=>(.i (!(r9==0)) (.r r9) (.g (.k4 (w6 (x2+1)))))) (.i (x2==4) (.c Af73 Sf73 (s,()) fun r8=>(.i (!(r8==0)) (.r r8) (.g (.k4 (w6 (x2+1)))))) .n))))) (.r 0))
def cA (s:St) (t:((Unit)×Unit)×((Unit)×Unit)×((Unit)×Unit)×((Unit)×Unit)×((Unit)×Unit)×Unit):Tr Int aX (bX s t) cI.v:=(.g (.k4 0))
def jF (s:St) (t:((Unit)×Unit)×((Unit)×Unit)×((Unit)×Unit)×((Unit)×Unit)×((Unit)×Unit)×Unit):=Tr.lp (aM s t)
def cD (n:Nat) (s:St) (t:((Unit)×Unit)×((Unit)×Unit)×((Unit)×Unit)×((Unit)×Unit)×((Unit)×Unit)×Unit):=(cA s t).d (jF s t n)
def cC (x:St×(((Unit)×Unit)×((Unit)×Unit)×((Unit)×Unit)×((Unit)×Unit)×((Unit)×Unit)×Unit)×Unit):=cD 64 x.1 x.2.1
def j6:Wk (St×(((Unit)×Unit)×((Unit)×Unit)×((Unit)×Unit)×((Unit)×Unit)×((Unit)×Unit)×Unit)×Unit) Int aX cI.v:=⟨fun x=>bX x.1 x.2.1,j7,fun x=>cA x.1 x.2.1,fun x=>aM x.1 x.2.1⟩
def kB:=aY 27 Tryz.func27 [Kf69,Kf70,Kf71,Kf72,Kf73] noZ ⟨21,(lookA [(2,⟨[2,8,9,10],[0],1,[],[],[],[]⟩)]),noL,noL⟩ 128 eF cI cC j6 (fun x=>64)
def Af18:=(Row.cons (Cod.agg rSt) Row.nil)
def Tf18 (s:St):Tr Int Empty noS cI.v:=(.c eF cC (s,(((),()),((),()),((),()),((),()),((),()),()),()) fun r2=>(.r r2))
def Ef18 (s:St):=(Tf18 s).d noE
def Sf18 (x:St×Unit):=Ef18 x.1
def wf18:Wk (St×Unit) Int Empty cI.v:=wk0 fun x=>Tf18 x.1
def Kf18:=aY 19 Tryz.func19 [kB] noZ ⟨6,noL,noL,noL⟩ 128 Af18 cI Sf18 wf18 (fun _=>0)
def Af138:=(Row.cons (Cod.agg (Row.cons cI (Row.cons cI Row.nil))) (Row.cons (ax2 .i32) Row.nil))
noncomputable def Tf138 (s:(Int)×(Int)×Unit) (t:Int):Tr ((Int)×(Int)×Unit) Empty noS (Cod.agg (Row.cons cI (Row.cons cI Row.nil))).v:=(.i (t==66) (.r ((w6 (s.1+1)),s.2.1,())) (.i (t==67) (.r (s.1,(w6 (s.2.1+1)),())) (.i (t==83) (.r (s.1,(w6 (s.2.1+1)),())) (.i (t==70) (.i (decide (s.2.1<2)) (.r (s.1,(w6 (s.2.1+1)),())) (.r (s.1,s.2.1,()))) (.r (s.1,s.2.1,()))))))
def Ef138 (s:(Int)×(Int)×Unit) (t:Int):=(Tf138 s t).d noE
def Sf138 (x:((Int)×(Int)×Unit)×Int×Unit):=Ef138 x.1 x.2.1
def wf138:Wk (((Int)×(Int)×Unit)×Int×Unit) ((Int)×(Int)×Unit) Empty (Cod.agg (Row.cons cI (Row.cons cI Row.nil))).v:=wk0 fun x=>Tf138 x.1 x.2.1
def Kf138:=aY 132 Tryz.func132 [] noZ ⟨29,noL,noL,noL⟩ 128 Af138 (Cod.agg (Row.cons cI (Row.cons cI Row.nil))) Sf138 wf138 (fun _=>0)
def Af81:=(Row.cons cI (Row.cons cI (Row.cons cS Row.nil)))
inductive Lf81 where
 | k14 (x5:Bool) (x6:Int) (x7:Int) (x8:Nat)
def uf81:Lf81→Nat
 | .k14 _ _ _ _=>14
noncomputable def sLf81 (s:Int) (t:Int) (u:List Nat):Lf81→D
 | .k14 x5 x6 x7 x8=>mD [(6,.ptr 0 0),(9,.ptr 1 0),(10,.bool x5),(30,.ptr 2 0)] 3 [(0,.row ⟨[.int .i64 0,.int .i64 0],23,false⟩),(1,.row ⟨[.int .i64 x6,.int .i64 x7],23,false⟩),(2,.iter u x8)] 128 []
noncomputable def awa (s:Int) (t:Int) (u:List Nat):(l_:Lf81)→Tr (((Int)×(Int)×Unit)×(Int)×(Int)×Unit) Lf81 (sLf81 s t u) (Cod.tup (Row.cons (Cod.agg (Row.cons cI (Row.cons cI Row.nil))) (Row.cons cI (Row.cons cI Row.nil)))).v
 | .k14 x5 x6 x7 x8=>(.i (Nat.blt x8 u.length) (.i x5 (.r ((0,0,()),((x8:Nat):Int),14,())) (.c A137 S137 ((((gB u x8).1:Nat):Int),()) fun r17=>(.i (!r17) (.r ((0,0,()),((x8:Nat):Int),14,())) (.c Af138 Sf138 ((x6,x7,()),(((gB u x8).1:Nat):Int),()) fun r18=>(.i (r18.1==4) (.g (.k14 true r18.1 r18.2.1 (x8+(gB u x8).2))) (.i (r18.2.1==3) (.g (.k14 true r18.1 r18.2.1 (x8+(gB u x8).2))) (.c Af139 awp ((((gB u x8).1:Nat):Int),()) fun r19=>(.g (.k14 r19 r18.1 r18.2.1 (x8+(gB u x8).2)))))))))) (.r ((x6,x7,()),0,0,())))
noncomputable def Tf81 (s:Int) (t:Int) (u:List Nat):Tr (((Int)×(Int)×Unit)×(Int)×(Int)×Unit) Lf81 (sLf81 s t u) (Cod.tup (Row.cons (Cod.agg (Row.cons cI (Row.cons cI Row.nil))) (Row.cons cI (Row.cons cI Row.nil)))).v:=(.c axw aq1 (s,0,3,()) fun r15=>(.i (!r15) (.r ((0,0,()),0,3,())) (.c axw aq1 (t,0,2,()) fun r16=>(.i (!r16) (.r ((0,0,()),0,3,())) (.i (decide (24<((u.length:Nat):Int))) (.r ((0,0,()),0,5,())) (.g (.k14 false s t 0)))))))
def Ef81J (s:Int) (t:Int) (u:List Nat):=Tr.lp (awa s t u)
def Ef81 (n:Nat) (s:Int) (t:Int) (u:List Nat):=(Tf81 s t u).d (Ef81J s t u n)
def Sf81 (x:Int×Int×(List Nat)×Unit):=Ef81 (x.2.2.1.length+64) x.1 x.2.1 x.2.2.1
noncomputable def wf81:Wk (Int×Int×(List Nat)×Unit) (((Int)×(Int)×Unit)×(Int)×(Int)×Unit) Lf81 (Cod.tup (Row.cons (Cod.agg (Row.cons cI (Row.cons cI Row.nil))) (Row.cons cI (Row.cons cI Row.nil)))).v:=⟨fun x=>sLf81 x.1 x.2.1 x.2.2.1,uf81,fun x=>Tf81 x.1 x.2.1 x.2.2.1,fun x=>awa x.1 x.2.1 x.2.2.1⟩
noncomputable def Kf81:=aY 104 Tryz.func104 [awt,K137,Kf138,Kf139] noZ ⟨59,(lookA [(7,⟨[6,9,10,30],[0,1,2],3,[],[],[],[]⟩)]),noL,noL⟩ 128 Af81 (Cod.tup (Row.cons (Cod.agg (Row.cons cI (Row.cons cI Row.nil))) (Row.cons cI (Row.cons cI Row.nil)))) Sf81 wf81 (fun x=>x.2.2.1.length+64)
end
end Go.Ev
