import Derived.Test.YtfhbflaighfmpaaGreatDoorEvD
import Derived.Test.YtfhbflaighfmpaaGreatDoorDF1
import Derived.Test.YtfhbflaighfmpaaGreatDoorBase
set_option linter.unusedSimpArgs false
set_option linter.unusedVariables false
namespace Go.Ev
open Go.RowKit Go.Proofs
set_option maxRecDepth 100000
set_option maxHeartbeats 4000000
def gK:List Nat→Bool
 | []=>true| x::l=>isP x&&(!lastP x||l.isEmpty)&&gK l
def nU (l:List Nat):Int:=if l.length≤24 then(if gK l=true then 0 else 14)else 5
theorem iE {l:List Nat}{k x:Nat}(h:l[k]? = some x):gK (l.drop k)=(isP x&&(!lastP x||!decide ((k:Int)<(l.length:Int)-1))&&gK (l.drop (k+1))):=by
 obtain⟨hk,rfl⟩:=List.getElem?_eq_some_iff.1 h;rw [List.drop_eq_getElem_cons hk];have e:(l.drop (k+1)).isEmpty=!decide ((k:Int)<(l.length:Int)-1):=by rw [Bool.eq_iff_iff];simp only [List.isEmpty_iff,List.drop_eq_nil_iff,Bool.not_eq_true',decide_eq_false_iff_not];omega
 rw [gK,e]
theorem hasC_P (x:Nat):hasC [66,67,83,70,88,72] (x:Int)=isP x:=by simp only [hasC,List.any_cons,List.any_nil,Bool.or_false,isP];rw [Bool.eq_iff_iff];simp only [Bool.or_eq_true,beq_iff_eq];omega
theorem awe (x:Nat):hasC [88,72] (x:Int)=lastP x:=by simp only [hasC,List.any_cons,List.any_nil,Bool.or_false,lastP];rw [Bool.eq_iff_iff];simp only [Bool.or_eq_true,beq_iff_eq];omega
def isEv:List Nat→Bool
 | [x]=>hasC [75,87,72,73,88,78,89] (x:Int)| _=>false
def tY (l:List Nat):Int:=if(decide (l=[])||isEv l)=true then 0 else 13
theorem aqP {n lo hi:Int}(h:lo≤n∧n≤hi):dV n lo hi=0:=by unfold dV;rw [if_neg (by omega)]
def reachB (r f t:Int):Bool:=if r=1 then t==f else if r=2 then t==IntKind.i64.wrap (f+1)else if r=3 then decide (f<t)else if r=4 then decide (f≤t)else false
abbrev Way:=Bool×List Nat×Int×Int
def wayT:List Way:=[(false,[98],3,3),(false,[97],3,3),(false,[115],0,3),(false,[112],3,3),(false,[107],0,3),(false,[116],3,3),(false,[111],3,3),
 (true,[102],2,2),(true,[103],3,4),(true,[99],2,0),(true,[100],0,1),(true,[107],2,0),(true,[110],2,3),(true,[121],2,0)]
def findL (o:Bool) (h:List Nat) (l:List Way):Option Way:=l.find? fun w=>(w.1==o)&&decide (w.2.1=h)
def bq6 (f t:Int) (o:Bool) (h:List Nat):Int:=match findL o h wayT with
 | some w=>if reachB (if f=0 then w.2.2.1 else w.2.2.2) f t=true then 0 else 15| none=>13
def kF:Option Int→List Int→Bool
 | _,[]=>true| p,x::l=>withinB x 1 9&&!decide (p=some x)&&kF (some x) l
def vW (o:Bool) (b:List Int):Int:=if 9<b.length∨(o=true∧b.length=0)then 16 else if kF none b=true then 0 else 16
def before (b:List Int) (k:Nat):Option Int:=if k=0 then none else b[k-1]?
theorem uM (b:List Int) (k:Nat):before b (k+1)=b[k]? := by simp [before]
theorem qA {b:List Int}{k:Nat}{x:Int}(h:b[k]? = some x):kF (before b k) (b.drop k)=(withinB x 1 9&&!decide (before b k=some x)&&kF (before b (k+1)) (b.drop (k+1))):=by rw [uM,h];obtain⟨hk,rfl⟩:=List.getElem?_eq_some_iff.1 h;rw [List.drop_eq_getElem_cons hk];rfl
def waysO:List Nat:=[102,103,99,100,107,110,121]
def waysS:List Nat:=[98,97,115,112,107,116,111]
def aq3 (o:Bool):List Nat→Bool
 | [c]=>hasC (if o=true then waysO else waysS) (c:Int)| _=>false
def fitsB (f t:Int) (o:Bool) (c:Nat):Bool:=
 if o=false then decide (f<t)&&(decide (0<f)||!hasC [115,107] (c:Int))else
 if c=100 then decide (0<f)&&(t==f)else if c=103 then decide (f≤t)else
 if c=110 then decide (f<t)&&(decide (0<f)||(t==1))else if c=102 then t==f+1 else(f==0)&&(t==1)
def wayR (f t:Int) (o:Bool) (h:List Nat):Int:=if aq3 o h=true then(match h with
 | [c]=>if fitsB f t o c=true then 0 else 15| _=>15)else 13
theorem way_key:∀o∈[true,false],∀c∈(if o=true then waysO else waysS),∀f∈([0,1,2,3]:List Int),∀t∈([1,2,3,4]:List Int),bq6 f t o [c]=wayR f t o [c]:=by decide +kernel
theorem way_all:∀w∈wayT,aq3 w.1 w.2.1=true:=by decide +kernel
theorem hasC_mem {l:List Nat}{c:Nat}(h:hasC l (c:Int)=true):c∈l:=by
 simp only [hasC,List.any_eq_true,beq_iff_eq]at h;obtain⟨x,hx,e⟩:=h;obtain rfl:x=c:=by omega
 exact hx
theorem way_eq {f t:Int}{o:Bool}{h:List Nat}(hf:0≤f∧f≤3) (ht:1≤t∧t≤4):bq6 f t o h=wayR f t o h:=by
 cases hw:aq3 o h with
 | true=>
   match h,hw with
   | [c],hw=>exact way_key o (by cases o<;>simp) c (hasC_mem hw) f (by simp;omega) t (by simp;omega)
 | false=>
   have hn:findL o h wayT=none:=by unfold findL;rw [List.find?_eq_none];intro w hm hc;simp only [Bool.and_eq_true,beq_iff_eq,decide_eq_true_eq]at hc;have:=way_all w hm;rw [hc.1,hc.2,hw]at this;cases this
   simp only [bq6,hn,wayR,hw,Bool.false_eq_true,if_false]
def ajp (f t:Int) (o:Bool) (h:List Nat) (b:List Int):Int:=eS [dV f 0 3,dV t 1 4,bq6 f t o h,vW o b]
theorem avJ {f t:Int}{o:Bool}{h:List Nat}{b:List Int}(hf:0≤f∧f≤3) (ht:1≤t∧t≤4):ajp f t o h b=if wayR f t o h=0 then vW o b else wayR f t o h:=by
 unfold ajp;rw [aqP hf,aqP ht,way_eq hf ht];simp only [eS];by_cases h1:wayR f t o h=0;· simp [h1];intro h2;exact h2.symm
 · simp [h1]
def mvE (m:Mv):Int:=ajp m.f m.t m.o m.h m.b
def azI:Option Int→List Mv→Int
 | _,[]=>0| p,m::l=>if mvE m≠0 then mvE m else if(p.any fun q=>decide (q≤m.f))=true then 11 else azI (some m.f) l
def aB (l:List Mv):Int:=if 4<l.length then 5 else azI none l
def kR (l:List Mv) (k:Nat):Option Int:=if k=0 then none else(l[k-1]?).map (·.f)
theorem tR (l:List Mv) (k:Nat):kR l (k+1)=(l[k]?).map (·.f):=by simp [kR]
theorem aqW {l:List Mv}{k:Nat}{m:Mv}(h:l[k]? = some m):azI (kR l k) (l.drop k)=if mvE m≠0 then mvE m else if((kR l k).any fun q=>decide (q≤m.f))=true then 11 else azI (kR l (k+1)) (l.drop (k+1)):=by rw [tR,h];obtain⟨hk,rfl⟩:=List.getElem?_eq_some_iff.1 h;rw [List.drop_eq_getElem_cons hk];rfl
def playE (p e:List Nat) (l:List Mv):Int:=eS [nU p,tY e,aB l]
def eSt (s:St):List EVal:=[.int .i64 s.inn,.int .i64 s.half,.int .i64 s.outs,.int .i64 s.balls,.int .i64 s.strikes,.int .i64 s.b1,.int .i64 s.b2,.int .i64 s.b3,.int .i64 s.n0,.int .i64 s.n1,.int .i64 s.c0,.int .i64 s.c1,.bool s.over]
theorem eqN (a b:Int):(a==b)=decide (a=b):=by rw [Bool.eq_iff_iff];simp
def inB (n lo hi:Int):Bool:=decide (lo≤n)&&decide (n≤hi)
def batC (s:St):Int:=if s.half=0 then s.n0 else s.n1
def azR (s:St):Bool:=decide (s.half=0)||decide (s.half=1)
def behC (a:Int):Int:=a.tmod 9+1
theorem wbeh (a:Int):IntKind.i64.wrap (a.tmod 9+1)=behC a:=by have h1:=Int.tmod_lt_of_pos a (b:=9) (by omega);have h2:=Int.lt_tmod_of_pos a (b:=9) (by omega);unfold behC;rw [d7]<;>omega
def leadB (s:St):Bool:=decide (s.c0<s.c1)
def decB (s:St):Bool:=decide (9≤s.inn)&&decide (s.half=1)&&leadB s
def lastB (s:St):Bool:=decide (9≤s.inn)&&(leadB s||decide (s.half=1)&&(decide (s.c0≠s.c1)||decide (s.inn=30)))
def clr (s:St):St:={ s with outs:=0,balls:=0,strikes:=0,b1:=0,b2:=0,b3:=0 }
def overB (s:St):Bool:=decide (s=clr s)&&lastB s
def endE (s:St):Int:=if(s.over&&!overB s||!s.over&&decB s)=true then 19 else 0
def akB (s:St):Int:=if inB s.inn 1 30=true then 0 else 3
def pG (s:St):Int:=if inB s.half 0 1=true then 0 else 17
def cnB (s:St):Bool:=inB s.outs 0 2&&inB s.balls 0 3&&inB s.strikes 0 2
def baB (s:St):Nat→Bool
 | 0=>cnB s| 1=>cnB s&&inB s.b1 0 9| 2=>cnB s&&inB s.b1 0 9&&inB s.b2 0 9| _=>cnB s&&inB s.b1 0 9&&inB s.b2 0 9&&inB s.b3 0 9
def nuB (s:St):Nat→Bool
 | 0=>baB s 3| 1=>baB s 3&&inB s.n0 1 9&&inB s.c0 0 9999| _=>baB s 3&&inB s.n0 1 9&&inB s.c0 0 9999&&inB s.n1 1 9&&inB s.c1 0 9999
def avH (s:St):Int:=if nuB s 2=true then 0 else 3
def sinC (r b:Int):Int:=(b-r+8) % 9
def in19 (n:Int):Bool:=inB n 1 9
theorem azP {n:Int}:in19 n=true↔1≤n∧n≤9:=by simp [in19,inB]
theorem bzG {r:Int}{k:Nat}(h1:1≤r):behC ((r+k-1) % 9+1)=(r+k) % 9+1:=by unfold behC;rw [Int.tmod_eq_emod_of_nonneg (by omega)];omega
theorem at_eq {r b:Int}{k:Nat}(h1:1≤r) (h2:r≤9) (h3:1≤b) (h4:b≤9) (hk:(k:Int)=sinC r b):(r+k) % 9+1=b:=by unfold sinC at hk;omega
theorem at_ne {r b:Int}{k:Nat}(h1:1≤r) (h2:r≤9) (h3:1≤b) (h4:b≤9) (hk:(k:Int)<sinC r b):(r+k) % 9+1≠b:=by unfold sinC at hk;omega
theorem sV (r b:Int):0≤sinC r b∧sinC r b<9:=by unfold sinC;omega
def bsC (s:St):Nat→Int
 | 0=>s.b1| 1=>s.b2| _=>s.b3
def vG (s:St) (slot:Int):Option (Int×Int)→Option (Int×Int)
 | none=>none| some (lo,la)=>if slot=0 then some (lo,la)else
   if(inB (sinC slot (batC s)) lo (lo+s.outs)&&!decide (sinC slot (batC s)≤la))=true then some (lo+1,sinC slot (batC s))else none
def awp (s:St):Nat→Option (Int×Int)
 | 0=>some (0,-1)| n+1=>vG s (bsC s n) (awp s n)
def bjK (s:St):Bool:=(awp s 3).isSome
theorem bjI {s:St}{k:Nat}(h:awp s k=none) (j:Nat):awp s (k+j)=none:=by
 induction j with
 | zero=>exact h| succ j ih=>show vG s _ (awp s (k+j))=none;rw [ih];rfl
theorem bjJ {s:St}{k:Nat}(h:awp s k=none) (hk:k≤3):bjK s=false:=by have:=bjI h (3-k);rw [show k+(3-k)=3 by omega]at this;simp [bjK,this]
def bjG (s:St):Bool:=azR s&&nuB s 2
structure Good (s:St):Prop where
 half:s.half=0∨s.half=1
 outs:0≤s.outs∧s.outs≤2
 b1:0≤s.b1∧s.b1≤9
 b2:0≤s.b2∧s.b2≤9
 b3:0≤s.b3∧s.b3≤9
 n0:1≤s.n0∧s.n0≤9
 n1:1≤s.n1∧s.n1≤9
theorem awh {s:St}(h:bjG s=true):Good s:=by simp only [bjG,nuB,baB,cnB,inB,azR,Bool.and_eq_true,Bool.or_eq_true,decide_eq_true_eq]at h;exact⟨h.1,by omega,by omega,by omega,by omega,by omega,by omega⟩
theorem Good.bat {s:St}(h:Good s):in19 (batC s)=true:=by rw [azP];unfold batC;have:=h.n0;have:=h.n1;split<;>omega
def awF (s:St):Int:=if bjK s=true then 0 else 11
def wK:List Int→Int
 | []=>0| x::l=>if x=0 then wK l else x
def akQ (s:St):List Int:=[akB s,pG s,avH s,endE s,awF s]
def stE (s:St):Int:=wK (akQ s)
theorem axs {s:St}(h:stE s=0):inB s.inn 1 30=true∧inB s.half 0 1=true∧nuB s 2=true∧endE s=0∧bjK s=true:=by
 unfold stE akQ at h;simp only [wK]at h;by_cases h1:akB s=0
 · rw [if_pos h1]at h;by_cases h2:pG s=0
   · rw [if_pos h2]at h;by_cases h3:avH s=0
     · rw [if_pos h3]at h;by_cases h4:endE s=0
       · rw [if_pos h4]at h;by_cases h5:awF s=0
         · refine ⟨?_,?_,?_,h4,?_⟩;· unfold akB at h1;split at h1<;>first|assumption|omega
           · unfold pG at h2;split at h2<;>first|assumption|omega
           · unfold avH at h3;split at h3<;>first|assumption|omega
           · unfold awF at h5;split at h5<;>first|assumption|omega
         · rw [if_neg h5]at h;exact absurd h h5
       · rw [if_neg h4]at h;exact absurd h h4
     · rw [if_neg h3]at h;exact absurd h h3
   · rw [if_neg h2]at h;exact absurd h h2
 · rw [if_neg h1]at h;exact absurd h h1
theorem mY {s:St}(h:stE s=0):Good s:=by obtain⟨_,h2,h3,_,_⟩:=axs h;refine awh ?_;simp only [bjG,h3,Bool.and_true,azR,Bool.or_eq_true,decide_eq_true_eq];simp only [inB,Bool.and_eq_true,decide_eq_true_eq]at h2;omega
end Go.Ev
namespace Go.Ev
open Go.RowKit Go.Proofs
set_option maxRecDepth 100000
set_option maxHeartbeats 4000000
set_option linter.unusedSimpArgs false
noncomputable section
theorem bD {n:Int}(h1:-9223372036854775808≤n) (h2:n<9223372036854775808):IntKind.i64.wrap n=n:=d7 h1 h2
theorem w6s {k:Nat}(h:k<9223372036854775807):w6 ((k:Int)+1)=((k+1:Nat):Int):=by unfold w6;rw [bD]<;>omega
theorem w6p {k:Nat}(h:k<9223372036854775807):w6 (((k+1:Nat):Int)-1)=((k:Nat):Int):=by unfold w6;rw [bD]<;>omega
theorem gN {i:Int}{n:Nat}(h1:0≤i) (h2:i<(n:Int)):inR i n=true:=by simp [inR];omega
theorem rL {k n:Nat}(h:k<n):inR (k:Int) n=true:=gN (by omega) (by omega)
theorem aV {α:Type}{l:List α}{k:Nat}{x d:α}(h:l[k]? = some x):l.getD k d=x:=by rw [List.getD_eq_getElem?_getD,h];rfl
theorem oI {α:Type}{l:List α}{k:Nat}(h:k<l.length):∃x,l[k]? = some x:=⟨l[k],List.getElem?_eq_getElem h⟩
theorem aqh {k n:Nat}(h:k<n):decide ((k:Int)<((n:Nat):Int))=true:=by simp;omega
theorem aqi {k n:Nat}(h:¬k<n):decide ((k:Int)<((n:Nat):Int))=false:=by simp;omega
theorem has_jm (s:List Nat) (t:Int) (hl:s.length<9223372036854775807):∀j n k,k+j=s.length→Tr.lp (ayn s t) (n+j+1) (.k4 (k:Int))=some (hasC (s.drop k) t):=by
 intro j;induction j with
 | zero=>intro n k hk;rw [Tr.lp_s];simp only [ayn,TS,aqi (show ¬k<s.length by omega),cond_false,List.drop_eq_nil_of_le (show s.length≤k by omega)];rfl| succ j ih=>
   intro n k hk;have hlt:k<s.length:=by omega
   obtain⟨x,hx⟩:=oI hlt;rw [Tr.lp_s];simp only [ayn,TS,aqh hlt,rL hlt,cond_true,Int.toNat_natCast,aV hx,w6s (show k<9223372036854775807 by omega),awf hx];rw [show n+(j+1)=n+j+1 by omega,ih n (k+1) (by omega)];cases((x:Nat):Int)==t<;>rfl
theorem nc0:((0:Nat):Int)=0:=rfl
theorem fu (n:Nat):n+64=63+n+1:=by omega
theorem m83 (s:List Nat) (t:Int) (hl:s.length<9223372036854775807):akI (s,t,())=some (hasC s t):=by show Ef83 (s.length+64) s t=_;unfold Ef83 Tf83;simp only [TS];have:=has_jm s t hl s.length 63 0 (by omega);rw [List.drop_zero,nc0]at this;rw [fu];exact this
theorem m83P (x:Nat):akI ([66,67,83,70,88,72],((x:Nat):Int),())=some (isP x):=by rw [m83 _ _ (by simp),hasC_P]
theorem m83L (x:Nat):akI ([88,72],((x:Nat):Int),())=some (lastP x):=by rw [m83 _ _ (by simp),awe]
theorem pit_j (s:List Nat) (hl:s.length≤24):∀j n k,k+j=s.length→Tr.lp (ajP s) (n+j+1) (.k8 (k:Int))=some (if gK (s.drop k)=true then 0 else 14):=by
 intro j;induction j with
 | zero=>intro n k hk;rw [Tr.lp_s];simp only [ajP,TS,aqi (show ¬k<s.length by omega),cond_false,List.drop_eq_nil_of_le (show s.length≤k by omega)];rfl| succ j ih=>
   intro n k hk;have hlt:k<s.length:=by omega
   obtain⟨x,hx⟩:=oI hlt;have w1:w6 ((s.length:Int)-1)=(s.length:Int)-1:=by unfold w6;rw [bD]<;>omega
   rw [Tr.lp_s];simp only [ajP,TS,aqh hlt,rL hlt,cond_true,Int.toNat_natCast,aV hx,w6s (show k<9223372036854775807 by omega),m83P,m83L,obind_some,w1,iE hx];rw [show n+(j+1)=n+j+1 by omega,ih n (k+1) (by omega)];cases isP x<;>cases lastP x<;>cases decide ((k:Int)<(s.length:Int)-1)<;>rfl
theorem m114 (s:List Nat):Sf114 (s,())=some (nU s):=by
 show Ef114 (s.length+64) s=_;unfold Ef114 Tf114 nU;simp only [TS];by_cases h:s.length≤24
 · have c1:decide (24<((s.length:Nat):Int))=false:=by simp;omega
   have:=pit_j s h s.length 63 0 (by omega);rw [List.drop_zero,nc0]at this;rw [c1,cond_false,if_pos h,fu];exact this
 · have c1:decide (24<((s.length:Nat):Int))=true:=by simp;omega
   rw [c1,cond_true,if_neg h]
theorem m139 (r:Nat):bxT (((r:Nat):Int),())=some (lastP r):=by show Ef139 _=_;unfold Ef139 Tf139;simp only [TS];have e1:(((r:Nat):Int)==88)=(r==88):=nbeq r 88;have e2:(((r:Nat):Int)==72)=(r==72):=nbeq r 72;rw [e1,e2];unfold lastP;cases r==88<;>rfl
theorem m137 (r:Nat):S137 (((r:Nat):Int),())=some (isP r):=by unfold S137;rw [if_pos (by simp)];simp
end
end Go.Ev
namespace Go.Ev
open Go.RowKit Go.Proofs
set_option maxRecDepth 100000
set_option maxHeartbeats 4000000
set_option linter.unusedSimpArgs false
noncomputable section
theorem azE {l:List Nat}{k c:Nat}(h:l[k]? = some c) (hc:c<128):iP l k=(c,1):=by unfold iP;rw [avI h hc];rfl
theorem azF {l:List Nat}{k c:Nat}(hb:bB l=true) (h:l[k]? = some c) (hc:¬c<128):128≤(iP l k).1:=by obtain⟨r,w,e,hr⟩:=aw1 hb h hc;unfold iP;rw [e];exact hr
theorem blt_t {k n:Nat}(h:k<n):Nat.blt k n=true:=by rw [Nat.blt_eq];exact h
theorem blt_f {k n:Nat}(h:¬k<n):Nat.blt k n=false:=by
 cases hb:Nat.blt k n;· rfl
 · rw [Nat.blt_eq]at hb;exact absurd hb h
theorem pp_j (s:List Nat) (hl:s.length≤24) (hb:bB s=true):∀j n k,k+j=s.length→Tr.lp (xI s) (n+j+1) (.k8 k)=some (if gK (s.drop k)=true then 0 else 14):=by
 intro j;induction j with
 | zero=>intro n k hk;rw [Tr.lp_s];simp only [xI,TS,blt_f (show ¬k<s.length by omega),cond_false,List.drop_eq_nil_of_le (show s.length≤k by omega)];rfl| succ j ih=>
   intro n k hk;have hlt:k<s.length:=by omega
   obtain⟨x,hx⟩:=oI hlt;have w1:w6 ((s.length:Int)-1)=(s.length:Int)-1:=by unfold w6;rw [bD]<;>omega
   rw [Tr.lp_s];by_cases hx8:x<128;· simp only [xI,TS,blt_t hlt,cond_true,azE hx hx8,m137,m139,obind_some,w1,iE hx];rw [show n+(j+1)=n+j+1 by omega,ih n (k+1) (by omega)];cases isP x<;>cases lastP x<;>cases decide ((k:Int)<(s.length:Int)-1)<;>rfl
   · have h1:=n8 (azF hb hx hx8);have h2:=n8 (show 128≤x by omega);simp only [xI,TS,blt_t hlt,cond_true,m137,obind_some,iE hx,h1,h2];rfl
theorem m193 (s:List Nat) (hb:bB s=true):Sf193 (s,())=some (nU s):=by
 show Ef193 (s.length+64) s=_;unfold Ef193 Tf193 nU;simp only [TS];by_cases h:s.length≤24
 · have c1:decide (24<((s.length:Nat):Int))=false:=by simp;omega
   have:=pp_j s h hb s.length 63 0 (by omega);rw [List.drop_zero]at this;rw [c1,cond_false,if_pos h,fu];exact this
 · have c1:decide (24<((s.length:Nat):Int))=true:=by simp;omega
   rw [c1,cond_true,if_neg h]
theorem m215 (s:List Nat) (hb:bB s=true):Sf215 (s,())=some (isEv s):=by
 show Ef215 s=_;unfold Ef215 Tf215;simp only [TS];match s,hb with
 | [],_=>rfl| [x],hb=>
   have hx:x<256:=by simpa [bB]using hb
   have:zQ (EL,[x],())=some (hasC EL (x:Int)):=by show(if(EL∈CL∧x∈OL)∨(EL=EL∧x<256)then _ else _)=_;rw [if_pos (Or.inr ⟨rfl,hx⟩)]
   show aX (zQ (EL,[x],())) _=_;rw [this];rfl
 | a::b::l,_=>
   have:((((a::b::l).length:Nat):Int)==1)=false:=by simp;omega
   rw [this];rfl
theorem m194 (s:List Nat) (hb:bB s=true):Sf194 (s,())=some (tY s):=by
 show Ef194 s=_;unfold Ef194 Tf194 tY;simp only [TS,m215 s hb,obind_some];by_cases h:s=[];· simp [h]
 · simp only [h,decide_false,Bool.not_false,cond_true,Bool.false_or];cases isEv s<;>rfl
theorem m115 (s:List Nat):Sf115 (s,())=some (decide (s=[])||isEv s):=by
 show Ef115 s=_;unfold Ef115 Tf115;match s with
 | []=>rfl| [x]=>have:=m83 [75,87,72,73,88,78,89] (x:Int) (by simp);simp only [TS,List.getD_cons_zero,this,obind_some];rfl| a::b::l=>
   have:((((a::b::l).length:Nat):Int)==1)=false:=by simp;omega
   simp only [TS,this];rfl
theorem m136 (s t u:Int):ax1 (s,t,u,())=some (withinB s t u):=by show Ef136 s t u=_;unfold Ef136 Tf136 withinB;simp only [TS];cases decide (t≤s)<;>rfl
theorem wr_eq (n lo hi:Int):(if withinB n lo hi=true then 0 else 3)=dV n lo hi:=by unfold withinB dV;by_cases h1:lo≤n<;>by_cases h2:n≤hi<;>simp [h1,h2]<;>omega
theorem m234 (s:Int):Sf234 (s,())=some (dV s 0 3):=by show Ef234 s=_;unfold Ef234 Tf234;simp only [TS,m136,obind_some,←wr_eq];cases withinB s 0 3<;>rfl
theorem m235 (s:Int):Sf235 (s,())=some (dV s 1 4):=by show Ef235 s=_;unfold Ef235 Tf235;simp only [TS,m136,obind_some,←wr_eq];cases withinB s 1 4<;>rfl
theorem m64 (s t u:Int) (h:t≤u):Sf64 (s,t,u,())=some (dV s t u):=by show Ef64 s t u=_;unfold Ef64 Tf64 dV;simp only [TS];by_cases h1:s<t<;>by_cases h2:u<s<;>simp [h1,h2]
def wyV (o:Bool) (h:List Nat):Wy×Bool×Unit:=match findL o h wayT with
 | some w=>(⟨w.1,w.2.1,w.2.2.1,w.2.2.2⟩,true,())| none=>(⟨false,[],0,0⟩,false,())
end
end Go.Ev
namespace Go.Ev
open Go.RowKit Go.Proofs
set_option maxRecDepth 100000
set_option maxHeartbeats 4000000
set_option linter.unusedSimpArgs false
noncomputable section
theorem way_j (o:Bool) (h:List Nat) (n:Nat):Tr.lp (azk o h) (n+15) .k4_0=some (wyV o h):=by
 rw [show n+15=n+14+1 from rfl];simp only [Tr.lp_s,azk,TS,wyV,findL,wayT,List.find?_cons,List.find?_nil];cases o<;>simp only [Bool.false_eq_true,Bool.true_eq_false,beq_self_eq_true,cond_true,cond_false,Bool.true_and,Bool.false_and,show(false==true)=false from rfl,show(true==false)=false from rfl]
 · cases decide ([98]=h)with
   | true=>rfl| false=>
   cases decide ([97]=h)with
   | true=>rfl| false=>
   cases decide ([115]=h)with
   | true=>rfl| false=>
   cases decide ([112]=h)with
   | true=>rfl| false=>
   cases decide ([107]=h)with
   | true=>rfl| false=>
   cases decide ([116]=h)with
   | true=>rfl| false=>
   cases decide ([111]=h)with
   | true=>rfl| false=>
   rfl
 · cases decide ([102]=h)with
   | true=>rfl| false=>
   cases decide ([103]=h)with
   | true=>rfl| false=>
   cases decide ([99]=h)with
   | true=>rfl| false=>
   cases decide ([100]=h)with
   | true=>rfl| false=>
   cases decide ([107]=h)with
   | true=>rfl| false=>
   cases decide ([110]=h)with
   | true=>rfl| false=>
   cases decide ([121]=h)with
   | true=>rfl| false=>
   rfl
theorem m247 (o:Bool) (h:List Nat):Sf247 (o,h,())=some (wyV o h):=by show Ef247 (h.length+64) o h=_;unfold Ef247 Tf247;simp only [TS];rw [show h.length+64=(h.length+49)+15 by omega];exact way_j o h _
theorem m248 (r f t:Int):bxO (r,f,t,())=some (reachB r f t):=by
 show Ef248 r f t=_;unfold Ef248 Tf248 reachB;simp only [TS];by_cases h1:r=1;· simp [h1]
 have n1:(r==1)=false:=by simpa using h1
 rw [n1,cond_false,if_neg h1];by_cases h2:r=2;· simp [h2,w6]
 have n2:(r==2)=false:=by simpa using h2
 rw [n2,cond_false,if_neg h2];by_cases h3:r=3;· simp [h3]
 have n3:(r==3)=false:=by simpa using h3
 rw [n3,cond_false,if_neg h3];by_cases h4:r=4;· simp [h4]
 have n4:(r==4)=false:=by simpa using h4
 rw [n4,cond_false,if_neg h4]
theorem m236 (m:Mv):Sf236 (m,())=some (bq6 m.f m.t m.o m.h):=by
 show Ef236 m=_;unfold Ef236 Tf236 bq6;simp only [TS,m247,m248,obind_some,wyV];cases findL m.o m.h wayT with
 | none=>rfl| some w=>
   by_cases h:m.f=0;· simp only [h,Bool.not_true,cond_false,if_pos,show((0:Int)==0)=true from rfl,cond_true];cases reachB w.2.2.1 0 m.t<;>rfl
   · have h0:(m.f==0)=false:=by simp [h]
     simp only [h0,Bool.not_true,cond_false,if_neg h];cases reachB w.2.2.2 m.f m.t<;>rfl
theorem bzH {b:List Int}{k:Nat}{x y:Int}(hy:b[k]? = some y):decide (before b (k+1)=some x)=(x==y):=by
 rw [uM,hy];by_cases h:x=y;· simp [h]
 · have:¬y=x:=fun e=>h e.symm;simp [h,this]
theorem tch_j (m:Mv) (hl:m.b.length≤9):∀j n k,k+j=m.b.length→Tr.lp (ajK m) (n+j+1) (.k8 (k:Int))=some (if kF (before m.b k) (m.b.drop k)=true then 0 else 16):=by
 intro j;induction j with
 | zero=>intro n k hk;rw [Tr.lp_s];simp only [ajK,TS,aqi (show ¬k<m.b.length by omega),cond_false,List.drop_eq_nil_of_le (show m.b.length≤k by omega)];unfold kF;rfl| succ j ih=>
   intro n k hk;have hlt:k<m.b.length:=by omega
   obtain⟨x,hx⟩:=oI hlt;have hn:=ih n (k+1) (by omega);rw [Tr.lp_s,qA hx];simp only [ajK,TS,aqh hlt,rL hlt,cond_true,Int.toNat_natCast,aV hx,w6s (show k<9223372036854775807 by omega),m136,obind_some];rw [show n+(j+1)=n+j+1 by omega,hn];cases hw:withinB x 1 9 with
   | false=>rfl| true=>
     cases k with
     | zero=>simp [before]| succ k=>
       obtain⟨y,hy⟩:=oI (show k<m.b.length by omega);have c1:decide ((0:Int)<((k+1:Nat):Int))=true:=by rw [decide_eq_true_eq];omega
       simp only [c1,cond_true,w6p (show k<9223372036854775807 by omega),rL (show k<m.b.length by omega),Int.toNat_natCast,aV hy,bzH hy,Bool.not_true,cond_false,Bool.true_and];cases x==y<;>rfl
theorem m237 (m:Mv):Sf237 (m,())=some (vW m.o m.b):=by
 show Ef237 (64) m=_;unfold Ef237 Tf237 vW;simp only [TS];by_cases h:9<m.b.length
 · have c1:decide (9<((m.b.length:Nat):Int))=true:=by simp;omega
   simp only [c1,cond_true,if_pos (Or.inl h)]
 have c1:decide (9<((m.b.length:Nat):Int))=false:=by simp;omega
 have:=tch_j m (by omega) m.b.length (63-m.b.length) 0 (by omega);rw [List.drop_zero,nc0,show before m.b 0=none from rfl,show 63-m.b.length+m.b.length+1=64 by omega]at this;simp only [c1,cond_false];by_cases h0:m.o=true∧m.b.length=0
 · have c2:(((m.b.length:Nat):Int)==0)=true:=by simp [h0.2]
   simp only [h0.1,c2,cond_true,if_pos (Or.inr h0)];rw [if_pos (by right;exact⟨trivial,h0.2⟩)]
 · rw [if_neg (fun q=>q.elim h h0)];cases ho:m.o with
   | false=>rw [cond_false];exact this| true=>
     have c2:(((m.b.length:Nat):Int)==0)=false:=by have:m.b.length≠0:=fun e=>h0 ⟨ho,e⟩;exact beq_eq_false_iff_ne.2 (by omega)
     simp only [c2,cond_true,cond_false];exact this
theorem tch2_j (m:Mv) (hl:m.b.length≤9):∀j n k,k+j=m.b.length→Tr.lp (ajN m) (n+j+1) (.k8 (k:Int))=some (if kF (before m.b k) (m.b.drop k)=true then 0 else 16):=by
 intro j;induction j with
 | zero=>intro n k hk;rw [Tr.lp_s];simp only [ajN,TS,aqi (show ¬k<m.b.length by omega),cond_false,List.drop_eq_nil_of_le (show m.b.length≤k by omega)];unfold kF;rfl| succ j ih=>
   intro n k hk;have hlt:k<m.b.length:=by omega
   obtain⟨x,hx⟩:=oI hlt;have hn:=ih n (k+1) (by omega);rw [Tr.lp_s,qA hx];simp only [ajN,TS,aqh hlt,rL hlt,cond_true,Int.toNat_natCast,aV hx,w6s (show k<9223372036854775807 by omega)];rw [show n+(j+1)=n+j+1 by omega,hn];by_cases h1:x<1
   · have:withinB x 1 9=false:=by simp [withinB];omega
     simp [h1,this]
   by_cases h2:9<x
   · have:withinB x 1 9=false:=by simp [withinB];omega
     simp [h1,h2,this]
   have hw:withinB x 1 9=true:=by simp [withinB];omega
   have d1:decide (x<1)=false:=by simp;omega
   have d2:decide (9<x)=false:=by simp;omega
   simp only [d1,d2,hw,cond_false];cases k with
   | zero=>simp [before]| succ k=>
     obtain⟨y,hy⟩:=oI (show k<m.b.length by omega);have c1:decide ((0:Int)<((k+1:Nat):Int))=true:=by rw [decide_eq_true_eq];omega
     simp only [c1,cond_true,w6p (show k<9223372036854775807 by omega),rL (show k<m.b.length by omega),Int.toNat_natCast,aV hy,bzH hy,Bool.not_true,cond_false,Bool.true_and];cases x==y<;>rfl
theorem m174 (m:Mv):Sf174 (m,())=some (vW m.o m.b):=by
 show Ef174 (64) m=_;unfold Ef174 Tf174 vW;simp only [TS];by_cases h:9<m.b.length
 · have c1:decide (9<((m.b.length:Nat):Int))=true:=by simp;omega
   simp only [c1,cond_true,if_pos (Or.inl h)]
 have c1:decide (9<((m.b.length:Nat):Int))=false:=by simp;omega
 have:=tch2_j m (by omega) m.b.length (63-m.b.length) 0 (by omega);rw [List.drop_zero,nc0,show before m.b 0=none from rfl,show 63-m.b.length+m.b.length+1=64 by omega]at this;simp only [c1,cond_false];by_cases h0:m.o=true∧m.b.length=0
 · have c2:(((m.b.length:Nat):Int)==0)=true:=by simp [h0.2]
   simp only [h0.1,c2,cond_true,if_pos (Or.inr h0)];rw [if_pos (by right;exact⟨trivial,h0.2⟩)]
 · rw [if_neg (fun q=>q.elim h h0)];cases ho:m.o with
   | false=>rw [cond_false];exact this| true=>
     have c2:(((m.b.length:Nat):Int)==0)=false:=by have:m.b.length≠0:=fun e=>h0 ⟨ho,e⟩;exact beq_eq_false_iff_ne.2 (by omega)
     simp only [c2,cond_true,cond_false];exact this
theorem fst_j (s:List Int) (hl:s.length<9223372036854775807):∀j n k,k+j=s.length→Tr.lp (ajM s) (n+j+1) (.k4 (k:Int))=some (eS (s.drop k)):=by
 intro j;induction j with
 | zero=>intro n k hk;rw [Tr.lp_s];simp only [ajM,TS,aqi (show ¬k<s.length by omega),cond_false,List.drop_eq_nil_of_le (show s.length≤k by omega)];rfl| succ j ih=>
   intro n k hk;have hlt:k<s.length:=by omega
   obtain⟨x,hx⟩:=oI hlt;have hn:=ih n (k+1) (by omega);rw [Tr.lp_s,tU hx];simp only [ajM,TS,aqh hlt,rL hlt,cond_true,Int.toNat_natCast,aV hx,w6s (show k<9223372036854775807 by omega)];rw [show n+(j+1)=n+j+1 by omega,hn];by_cases h:x=0;· simp [h]
   · have:(x==0)=false:=by simpa using h
     simp [h,this]
theorem m192 (s:List Int) (hl:s.length<9223372036854775807):bxQ (s,())=some (eS s):=by show Ef192 (s.length+64) s=_;unfold Ef192 Tf192;simp only [TS];have:=fst_j s hl s.length 63 0 (by omega);rw [List.drop_zero,nc0]at this;rw [fu];exact this
theorem fst2_j (s:List Int) (hl:s.length<9223372036854775807):∀j n k,k+j=s.length→Tr.lp (ayo s) (n+j+1) (.k4 (k:Int))=some (eS (s.drop k)):=by
 intro j;induction j with
 | zero=>intro n k hk;rw [Tr.lp_s];simp only [ayo,TS,aqi (show ¬k<s.length by omega),cond_false,List.drop_eq_nil_of_le (show s.length≤k by omega)];rfl| succ j ih=>
   intro n k hk;have hlt:k<s.length:=by omega
   obtain⟨x,hx⟩:=oI hlt;have hn:=ih n (k+1) (by omega);rw [Tr.lp_s,tU hx];simp only [ayo,TS,aqh hlt,rL hlt,cond_true,Int.toNat_natCast,aV hx,w6s (show k<9223372036854775807 by omega)];rw [show n+(j+1)=n+j+1 by omega,hn];by_cases h:x=0;· simp [h]
   · have:(x==0)=false:=by simpa using h
     simp [h,this]
theorem m65 (s:List Int) (hl:s.length<9223372036854775807):Sf65 (s,())=some (eS s):=by show Ef65 (s.length+64) s=_;unfold Ef65 Tf65;simp only [TS];have:=fst2_j s hl s.length 63 0 (by omega);rw [List.drop_zero,nc0]at this;rw [fu];exact this
theorem m216 (m:Mv):Sf216 (m,())=some (mvE m):=by show Ef216 m=_;unfold Ef216 Tf216 mvE ajp;simp only [TS,m234,m235,m236,m237,obind_some,m192 [_,_,_,_] (by simp)]
end
end Go.Ev
namespace Go.Ev
open Go.RowKit Go.Proofs
set_option maxRecDepth 100000
set_option maxHeartbeats 4000000
namespace AW
noncomputable def s0:EVal:=.agg [.int .i64 1,.int .i64 0,.int .i64 0,.int .i64 0,.int .i64 0,.int .i64 0,.int .i64 0,.int .i64 0,.int .i64 1,.int .i64 1,.int .i64 0,.int .i64 0,.bool false]
noncomputable def s1:EVal:=.agg [.int .i64 1,.int .i64 0,.int .i64 0,.int .i64 0,.int .i64 0,.int .i64 1,.int .i64 0,.int .i64 0,.int .i64 2,.int .i64 1,.int .i64 0,.int .i64 0,.bool false]
noncomputable def s2:EVal:=.agg [.int .i64 1,.int .i64 0,.int .i64 0,.int .i64 0,.int .i64 1,.int .i64 1,.int .i64 0,.int .i64 0,.int .i64 2,.int .i64 1,.int .i64 0,.int .i64 0,.bool false]
noncomputable def s3:EVal:=.agg [.int .i64 1,.int .i64 0,.int .i64 0,.int .i64 3,.int .i64 0,.int .i64 2,.int .i64 1,.int .i64 0,.int .i64 3,.int .i64 1,.int .i64 0,.int .i64 0,.bool false]
noncomputable def s4:EVal:=.agg [.int .i64 3,.int .i64 1,.int .i64 2,.int .i64 1,.int .i64 2,.int .i64 0,.int .i64 0,.int .i64 1,.int .i64 5,.int .i64 2,.int .i64 0,.int .i64 1,.bool false]
noncomputable def s5:EVal:=.agg [.int .i64 9,.int .i64 1,.int .i64 1,.int .i64 0,.int .i64 0,.int .i64 0,.int .i64 0,.int .i64 1,.int .i64 5,.int .i64 2,.int .i64 3,.int .i64 3,.bool false]
noncomputable def s6:EVal:=.agg [.int .i64 1,.int .i64 0,.int .i64 1,.int .i64 0,.int .i64 0,.int .i64 0,.int .i64 1,.int .i64 0,.int .i64 2,.int .i64 1,.int .i64 0,.int .i64 0,.bool false]
noncomputable def s7:EVal:=.agg [.int .i64 1,.int .i64 0,.int .i64 2,.int .i64 0,.int .i64 0,.int .i64 0,.int .i64 1,.int .i64 0,.int .i64 2,.int .i64 1,.int .i64 0,.int .i64 0,.bool false]
noncomputable def p0:EVal:=.agg [.str [66,88],.str [88],.bool false,.lsl [[.int .i64 0,.int .i64 1,.bool false,.str [98],.lsl []]]]
noncomputable def p1:EVal:=.agg [.str [67],.str [],.bool false,.lsl []]
noncomputable def p2:EVal:=.agg [.str [88],.str [88],.bool false,.lsl [[.int .i64 1,.int .i64 2,.bool true,.str [102],.lsl [[.int .i64 6],[.int .i64 4]]],[.int .i64 0,.int .i64 1,.bool true,.str [102],.lsl [[.int .i64 4],[.int .i64 3]]]]]
noncomputable def p3:EVal:=.agg [.str [66],.str [87],.bool false,.lsl [[.int .i64 2,.int .i64 3,.bool false,.str [97],.lsl []],[.int .i64 1,.int .i64 2,.bool false,.str [97],.lsl []],[.int .i64 0,.int .i64 1,.bool false,.str [97],.lsl []]]]
noncomputable def p4:EVal:=.agg [.str [83],.str [75],.bool false,.lsl [[.int .i64 3,.int .i64 4,.bool false,.str [116],.lsl []],[.int .i64 0,.int .i64 1,.bool true,.str [107],.lsl [[.int .i64 2]]]]]
noncomputable def p5:EVal:=.agg [.str [83],.str [75],.bool false,.lsl [[.int .i64 3,.int .i64 4,.bool false,.str [112],.lsl []],[.int .i64 0,.int .i64 1,.bool false,.str [112],.lsl []]]]
noncomputable def p6:EVal:=.agg [.str [88],.str [88],.bool false,.lsl [[.int .i64 3,.int .i64 4,.bool false,.str [98],.lsl []],[.int .i64 0,.int .i64 1,.bool false,.str [98],.lsl []]]]
noncomputable def p7:EVal:=.agg [.str [66],.str [87],.bool false,.lsl [[.int .i64 2,.int .i64 3,.bool false,.str [97],.lsl []],[.int .i64 0,.int .i64 1,.bool false,.str [97],.lsl []]]]
noncomputable def p8:EVal:=.agg [.str [66],.str [],.bool false,.lsl []]
noncomputable def p9:EVal:=.agg [.str [88],.str [88],.bool true,.lsl [[.int .i64 2,.int .i64 4,.bool false,.str [98],.lsl []],[.int .i64 0,.int .i64 2,.bool true,.str [103],.lsl [[.int .i64 8],[.int .i64 4]]]]]
noncomputable def p10:EVal:=.agg [.str [88],.str [88],.bool false,.lsl [[.int .i64 2,.int .i64 4,.bool false,.str [98],.lsl []],[.int .i64 0,.int .i64 2,.bool true,.str [103],.lsl [[.int .i64 8],[.int .i64 4]]]]]
noncomputable def q0:EVal:=.agg [.int .i64 1,.int .i64 0,.int .i64 0,.int .i64 0,.int .i64 0,.int .i64 1,.int .i64 0,.int .i64 0,.int .i64 2,.int .i64 1,.int .i64 0,.int .i64 0,.bool false]
noncomputable def q1:EVal:=.agg [.int .i64 1,.int .i64 0,.int .i64 0,.int .i64 0,.int .i64 1,.int .i64 1,.int .i64 0,.int .i64 0,.int .i64 2,.int .i64 1,.int .i64 0,.int .i64 0,.bool false]
noncomputable def q2:EVal:=.agg [.int .i64 1,.int .i64 0,.int .i64 2,.int .i64 0,.int .i64 0,.int .i64 0,.int .i64 0,.int .i64 0,.int .i64 3,.int .i64 1,.int .i64 0,.int .i64 0,.bool false]
noncomputable def q3:EVal:=.agg [.int .i64 1,.int .i64 0,.int .i64 0,.int .i64 0,.int .i64 0,.int .i64 3,.int .i64 2,.int .i64 1,.int .i64 4,.int .i64 1,.int .i64 0,.int .i64 0,.bool false]
noncomputable def q4:EVal:=.agg [.int .i64 4,.int .i64 0,.int .i64 0,.int .i64 0,.int .i64 0,.int .i64 0,.int .i64 0,.int .i64 0,.int .i64 5,.int .i64 3,.int .i64 0,.int .i64 1,.bool false]
noncomputable def q5:EVal:=.agg [.int .i64 3,.int .i64 1,.int .i64 2,.int .i64 0,.int .i64 0,.int .i64 2,.int .i64 0,.int .i64 0,.int .i64 5,.int .i64 3,.int .i64 0,.int .i64 2,.bool false]
noncomputable def q6:EVal:=.agg [.int .i64 9,.int .i64 1,.int .i64 0,.int .i64 0,.int .i64 0,.int .i64 0,.int .i64 0,.int .i64 0,.int .i64 5,.int .i64 3,.int .i64 3,.int .i64 4,.bool true]
noncomputable def q7:EVal:=.agg [.int .i64 0,.int .i64 0,.int .i64 0,.int .i64 0,.int .i64 0,.int .i64 0,.int .i64 0,.int .i64 0,.int .i64 0,.int .i64 0,.int .i64 0,.int .i64 0,.bool false]
noncomputable def q8:EVal:=.agg [.int .i64 1,.int .i64 0,.int .i64 0,.int .i64 0,.int .i64 0,.int .i64 0,.int .i64 0,.int .i64 0,.int .i64 1,.int .i64 1,.int .i64 0,.int .i64 0,.bool false]
noncomputable def q9:EVal:=.str [66,88,32,88,32,48,45,49,98]
noncomputable def q10:EVal:=.str [88,32,88,32,49,120,50,102,58,54,52,32,48,120,49,102,58,52,51]
noncomputable def q11:EVal:=.str [66,32,87,32,50,45,51,97,32,49,45,50,97,32,48,45,49,97]
noncomputable def q12:EVal:=.str [83,32,75,32,51,45,52,116,32,48,120,49,107,58,50]
noncomputable def q13:EVal:=.str [83,32,75,32,51,45,52,112,32,48,45,49,112]
noncomputable def q14:EVal:=.str [88,32,88,32,51,45,52,98,32,48,45,49,98]
noncomputable def q15:EVal:=.str [66,32,87,32,50,45,51,97,32,48,45,49,97]
noncomputable def q16:EVal:=.str [88,32,88,32,108,97,116,101,32,50,45,52,98,32,48,120,50,103,58,56,52]
noncomputable def q17:EVal:=.str [88,32,88,32,50,45,52,98,32,48,120,50,103,58,56,52]
noncomputable def q18:EVal:=.str [49,116,32,48,32,48,45,48,32,48,48,48,32,49,49,32,48,58,48,32,111,110]
noncomputable def q19:EVal:=.str [49,116,32,48,32,48,45,48,32,49,48,48,32,50,49,32,48,58,48,32,111,110]
noncomputable def q20:EVal:=.str [49,116,32,48,32,48,45,49,32,49,48,48,32,50,49,32,48,58,48,32,111,110]
noncomputable def q21:EVal:=.str [49,116,32,48,32,51,45,48,32,50,49,48,32,51,49,32,48,58,48,32,111,110]
noncomputable def q22:EVal:=.str [51,98,32,50,32,49,45,50,32,48,48,49,32,53,50,32,48,58,49,32,111,110]
noncomputable def q23:EVal:=.str [57,98,32,49,32,48,45,48,32,48,48,49,32,53,50,32,51,58,51,32,111,110]
noncomputable def q24:EVal:=.str [49,116,32,49,32,48,45,48,32,48,49,48,32,50,49,32,48,58,48,32,111,110]
noncomputable def q25:EVal:=.str [49,116,32,50,32,48,45,48,32,48,49,48,32,50,49,32,48,58,48,32,111,110]
noncomputable def q26:EVal:=.str [49,116,32,50,32,48,45,48,32,48,48,48,32,51,49,32,48,58,48,32,111,110]
noncomputable def q27:EVal:=.str [49,116,32,48,32,48,45,48,32,51,50,49,32,52,49,32,48,58,48,32,111,110]
noncomputable def q28:EVal:=.str [52,116,32,48,32,48,45,48,32,48,48,48,32,53,51,32,48,58,49,32,111,110]
noncomputable def q29:EVal:=.str [51,98,32,50,32,48,45,48,32,50,48,48,32,53,51,32,48,58,50,32,111,110]
noncomputable def q30:EVal:=.str [57,98,32,48,32,48,45,48,32,48,48,48,32,53,51,32,51,58,52,32,111,118,101,114]
end AW
end Go.Ev
namespace Go.Ev
open Go.RowKit Go.Proofs
set_option maxRecDepth 100000
set_option maxHeartbeats 4000000
theorem aw80_0:aF Tryz.prog (AW.p0) (run Tryz.prog gT (aN []) 3000 (.call 22 [AW.q9] H.start0))=true:=by kernel_rfl
theorem aw80_1:aF Tryz.prog (AW.p1) (run Tryz.prog gT (aN []) 3000 (.call 22 [.str [67,32,45]] H.start0))=true:=by kernel_rfl
theorem aw80_2:aF Tryz.prog (AW.p2) (run Tryz.prog gT (aN []) 3000 (.call 22 [AW.q10] H.start0))=true:=by kernel_rfl
theorem aw80_3:aF Tryz.prog (AW.p3) (run Tryz.prog gT (aN []) 3000 (.call 22 [AW.q11] H.start0))=true:=by kernel_rfl
theorem aw80_4:aF Tryz.prog (AW.p4) (run Tryz.prog gT (aN []) 3000 (.call 22 [AW.q12] H.start0))=true:=by kernel_rfl
theorem aw80_5:aF Tryz.prog (AW.p5) (run Tryz.prog gT (aN []) 3000 (.call 22 [AW.q13] H.start0))=true:=by kernel_rfl
theorem aw80_6:aF Tryz.prog (AW.p6) (run Tryz.prog gT (aN []) 3000 (.call 22 [AW.q14] H.start0))=true:=by kernel_rfl
theorem aw80_7:aF Tryz.prog (AW.p7) (run Tryz.prog gT (aN []) 3000 (.call 22 [AW.q15] H.start0))=true:=by kernel_rfl
theorem aw80_8:aF Tryz.prog (AW.p8) (run Tryz.prog gT (aN []) 3000 (.call 22 [.str [66,32,45]] H.start0))=true:=by kernel_rfl
theorem aw80_9:aF Tryz.prog (AW.p9) (run Tryz.prog gT (aN []) 3000 (.call 22 [AW.q16] H.start0))=true:=by kernel_rfl
theorem aw80_10:aF Tryz.prog (AW.p10) (run Tryz.prog gT (aN []) 3000 (.call 22 [AW.q17] H.start0))=true:=by kernel_rfl
end Go.Ev
namespace Go.Ev
open Go.RowKit Go.Proofs
set_option maxRecDepth 100000
set_option maxHeartbeats 4000000
theorem aw54_0:aF Tryz.prog (.tup [AW.q18,.int .i64 0]) (run Tryz.prog gT (aN []) 3000 (.call 15 [AW.q8] H.start0))=true:=by kernel_rfl
theorem aw54_1:aF Tryz.prog (.tup [AW.q19,.int .i64 0]) (run Tryz.prog gT (aN []) 3000 (.call 15 [AW.q0] H.start0))=true:=by kernel_rfl
theorem aw54_2:aF Tryz.prog (.tup [AW.q20,.int .i64 0]) (run Tryz.prog gT (aN []) 3000 (.call 15 [AW.q1] H.start0))=true:=by kernel_rfl
theorem aw54_3:aF Tryz.prog (.tup [AW.q26,.int .i64 0]) (run Tryz.prog gT (aN []) 3000 (.call 15 [AW.q2] H.start0))=true:=by kernel_rfl
theorem aw54_4:aF Tryz.prog (.tup [AW.q27,.int .i64 0]) (run Tryz.prog gT (aN []) 3000 (.call 15 [AW.q3] H.start0))=true:=by kernel_rfl
theorem aw54_5:aF Tryz.prog (.tup [AW.q28,.int .i64 0]) (run Tryz.prog gT (aN []) 3000 (.call 15 [AW.q4] H.start0))=true:=by kernel_rfl
theorem aw54_6:aF Tryz.prog (.tup [AW.q29,.int .i64 0]) (run Tryz.prog gT (aN []) 3000 (.call 15 [AW.q5] H.start0))=true:=by kernel_rfl
theorem aw54_7:aF Tryz.prog (.tup [AW.q30,.int .i64 0]) (run Tryz.prog gT (aN []) 3000 (.call 15 [AW.q6] H.start0))=true:=by kernel_rfl
end Go.Ev
namespace Go.Ev
open Go.RowKit Go.Proofs
set_option maxRecDepth 100000
set_option maxHeartbeats 4000000
theorem aw78_0:aF Tryz.prog (AW.s0) (run Tryz.prog gT (aN []) 3000 (.call 18 [AW.q18] H.start0))=true:=by kernel_rfl
theorem aw78_1:aF Tryz.prog (AW.s1) (run Tryz.prog gT (aN []) 3000 (.call 18 [AW.q19] H.start0))=true:=by kernel_rfl
theorem aw78_2:aF Tryz.prog (AW.s2) (run Tryz.prog gT (aN []) 3000 (.call 18 [AW.q20] H.start0))=true:=by kernel_rfl
theorem aw78_3:aF Tryz.prog (AW.s3) (run Tryz.prog gT (aN []) 3000 (.call 18 [AW.q21] H.start0))=true:=by kernel_rfl
theorem aw78_4:aF Tryz.prog (AW.s4) (run Tryz.prog gT (aN []) 3000 (.call 18 [AW.q22] H.start0))=true:=by kernel_rfl
theorem aw78_5:aF Tryz.prog (AW.s5) (run Tryz.prog gT (aN []) 3000 (.call 18 [AW.q23] H.start0))=true:=by kernel_rfl
theorem aw78_6:aF Tryz.prog (AW.s6) (run Tryz.prog gT (aN []) 3000 (.call 18 [AW.q24] H.start0))=true:=by kernel_rfl
theorem aw78_7:aF Tryz.prog (AW.s7) (run Tryz.prog gT (aN []) 3000 (.call 18 [AW.q25] H.start0))=true:=by kernel_rfl
end Go.Ev
namespace Go.Ev
open Go.RowKit Go.Proofs
set_option maxRecDepth 100000
set_option maxHeartbeats 4000000
theorem aw34_0:aF Tryz.prog (.tup [.lsl [],.int .i64 0]) (run Tryz.prog gT (aN []) 3000 (.call 21 [AW.s4,AW.p4] H.start0))=true:=by kernel_rfl
theorem aw34_1:aF Tryz.prog (.tup [.lsl [[.int .i64 1]],.int .i64 0]) (run Tryz.prog gT (aN []) 3000 (.call 21 [AW.s7,AW.p10] H.start0))=true:=by kernel_rfl
theorem aw34_2:aF Tryz.prog (.tup [.lsl [],.int .i64 0]) (run Tryz.prog gT (aN []) 3000 (.call 21 [AW.s7,AW.p9] H.start0))=true:=by kernel_rfl
theorem aw35_0:aF Tryz.prog (.tup [.lsl [[.int .i64 1]],.int .i64 0]) (run Tryz.prog gT (aN []) 3000 (.call 23 [AW.s4,AW.p4] H.start0))=true:=by kernel_rfl
theorem aw36_0:aF Tryz.prog (.tup [.int .i64 1,.int .i64 0]) (run Tryz.prog gT (aN []) 3000 (.call 24 [AW.s4,AW.p4] H.start0))=true:=by kernel_rfl
end Go.Ev
namespace Go.Ev
open Go.RowKit Go.Proofs
set_option maxRecDepth 100000
set_option maxHeartbeats 4000000
theorem aw32_4:aF Tryz.prog (.tup [AW.q4,.int .i64 0,.int .i64 0]) (run Tryz.prog gT (aN []) 3000 (.call 42 [AW.s4,AW.p4] H.start0))=true:=by kernel_rfl
theorem aw32_5:aF Tryz.prog (.tup [AW.q5,.int .i64 0,.int .i64 0]) (run Tryz.prog gT (aN []) 3000 (.call 42 [AW.s4,AW.p5] H.start0))=true:=by kernel_rfl
theorem aw32_6:aF Tryz.prog (.tup [AW.q6,.int .i64 0,.int .i64 0]) (run Tryz.prog gT (aN []) 3000 (.call 42 [AW.s5,AW.p6] H.start0))=true:=by kernel_rfl
theorem aw32_7:aF Tryz.prog (.tup [AW.q7,.int .i64 10,.int .i64 18]) (run Tryz.prog gT (aN []) 3000 (.call 42 [AW.s3,AW.p7] H.start0))=true:=by kernel_rfl
end Go.Ev
namespace Go.Ev
open Go.RowKit Go.Proofs
set_option maxRecDepth 100000
set_option maxHeartbeats 4000000
theorem aw32_0:aF Tryz.prog (.tup [AW.q0,.int .i64 0,.int .i64 0]) (run Tryz.prog gT (aN []) 3000 (.call 42 [AW.s0,AW.p0] H.start0))=true:=by kernel_rfl
theorem aw32_1:aF Tryz.prog (.tup [AW.q1,.int .i64 0,.int .i64 0]) (run Tryz.prog gT (aN []) 3000 (.call 42 [AW.s1,AW.p1] H.start0))=true:=by kernel_rfl
theorem aw32_2:aF Tryz.prog (.tup [AW.q2,.int .i64 0,.int .i64 0]) (run Tryz.prog gT (aN []) 3000 (.call 42 [AW.s2,AW.p2] H.start0))=true:=by kernel_rfl
theorem aw32_3:aF Tryz.prog (.tup [AW.q3,.int .i64 0,.int .i64 0]) (run Tryz.prog gT (aN []) 3000 (.call 42 [AW.s3,AW.p3] H.start0))=true:=by kernel_rfl
end Go.Ev
namespace Go.Ev
open Go.RowKit Go.Proofs
set_option maxRecDepth 100000
set_option maxHeartbeats 4000000
theorem aw32_8:aF Tryz.prog (.tup [AW.q7,.int .i64 2,.int .i64 18]) (run Tryz.prog gT (aN []) 3000 (.call 42 [AW.s3,AW.p8] H.start0))=true:=by kernel_rfl
theorem aw32_9:aF Tryz.prog (.tup [AW.q7,.int .i64 13,.int .i64 18]) (run Tryz.prog gT (aN []) 3000 (.call 42 [AW.s6,AW.p9] H.start0))=true:=by kernel_rfl
end Go.Ev
namespace Go.Ev
open Go.RowKit Go.Proofs
set_option maxRecDepth 100000
set_option maxHeartbeats 4000000
noncomputable def A78:List EVal→Option EVal:=tbl [([AW.q18],AW.s0),([AW.q19],AW.s1),([AW.q20],AW.s2),([AW.q21],AW.s3),([AW.q22],AW.s4),([AW.q23],AW.s5),([AW.q24],AW.s6),([AW.q25],AW.s7)]
theorem an78:FnT 18 A78:=Fn.tbl0 mixed noNG [] (fun _ h=>by cases h) (n:=3000) (by simp only [List.forall_mem_cons];exact⟨aw78_0,aw78_1,aw78_2,aw78_3,aw78_4,aw78_5,aw78_6,aw78_7,fun _ h=>by cases h⟩)
noncomputable def A80:List EVal→Option EVal:=tbl [([AW.q9],AW.p0),([.str [67,32,45]],AW.p1),([AW.q10],AW.p2),([AW.q11],AW.p3),([AW.q12],AW.p4),([AW.q13],AW.p5),([AW.q14],AW.p6),([AW.q15],AW.p7),([.str [66,32,45]],AW.p8),([AW.q16],AW.p9),([AW.q17],AW.p10)]
theorem an80:FnT 22 A80:=Fn.tbl0 mixed noNG [] (fun _ h=>by cases h) (n:=3000) (by simp only [List.forall_mem_cons];exact⟨aw80_0,aw80_1,aw80_2,aw80_3,aw80_4,aw80_5,aw80_6,aw80_7,aw80_8,aw80_9,aw80_10,fun _ h=>by cases h⟩)
noncomputable def A54:List EVal→Option EVal:=tbl [([AW.q8],.tup [AW.q18,.int .i64 0]),([AW.q0],.tup [AW.q19,.int .i64 0]),([AW.q1],.tup [AW.q20,.int .i64 0]),([AW.q2],.tup [AW.q26,.int .i64 0]),([AW.q3],.tup [AW.q27,.int .i64 0]),([AW.q4],.tup [AW.q28,.int .i64 0]),([AW.q5],.tup [AW.q29,.int .i64 0]),([AW.q6],.tup [AW.q30,.int .i64 0])]
theorem an54:FnT 15 A54:=Fn.tbl0 mixed noNG [] (fun _ h=>by cases h) (n:=3000) (by simp only [List.forall_mem_cons];exact⟨aw54_0,aw54_1,aw54_2,aw54_3,aw54_4,aw54_5,aw54_6,aw54_7,fun _ h=>by cases h⟩)
noncomputable def A32:List EVal→Option EVal:=tbl [([AW.s0,AW.p0],.tup [AW.q0,.int .i64 0,.int .i64 0]),([AW.s1,AW.p1],.tup [AW.q1,.int .i64 0,.int .i64 0]),([AW.s2,AW.p2],.tup [AW.q2,.int .i64 0,.int .i64 0]),([AW.s3,AW.p3],.tup [AW.q3,.int .i64 0,.int .i64 0]),([AW.s4,AW.p4],.tup [AW.q4,.int .i64 0,.int .i64 0]),([AW.s4,AW.p5],.tup [AW.q5,.int .i64 0,.int .i64 0]),([AW.s5,AW.p6],.tup [AW.q6,.int .i64 0,.int .i64 0]),([AW.s3,AW.p7],.tup [AW.q7,.int .i64 10,.int .i64 18]),([AW.s3,AW.p8],.tup [AW.q7,.int .i64 2,.int .i64 18]),([AW.s6,AW.p9],.tup [AW.q7,.int .i64 13,.int .i64 18])]
theorem an32:FnT 42 A32:=Fn.tbl0 mixed noNG [] (fun _ h=>by cases h) (n:=3000) (by simp only [List.forall_mem_cons];exact⟨aw32_0,aw32_1,aw32_2,aw32_3,aw32_4,aw32_5,aw32_6,aw32_7,aw32_8,aw32_9,fun _ h=>by cases h⟩)
noncomputable def A34:List EVal→Option EVal:=tbl [([AW.s4,AW.p4],.tup [.lsl [],.int .i64 0]),([AW.s7,AW.p10],.tup [.lsl [[.int .i64 1]],.int .i64 0]),([AW.s7,AW.p9],.tup [.lsl [],.int .i64 0])]
theorem an34:FnT 21 A34:=Fn.tbl0 mixed noNG [] (fun _ h=>by cases h) (n:=3000) (by simp only [List.forall_mem_cons];exact⟨aw34_0,aw34_1,aw34_2,fun _ h=>by cases h⟩)
noncomputable def A35:List EVal→Option EVal:=tbl [([AW.s4,AW.p4],.tup [.lsl [[.int .i64 1]],.int .i64 0])]
theorem an35:FnT 23 A35:=Fn.tbl0 mixed noNG [] (fun _ h=>by cases h) (n:=3000) (by simp only [List.forall_mem_cons];exact⟨aw35_0,fun _ h=>by cases h⟩)
noncomputable def A36:List EVal→Option EVal:=tbl [([AW.s4,AW.p4],.tup [.int .i64 1,.int .i64 0])]
theorem an36:FnT 24 A36:=Fn.tbl0 mixed noNG [] (fun _ h=>by cases h) (n:=3000) (by simp only [List.forall_mem_cons];exact⟨aw36_0,fun _ h=>by cases h⟩)
theorem aw77_0:aF Tryz.prog (.bool true) (run Tryz.prog gT (aN [(18,A78),(22,A80),(15,A54),(42,A32)]) 3000 (.call 17 [AW.q18,AW.q9,AW.q19] H.start0))=true:=by kernel_rfl
theorem aw77_1:aF Tryz.prog (.bool true) (run Tryz.prog gT (aN [(18,A78),(22,A80),(15,A54),(42,A32)]) 3000 (.call 17 [AW.q19,.str [67,32,45],AW.q20] H.start0))=true:=by kernel_rfl
theorem aw77_2:aF Tryz.prog (.bool true) (run Tryz.prog gT (aN [(18,A78),(22,A80),(15,A54),(42,A32)]) 3000 (.call 17 [AW.q20,AW.q10,AW.q26] H.start0))=true:=by kernel_rfl
theorem aw77_3:aF Tryz.prog (.bool true) (run Tryz.prog gT (aN [(18,A78),(22,A80),(15,A54),(42,A32)]) 3000 (.call 17 [AW.q21,AW.q11,AW.q27] H.start0))=true:=by kernel_rfl
theorem aw77_4:aF Tryz.prog (.bool true) (run Tryz.prog gT (aN [(18,A78),(22,A80),(15,A54),(42,A32)]) 3000 (.call 17 [AW.q22,AW.q12,AW.q28] H.start0))=true:=by kernel_rfl
theorem aw77_5:aF Tryz.prog (.bool true) (run Tryz.prog gT (aN [(18,A78),(22,A80),(15,A54),(42,A32)]) 3000 (.call 17 [AW.q22,AW.q13,AW.q29] H.start0))=true:=by kernel_rfl
theorem aw77_6:aF Tryz.prog (.bool true) (run Tryz.prog gT (aN [(18,A78),(22,A80),(15,A54),(42,A32)]) 3000 (.call 17 [AW.q23,AW.q14,AW.q30] H.start0))=true:=by kernel_rfl
noncomputable def A77:List EVal→Option EVal:=tbl [([AW.q18,AW.q9,AW.q19],.bool true),([AW.q19,.str [67,32,45],AW.q20],.bool true),([AW.q20,AW.q10,AW.q26],.bool true),([AW.q21,AW.q11,AW.q27],.bool true),([AW.q22,AW.q12,AW.q28],.bool true),([AW.q22,AW.q13,AW.q29],.bool true),([AW.q23,AW.q14,AW.q30],.bool true)]
theorem an77:FnT 17 A77:=Fn.tbl0 mixed noNG [(18,A78),(22,A80),(15,A54),(42,A32)] (by simp only [List.forall_mem_cons];exact⟨an78,an80,an54,an32,fun _ h=>by cases h⟩) (n:=3000) (by simp only [List.forall_mem_cons];exact⟨aw77_0,aw77_1,aw77_2,aw77_3,aw77_4,aw77_5,aw77_6,fun _ h=>by cases h⟩)
theorem aw79_0:aF Tryz.prog (.bool true) (run Tryz.prog gT (aN [(18,A78),(22,A80),(15,A54),(42,A32)]) 3000 (.call 20 [AW.q21,AW.q15,.int .i64 10] H.start0))=true:=by kernel_rfl
theorem aw79_1:aF Tryz.prog (.bool true) (run Tryz.prog gT (aN [(18,A78),(22,A80),(15,A54),(42,A32)]) 3000 (.call 20 [AW.q21,.str [66,32,45],.int .i64 2] H.start0))=true:=by kernel_rfl
theorem aw79_2:aF Tryz.prog (.bool true) (run Tryz.prog gT (aN [(18,A78),(22,A80),(15,A54),(42,A32)]) 3000 (.call 20 [AW.q24,AW.q16,.int .i64 13] H.start0))=true:=by kernel_rfl
noncomputable def A79:List EVal→Option EVal:=tbl [([AW.q21,AW.q15,.int .i64 10],.bool true),([AW.q21,.str [66,32,45],.int .i64 2],.bool true),([AW.q24,AW.q16,.int .i64 13],.bool true)]
theorem an79:FnT 20 A79:=Fn.tbl0 mixed noNG [(18,A78),(22,A80),(15,A54),(42,A32)] (by simp only [List.forall_mem_cons];exact⟨an78,an80,an54,an32,fun _ h=>by cases h⟩) (n:=3000) (by simp only [List.forall_mem_cons];exact⟨aw79_0,aw79_1,aw79_2,fun _ h=>by cases h⟩)
end Go.Ev
namespace Go.Ev
open Go.RowKit Go.Proofs
set_option maxRecDepth 100000
set_option maxHeartbeats 4000000
set_option linter.unusedSimpArgs false
noncomputable section
theorem m172 (h:List Nat) (o:Bool):Sf172 (h,o,())=some (aq3 o h):=by
 show Ef172 h o=_;unfold Ef172 Tf172;match h with
 | []=>rfl| [x]=>have e1:=m83 [102,103,99,100,107,110,121] (x:Int) (by simp);have e2:=m83 [98,97,115,112,107,116,111] (x:Int) (by simp);simp only [TS,List.getD_cons_zero,e1,e2,obind_some];cases o<;>rfl
 | a::b::l=>have:((((a::b::l).length:Nat):Int)==1)=false:=beq_eq_false_iff_ne.2 (by simp;omega);simp only [TS,this];rfl
theorem m173 (m:Mv) (c:Nat) (hc:m.h=[c]) (hf:0≤m.f∧m.f≤3):Sf173 (m,())=some (fitsB m.f m.t m.o c):=by
 show Ef173 m=_;unfold Ef173 Tf173 fitsB;have e1:=m83 [115,107] (c:Int) (by simp);have w1:w6 (m.f+1)=m.f+1:=by unfold w6;rw [bD]<;>omega
 simp only [TS,hc,List.getD_cons_zero,e1,obind_some,w1,List.cons.injEq,and_true];cases m.o with
 | false=>
   simp only [Bool.not_false,cond_true,if_pos,decide_eq_true_eq];cases decide (m.f<m.t)with
   | false=>rfl| true=>cases decide (0<m.f)<;>rfl
 | true=>
   simp only [Bool.not_true,cond_false,Bool.true_eq_false,if_false];by_cases h1:c=100;· simp only [h1,decide_true,cond_true,if_true];cases decide (0<m.f)<;>rfl
   simp only [h1,decide_false,cond_false,if_false];by_cases h2:c=103;· simp only [h2,decide_true,cond_true,if_true]
   simp only [h2,decide_false,cond_false,if_false];by_cases h3:c=110
   · simp only [h3,decide_true,cond_true,if_true];cases decide (m.f<m.t)with
     | false=>rfl| true=>cases decide (0<m.f)<;>rfl
   simp only [h3,decide_false,cond_false,if_false];by_cases h4:c=102;· simp only [h4,decide_true,cond_true,if_true]
   simp only [h4,decide_false,cond_false,if_false];cases m.f==0<;>rfl
theorem rg_or (n lo hi:Int):dV n lo hi=0∨dV n lo hi=3:=by unfold dV;split<;>simp
theorem rg_z {n lo hi:Int}(h:dV n lo hi=0):lo≤n∧n≤hi:=by
 unfold dV at h;split at h;· cases h
 · omega
theorem m116 (m:Mv):Sf116 (m,())=some (mvE m):=by
 show Ef116 m=_;unfold Ef116 Tf116;simp only [TS,m64 m.f 0 3 (by omega),m64 m.t 1 4 (by omega),obind_some,m65 [_,_] (by simp),m172,m174];unfold mvE;by_cases h1:dV m.f 0 3=0;rotate_left;· have h3:=(rg_or m.f 0 3).resolve_left h1;simp [ajp,h3,eS]
 by_cases h2:dV m.t 1 4=0;rotate_left;· have h3:=(rg_or m.t 1 4).resolve_left h2;simp [ajp,h1,h3,eS]
 have hf:=rg_z h1;have ht:=rg_z h2;rw [avJ hf ht,h1,h2];simp only [eS,ne_eq,not_true,if_false,show((0:Int)==0)=true from rfl,Bool.not_true,cond_false];unfold wayR;cases hw:aq3 m.o m.h with
 | false=>rfl| true=>
   obtain⟨c,hc⟩:∃c,m.h=[c]:=by
    match hh:m.h,hw with
    | [c],_=>exact⟨c,rfl⟩
   rw [m173 m c hc hf,hc];simp only [Bool.not_true,cond_false,obind_some,if_true];cases fitsB m.f m.t m.o c<;>rfl
theorem bxt {l:List Mv}{k:Nat}{m y:Mv}(hy:l[k]? = some y):((kR l (k+1)).any fun q=>decide (q≤m.f))=decide (y.f≤m.f):=by rw [tR,hy];rfl
theorem mvs_j (s:List Mv) (hl:s.length≤4):∀j n k,k+j=s.length→Tr.lp (ajL s) (n+j+1) (.k8 (k:Int))=some (azI (kR s k) (s.drop k)):=by
 intro j;induction j with
 | zero=>intro n k hk;rw [Tr.lp_s];simp only [ajL,TS,aqi (show ¬k<s.length by omega),cond_false,List.drop_eq_nil_of_le (show s.length≤k by omega)];unfold azI;rfl| succ j ih=>
   intro n k hk;have hlt:k<s.length:=by omega
   obtain⟨x,hx⟩:=oI hlt;have hn:=ih n (k+1) (by omega);rw [Tr.lp_s,aqW hx];simp only [ajL,TS,aqh hlt,rL hlt,cond_true,Int.toNat_natCast,aV hx,w6s (show k<9223372036854775807 by omega),m216,obind_some];rw [show n+(j+1)=n+j+1 by omega,hn];by_cases he:mvE x=0;rotate_left;· have:(mvE x==0)=false:=beq_eq_false_iff_ne.2 he;simp [he,this]
   simp only [he,show((0:Int)==0)=true from rfl,Bool.not_true,cond_false,ne_eq,not_true,if_false];cases k with
   | zero=>simp [kR]| succ k=>
     obtain⟨y,hy⟩:=oI (show k<s.length by omega);have c1:decide ((0:Int)<((k+1:Nat):Int))=true:=by rw [decide_eq_true_eq];omega
     simp only [c1,cond_true,w6p (show k<9223372036854775807 by omega),rL (show k<s.length by omega),Int.toNat_natCast,aV hy,bxt hy];cases decide (y.f≤x.f)<;>rfl
theorem m195 (s:List Mv):Sf195 (s,())=some (aB s):=by
 show Ef195 (s.length+64) s=_;unfold Ef195 Tf195 aB;simp only [TS];by_cases h:4<s.length
 · have c1:decide (4<((s.length:Nat):Int))=true:=by rw [decide_eq_true_eq];omega
   rw [c1,cond_true,if_pos h]
 · have c1:decide (4<((s.length:Nat):Int))=false:=by rw [decide_eq_false_iff_not];omega
   have:=mvs_j s (by omega) s.length 63 0 (by omega);rw [List.drop_zero,nc0]at this;rw [c1,cond_false,if_neg h,fu];exact this
theorem mvs2_j (p:Pl) (hl:p.m.length≤4):∀j n k,k+j=p.m.length→Tr.lp (avf p) (n+j+1) (.k18 (k:Int))=some (azI (kR p.m k) (p.m.drop k)):=by
 intro j;induction j with
 | zero=>intro n k hk;rw [Tr.lp_s];simp only [avf,TS,aqi (show ¬k<p.m.length by omega),cond_false,List.drop_eq_nil_of_le (show p.m.length≤k by omega)];unfold azI;rfl| succ j ih=>
   intro n k hk;have hlt:k<p.m.length:=by omega
   obtain⟨x,hx⟩:=oI hlt;have hn:=ih n (k+1) (by omega);rw [Tr.lp_s,aqW hx];simp only [avf,TS,aqh hlt,rL hlt,cond_true,Int.toNat_natCast,aV hx,w6s (show k<9223372036854775807 by omega),m116,obind_some];rw [show n+(j+1)=n+j+1 by omega,hn];by_cases he:mvE x=0;rotate_left;· have:(mvE x==0)=false:=beq_eq_false_iff_ne.2 he;simp [he,this]
   simp only [he,show((0:Int)==0)=true from rfl,Bool.not_true,cond_false,ne_eq,not_true,if_false];cases k with
   | zero=>simp [kR]| succ k=>
     obtain⟨y,hy⟩:=oI (show k<p.m.length by omega);have c1:decide ((0:Int)<((k+1:Nat):Int))=true:=by rw [decide_eq_true_eq];omega
     simp only [c1,cond_true,w6p (show k<9223372036854775807 by omega),rL (show k<p.m.length by omega),Int.toNat_natCast,aV hy,bxt hy];cases decide (y.f≤x.f)<;>rfl
theorem m142 (p:Pl) (h1:bB p.p=true) (h2:bB p.e=true):Sf142 (p,())=some (playE p.p p.e p.m):=by show Ef142 p=_;unfold Ef142 Tf142 playE;simp only [TS,m193 p.p h1,m194 p.e h2,m195,obind_some,m192 [_,_,_] (by simp)]
theorem m58 (p:Pl):Sf58 (p,())=some (playE p.p p.e p.m):=by
 show Ef58 (p.m.length+64) p=_;unfold Ef58 Tf58 playE;simp only [TS,m114,m115,obind_some,eS];by_cases h1:nU p.p=0;rotate_left;· have:(nU p.p==0)=false:=beq_eq_false_iff_ne.2 h1;simp [h1,this]
 simp only [h1,show((0:Int)==0)=true from rfl,Bool.not_true,cond_false,ne_eq,not_true,if_false];unfold tY aB;cases(decide (p.e=[])||isEv p.e)with
 | false=>rfl| true=>
   simp only [Bool.not_true,cond_false,if_true,not_true,if_false];by_cases h:4<p.m.length
   · have c1:decide (4<((p.m.length:Nat):Int))=true:=by rw [decide_eq_true_eq];omega
     rw [c1,cond_true,if_pos h];rfl
   · have c1:decide (4<((p.m.length:Nat):Int))=false:=by rw [decide_eq_false_iff_not];omega
     have:=mvs2_j p (by omega) p.m.length 63 0 (by omega);rw [List.drop_zero,nc0,show kR p.m 0=none from rfl]at this;rw [c1,cond_false,if_neg h,fu];refine(show Tr.lp (avf p) _ _=_ from this).trans ?_;split<;>simp_all
end
end Go.Ev
namespace Go.Ev
open Go.RowKit Go.Proofs
set_option maxRecDepth 100000
set_option maxHeartbeats 4000000
set_option linter.unusedSimpArgs false
noncomputable section
theorem m118 (s t u:Int):jV (s,t,u,())=some (inB s t u):=by show Ef118 s t u=_;unfold Ef118 Tf118 inB;simp only [TS];cases decide (t≤s)<;>rfl
theorem m69 (s:St):Sf69 (s,())=some (akB s):=by show Ef69 s=_;unfold Ef69 Tf69 akB;simp only [TS,m118,obind_some];cases inB s.inn 1 30<;>rfl
theorem m70 (s:St):Sf70 (s,())=some (pG s):=by show Ef70 s=_;unfold Ef70 Tf70 pG;simp only [TS,m118,obind_some];cases inB s.half 0 1<;>rfl
theorem y1:w6 (0+1)=1:=by decide
theorem y2:w6 (1+1)=2:=by decide
theorem y3:w6 (2+1)=3:=by decide
theorem y4:w6 (3+1)=4:=by decide
theorem y5:w6 (4+1)=5:=by decide
theorem z03:decide ((0:Int)<3)=true:=by decide
theorem z13:decide ((1:Int)<3)=true:=by decide
theorem z23:decide ((2:Int)<3)=true:=by decide
theorem z33:decide ((3:Int)<3)=false:=by decide
theorem z02:decide ((0:Int)<2)=true:=by decide
theorem z12:decide ((1:Int)<2)=true:=by decide
theorem z22:decide ((2:Int)<2)=false:=by decide
theorem v00:((0:Int)==0)=true:=by decide
theorem v10:((1:Int)==0)=false:=by decide
theorem v11:((1:Int)==1)=true:=by decide
theorem v20:((2:Int)==0)=false:=by decide
theorem v21:((2:Int)==1)=false:=by decide
theorem v22:((2:Int)==2)=true:=by decide
theorem num_j (s:St) (b:Bool) (n:Nat):Tr.lp (bjo s) (n+7) (.k6 b 0)=some (if(b&&inB s.b1 0 9&&inB s.b2 0 9&&inB s.b3 0 9&&inB s.n0 1 9&&inB s.c0 0 9999&&inB s.n1 1 9&&inB s.c1 0 9999)=true then 0 else 3):=by rw [show n+7=n+6+1 from rfl];simp only [Tr.lp_s,bjo,TS,m118,obind_some,y1,y2,y3,z03,z13,z23,z33,z02,z12,z22,v00,v10,v11,v20,v21,v22,cond_true,cond_false];cases b<;>cases inB s.b1 0 9<;>cases inB s.b2 0 9<;>cases inB s.b3 0 9<;>cases inB s.n0 1 9<;>cases inB s.c0 0 9999<;>cases inB s.n1 1 9<;>cases inB s.c1 0 9999<;>rfl
theorem m71 (s:St):Sf71 (s,())=some (avH s):=by show Ef71 64 s=_;unfold Ef71 Tf71 avH nuB baB cnB;simp only [TS,m118,obind_some];have h:=fun b=>num_j s b 57;simp only [show(57:Nat)+7=64 from rfl]at h;simp only [show ∀b,Ef71J s 64 (.k6 b 0)=_ from h];cases inB s.outs 0 2<;>cases inB s.balls 0 3<;>cases inB s.strikes 0 2<;>rfl
theorem m177 (s:St):bxS (s,())=some (leadB s):=rfl
theorem dnot (a b:Int):decide (a<b)=!decide (b≤a):=by
 by_cases h:a<b
 · have:¬b≤a:=by omega
   simp [h,this]
 · have:b≤a:=by omega
   simp [h,this]
theorem m176 (s:St):Sf176 (s,())=some (lastB s):=by
 show Ef176 s=_;unfold Ef176 Tf176 lastB;simp only [TS,m177,obind_some,eqN,dnot s.inn 9];cases decide (9≤s.inn)with
 | false=>rfl| true=>
   cases leadB s with
   | true=>rfl| false=>simp only [Bool.not_true,cond_false,Bool.true_and,Bool.false_or,ne_eq,decide_not];cases decide (s.half=1)<;>cases decide (s.c0=s.c1)<;>rfl
theorem m175 (s:St):Sf175 (s,())=some (clr s):=rfl
theorem m119 (s:St):Sf119 (s,())=some (overB s):=by
 show Ef119 s=_;unfold Ef119 Tf119;simp only [TS,m175,m176,obind_some,overB];have h:decide (s=clr s)=(decide (s.outs=0)&&decide (s.balls=0)&&decide (s.strikes=0)&&(decide (s.b1=0)&&decide (s.b2=0)&&decide (s.b3=0))):=by
  rw [Bool.eq_iff_iff];simp only [decide_eq_true_eq,Bool.and_eq_true];cases s;simp only [clr,St.mk.injEq];constructor;· rintro⟨_,_,rfl,rfl,rfl,rfl,rfl,rfl,_⟩;simp
  · rintro⟨⟨⟨rfl,rfl⟩,rfl⟩,⟨rfl,rfl⟩,rfl⟩;simp
 rw [h];simp only [clr,eqN,decide_true,beq_self_eq_true,Bool.true_and,Bool.and_true];cases decide (s.outs=0)<;>cases decide (s.balls=0)<;>cases decide (s.strikes=0)<;>cases decide (s.b1=0)<;>cases decide (s.b2=0)<;>cases decide (s.b3=0)<;>rfl
theorem m120 (s:St):bxU (s,())=some (decB s):=by show Ef120 s=_;unfold Ef120 Tf120 decB;simp only [TS,m177,obind_some,eqN];cases decide (9≤s.inn)<;>cases decide (s.half=1)<;>rfl
theorem m72 (s:St):Sf72 (s,())=some (endE s):=by show Ef72 s=_;unfold Ef72 Tf72 endE;simp only [TS,m119,m120,obind_some];cases s.over<;>cases overB s<;>cases decB s<;>rfl
theorem m146 (a:Int):Sf146 (a,())=some (behC a):=by show Ef146 a=_;unfold Ef146 Tf146;simp only [TS,w6,wbeh]
theorem sin_j {r b:Int}(h1:1≤r) (h2:r≤9) (h3:1≤b) (h4:b≤9):∀(j n k:Nat),((k+j:Nat):Int)=sinC r b→Tr.lp (ajO r b) (n+j+1) (.k6 ((r+k-1) % 9+1) (k:Int))=some (sinC r b):=by
 intro j;have hs:=sV r b;induction j with
 | zero=>
   intro n k hk;have hk:(k:Int)=sinC r b:=by simpa using hk
   have c1:decide ((k:Int)<9)=true:=by rw [decide_eq_true_eq];omega
   rw [Tr.lp_s];simp only [ajO,TS,c1,cond_true,m146,obind_some,bzG h1,at_eq h1 h2 h3 h4 hk,beq_self_eq_true];rw [hk]
 | succ j ih=>
   intro n k hk;have c1:decide ((k:Int)<9)=true:=by rw [decide_eq_true_eq];omega
   have hne:((r+k) % 9+1==b)=false:=beq_eq_false_iff_ne.2 (at_ne h1 h2 h3 h4 (by omega));rw [Tr.lp_s];simp only [ajO,TS,c1,cond_true,m146,obind_some,bzG h1,hne,cond_false,w6s (show k<9223372036854775807 by omega)];have:=ih n (k+1) (by rw [←hk];congr 1;omega);rw [show(r+((k+1:Nat):Int)-1)=r+k by omega]at this;rw [show n+(j+1)=n+j+1 by omega];exact this
theorem m121 {r b:Int}(h1:1≤r) (h2:r≤9) (h3:1≤b) (h4:b≤9):avk (r,b,())=some (sinC r b):=by show Ef121 64 r b=_;unfold Ef121 Tf121;simp only [TS];have hs:=sV r b;have:=sin_j h1 h2 h3 h4 (sinC r b).toNat (63-(sinC r b).toNat) 0 (by omega);rw [show 63-(sinC r b).toNat+(sinC r b).toNat+1=64 by omega,nc0,show(r+0-1) % 9+1=r by omega]at this;exact this
theorem m62 {s:St}(h:s.half=0∨s.half=1):Sf62 (s,())=some (batC s):=by show Ef62 s=_;unfold Ef62 Tf62 batC;simp only [TS];rcases h with h|h<;>simp [h]
end
end Go.Ev
namespace Go.Ev
open Go.RowKit Go.Proofs
set_option maxRecDepth 100000
set_option maxHeartbeats 4000000
set_option linter.unusedSimpArgs false
noncomputable section
def fitQ (s:St) (slot lo la:Int):Bool:=inB (sinC slot (batC s)) lo (lo+s.outs)&&!decide (sinC slot (batC s)≤la)
section
variable {s:St}(g:Good s)
include g
theorem w6lo {lo:Int}(h:0≤lo∧lo≤3):w6 (lo+s.outs)=lo+s.outs:=by have:=g.outs;unfold w6;rw [bD]<;>omega
theorem bat9:1≤batC s∧batC s≤9:=by have:=g.bat;rwa [azP]at this
theorem ord_s {k:Nat}(hk:k<3) {lo la:Int}(h:0≤lo∧lo≤3) (n:Nat):Tr.lp (oK s) (n+1) (.k6 (k:Int) lo la)=if bsC s k=0 then Tr.lp (oK s) n (.k6 ((k+1:Nat):Int) lo la)else if fitQ s (bsC s k) lo la=true then Tr.lp (oK s) n (.k6 ((k+1:Nat):Int) (lo+1) (sinC (bsC s k) (batC s)))else some 11:=by
 have hb:=bat9 g;have w1:=w6lo g h;have w2:w6 (lo+1)=lo+1:=by unfold w6;rw [bD]<;>omega
 rw [Tr.lp_s];have step:∀(slot:Int) (q:Int) (hs:0≤slot∧slot≤9),cond (slot==0) (Tr.lp (oK s) n (.k6 q lo la)) (aX (avk (slot,batC s,())) fun r=>aX (some (inB r lo (lo+s.outs))) fun b=>cond (!b) (some 11) (cond (decide (r≤la)) (some 11) (Tr.lp (oK s) n (.k6 q (lo+1) r))))=if slot=0 then Tr.lp (oK s) n (.k6 q lo la)else if fitQ s slot lo la=true then Tr.lp (oK s) n (.k6 q (lo+1) (sinC slot (batC s)))else some 11:=by
  intro slot q hs;by_cases h0:slot=0;· simp [h0]
  have h0':(slot==0)=false:=beq_eq_false_iff_ne.2 h0;rw [if_neg h0,h0',cond_false,m121 (by omega) (by omega) hb.1 hb.2,obind_some,obind_some];unfold fitQ;cases inB (sinC slot (batC s)) lo (lo+s.outs)<;>cases decide (sinC slot (batC s)≤la)<;>rfl
 have hc:k=0∨k=1∨k=2:=by omega
 rcases hc with rfl|rfl|rfl;· rw [←step (bsC s 0) _ g.b1];simp only [oK,TS,m62 g.half,m118,w1,w2,obind_some,show(((0:Nat):Int))=0 from rfl,z03,v00,cond_true,y1];rfl
 · rw [←step (bsC s 1) _ g.b2];simp only [oK,TS,m62 g.half,m118,w1,w2,obind_some,show(((1:Nat):Int))=1 from rfl,z13,v10,v11,cond_true,cond_false,y2];rfl
 · rw [←step (bsC s 2) _ g.b3];simp only [oK,TS,m62 g.half,m118,w1,w2,obind_some,show(((2:Nat):Int))=2 from rfl,z23,v20,v21,v22,cond_true,cond_false,y3];rfl
theorem ord_k (n:Nat):∀(j k:Nat),k+j=3→∀lo la,awp s k=some (lo,la)→0≤lo∧lo≤k→Tr.lp (oK s) (n+j+1) (.k6 (k:Int) lo la)=some (if bjK s=true then 0 else 11):=by
 intro j;induction j with
 | zero=>
   intro k hk lo la hf _;obtain rfl:k=3:=by omega
   have hb:bjK s=true:=by unfold bjK;rw [hf];rfl
   rw [Tr.lp_s,hb];simp only [oK,TS,show(((3:Nat):Int))=3 from rfl,z33,cond_false,if_true]
 | succ j ih=>
   intro k hk lo la hf hlo;rw [show n+(j+1)+1=(n+j+1)+1 by omega,ord_s g (by omega) (by omega)];have hs:awp s (k+1)=vG s (bsC s k) (some (lo,la)):=by rw [awp,hf]
   by_cases h0:bsC s k=0;· rw [if_pos h0];refine ih (k+1) (by omega) lo la ?_ (by omega);rw [hs];simp [vG,h0]
   rw [if_neg h0];by_cases hq:fitQ s (bsC s k) lo la=true;· rw [if_pos hq];refine ih (k+1) (by omega) _ _ ?_ (by omega);rw [hs];unfold vG;simp only [h0,if_false];exact if_pos hq
   · rw [if_neg hq];have:awp s (k+1)=none:=by rw [hs];unfold vG;simp only [h0,if_false];exact if_neg hq
     rw [bjJ this (by omega)];rfl
theorem m73:Sf73 (s,())=some (awF s):=by show Ef73 64 s=_;unfold Ef73 Tf73 awF;simp only [TS];exact ord_k g 60 3 0 rfl 0 (-1) rfl (by omega)
end
theorem good_in {s:St}(h1:inB s.half 0 1=true) (h2:nuB s 2=true):Good s:=by refine awh ?_;simp only [bjG,h2,Bool.and_true,azR,Bool.or_eq_true,decide_eq_true_eq];simp only [inB,Bool.and_eq_true,decide_eq_true_eq]at h1;omega
theorem m60 (s:St):dC (s,(((),()),((),()),((),()),((),()),((),()),()),())=some (stE s):=by
 show dD 64 s _=_;unfold dD dB stE akQ;simp only [TS,wK];have v30:((3:Int)==0)=false:=by decide
 have v31:((3:Int)==1)=false:=by decide
 have v32:((3:Int)==2)=false:=by decide
 have v33:((3:Int)==3)=true:=by decide
 have v40:((4:Int)==0)=false:=by decide
 have v41:((4:Int)==1)=false:=by decide
 have v42:((4:Int)==2)=false:=by decide
 have v43:((4:Int)==3)=false:=by decide
 have v44:((4:Int)==4)=true:=by decide
 have q0:decide ((0:Int)<5)=true:=by decide
 have q1:decide ((1:Int)<5)=true:=by decide
 have q2:decide ((2:Int)<5)=true:=by decide
 have q3:decide ((3:Int)<5)=true:=by decide
 have q4:decide ((4:Int)<5)=true:=by decide
 have q5:decide ((5:Int)<5)=false:=by decide
 have ne:∀ {x:Int},x≠0→(x==0)=false:=fun h=>beq_eq_false_iff_ne.2 h;show Tr.lp _ (63+1) _=_;rw [Tr.lp_s];simp only [aK,TS,m69,obind_some,q0,v00,cond_true,y1];by_cases h1:akB s=0;rotate_left;· simp [h1,ne h1]
 rw [if_pos h1,h1];simp only [v00,Bool.not_true,cond_false];rw [show(63:Nat)=62+1 from rfl,Tr.lp_s];simp only [aK,TS,m70,obind_some,q1,v10,v11,cond_true,cond_false,y2];by_cases h2:pG s=0;rotate_left;· simp [h2,ne h2]
 rw [if_pos h2,h2];simp only [v00,Bool.not_true,cond_false];rw [show(62:Nat)=61+1 from rfl,Tr.lp_s];simp only [aK,TS,m71,obind_some,q2,v20,v21,v22,cond_true,cond_false,y3];by_cases h3:avH s=0;rotate_left;· simp [h3,ne h3]
 rw [if_pos h3,h3];simp only [v00,Bool.not_true,cond_false];rw [show(61:Nat)=60+1 from rfl,Tr.lp_s];simp only [aK,TS,m72,obind_some,q3,v30,v31,v32,v33,cond_true,cond_false,y4];by_cases h4:endE s=0;rotate_left;· simp [h4,ne h4]
 rw [if_pos h4,h4];simp only [v00,Bool.not_true,cond_false];have h2':inB s.half 0 1=true:=by unfold pG at h2;split at h2<;>first|assumption|omega
 have h3':nuB s 2=true:=by unfold avH at h3;split at h3<;>first|assumption|omega
 rw [show(60:Nat)=59+1 from rfl,Tr.lp_s];simp only [aK,TS,m73 (good_in h2' h3'),obind_some,q4,v40,v41,v42,v43,v44,cond_true,cond_false,y5];by_cases h5:awF s=0;rotate_left;· simp [h5,ne h5]
 rw [if_pos h5,h5];simp only [v00,Bool.not_true,cond_false];rw [show(59:Nat)=58+1 from rfl,Tr.lp_s];simp only [aK,TS,q5,cond_false]
theorem m18 (s:St):Sf18 (s,())=some (stE s):=by show Ef18 s=_;unfold Ef18 Tf18;simp only [TS,m60,obind_some]
end
end Go.Ev
namespace Go.Ev
open Go.RowKit Go.Proofs
set_option maxRecDepth 100000
set_option maxHeartbeats 4000000
set_option linter.unusedSimpArgs false
noncomputable section
theorem fE {c0 c:Cnt}{d:Bool}{l:List Nat}{k x:Nat}(h:cnt c0 false (l.take k)=.inl (c,d)) (hx:l[k]? = some x) (hd:d=true∨isP x=false):cnt c0 false l=.inr k:=by
 obtain⟨hk,rfl⟩:=List.getElem?_eq_some_iff.1 hx;have e:=wV c0 false (l.take k) (l.drop k);rw [List.take_append_drop,h]at e;rw [List.drop_eq_getElem_cons hk]at e;have hb:(d||!isP l[k])=true:=by rcases hd with rfl|hd<;>simp [*]
 simp only [cnt,hb,if_true]at e;rw [e,List.length_take];congr 1;omega
theorem oF {c0 c:Cnt}{l:List Nat}{k x:Nat}(h:cnt c0 false (l.take k)=.inl (c,false)) (hx:l[k]? = some x) (hd:isP x=true):cnt c0 false (l.take (k+1))=.inl (stepC c x,doneC c x):=by rw [List.take_add_one,hx,wV,h];simp [cnt,hd]
set_option maxHeartbeats 8000000 in
abbrev CntR:=(Int×Int×Unit)×Int×Int×Unit
def bzC (r:(Cnt×Bool) ⊕ Nat):CntR:=match r with
 | .inl (c',_)=>((c'.1,c'.2,()),0,0,())| .inr k=>((0,0,()),(k:Nat),14,())
def aqr (b s:Int) (l:List Nat):CntR:=if(0≤b∧b≤3)∧(0≤s∧s≤2)then(if l.length≤24 then bzC (cnt (b,s) false l)else((0,0,()),0,5,()))else((0,0,()),0,3,())
theorem j29 (b s:Int) (l:List Nat) (hl:l.length≤24) (hin:(0≤b∧b≤3)∧(0≤s∧s≤2)):∀n k x2 x5 x3,k≤l.length→l.length<n+k→cnt (b,s) false (l.take k)=.inl ((x2,x5),x3) →
  Tr.lp (bjp b s l) n (.k14 x2 x3 (k:Int) x5)=some (bzC (cnt (b,s) false l)):=by
 intro n;induction n with
 | zero=>intro k x2 x5 x3 h1 h2;omega| succ n ih=>
   intro k x2 x5 x3 h1 h2 hc;rw [Tr.lp_s];simp only [bjp,TS];have hok:okC (x2,x5) x3:=bzA (c:=(b,s)) (d:=false) (by simp only [okC];omega) hc;by_cases hlt:k<l.length;rotate_left
   · obtain rfl:k=l.length:=by omega
     rw [List.take_length]at hc;rw [hc];have c1:decide ((l.length:Int)<((l.length:Nat):Int))=false:=by simp
     simp only [c1,cond_false,bzC]
   obtain⟨y,hy⟩:∃y,l[k]? = some y:=⟨l[k],List.getElem?_eq_getElem hlt⟩;have c1:decide ((k:Int)<((l.length:Nat):Int))=true:=by simp;omega
   have c2:inR (k:Int) l.length=true:=gN (by omega) (by omega);have hS:akI ([66,67,83,70,88,72],((y:Nat):Int),())=some (isP y):=m83P y;have w4:w6 ((k:Int)+1)=((k+1:Nat):Int):=by unfold w6;rw [bD]<;>omega
   simp only [c1,c2,cond_true,Int.toNat_natCast,aV hy,hS,obind_some];cases hp:isP y with
   | false=>rw [fE hc hy (.inr hp)];simp only [Bool.not_false,cond_true,bzC]| true=>
   cases x3 with
   | true=>rw [fE hc hy (.inl rfl)];simp only [Bool.not_true,cond_false,cond_true,bzC]| false=>
   have hstep:=oF hc hy hp;have ih':=fun x2 x5 x3 h=>ih (k+1) x2 x5 x3 hlt (by omega) h;obtain⟨o1,o2,o3,o4,o5⟩:=hok;have o5:=o5 rfl;simp only at o1 o2 o3 o4 o5;have w2:w6 (x2+1)=x2+1:=by unfold w6;rw [bD]<;>omega
   have w5:w6 (x5+1)=x5+1:=by unfold w6;rw [bD]<;>omega
   have n24:(x2==(4:Int))=false:=by simp;omega
   have n53:(x5==(3:Int))=false:=by simp;omega
   simp only [Bool.not_true,cond_false,w4,w2,w5,n24,n53];have q (m:Nat):(((y:Nat):Int)==((m:Nat):Int))=decide (y=m):=by rw [Bool.eq_iff_iff];simp;omega
   have q66:(((y:Nat):Int)==(66:Int))=decide (y=66):=q 66;have q67:(((y:Nat):Int)==(67:Int))=decide (y=67):=q 67;have q83:(((y:Nat):Int)==(83:Int))=decide (y=83):=q 83;have q70:(((y:Nat):Int)==(70:Int))=decide (y=70):=q 70;have q88:(((y:Nat):Int)==(88:Int))=decide (y=88):=q 88;have q72:(((y:Nat):Int)==(72:Int))=decide (y=72):=q 72;simp only [q66,q67,q83,q70];by_cases e66:y=66
   · subst e66;simp only [decide_true,cond_true];have:stepC (x2,x5) 66=(x2+1,x5):=by simp [stepC]
     rw [this]at hstep;by_cases h4:x2+1=4
     · have c3:(x2+1==(4:Int))=true:=by simpa using h4
       simp only [c3,cond_true];exact ih' _ _ _ (by rw [hstep];simp [doneC,full,stepC,h4])
     · have c3:(x2+1==(4:Int))=false:=by simpa using h4
       simp only [c3,cond_false];exact ih' _ _ _ (by rw [hstep];simp [doneC,full,stepC,h4,lastP];omega)
   have d66:decide (y=66)=false:=by simpa using e66
   simp only [d66,cond_false];by_cases e67:y=67
   · subst e67;simp only [decide_true,cond_true];have:stepC (x2,x5) 67=(x2,x5+1):=by simp [stepC]
     rw [this]at hstep;exact ih' _ _ _ (by rw [hstep];simp [doneC,full,stepC,lastP];omega)
   have d67:decide (y=67)=false:=by simpa using e67
   simp only [d67,cond_false];by_cases e83:y=83
   · subst e83;simp only [decide_true,cond_true];have:stepC (x2,x5) 83=(x2,x5+1):=by simp [stepC]
     rw [this]at hstep;exact ih' _ _ _ (by rw [hstep];simp [doneC,full,stepC,lastP];omega)
   have d83:decide (y=83)=false:=by simpa using e83
   simp only [d83,cond_false];by_cases e70:y=70
   · subst e70;simp only [decide_true,cond_true];by_cases h5:x5<2
     · have a1:decide ((2:Int)<x5+1)=false:=by simp;omega
       have a2:decide (x5<x5+1)=true:=by simp;omega
       simp only [a1,a2,cond_false,cond_true];have:stepC (x2,x5) 70=(x2,x5+1):=by simp [stepC,h5]
       rw [this]at hstep;exact ih' _ _ _ (by rw [hstep];simp [doneC,full,stepC,lastP,h5];omega)
     · have a1:decide ((2:Int)<x5+1)=true:=by simp;omega
       have a2:decide (x5<(2:Int))=false:=by simp;omega
       simp only [a1,a2,cond_false,cond_true];have:stepC (x2,x5) 70=(x2,x5):=by simp [stepC,h5]
       rw [this]at hstep;have a3:(x5==(3:Int))=false:=by simp;omega
       simp only [a3];exact ih' _ _ _ (by rw [hstep];simp [doneC,full,stepC,lastP,h5];omega)
   have d70:decide (y=70)=false:=by simpa using e70
   simp only [d70,cond_false];have:stepC (x2,x5) y=(x2,x5):=by simp [stepC,e66,e67,e83,e70]
   rw [this]at hstep;exact ih' _ _ _ (by
    rw [hstep];have h8:y=88∨y=72:=by simp only [isP,Bool.or_eq_true,beq_iff_eq]at hp;omega
    simp only [doneC,this,full];rcases h8 with rfl|rfl<;>simp [lastP])
theorem m29 (b s:Int) (l:List Nat):Sf29 (b,s,l,())=some (aqr b s l):=by
 show Ef29 (l.length+64) b s l=_;unfold Ef29 Tf29 aqr;simp only [TS];by_cases hin:(0≤b∧b≤3)∧(0≤s∧s≤2)
 · have a1:decide (b<(0:Int))=false:=by simp;omega
   have a2:decide ((3:Int)<b)=false:=by simp;omega
   have a3:decide (s<(0:Int))=false:=by simp;omega
   have a4:decide ((2:Int)<s)=false:=by simp;omega
   simp only [a1,a2,a3,a4,cond_false,if_pos hin];by_cases hl:l.length≤24
   · have a5:decide ((24:Int)<((l.length:Nat):Int))=false:=by simp;omega
     simp only [a5,cond_false,if_pos hl];exact j29 b s l hl hin (l.length+64) 0 b s false (Nat.zero_le _) (by omega) (by simp [cnt])
   · have a5:decide ((24:Int)<((l.length:Nat):Int))=true:=by simp;omega
     simp only [a5,cond_true,if_neg hl]
 · rw [if_neg hin];by_cases k1:b<0;· simp [k1]
   by_cases k2:3<b;· simp [k1,k2]
   by_cases k3:s<0;· simp [k1,k2,k3]
   by_cases k4:2<s;· simp [k1,k2,k3,k4]
   · exact absurd ⟨⟨by omega,by omega⟩,by omega,by omega⟩ hin
theorem m138 {c:Cnt}{x:Nat}(h:okC c false):Sf138 ((c.1,c.2,()),((x:Nat):Int),())=some ((stepC c x).1,(stepC c x).2,()):=by
 show Ef138 _ _=_;unfold Ef138 Tf138 stepC;obtain⟨o1,o2,o3,o4,o5⟩:=h;have o5:=o5 rfl;have w1:w6 (c.1+1)=c.1+1:=by unfold w6;rw [bD]<;>omega
 have w2:w6 (c.2+1)=c.2+1:=by unfold w6;rw [bD]<;>omega
 have q66:(((x:Nat):Int)==66)=(x==66):=nbeq x 66;have q67:(((x:Nat):Int)==67)=(x==67):=nbeq x 67;have q83:(((x:Nat):Int)==83)=(x==83):=nbeq x 83;have q70:(((x:Nat):Int)==70)=(x==70):=nbeq x 70;simp only [TS,q66,q67,q83,q70,w1,w2];by_cases h1:x=66;· simp [h1]
 by_cases h2:x=67;· simp [h2]
 by_cases h3:x=83;· simp [h3]
 have n1:(x==66)=false:=beq_eq_false_iff_ne.2 h1;have n2:(x==67)=false:=beq_eq_false_iff_ne.2 h2;have n3:(x==83)=false:=beq_eq_false_iff_ne.2 h3;simp only [n1,n2,n3,cond_false,if_neg h1,h2,h3,or_self,if_false];by_cases h4:x=70;· simp only [h4,beq_self_eq_true,cond_true,if_true];by_cases h5:c.2<2<;>simp [h5]
 · have n4:(x==70)=false:=beq_eq_false_iff_ne.2 h4;simp only [n4,cond_false,if_neg h4]
theorem j81 (b s:Int) (l:List Nat) (hl:l.length≤24) (hb:bB l=true) (hin:(0≤b∧b≤3)∧(0≤s∧s≤2)):∀n k x2 x5 x3,k≤l.length→l.length<n+k→cnt (b,s) false (l.take k)=.inl ((x2,x5),x3) →
  Tr.lp (bjn b s l) n (.k14 x3 x2 x5 k)=some (bzC (cnt (b,s) false l)):=by
 intro n;induction n with
 | zero=>intro k x2 x5 x3 h1 h2;omega| succ n ih=>
   intro k x2 x5 x3 h1 h2 hc;rw [Tr.lp_s];simp only [bjn,TS];have hok:okC (x2,x5) x3:=bzA (c:=(b,s)) (d:=false) (by simp only [okC];omega) hc;by_cases hlt:k<l.length;rotate_left
   · obtain rfl:k=l.length:=by omega
     rw [List.take_length]at hc;rw [hc,blt_f hlt];rfl
   obtain⟨y,hy⟩:=oI hlt;simp only [blt_t hlt,cond_true];cases x3 with
   | true=>rw [fE hc hy (.inl rfl)];rfl| false=>
   simp only [cond_false,m137,obind_some];by_cases hy8:y<128;rotate_left;· have hp:=n8 (azF hb hy hy8);rw [hp,fE hc hy (.inr (n8 (by omega)))];rfl
   rw [azE hy hy8];cases hp:isP y with
   | false=>rw [fE hc hy (.inr hp)];rfl| true=>
   have hstep:=oF hc hy hp;have hm:=m138 (x:=y) hok;simp only [Bool.not_true,cond_false,hm,obind_some,m139];have ih':=fun x2 x5 x3 h=>ih (k+1) x2 x5 x3 hlt (by omega) h;by_cases e1:(stepC (x2,x5) y).1=4
   · have b1:((stepC (x2,x5) y).1==4)=true:=by rw [e1];rfl
     simp only [b1,cond_true];exact ih' _ _ _ (by rw [hstep,show doneC (x2,x5) y=true by simp [doneC,full,e1]])
   have n1:((stepC (x2,x5) y).1==4)=false:=beq_eq_false_iff_ne.2 e1;by_cases e2:(stepC (x2,x5) y).2=3
   · have b2:((stepC (x2,x5) y).2==3)=true:=by rw [e2];rfl
     simp only [n1,b2,cond_true,cond_false];exact ih' _ _ _ (by rw [hstep,show doneC (x2,x5) y=true by simp [doneC,full,e2]])
   have n2:((stepC (x2,x5) y).2==3)=false:=beq_eq_false_iff_ne.2 e2;simp only [n1,n2,cond_false];exact ih' _ _ _ (by rw [hstep,show doneC (x2,x5) y=lastP y by simp [doneC,full,e1,e2]])
theorem m81 (b s:Int) (l:List Nat) (hb:bB l=true):Sf81 (b,s,l,())=some (aqr b s l):=by
 show Ef81 (l.length+64) b s l=_;unfold Ef81 Tf81 aqr;simp only [TS,m136,obind_some];by_cases h1:0≤b∧b≤3;rotate_left
 · have:withinB b 0 3=false:=by simp [withinB];omega
   rw [this,if_neg (fun h=>h1 h.1)];rfl
 by_cases h2:0≤s∧s≤2;rotate_left
 · have e1:withinB b 0 3=true:=by simp [withinB];omega
   have:withinB s 0 2=false:=by simp [withinB];omega
   rw [this,e1,if_neg (fun h=>h2 h.2)];rfl
 have e1:withinB b 0 3=true:=by simp [withinB];omega
 have e2:withinB s 0 2=true:=by simp [withinB];omega
 simp only [e1,e2,Bool.not_true,cond_false,if_pos (show(0≤b∧b≤3)∧(0≤s∧s≤2)from⟨h1,h2⟩)];by_cases hl:l.length≤24
 · have a5:decide ((24:Int)<((l.length:Nat):Int))=false:=by simp;omega
   simp only [a5,cond_false,if_pos hl];exact j81 b s l hl hb ⟨h1,h2⟩ (l.length+64) 0 b s false (Nat.zero_le _) (by omega) (by simp [cnt])
 · have a5:decide ((24:Int)<((l.length:Nat):Int))=true:=by simp;omega
   simp only [a5,cond_true,if_neg hl]
end
end Go.Ev
namespace Go.Ev
open Go.RowKit Go.Proofs
set_option maxRecDepth 100000
set_option maxHeartbeats 4000000
theorem aw27_0:aF Tryz.prog (.bool true) (run Tryz.prog gT (aN [(17,A77),(20,A79),(18,A78),(22,A80),(15,A54),(21,A34),(23,A35),(24,A36)]) 3000 (.call 5 [] H.start0))=true:=by kernel_rfl
noncomputable def A27:List EVal→Option EVal:=tbl [([],.bool true)]
theorem an27:FnT 5 A27:=Fn.tbl0 mixed noNG [(17,A77),(20,A79),(18,A78),(22,A80),(15,A54),(21,A34),(23,A35),(24,A36)] (by simp only [List.forall_mem_cons];exact⟨an77,an79,an78,an80,an54,an34,an35,an36,fun _ h=>by cases h⟩) (n:=3000) (by simp only [List.forall_mem_cons];exact⟨aw27_0,fun _ h=>by cases h⟩)
def F27:List EVal→Option EVal
 | []=>some (.bool true)| _=>none
theorem e27:F27 []=some (.bool true):=rfl
theorem fn27:FnT 5 F27:=by
 intro B0 W0 G a v hF;refine an27 B0 W0 G a v ?_;unfold F27 at hF;split at hF;· exact hF
 · cases hF
end Go.Ev
namespace Go.Ev
open Go.RowKit Go.Proofs
set_option maxRecDepth 100000
set_option maxHeartbeats 4000000
noncomputable section
def A18:Row (St×Unit):=Row.cons (Cod.agg rSt) Row.nil
def S18 (x:St×Unit):Option Int:=some (stE x.1)
def K18:Con Tryz.prog gT:=Con.of 19 A18 cI S18 (Con.less Kf18.ok fun x r h=>(m18 x.1).trans h)
def Aw27:Row Unit:=Row.nil
def Sw27 (_:Unit):Option Bool:=some true
def Kw27:Con Tryz.prog gT:=Con.of 5 Aw27 cB Sw27 (Fn.weak fn27 fun a v h=>by
 obtain⟨_,r,rfl,hs,rfl⟩:=jN h;cases hs;have e:V.cs (Aw27.v ())=[]:=by show V.cs []=_;rw [V.cs]
 rw [e,e27];simp only [cB,V.c])
def cCntR:Cod CntR:=Cod.tup (Row.cons (Cod.agg (Row.cons cI (Row.cons cI Row.nil))) (Row.cons cI (Row.cons cI Row.nil)))
def A29:Row (Int×Int×List Nat×Unit):=Row.cons cI (Row.cons cI (Row.cons cS Row.nil))
def S29 (x:Int×Int×List Nat×Unit):Option CntR:=if x.2.2.1.length<9223372036854775808 then some (aqr x.1 x.2.1 x.2.2.1)else none
def K29:Con Tryz.prog gT:=Con.of 122 A29 cCntR S29 (Con.less Kf29.ok fun x r h=>by
 unfold S29 at h;split at h;· exact(m29 x.1 x.2.1 x.2.2.1).trans h
 · cases h)
def A81:Row (Int×Int×List Nat×Unit):=Row.cons cI (Row.cons cI (Row.cons cS Row.nil))
def S81 (x:Int×Int×List Nat×Unit):Option CntR:=if bB x.2.2.1=true then some (aqr x.1 x.2.1 x.2.2.1)else none
def K81:Con Tryz.prog gT:=Con.of 140 A81 cCntR S81 (Con.less Kf81.ok fun x r h=>by
 unfold S81 at h;split at h;· rename_i hb;exact(m81 x.1 x.2.1 x.2.2.1 hb).trans h
 · cases h)
theorem vMv_c (m:Mv):V.cs (rMv.v m)=eMove m:=by
 show V.cs [V.int .i64 m.f,V.int .i64 m.t,V.bool m.o,V.str m.h,(Cod.list 0 a7).v m.b]=_;have h1:(V.el (m.b.map a7.v)).c=((Cod.list 0 a7).v m.b).c:=aS;have h2:((Cod.list 0 a7).v m.b).c=.lsl (eInts m.b):=h1.symm.trans (by
  rw [V.c,V.css_map,List.map_map,eInts];exact congrArg EVal.lsl (List.map_congr_left fun x _=>by
   show V.cs [V.int .i64 x]=_;simp only [V.cs,V.c]))
 simp only [V.cs,V.c,h2,eMove]
theorem vMvs_c (l:List Mv):((Cod.list mv0 rMv).v l).c=.lsl (qX l):=by have h1:(V.el (l.map rMv.v)).c=((Cod.list mv0 rMv).v l).c:=aS;refine h1.symm.trans ?_;rw [V.c,V.css_map,List.map_map,qX];congr 1;exact List.map_congr_left fun m _=>vMv_c m
def awY (p:Pl):Bool:=decide (p.m.length<9223372036854775808)&&p.m.all fun m=>decide (m.b.length<9223372036854775808)
def ePl (p:Pl):EVal:=.agg [.str p.p,.str p.e,.bool p.l,.lsl (qX p.m)]
theorem bq7 (p:Pl):((Cod.agg rPl).v p).c=ePl p:=by show(V.agg [V.str p.p,V.str p.e,V.bool p.l,(Cod.list mv0 rMv).v p.m]).c=_;simp only [V.c,V.cs,vMvs_c,ePl]
theorem avA (s:St):V.cs (rSt.v s)=eSt s:=by show V.cs [_,_,_,_,_,_,_,_,_,_,_,_,_]=_;simp only [V.cs,akE,cB,V.c];rfl
def A142:Row (Pl×Unit):=Row.cons (Cod.agg rPl) Row.nil
def S142 (x:Pl×Unit):Option Int:=if awY x.1=true∧bB x.1.p=true∧bB x.1.e=true then some (playE x.1.p x.1.e x.1.m)else none
def K142:Con Tryz.prog gT:=Con.of 89 A142 cI S142 (Con.less Kf142.ok fun x r h=>by
 unfold S142 at h;split at h;· rename_i hb;exact(m142 x.1 hb.2.1 hb.2.2).trans h
 · cases h)
def A58:Row (Pl×Unit):=Row.cons (Cod.agg rPl) Row.nil
def S58 (x:Pl×Unit):Option Int:=if awY x.1=true then some (playE x.1.p x.1.e x.1.m)else none
def K58:Con Tryz.prog gT:=Con.of 32 A58 cI S58 (Con.less Kf58.ok fun x r h=>by
 unfold S58 at h;split at h;· exact(m58 x.1).trans h
 · cases h)
def A33:Row (Pl×Unit):=Row.cons (Cod.agg rPl) Row.nil
def S33 (x:Pl×Unit):Option Pl:=if awY x.1=true∧lC x.1.m=true then some x.1 else none
def K33:Con Tryz.prog gT:=Con.of 30 A33 (Cod.agg rPl) S33 (Con.less Kf33.ok fun x r h=>by
 unfold S33 at h;split at h;· rename_i hh;exact(m33 x.1 hh.2).trans h
 · cases h)
end
end Go.Ev
