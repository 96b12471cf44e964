import Derived.Test.YtembhfobljiaoaaGreatDoorDF1
set_option linter.unusedSimpArgs false
set_option linter.unusedVariables false
namespace Go.Ev
open Go.RowKit Go.Proofs
set_option maxRecDepth 100000
set_option maxHeartbeats 4000000
def gA:List Nat→Bool
 | []=>true
 | x::l=>isP x&&(!lastP x||l.isEmpty)&&gA l
def xA (l:List Nat):Int:=if l.length≤24 then(if gA l=true then 0 else 14)else 5
theorem kF {l:List Nat}{k x:Nat}(h:l[k]? = some x):gA (l.drop k)=(isP x&&(!lastP x||!decide ((k:Int)<(l.length:Int)-1))&&gA (l.drop (k+1))):=by
 obtain⟨hk,rfl⟩:=List.getElem?_eq_some_iff.1 h
 rw [List.drop_eq_getElem_cons hk]
 have e:(l.drop (k+1)).isEmpty=!decide ((k:Int)<(l.length:Int)-1):=by
  rw [Bool.eq_iff_iff]
  simp only [List.isEmpty_iff,List.drop_eq_nil_iff,Bool.not_eq_true',decide_eq_false_iff_not]
  omega
 rw [gA,e]
theorem hasC_P (x:Nat):hasC [66,67,83,70,88,72] (x:Int)=isP x:=by
 simp only [hasC,List.any_cons,List.any_nil,Bool.or_false,isP]
 rw [Bool.eq_iff_iff]
 simp only [Bool.or_eq_true,beq_iff_eq]
 omega
def isEv:List Nat→Bool
 | [x]=>hasC [75,87,72,73,88,78,89] (x:Int)
 | _=>false
def tP (l:List Nat):Int:=if(decide (l=[])||isEv l)=true then 0 else 13
theorem wW {n lo hi:Int}(h:lo≤n∧n≤hi):b8 n lo hi=0:=by unfold b8;rw [if_neg (by omega)]
def reachB (r f t:Int):Bool:=if r=1 then t==f else if r=2 then t==IntKind.i64.wrap (f+1)else if r=3 then decide (f<t)else if r=4 then decide (f≤t)else false
abbrev Way:=Bool×List Nat×Int×Int
def wayT:List Way:=[(false,[98],3,3),(false,[97],3,3),(false,[115],0,3),(false,[112],3,3),(false,[107],0,3),(false,[116],3,3),(false,[111],3,3),
 (true,[102],2,2),(true,[103],3,4),(true,[99],2,0),(true,[100],0,1),(true,[107],2,0),(true,[110],2,3),(true,[121],2,0)]
def findL (o:Bool) (h:List Nat) (l:List Way):Option Way:=l.find? fun w=>(w.1==o)&&decide (w.2.1=h)
def akb (f t:Int) (o:Bool) (h:List Nat):Int:=match findL o h wayT with
 | some w=>if reachB (if f=0 then w.2.2.1 else w.2.2.2) f t=true then 0 else 15
 | none=>13
def iL:Option Int→List Int→Bool
 | _,[]=>true
 | p,x::l=>withinB x 1 9&&!decide (p=some x)&&iL (some x) l
def sW (o:Bool) (b:List Int):Int:=if 9<b.length∨(o=true∧b.length=0)then 16 else if iL none b=true then 0 else 16
def before (b:List Int) (k:Nat):Option Int:=if k=0 then none else b[k-1]?
theorem rI (b:List Int) (k:Nat):before b (k+1)=b[k]? := by simp [before]
theorem nD {b:List Int}{k:Nat}{x:Int}(h:b[k]? = some x):iL (before b k) (b.drop k)=(withinB x 1 9&&!decide (before b k=some x)&&iL (before b (k+1)) (b.drop (k+1))):=by
 rw [rI,h]
 obtain⟨hk,rfl⟩:=List.getElem?_eq_some_iff.1 h
 rw [List.drop_eq_getElem_cons hk];rfl
def waysO:List Nat:=[102,103,99,100,107,110,121]
def waysS:List Nat:=[98,97,115,112,107,116,111]
def xH (o:Bool):List Nat→Bool
 | [c]=>hasC (if o=true then waysO else waysS) (c:Int)
 | _=>false
def fitsB (f t:Int) (o:Bool) (c:Nat):Bool:=
 if o=false then decide (f<t)&&(decide (0<f)||!hasC [115,107] (c:Int))else
 if c=100 then decide (0<f)&&(t==f)else if c=103 then decide (f≤t)else
 if c=110 then decide (f<t)&&(decide (0<f)||(t==1))else if c=102 then t==f+1 else(f==0)&&(t==1)
def wayR (f t:Int) (o:Bool) (h:List Nat):Int:=if xH o h=true then(match h with
 | [c]=>if fitsB f t o c=true then 0 else 15
 | _=>15)else 13
theorem way_key:∀o∈[true,false],∀c∈(if o=true then waysO else waysS),∀f∈([0,1,2,3]:List Int),∀t∈([1,2,3,4]:List Int),akb f t o [c]=wayR f t o [c]:=by decide +kernel
theorem way_all:∀w∈wayT,xH w.1 w.2.1=true:=by decide +kernel
theorem hasC_mem {l:List Nat}{c:Nat}(h:hasC l (c:Int)=true):c∈l:=by
 simp only [hasC,List.any_eq_true,beq_iff_eq]at h
 obtain⟨x,hx,e⟩:=h
 obtain rfl:x=c:=by omega
 exact hx
theorem way_eq {f t:Int}{o:Bool}{h:List Nat}(hf:0≤f∧f≤3) (ht:1≤t∧t≤4):akb f t o h=wayR f t o h:=by
 cases hw:xH o h with
 | true=>
   match h,hw with
   | [c],hw=>
     exact way_key o (by cases o<;>simp) c (hasC_mem hw) f (by simp;omega) t (by simp;omega)
 | false=>
   have hn:findL o h wayT=none:=by
    unfold findL
    rw [List.find?_eq_none]
    intro w hm hc
    simp only [Bool.and_eq_true,beq_iff_eq,decide_eq_true_eq]at hc
    have:=way_all w hm
    rw [hc.1,hc.2,hw]at this
    cases this
   simp only [akb,hn,wayR,hw,Bool.false_eq_true,if_false]
def zY (f t:Int) (o:Bool) (h:List Nat) (b:List Int):Int:=dD [b8 f 0 3,b8 t 1 4,akb f t o h,sW o b]
theorem ajz {f t:Int}{o:Bool}{h:List Nat}{b:List Int}(hf:0≤f∧f≤3) (ht:1≤t∧t≤4):zY f t o h b=if wayR f t o h=0 then sW o b else wayR f t o h:=by
 unfold zY
 rw [wW hf,wW ht,way_eq hf ht]
 simp only [dD]
 by_cases h1:wayR f t o h=0
 · simp [h1]
   intro h2;exact h2.symm
 · simp [h1]
def mvE (m:Mv):Int:=zY m.f m.t m.o m.h m.b
def axy:Option Int→List Mv→Int
 | _,[]=>0
 | p,m::l=>if mvE m≠0 then mvE m else if(p.any fun q=>decide (q≤m.f))=true then 11 else axy (some m.f) l
def aT (l:List Mv):Int:=if 4<l.length then 5 else axy none l
def nZ (l:List Mv) (k:Nat):Option Int:=if k=0 then none else(l[k-1]?).map (·.f)
theorem qM (l:List Mv) (k:Nat):nZ l (k+1)=(l[k]?).map (·.f):=by simp [nZ]
theorem avB {l:List Mv}{k:Nat}{m:Mv}(h:l[k]? = some m):axy (nZ l k) (l.drop k)=if mvE m≠0 then mvE m else if((nZ l k).any fun q=>decide (q≤m.f))=true then 11 else axy (nZ l (k+1)) (l.drop (k+1)):=by
 rw [qM,h]
 obtain⟨hk,rfl⟩:=List.getElem?_eq_some_iff.1 h
 rw [List.drop_eq_getElem_cons hk];rfl
def playE (p e:List Nat) (l:List Mv):Int:=dD [xA p,tP e,aT l]
def eSt (s:St):List EVal:=[.int .i64 s.inn,.int .i64 s.half,.int .i64 s.outs,.int .i64 s.balls,.int .i64 s.strikes,.int .i64 s.b1,.int .i64 s.b2,.int .i64 s.b3,.int .i64 s.n0,.int .i64 s.n1,.int .i64 s.c0,.int .i64 s.c1,.bool s.over]
theorem eqN (a b:Int):(a==b)=decide (a=b):=by rw [Bool.eq_iff_iff];simp
def inB (n lo hi:Int):Bool:=decide (lo≤n)&&decide (n≤hi)
def batC (s:St):Int:=if s.half=0 then s.n0 else s.n1
def ajH (s:St):Bool:=decide (s.half=0)||decide (s.half=1)
def aw3 (a:Int):Int:=a.tmod 9+1
theorem wbeh (a:Int):IntKind.i64.wrap (a.tmod 9+1)=aw3 a:=by
 have h1:=Int.tmod_lt_of_pos a (b:=9) (by omega)
 have h2:=Int.lt_tmod_of_pos a (b:=9) (by omega)
 unfold aw3
 rw [pH]<;>omega
def leadB (s:St):Bool:=decide (s.c0<s.c1)
def decB (s:St):Bool:=decide (9≤s.inn)&&decide (s.half=1)&&leadB s
def akv (s:St):Bool:=decide (9≤s.inn)&&(leadB s||decide (s.half=1)&&(decide (s.c0≠s.c1)||decide (s.inn=30)))
def clr (s:St):St:={ s with outs:=0,balls:=0,strikes:=0,b1:=0,b2:=0,b3:=0 }
def overB (s:St):Bool:=decide (s=clr s)&&akv s
def av5 (s:St):Int:=if(s.over&&!overB s||!s.over&&decB s)=true then 19 else 0
def ak4 (s:St):Int:=if inB s.inn 1 30=true then 0 else 3
def oJ (s:St):Int:=if inB s.half 0 1=true then 0 else 17
def cnB (s:St):Bool:=inB s.outs 0 2&&inB s.balls 0 3&&inB s.strikes 0 2
def baB (s:St):Nat→Bool
 | 0=>cnB s
 | 1=>cnB s&&inB s.b1 0 9
 | 2=>cnB s&&inB s.b1 0 9&&inB s.b2 0 9
 | _=>cnB s&&inB s.b1 0 9&&inB s.b2 0 9&&inB s.b3 0 9
def nuB (s:St):Nat→Bool
 | 0=>baB s 3
 | 1=>baB s 3&&inB s.n0 1 9&&inB s.c0 0 9999
 | _=>baB s 3&&inB s.n0 1 9&&inB s.c0 0 9999&&inB s.n1 1 9&&inB s.c1 0 9999
def ajw (s:St):Int:=if nuB s 2=true then 0 else 3
def sinC (r b:Int):Int:=(b-r+8) % 9
def in19 (n:Int):Bool:=inB n 1 9
theorem ajG {n:Int}:in19 n=true↔1≤n∧n≤9:=by simp [in19,inB]
theorem aj3 {r:Int}{k:Nat}(h1:1≤r):aw3 ((r+k-1) % 9+1)=(r+k) % 9+1:=by
 unfold aw3
 rw [Int.tmod_eq_emod_of_nonneg (by omega)]
 omega
theorem at_eq {r b:Int}{k:Nat}(h1:1≤r) (h2:r≤9) (h3:1≤b) (h4:b≤9) (hk:(k:Int)=sinC r b):(r+k) % 9+1=b:=by
 unfold sinC at hk;omega
theorem at_ne {r b:Int}{k:Nat}(h1:1≤r) (h2:r≤9) (h3:1≤b) (h4:b≤9) (hk:(k:Int)<sinC r b):(r+k) % 9+1≠b:=by
 unfold sinC at hk;omega
theorem uG (r b:Int):0≤sinC r b∧sinC r b<9:=by unfold sinC;omega
def bsC (s:St):Nat→Int
 | 0=>s.b1
 | 1=>s.b2
 | _=>s.b3
def sE (s:St) (slot:Int):Option (Int×Int)→Option (Int×Int)
 | none=>none
 | some (lo,la)=>if slot=0 then some (lo,la)else
   if(inB (sinC slot (batC s)) lo (lo+s.outs)&&!decide (sinC slot (batC s)≤la))=true then some (lo+1,sinC slot (batC s))else none
def ajL (s:St):Nat→Option (Int×Int)
 | 0=>some (0,-1)
 | n+1=>sE s (bsC s n) (ajL s n)
def fitB (s:St):Bool:=(ajL s 3).isSome
theorem awE {s:St}{k:Nat}(h:ajL s k=none) (j:Nat):ajL s (k+j)=none:=by
 induction j with
 | zero=>exact h
 | succ j ih=>show sE s _ (ajL s (k+j))=none;rw [ih];rfl
theorem ajK {s:St}{k:Nat}(h:ajL s k=none) (hk:k≤3):fitB s=false:=by
 have:=awE h (3-k)
 rw [show k+(3-k)=3 by omega]at this
 simp [fitB,this]
def awC (s:St):Bool:=ajH s&&nuB s 2
structure Good (s:St):Prop where
 half:s.half=0∨s.half=1
 outs:0≤s.outs∧s.outs≤2
 b1:0≤s.b1∧s.b1≤9
 b2:0≤s.b2∧s.b2≤9
 b3:0≤s.b3∧s.b3≤9
 n0:1≤s.n0∧s.n0≤9
 n1:1≤s.n1∧s.n1≤9
theorem avP {s:St}(h:awC s=true):Good s:=by
 simp only [awC,nuB,baB,cnB,inB,ajH,Bool.and_eq_true,Bool.or_eq_true,decide_eq_true_eq]at h
 exact⟨h.1,by omega,by omega,by omega,by omega,by omega,by omega⟩
theorem Good.bat {s:St}(h:Good s):in19 (batC s)=true:=by
 rw [ajG];unfold batC;have:=h.n0;have:=h.n1;split<;>omega
def ak2 (s:St):Int:=if fitB s=true then 0 else 11
def iZ:List Int→Int
 | []=>0
 | x::l=>if x=0 then iZ l else x
def ajn (s:St):List Int:=[ak4 s,oJ s,ajw s,av5 s,ak2 s]
def stE (s:St):Int:=iZ (ajn s)
theorem akf {s:St}(h:stE s=0):inB s.inn 1 30=true∧inB s.half 0 1=true∧nuB s 2=true∧av5 s=0∧fitB s=true:=by
 unfold stE ajn at h
 simp only [iZ]at h
 by_cases h1:ak4 s=0
 · rw [if_pos h1]at h
   by_cases h2:oJ s=0
   · rw [if_pos h2]at h
     by_cases h3:ajw s=0
     · rw [if_pos h3]at h
       by_cases h4:av5 s=0
       · rw [if_pos h4]at h
         by_cases h5:ak2 s=0
         · refine ⟨?_,?_,?_,h4,?_⟩
           · unfold ak4 at h1;split at h1<;>first|assumption|omega
           · unfold oJ at h2;split at h2<;>first|assumption|omega
           · unfold ajw at h3;split at h3<;>first|assumption|omega
           · unfold ak2 at h5;split at h5<;>first|assumption|omega
         · rw [if_neg h5]at h;exact absurd h h5
       · rw [if_neg h4]at h;exact absurd h h4
     · rw [if_neg h3]at h;exact absurd h h3
   · rw [if_neg h2]at h;exact absurd h h2
 · rw [if_neg h1]at h;exact absurd h h1
theorem aqB {s:St}(h:stE s=0):Good s:=by
 obtain⟨_,h2,h3,_,_⟩:=akf h
 refine avP ?_
 simp only [awC,h3,Bool.and_true,ajH,Bool.or_eq_true,decide_eq_true_eq]
 simp only [inB,Bool.and_eq_true,decide_eq_true_eq]at h2
 omega
def rgC (n lo hi:Int):Int:=if inB n lo hi=true then 0 else 3
def lstB (s:St):Bool:=leadB s||decide (s.half=1)&&(decide (s.c0≠s.c1)||decide (s.inn=30))
theorem akk (s:St):overB s=(decide (s.outs=0)&&decide (s.balls=0)&&decide (s.strikes=0)&&(decide (s.b1=0)&&decide (s.b2=0)&&decide (s.b3=0))&&decide (9≤s.inn)&&lstB s):=by
 have h:decide (s=clr s)=(decide (s.outs=0)&&decide (s.balls=0)&&decide (s.strikes=0)&&(decide (s.b1=0)&&decide (s.b2=0)&&decide (s.b3=0))):=by
  rw [Bool.eq_iff_iff]
  simp only [decide_eq_true_eq,Bool.and_eq_true]
  cases s
  simp only [clr,St.mk.injEq]
  constructor
  · rintro⟨_,_,rfl,rfl,rfl,rfl,rfl,rfl,_⟩;simp
  · rintro⟨⟨⟨rfl,rfl⟩,rfl⟩,⟨rfl,rfl⟩,rfl⟩;simp
 unfold overB akv
 rw [h,←Bool.and_assoc]
 rfl
theorem xN:∀ {l:List Int},(∀x∈l,x=0∨x=3)→iZ l=if l.all (·==0)=true then 0 else 3
 | [],_=>rfl
 | x::l,h=>by
   have ih:=xN (l:=l) fun y hy=>h y (by simp [hy])
   rcases h x (by simp)with rfl|rfl
   · rw [iZ,if_pos rfl,ih];simp
   · rw [iZ,if_neg (by omega)];simp
theorem rgC_or (n lo hi:Int):rgC n lo hi=0∨rgC n lo hi=3:=by unfold rgC;split<;>simp
theorem rgC_z (n lo hi:Int):(rgC n lo hi==0)=inB n lo hi:=by unfold rgC;split<;>simp_all
theorem stE_eq (s:St):stE s=if inB s.inn 1 30=false then 3 else if inB s.half 0 1=false then 17 else if nuB s 2=false then 3 else if(s.over&&!overB s||!s.over&&decB s)=true then 19 else if fitB s=true then 0 else 11:=by
 unfold stE ajn ak4 oJ ajw av5 ak2
 simp only [iZ]
 cases inB s.inn 1 30<;>cases inB s.half 0 1<;>cases nuB s 2<;>cases(s.over&&!overB s||!s.over&&decB s)<;>cases fitB s<;>rfl
end Go.Ev
namespace Go.Ev
open Go.RowKit Go.Proofs
set_option maxRecDepth 100000
set_option maxHeartbeats 4000000
set_option linter.unusedSimpArgs false
noncomputable section
theorem dP {n:Int}(h1:-9223372036854775808≤n) (h2:n<9223372036854775808):IntKind.i64.wrap n=n:=pH h1 h2
theorem w6s {k:Nat}(h:k<9223372036854775807):w6 ((k:Int)+1)=((k+1:Nat):Int):=by unfold w6;rw [dP]<;>omega
theorem w6p {k:Nat}(h:k<9223372036854775807):w6 (((k+1:Nat):Int)-1)=((k:Nat):Int):=by unfold w6;rw [dP]<;>omega
theorem sH {i:Int}{n:Nat}(h1:0≤i) (h2:i<(n:Int)):inR i n=true:=by simp [inR];omega
theorem uY {k n:Nat}(h:k<n):inR (k:Int) n=true:=sH (by omega) (by omega)
theorem bQ {α:Type}{l:List α}{k:Nat}{x d:α}(h:l[k]? = some x):l.getD k d=x:=by rw [List.getD_eq_getElem?_getD,h];rfl
theorem rJ {α:Type}{l:List α}{k:Nat}(h:k<l.length):∃x,l[k]? = some x:=⟨l[k],List.getElem?_eq_getElem h⟩
theorem axM {k n:Nat}(h:k<n):decide ((k:Int)<((n:Nat):Int))=true:=by simp;omega
theorem axN {k n:Nat}(h:¬k<n):decide ((k:Int)<((n:Nat):Int))=false:=by simp;omega
theorem has_jm (s:List Nat) (t:Int) (hl:s.length<9223372036854775807):∀j n k,k+j=s.length→Tr.lp (aw9 s t) (n+j+1) (.k4 (k:Int))=some (hasC (s.drop k) t):=by
 intro j
 induction j with
 | zero=>
   intro n k hk
   rw [Tr.lp_s]
   simp only [aw9,TS,axN (show ¬k<s.length by omega),cond_false,List.drop_eq_nil_of_le (show s.length≤k by omega)];rfl
 | succ j ih=>
   intro n k hk
   have hlt:k<s.length:=by omega
   obtain⟨x,hx⟩:=rJ hlt
   rw [Tr.lp_s]
   simp only [aw9,TS,axM hlt,uY hlt,cond_true,Int.toNat_natCast,bQ hx,w6s (show k<9223372036854775807 by omega),avO hx]
   rw [show n+(j+1)=n+j+1 by omega,ih n (k+1) (by omega)]
   cases((x:Nat):Int)==t<;>rfl
theorem nc0:((0:Nat):Int)=0:=rfl
theorem fu (n:Nat):n+64=63+n+1:=by omega
theorem m83 (s:List Nat) (t:Int) (hl:s.length<9223372036854775807):Sf83 (s,t,())=some (hasC s t):=by
 show Ef83 (s.length+64) s t=_
 unfold Ef83 Tf83
 simp only [TS]
 have:=has_jm s t hl s.length 63 0 (by omega)
 rw [List.drop_zero,nc0]at this
 rw [fu];exact this
theorem m139 (r:Nat):awp (((r:Nat):Int),())=some (lastP r):=by
 show Ef139 _=_
 unfold Ef139 Tf139
 simp only [TS]
 have e1:(((r:Nat):Int)==88)=(r==88):=nbeq r 88
 have e2:(((r:Nat):Int)==72)=(r==72):=nbeq r 72
 rw [e1,e2]
 unfold lastP
 cases r==88<;>rfl
theorem m137 (r:Nat):S137 (((r:Nat):Int),())=some (isP r):=by
 unfold S137
 rw [if_pos (by simp)];simp
end
end Go.Ev
namespace Go.Ev
open Go.RowKit Go.Proofs
set_option maxRecDepth 100000
set_option maxHeartbeats 4000000
set_option linter.unusedSimpArgs false
noncomputable section
theorem aqy {l:List Nat}{k c:Nat}(h:l[k]? = some c) (hc:c<128):gB l k=(c,1):=by unfold gB;rw [ajx h hc];rfl
theorem aqz {l:List Nat}{k c:Nat}(hb:dT l=true) (h:l[k]? = some c) (hc:¬c<128):128≤(gB l k).1:=by
 obtain⟨r,w,e,hr⟩:=avA hb h hc
 unfold gB;rw [e];exact hr
theorem blt_t {k n:Nat}(h:k<n):Nat.blt k n=true:=by rw [Nat.blt_eq];exact h
theorem blt_f {k n:Nat}(h:¬k<n):Nat.blt k n=false:=by
 cases hb:Nat.blt k n
 · rfl
 · rw [Nat.blt_eq]at hb;exact absurd hb h
theorem pp_j (s:List Nat) (hl:s.length≤24) (hb:dT s=true):∀j n k,k+j=s.length→Tr.lp (t7 s) (n+j+1) (.k8 k)=some (if gA (s.drop k)=true then 0 else 14):=by
 intro j
 induction j with
 | zero=>
   intro n k hk
   rw [Tr.lp_s]
   simp only [t7,TS,blt_f (show ¬k<s.length by omega),cond_false,List.drop_eq_nil_of_le (show s.length≤k by omega)];rfl
 | succ j ih=>
   intro n k hk
   have hlt:k<s.length:=by omega
   obtain⟨x,hx⟩:=rJ hlt
   have w1:w6 ((s.length:Int)-1)=(s.length:Int)-1:=by unfold w6;rw [dP]<;>omega
   rw [Tr.lp_s]
   by_cases hx8:x<128
   · simp only [t7,TS,blt_t hlt,cond_true,aqy hx hx8,m137,m139,obind_some,w1,kF hx]
     rw [show n+(j+1)=n+j+1 by omega,ih n (k+1) (by omega)]
     cases isP x<;>cases lastP x<;>cases decide ((k:Int)<(s.length:Int)-1)<;>rfl
   · have h1:=lS (aqz hb hx hx8)
     have h2:=lS (show 128≤x by omega)
     simp only [t7,TS,blt_t hlt,cond_true,m137,obind_some,kF hx,h1,h2];rfl
theorem m193 (s:List Nat) (hb:dT s=true):Sf193 (s,())=some (xA s):=by
 show Ef193 (s.length+64) s=_
 unfold Ef193 Tf193 xA
 simp only [TS]
 by_cases h:s.length≤24
 · have c1:decide (24<((s.length:Nat):Int))=false:=by simp;omega
   have:=pp_j s h hb s.length 63 0 (by omega)
   rw [List.drop_zero]at this
   rw [c1,cond_false,if_pos h,fu];exact this
 · have c1:decide (24<((s.length:Nat):Int))=true:=by simp;omega
   rw [c1,cond_true,if_neg h]
theorem m215 (s:List Nat) (hb:dT s=true):Sf215 (s,())=some (isEv s):=by
 show Ef215 s=_
 unfold Ef215 Tf215
 simp only [TS]
 match s,hb with
 | [],_=>rfl
 | [x],hb=>
   have hx:x<256:=by simpa [dT]using hb
   have:v7 (EL,[x],())=some (hasC EL (x:Int)):=by
    show(if(EL∈CL∧x∈OL)∨(EL=EL∧x<256)then _ else _)=_
    rw [if_pos (Or.inr ⟨rfl,hx⟩)]
   show aV (v7 (EL,[x],())) _=_
   rw [this];rfl
 | a::b::l,_=>
   have:((((a::b::l).length:Nat):Int)==1)=false:=by simp;omega
   rw [this];rfl
theorem m194 (s:List Nat) (hb:dT s=true):Sf194 (s,())=some (tP s):=by
 show Ef194 s=_
 unfold Ef194 Tf194 tP
 simp only [TS,m215 s hb,obind_some]
 by_cases h:s=[]
 · simp [h]
 · simp only [h,decide_false,Bool.not_false,cond_true,Bool.false_or]
   cases isEv s<;>rfl
theorem m136 (s t u:Int):aq1 (s,t,u,())=some (withinB s t u):=by
 show Ef136 s t u=_
 unfold Ef136 Tf136 withinB
 simp only [TS]
 cases decide (t≤s)<;>rfl
theorem wr_eq (n lo hi:Int):(if withinB n lo hi=true then 0 else 3)=b8 n lo hi:=by
 unfold withinB b8
 by_cases h1:lo≤n<;>by_cases h2:n≤hi<;>simp [h1,h2]<;>omega
theorem m234 (s:Int):Sf234 (s,())=some (b8 s 0 3):=by
 show Ef234 s=_
 unfold Ef234 Tf234
 simp only [TS,m136,obind_some,←wr_eq]
 cases withinB s 0 3<;>rfl
theorem m235 (s:Int):Sf235 (s,())=some (b8 s 1 4):=by
 show Ef235 s=_
 unfold Ef235 Tf235
 simp only [TS,m136,obind_some,←wr_eq]
 cases withinB s 1 4<;>rfl
theorem m64 (s t u:Int) (h:t≤u):oO (s,t,u,())=some (b8 s t u):=by
 show Ef64 s t u=_
 unfold Ef64 Tf64 b8
 simp only [TS]
 by_cases h1:s<t<;>by_cases h2:u<s<;>simp [h1,h2]
def wyV (o:Bool) (h:List Nat):Wy×Bool×Unit:=match findL o h wayT with
 | some w=>(⟨w.1,w.2.1,w.2.2.1,w.2.2.2⟩,true,())
 | none=>(⟨false,[],0,0⟩,false,())
end
end Go.Ev
namespace Go.Ev
open Go.RowKit Go.Proofs
set_option maxRecDepth 100000
set_option maxHeartbeats 4000000
set_option linter.unusedSimpArgs false
noncomputable section
theorem way_j (o:Bool) (h:List Nat) (n:Nat):Tr.lp (aj7 o h) (n+15) .k4_0=some (wyV o h):=by
 rw [show n+15=n+14+1 from rfl]
 simp only [Tr.lp_s,aj7,TS,wyV,findL,wayT,List.find?_cons,List.find?_nil]
 cases o<;>simp only [Bool.false_eq_true,Bool.true_eq_false,beq_self_eq_true,cond_true,cond_false,Bool.true_and,Bool.false_and,show(false==true)=false from rfl,show(true==false)=false from rfl]
 · cases decide ([98]=h)with
   | true=>rfl
   | false=>
   cases decide ([97]=h)with
   | true=>rfl
   | false=>
   cases decide ([115]=h)with
   | true=>rfl
   | false=>
   cases decide ([112]=h)with
   | true=>rfl
   | false=>
   cases decide ([107]=h)with
   | true=>rfl
   | false=>
   cases decide ([116]=h)with
   | true=>rfl
   | false=>
   cases decide ([111]=h)with
   | true=>rfl
   | false=>
   rfl
 · cases decide ([102]=h)with
   | true=>rfl
   | false=>
   cases decide ([103]=h)with
   | true=>rfl
   | false=>
   cases decide ([99]=h)with
   | true=>rfl
   | false=>
   cases decide ([100]=h)with
   | true=>rfl
   | false=>
   cases decide ([107]=h)with
   | true=>rfl
   | false=>
   cases decide ([110]=h)with
   | true=>rfl
   | false=>
   cases decide ([121]=h)with
   | true=>rfl
   | false=>
   rfl
theorem m247 (o:Bool) (h:List Nat):Sf247 (o,h,())=some (wyV o h):=by
 show Ef247 (h.length+64) o h=_
 unfold Ef247 Tf247
 simp only [TS]
 rw [show h.length+64=(h.length+49)+15 by omega];exact way_j o h _
theorem m248 (r f t:Int):awk (r,f,t,())=some (reachB r f t):=by
 show Ef248 r f t=_
 unfold Ef248 Tf248 reachB
 simp only [TS]
 by_cases h1:r=1
 · simp [h1]
 have n1:(r==1)=false:=by simpa using h1
 rw [n1,cond_false,if_neg h1]
 by_cases h2:r=2
 · simp [h2,w6]
 have n2:(r==2)=false:=by simpa using h2
 rw [n2,cond_false,if_neg h2]
 by_cases h3:r=3
 · simp [h3]
 have n3:(r==3)=false:=by simpa using h3
 rw [n3,cond_false,if_neg h3]
 by_cases h4:r=4
 · simp [h4]
 have n4:(r==4)=false:=by simpa using h4
 rw [n4,cond_false,if_neg h4]
theorem m236 (m:Mv):Sf236 (m,())=some (akb m.f m.t m.o m.h):=by
 show Ef236 m=_
 unfold Ef236 Tf236 akb
 simp only [TS,m247,m248,obind_some,wyV]
 cases findL m.o m.h wayT with
 | none=>rfl
 | some w=>
   by_cases h:m.f=0
   · simp only [h,Bool.not_true,cond_false,if_pos,show((0:Int)==0)=true from rfl,cond_true]
     cases reachB w.2.2.1 0 m.t<;>rfl
   · have h0:(m.f==0)=false:=by simp [h]
     simp only [h0,Bool.not_true,cond_false,if_neg h]
     cases reachB w.2.2.2 m.f m.t<;>rfl
theorem ayX {b:List Int}{k:Nat}{x y:Int}(hy:b[k]? = some y):decide (before b (k+1)=some x)=(x==y):=by
 rw [rI,hy]
 by_cases h:x=y
 · simp [h]
 · have:¬y=x:=fun e=>h e.symm
   simp [h,this]
theorem tch_j (m:Mv) (hl:m.b.length≤9):∀j n k,k+j=m.b.length→Tr.lp (yR m) (n+j+1) (.k8 (k:Int))=some (if iL (before m.b k) (m.b.drop k)=true then 0 else 16):=by
 intro j
 induction j with
 | zero=>
   intro n k hk
   rw [Tr.lp_s]
   simp only [yR,TS,axN (show ¬k<m.b.length by omega),cond_false,List.drop_eq_nil_of_le (show m.b.length≤k by omega)]
   unfold iL;rfl
 | succ j ih=>
   intro n k hk
   have hlt:k<m.b.length:=by omega
   obtain⟨x,hx⟩:=rJ hlt
   have hn:=ih n (k+1) (by omega)
   rw [Tr.lp_s,nD hx]
   simp only [yR,TS,axM hlt,uY hlt,cond_true,Int.toNat_natCast,bQ hx,w6s (show k<9223372036854775807 by omega),m136,obind_some]
   rw [show n+(j+1)=n+j+1 by omega,hn]
   cases hw:withinB x 1 9 with
   | false=>rfl
   | true=>
     cases k with
     | zero=>
       simp [before]
     | succ k=>
       obtain⟨y,hy⟩:=rJ (show k<m.b.length by omega)
       have c1:decide ((0:Int)<((k+1:Nat):Int))=true:=by rw [decide_eq_true_eq];omega
       simp only [c1,cond_true,w6p (show k<9223372036854775807 by omega),uY (show k<m.b.length by omega),Int.toNat_natCast,bQ hy,ayX hy,Bool.not_true,cond_false,Bool.true_and]
       cases x==y<;>rfl
theorem m237 (m:Mv):Sf237 (m,())=some (sW m.o m.b):=by
 show Ef237 (64) m=_
 unfold Ef237 Tf237 sW
 simp only [TS]
 by_cases h:9<m.b.length
 · have c1:decide (9<((m.b.length:Nat):Int))=true:=by simp;omega
   simp only [c1,cond_true,if_pos (Or.inl h)]
 have c1:decide (9<((m.b.length:Nat):Int))=false:=by simp;omega
 have:=tch_j m (by omega) m.b.length (63-m.b.length) 0 (by omega)
 rw [List.drop_zero,nc0,show before m.b 0=none from rfl,show 63-m.b.length+m.b.length+1=64 by omega]at this
 simp only [c1,cond_false]
 by_cases h0:m.o=true∧m.b.length=0
 · have c2:(((m.b.length:Nat):Int)==0)=true:=by simp [h0.2]
   simp only [h0.1,c2,cond_true,if_pos (Or.inr h0)]
   rw [if_pos (by right;exact⟨trivial,h0.2⟩)]
 · rw [if_neg (fun q=>q.elim h h0)]
   cases ho:m.o with
   | false=>rw [cond_false];exact this
   | true=>
     have c2:(((m.b.length:Nat):Int)==0)=false:=by
      have:m.b.length≠0:=fun e=>h0 ⟨ho,e⟩
      exact beq_eq_false_iff_ne.2 (by omega)
     simp only [c2,cond_true,cond_false];exact this
theorem tch2_j (m:Mv) (hl:m.b.length≤9):∀j n k,k+j=m.b.length→Tr.lp (aj9 m) (n+j+1) (.k8 (k:Int))=some (if iL (before m.b k) (m.b.drop k)=true then 0 else 16):=by
 intro j
 induction j with
 | zero=>
   intro n k hk
   rw [Tr.lp_s]
   simp only [aj9,TS,axN (show ¬k<m.b.length by omega),cond_false,List.drop_eq_nil_of_le (show m.b.length≤k by omega)]
   unfold iL;rfl
 | succ j ih=>
   intro n k hk
   have hlt:k<m.b.length:=by omega
   obtain⟨x,hx⟩:=rJ hlt
   have hn:=ih n (k+1) (by omega)
   rw [Tr.lp_s,nD hx]
   simp only [aj9,TS,axM hlt,uY hlt,cond_true,Int.toNat_natCast,bQ hx,w6s (show k<9223372036854775807 by omega)]
   rw [show n+(j+1)=n+j+1 by omega,hn]
   by_cases h1:x<1
   · have:withinB x 1 9=false:=by simp [withinB];omega
     simp [h1,this]
   by_cases h2:9<x
   · have:withinB x 1 9=false:=by simp [withinB];omega
     simp [h1,h2,this]
   have hw:withinB x 1 9=true:=by simp [withinB];omega
   have d1:decide (x<1)=false:=by simp;omega
   have d2:decide (9<x)=false:=by simp;omega
   simp only [d1,d2,hw,cond_false]
   cases k with
   | zero=>
     simp [before]
   | succ k=>
     obtain⟨y,hy⟩:=rJ (show k<m.b.length by omega)
     have c1:decide ((0:Int)<((k+1:Nat):Int))=true:=by rw [decide_eq_true_eq];omega
     simp only [c1,cond_true,w6p (show k<9223372036854775807 by omega),uY (show k<m.b.length by omega),Int.toNat_natCast,bQ hy,ayX hy,Bool.not_true,cond_false,Bool.true_and]
     cases x==y<;>rfl
theorem m174 (m:Mv):Sf174 (m,())=some (sW m.o m.b):=by
 show Ef174 (64) m=_
 unfold Ef174 Tf174 sW
 simp only [TS]
 by_cases h:9<m.b.length
 · have c1:decide (9<((m.b.length:Nat):Int))=true:=by simp;omega
   simp only [c1,cond_true,if_pos (Or.inl h)]
 have c1:decide (9<((m.b.length:Nat):Int))=false:=by simp;omega
 have:=tch2_j m (by omega) m.b.length (63-m.b.length) 0 (by omega)
 rw [List.drop_zero,nc0,show before m.b 0=none from rfl,show 63-m.b.length+m.b.length+1=64 by omega]at this
 simp only [c1,cond_false]
 by_cases h0:m.o=true∧m.b.length=0
 · have c2:(((m.b.length:Nat):Int)==0)=true:=by simp [h0.2]
   simp only [h0.1,c2,cond_true,if_pos (Or.inr h0)]
   rw [if_pos (by right;exact⟨trivial,h0.2⟩)]
 · rw [if_neg (fun q=>q.elim h h0)]
   cases ho:m.o with
   | false=>rw [cond_false];exact this
   | true=>
     have c2:(((m.b.length:Nat):Int)==0)=false:=by
      have:m.b.length≠0:=fun e=>h0 ⟨ho,e⟩
      exact beq_eq_false_iff_ne.2 (by omega)
     simp only [c2,cond_true,cond_false];exact this
theorem fst_j (s:List Int) (hl:s.length<9223372036854775807):∀j n k,k+j=s.length→Tr.lp (yT s) (n+j+1) (.k4 (k:Int))=some (dD (s.drop k)):=by
 intro j
 induction j with
 | zero=>
   intro n k hk
   rw [Tr.lp_s]
   simp only [yT,TS,axN (show ¬k<s.length by omega),cond_false,List.drop_eq_nil_of_le (show s.length≤k by omega)];rfl
 | succ j ih=>
   intro n k hk
   have hlt:k<s.length:=by omega
   obtain⟨x,hx⟩:=rJ hlt
   have hn:=ih n (k+1) (by omega)
   rw [Tr.lp_s,qO hx]
   simp only [yT,TS,axM hlt,uY hlt,cond_true,Int.toNat_natCast,bQ hx,w6s (show k<9223372036854775807 by omega)]
   rw [show n+(j+1)=n+j+1 by omega,hn]
   by_cases h:x=0
   · simp [h]
   · have:(x==0)=false:=by simpa using h
     simp [h,this]
theorem m192 (s:List Int) (hl:s.length<9223372036854775807):awm (s,())=some (dD s):=by
 show Ef192 (s.length+64) s=_
 unfold Ef192 Tf192
 simp only [TS]
 have:=fst_j s hl s.length 63 0 (by omega)
 rw [List.drop_zero,nc0]at this
 rw [fu];exact this
theorem fst2_j (s:List Int) (hl:s.length<9223372036854775807):∀j n k,k+j=s.length→Tr.lp (akM s) (n+j+1) (.k4 (k:Int))=some (dD (s.drop k)):=by
 intro j
 induction j with
 | zero=>
   intro n k hk
   rw [Tr.lp_s]
   simp only [akM,TS,axN (show ¬k<s.length by omega),cond_false,List.drop_eq_nil_of_le (show s.length≤k by omega)];rfl
 | succ j ih=>
   intro n k hk
   have hlt:k<s.length:=by omega
   obtain⟨x,hx⟩:=rJ hlt
   have hn:=ih n (k+1) (by omega)
   rw [Tr.lp_s,qO hx]
   simp only [akM,TS,axM hlt,uY hlt,cond_true,Int.toNat_natCast,bQ hx,w6s (show k<9223372036854775807 by omega)]
   rw [show n+(j+1)=n+j+1 by omega,hn]
   by_cases h:x=0
   · simp [h]
   · have:(x==0)=false:=by simpa using h
     simp [h,this]
theorem m65 (s:List Int) (hl:s.length<9223372036854775807):Sf65 (s,())=some (dD s):=by
 show Ef65 (s.length+64) s=_
 unfold Ef65 Tf65
 simp only [TS]
 have:=fst2_j s hl s.length 63 0 (by omega)
 rw [List.drop_zero,nc0]at this
 rw [fu];exact this
theorem m216 (m:Mv):Sf216 (m,())=some (mvE m):=by
 show Ef216 m=_
 unfold Ef216 Tf216 mvE zY
 simp only [TS,m234,m235,m236,m237,obind_some,m192 [_,_,_,_] (by simp)]
end
end Go.Ev
