import Derived.Test.YtfhpbcklkijaoaaGreatDoorDF1
set_option linter.unusedSimpArgs false
set_option linter.unusedVariables false
namespace Go.Ev
open Go.RowKit Go.Proofs
set_option maxRecDepth 100000
set_option maxHeartbeats 4000000
def gI:List Nat→Bool
 | []=>true
 | x::l=>isP x&&(!lastP x||l.isEmpty)&&gI l
def xX (l:List Nat):Int:=if l.length≤24 then(if gI l=true then 0 else 14)else 5
theorem kZ {l:List Nat}{k x:Nat}(h:l[k]? = some x):gI (l.drop k)=(isP x&&(!lastP x||!decide ((k:Int)<(l.length:Int)-1))&&gI (l.drop (k+1))):=by
 obtain⟨hk,rfl⟩:=List.getElem?_eq_some_iff.1 h
 rw [List.drop_eq_getElem_cons hk]
 have e:(l.drop (k+1)).isEmpty=!decide ((k:Int)<(l.length:Int)-1):=by
  rw [Bool.eq_iff_iff]
  simp only [List.isEmpty_iff,List.drop_eq_nil_iff,Bool.not_eq_true',decide_eq_false_iff_not]
  omega
 rw [gI,e]
theorem hasC_P (x:Nat):hasC [66,67,83,70,88,72] (x:Int)=isP x:=by
 simp only [hasC,List.any_cons,List.any_nil,Bool.or_false,isP]
 rw [Bool.eq_iff_iff]
 simp only [Bool.or_eq_true,beq_iff_eq]
 omega
def isEv:List Nat→Bool
 | [x]=>hasC [75,87,72,73,88,78,89] (x:Int)
 | _=>false
def t7 (l:List Nat):Int:=if(decide (l=[])||isEv l)=true then 0 else 13
theorem xQ {n lo hi:Int}(h:lo≤n∧n≤hi):cZ n lo hi=0:=by unfold cZ;rw [if_neg (by omega)]
def reachB (r f t:Int):Bool:=if r=1 then t==f else if r=2 then t==IntKind.i64.wrap (f+1)else if r=3 then decide (f<t)else if r=4 then decide (f≤t)else false
abbrev Way:=Bool×List Nat×Int×Int
def wayT:List Way:=[(false,[98],3,3),(false,[97],3,3),(false,[115],0,3),(false,[112],3,3),(false,[107],0,3),(false,[116],3,3),(false,[111],3,3),
 (true,[102],2,2),(true,[103],3,4),(true,[99],2,0),(true,[100],0,1),(true,[107],2,0),(true,[110],2,3),(true,[121],2,0)]
def findL (o:Bool) (h:List Nat) (l:List Way):Option Way:=l.find? fun w=>(w.1==o)&&decide (w.2.1=h)
def awf (f t:Int) (o:Bool) (h:List Nat):Int:=match findL o h wayT with
 | some w=>if reachB (if f=0 then w.2.2.1 else w.2.2.2) f t=true then 0 else 15
 | none=>13
def iX:Option Int→List Int→Bool
 | _,[]=>true
 | p,x::l=>withinB x 1 9&&!decide (p=some x)&&iX (some x) l
def tI (o:Bool) (b:List Int):Int:=if 9<b.length∨(o=true∧b.length=0)then 16 else if iX none b=true then 0 else 16
def before (b:List Int) (k:Nat):Option Int:=if k=0 then none else b[k-1]?
theorem sB (b:List Int) (k:Nat):before b (k+1)=b[k]? := by simp [before]
theorem nY {b:List Int}{k:Nat}{x:Int}(h:b[k]? = some x):iX (before b k) (b.drop k)=(withinB x 1 9&&!decide (before b k=some x)&&iX (before b (k+1)) (b.drop (k+1))):=by
 rw [sB,h]
 obtain⟨hk,rfl⟩:=List.getElem?_eq_some_iff.1 h
 rw [List.drop_eq_getElem_cons hk];rfl
def waysO:List Nat:=[102,103,99,100,107,110,121]
def waysS:List Nat:=[98,97,115,112,107,116,111]
def yG (o:Bool):List Nat→Bool
 | [c]=>hasC (if o=true then waysO else waysS) (c:Int)
 | _=>false
def fitsB (f t:Int) (o:Bool) (c:Nat):Bool:=
 if o=false then decide (f<t)&&(decide (0<f)||!hasC [115,107] (c:Int))else
 if c=100 then decide (0<f)&&(t==f)else if c=103 then decide (f≤t)else
 if c=110 then decide (f<t)&&(decide (0<f)||(t==1))else if c=102 then t==f+1 else(f==0)&&(t==1)
def wayR (f t:Int) (o:Bool) (h:List Nat):Int:=if yG o h=true then(match h with
 | [c]=>if fitsB f t o c=true then 0 else 15
 | _=>15)else 13
theorem way_key:∀o∈[true,false],∀c∈(if o=true then waysO else waysS),∀f∈([0,1,2,3]:List Int),∀t∈([1,2,3,4]:List Int),awf f t o [c]=wayR f t o [c]:=by decide +kernel
theorem way_all:∀w∈wayT,yG w.1 w.2.1=true:=by decide +kernel
theorem hasC_mem {l:List Nat}{c:Nat}(h:hasC l (c:Int)=true):c∈l:=by
 simp only [hasC,List.any_eq_true,beq_iff_eq]at h
 obtain⟨x,hx,e⟩:=h
 obtain rfl:x=c:=by omega
 exact hx
theorem way_eq {f t:Int}{o:Bool}{h:List Nat}(hf:0≤f∧f≤3) (ht:1≤t∧t≤4):awf f t o h=wayR f t o h:=by
 cases hw:yG o h with
 | true=>
   match h,hw with
   | [c],hw=>
     exact way_key o (by cases o<;>simp) c (hasC_mem hw) f (by simp;omega) t (by simp;omega)
 | false=>
   have hn:findL o h wayT=none:=by
    unfold findL
    rw [List.find?_eq_none]
    intro w hm hc
    simp only [Bool.and_eq_true,beq_iff_eq,decide_eq_true_eq]at hc
    have:=way_all w hm
    rw [hc.1,hc.2,hw]at this
    cases this
   simp only [awf,hn,wayR,hw,Bool.false_eq_true,if_false]
def aq0 (f t:Int) (o:Bool) (h:List Nat) (b:List Int):Int:=dY [cZ f 0 3,cZ t 1 4,awf f t o h,tI o b]
theorem axe {f t:Int}{o:Bool}{h:List Nat}{b:List Int}(hf:0≤f∧f≤3) (ht:1≤t∧t≤4):aq0 f t o h b=if wayR f t o h=0 then tI o b else wayR f t o h:=by
 unfold aq0
 rw [xQ hf,xQ ht,way_eq hf ht]
 simp only [dY]
 by_cases h1:wayR f t o h=0
 · simp [h1]
   intro h2;exact h2.symm
 · simp [h1]
def mvE (m:Mv):Int:=aq0 m.f m.t m.o m.h m.b
def az1:Option Int→List Mv→Int
 | _,[]=>0
 | p,m::l=>if mvE m≠0 then mvE m else if(p.any fun q=>decide (q≤m.f))=true then 11 else az1 (some m.f) l
def aC (l:List Mv):Int:=if 4<l.length then 5 else az1 none l
def oT (l:List Mv) (k:Nat):Option Int:=if k=0 then none else(l[k-1]?).map (·.f)
theorem rD (l:List Mv) (k:Nat):oT l (k+1)=(l[k]?).map (·.f):=by simp [oT]
theorem avf {l:List Mv}{k:Nat}{m:Mv}(h:l[k]? = some m):az1 (oT l k) (l.drop k)=if mvE m≠0 then mvE m else if((oT l k).any fun q=>decide (q≤m.f))=true then 11 else az1 (oT l (k+1)) (l.drop (k+1)):=by
 rw [rD,h]
 obtain⟨hk,rfl⟩:=List.getElem?_eq_some_iff.1 h
 rw [List.drop_eq_getElem_cons hk];rfl
def playE (p e:List Nat) (l:List Mv):Int:=dY [xX p,t7 e,aC l]
def eSt (s:St):List EVal:=[.int .i64 s.inn,.int .i64 s.half,.int .i64 s.outs,.int .i64 s.balls,.int .i64 s.strikes,.int .i64 s.b1,.int .i64 s.b2,.int .i64 s.b3,.int .i64 s.n0,.int .i64 s.n1,.int .i64 s.c0,.int .i64 s.c1,.bool s.over]
theorem eqN (a b:Int):(a==b)=decide (a=b):=by rw [Bool.eq_iff_iff];simp
def inB (n lo hi:Int):Bool:=decide (lo≤n)&&decide (n≤hi)
def batC (s:St):Int:=if s.half=0 then s.n0 else s.n1
def ajn (s:St):Bool:=decide (s.half=0)||decide (s.half=1)
def behC (a:Int):Int:=a.tmod 9+1
theorem wbeh (a:Int):IntKind.i64.wrap (a.tmod 9+1)=behC a:=by
 have h1:=Int.tmod_lt_of_pos a (b:=9) (by omega)
 have h2:=Int.lt_tmod_of_pos a (b:=9) (by omega)
 unfold behC
 rw [eB]<;>omega
def leadB (s:St):Bool:=decide (s.c0<s.c1)
def decB (s:St):Bool:=decide (9≤s.inn)&&decide (s.half=1)&&leadB s
def lastB (s:St):Bool:=decide (9≤s.inn)&&(leadB s||decide (s.half=1)&&(decide (s.c0≠s.c1)||decide (s.inn=30)))
def clr (s:St):St:={ s with outs:=0,balls:=0,strikes:=0,b1:=0,b2:=0,b3:=0 }
def overB (s:St):Bool:=decide (s=clr s)&&lastB s
def endE (s:St):Int:=if(s.over&&!overB s||!s.over&&decB s)=true then 19 else 0
def az2 (s:St):Int:=if inB s.inn 1 30=true then 0 else 3
def nE (s:St):Int:=if inB s.half 0 1=true then 0 else 17
def cnB (s:St):Bool:=inB s.outs 0 2&&inB s.balls 0 3&&inB s.strikes 0 2
def baB (s:St):Nat→Bool
 | 0=>cnB s
 | 1=>cnB s&&inB s.b1 0 9
 | 2=>cnB s&&inB s.b1 0 9&&inB s.b2 0 9
 | _=>cnB s&&inB s.b1 0 9&&inB s.b2 0 9&&inB s.b3 0 9
def nuB (s:St):Nat→Bool
 | 0=>baB s 3
 | 1=>baB s 3&&inB s.n0 1 9&&inB s.c0 0 9999
 | _=>baB s 3&&inB s.n0 1 9&&inB s.c0 0 9999&&inB s.n1 1 9&&inB s.c1 0 9999
def axc (s:St):Int:=if nuB s 2=true then 0 else 3
def sinC (r b:Int):Int:=(b-r+8) % 9
def in19 (n:Int):Bool:=inB n 1 9
theorem ajm {n:Int}:in19 n=true↔1≤n∧n≤9:=by simp [in19,inB]
theorem bqg {r:Int}{k:Nat}(h1:1≤r):behC ((r+k-1) % 9+1)=(r+k) % 9+1:=by
 unfold behC
 rw [Int.tmod_eq_emod_of_nonneg (by omega)]
 omega
theorem at_eq {r b:Int}{k:Nat}(h1:1≤r) (h2:r≤9) (h3:1≤b) (h4:b≤9) (hk:(k:Int)=sinC r b):(r+k) % 9+1=b:=by
 unfold sinC at hk;omega
theorem at_ne {r b:Int}{k:Nat}(h1:1≤r) (h2:r≤9) (h3:1≤b) (h4:b≤9) (hk:(k:Int)<sinC r b):(r+k) % 9+1≠b:=by
 unfold sinC at hk;omega
theorem qF (r b:Int):0≤sinC r b∧sinC r b<9:=by unfold sinC;omega
def bsC (s:St):Nat→Int
 | 0=>s.b1
 | 1=>s.b2
 | _=>s.b3
def sW (s:St) (slot:Int):Option (Int×Int)→Option (Int×Int)
 | none=>none
 | some (lo,la)=>if slot=0 then some (lo,la)else
   if(inB (sinC slot (batC s)) lo (lo+s.outs)&&!decide (sinC slot (batC s)≤la))=true then some (lo+1,sinC slot (batC s))else none
def akC (s:St):Nat→Option (Int×Int)
 | 0=>some (0,-1)
 | n+1=>sW s (bsC s n) (akC s n)
def ayM (s:St):Bool:=(akC s 3).isSome
theorem ayK {s:St}{k:Nat}(h:akC s k=none) (j:Nat):akC s (k+j)=none:=by
 induction j with
 | zero=>exact h
 | succ j ih=>show sW s _ (akC s (k+j))=none;rw [ih];rfl
theorem ayL {s:St}{k:Nat}(h:akC s k=none) (hk:k≤3):ayM s=false:=by
 have:=ayK h (3-k)
 rw [show k+(3-k)=3 by omega]at this
 simp [ayM,this]
def ayI (s:St):Bool:=ajn s&&nuB s 2
structure Good (s:St):Prop where
 half:s.half=0∨s.half=1
 outs:0≤s.outs∧s.outs≤2
 b1:0≤s.b1∧s.b1≤9
 b2:0≤s.b2∧s.b2≤9
 b3:0≤s.b3∧s.b3≤9
 n0:1≤s.n0∧s.n0≤9
 n1:1≤s.n1∧s.n1≤9
theorem avu {s:St}(h:ayI s=true):Good s:=by
 simp only [ayI,nuB,baB,cnB,inB,ajn,Bool.and_eq_true,Bool.or_eq_true,decide_eq_true_eq]at h
 exact⟨h.1,by omega,by omega,by omega,by omega,by omega,by omega⟩
theorem Good.bat {s:St}(h:Good s):in19 (batC s)=true:=by
 rw [ajm];unfold batC;have:=h.n0;have:=h.n1;split<;>omega
def avW (s:St):Int:=if ayM s=true then 0 else 11
def tZ:List Int→Int
 | []=>0
 | x::l=>if x=0 then tZ l else x
def azd (s:St):List Int:=[az2 s,nE s,axc s,endE s,avW s]
def stE (s:St):Int:=tZ (azd s)
theorem awj {s:St}(h:stE s=0):inB s.inn 1 30=true∧inB s.half 0 1=true∧nuB s 2=true∧endE s=0∧ayM s=true:=by
 unfold stE azd at h
 simp only [tZ]at h
 by_cases h1:az2 s=0
 · rw [if_pos h1]at h
   by_cases h2:nE s=0
   · rw [if_pos h2]at h
     by_cases h3:axc s=0
     · rw [if_pos h3]at h
       by_cases h4:endE s=0
       · rw [if_pos h4]at h
         by_cases h5:avW s=0
         · refine ⟨?_,?_,?_,h4,?_⟩
           · unfold az2 at h1;split at h1<;>first|assumption|omega
           · unfold nE at h2;split at h2<;>first|assumption|omega
           · unfold axc at h3;split at h3<;>first|assumption|omega
           · unfold avW at h5;split at h5<;>first|assumption|omega
         · rw [if_neg h5]at h;exact absurd h h5
       · rw [if_neg h4]at h;exact absurd h h4
     · rw [if_neg h3]at h;exact absurd h h3
   · rw [if_neg h2]at h;exact absurd h h2
 · rw [if_neg h1]at h;exact absurd h h1
theorem aqb {s:St}(h:stE s=0):Good s:=by
 obtain⟨_,h2,h3,_,_⟩:=awj h
 refine avu ?_
 simp only [ayI,h3,Bool.and_true,ajn,Bool.or_eq_true,decide_eq_true_eq]
 simp only [inB,Bool.and_eq_true,decide_eq_true_eq]at h2
 omega
end Go.Ev
