import Derived.Test.YtkhmgggponmimaaGreatDoorDF1
set_option linter.unusedSimpArgs false
set_option linter.unusedVariables false
namespace Go.Ev
open Go.RowKit Go.Proofs
set_option maxRecDepth 100000
set_option maxHeartbeats 4000000
def gL:List Nat→Bool
 | []=>true
 | x::l=>isP x&&(!lastP x||l.isEmpty)&&gL l
def xS (l:List Nat):Int:=if l.length≤24 then(if gL l=true then 0 else 14)else 5
theorem kL {l:List Nat}{k x:Nat}(h:l[k]? = some x):gL (l.drop k)=(isP x&&(!lastP x||!decide ((k:Int)<(l.length:Int)-1))&&gL (l.drop (k+1))):=by
 obtain⟨hk,rfl⟩:=List.getElem?_eq_some_iff.1 h
 rw [List.drop_eq_getElem_cons hk]
 have e:(l.drop (k+1)).isEmpty=!decide ((k:Int)<(l.length:Int)-1):=by
  rw [Bool.eq_iff_iff]
  simp only [List.isEmpty_iff,List.drop_eq_nil_iff,Bool.not_eq_true',decide_eq_false_iff_not]
  omega
 rw [gL,e]
def isEv:List Nat→Bool
 | [x]=>hasC [75,87,72,73,88,78,89] (x:Int)
 | _=>false
def t0 (l:List Nat):Int:=if(decide (l=[])||isEv l)=true then 0 else 13
def reachB (r f t:Int):Bool:=if r=1 then t==f else if r=2 then t==IntKind.i64.wrap (f+1)else if r=3 then decide (f<t)else if r=4 then decide (f≤t)else false
abbrev Way:=Bool×List Nat×Int×Int
def wayT:List Way:=[(false,[98],3,3),(false,[97],3,3),(false,[115],0,3),(false,[112],3,3),(false,[107],0,3),(false,[116],3,3),(false,[111],3,3),
 (true,[102],2,2),(true,[103],3,4),(true,[99],2,0),(true,[100],0,1),(true,[107],2,0),(true,[110],2,3),(true,[121],2,0)]
def findL (o:Bool) (h:List Nat) (l:List Way):Option Way:=l.find? fun w=>(w.1==o)&&decide (w.2.1=h)
def wayE (f t:Int) (o:Bool) (h:List Nat):Int:=match findL o h wayT with
 | some w=>if reachB (if f=0 then w.2.2.1 else w.2.2.2) f t=true then 0 else 15
 | none=>13
def mY:Option Int→List Int→Bool
 | _,[]=>true
 | p,x::l=>withinB x 1 9&&!decide (p=some x)&&mY (some x) l
def az4 (o:Bool) (b:List Int):Int:=if 9<b.length∨(o=true∧b.length=0)then 16 else if mY none b=true then 0 else 16
def before (b:List Int) (k:Nat):Option Int:=if k=0 then none else b[k-1]?
theorem rX (b:List Int) (k:Nat):before b (k+1)=b[k]? := by simp [before]
theorem xA {b:List Int}{k:Nat}{x:Int}(h:b[k]? = some x):mY (before b k) (b.drop k)=(withinB x 1 9&&!decide (before b k=some x)&&mY (before b (k+1)) (b.drop (k+1))):=by
 rw [rX,h]
 obtain⟨hk,rfl⟩:=List.getElem?_eq_some_iff.1 h
 rw [List.drop_eq_getElem_cons hk];rfl
def moveE (f t:Int) (o:Bool) (h:List Nat) (b:List Int):Int:=jF [lX f 0 3,lX t 1 4,wayE f t o h,az4 o b]
def mvE (m:Mv):Int:=moveE m.f m.t m.o m.h m.b
def azL:Option Int→List Mv→Int
 | _,[]=>0
 | p,m::l=>if mvE m≠0 then mvE m else if(p.any fun q=>decide (q≤m.f))=true then 11 else azL (some m.f) l
def aC (l:List Mv):Int:=if 4<l.length then 5 else azL none l
def oP (l:List Mv) (k:Nat):Option Int:=if k=0 then none else(l[k-1]?).map (·.f)
theorem rA (l:List Mv) (k:Nat):oP l (k+1)=(l[k]?).map (·.f):=by simp [oP]
theorem avZ {l:List Mv}{k:Nat}{m:Mv}(h:l[k]? = some m):azL (oP l k) (l.drop k)=if mvE m≠0 then mvE m else if((oP l k).any fun q=>decide (q≤m.f))=true then 11 else azL (oP l (k+1)) (l.drop (k+1)):=by
 rw [rA,h]
 obtain⟨hk,rfl⟩:=List.getElem?_eq_some_iff.1 h
 rw [List.drop_eq_getElem_cons hk];rfl
def playE (p e:List Nat) (l:List Mv):Int:=jF [xS p,t0 e,aC l]
def eSt (s:St):List EVal:=[.int .i64 s.inn,.int .i64 s.half,.int .i64 s.outs,.int .i64 s.balls,.int .i64 s.strikes,.int .i64 s.b1,.int .i64 s.b2,.int .i64 s.b3,.int .i64 s.n0,.int .i64 s.n1,.int .i64 s.c0,.int .i64 s.c1,.bool s.over]
theorem eqN (a b:Int):(a==b)=decide (a=b):=by rw [Bool.eq_iff_iff];simp
def inB (n lo hi:Int):Bool:=decide (lo≤n)&&decide (n≤hi)
def batC (s:St):Int:=if s.half=0 then s.n0 else s.n1
def ajd (s:St):Bool:=decide (s.half=0)||decide (s.half=1)
def behC (a:Int):Int:=a.tmod 9+1
theorem wbeh (a:Int):IntKind.i64.wrap (a.tmod 9+1)=behC a:=by
 have h1:=Int.tmod_lt_of_pos a (b:=9) (by omega)
 have h2:=Int.lt_tmod_of_pos a (b:=9) (by omega)
 unfold behC
 rw [fY]<;>omega
def leadB (s:St):Bool:=decide (s.c0<s.c1)
def decB (s:St):Bool:=decide (9≤s.inn)&&decide (s.half=1)&&leadB s
def lastB (s:St):Bool:=decide (9≤s.inn)&&(leadB s||decide (s.half=1)&&(decide (s.c0≠s.c1)||decide (s.inn=30)))
def clr (s:St):St:={ s with outs:=0,balls:=0,strikes:=0,b1:=0,b2:=0,b3:=0 }
def overB (s:St):Bool:=decide (s=clr s)&&lastB s
def endE (s:St):Int:=if(s.over&&!overB s||!s.over&&decB s)=true then 19 else 0
def azM (s:St):Int:=if inB s.inn 1 30=true then 0 else 3
def nH (s:St):Int:=if inB s.half 0 1=true then 0 else 17
def cnB (s:St):Bool:=inB s.outs 0 2&&inB s.balls 0 3&&inB s.strikes 0 2
def baB (s:St):Nat→Bool
 | 0=>cnB s
 | 1=>cnB s&&inB s.b1 0 9
 | 2=>cnB s&&inB s.b1 0 9&&inB s.b2 0 9
 | _=>cnB s&&inB s.b1 0 9&&inB s.b2 0 9&&inB s.b3 0 9
def nuB (s:St):Nat→Bool
 | 0=>baB s 3
 | 1=>baB s 3&&inB s.n0 1 9&&inB s.c0 0 9999
 | _=>baB s 3&&inB s.n0 1 9&&inB s.c0 0 9999&&inB s.n1 1 9&&inB s.c1 0 9999
def ax1 (s:St):Int:=if nuB s 2=true then 0 else 3
def sinC (r b:Int):Int:=(b-r+8) % 9
def in19 (n:Int):Bool:=inB n 1 9
theorem ajc {n:Int}:in19 n=true↔1≤n∧n≤9:=by simp [in19,inB]
theorem bq6 {r:Int}{k:Nat}(h1:1≤r):behC ((r+k-1) % 9+1)=(r+k) % 9+1:=by
 unfold behC
 rw [Int.tmod_eq_emod_of_nonneg (by omega)]
 omega
theorem at_eq {r b:Int}{k:Nat}(h1:1≤r) (h2:r≤9) (h3:1≤b) (h4:b≤9) (hk:(k:Int)=sinC r b):(r+k) % 9+1=b:=by
 unfold sinC at hk;omega
theorem at_ne {r b:Int}{k:Nat}(h1:1≤r) (h2:r≤9) (h3:1≤b) (h4:b≤9) (hk:(k:Int)<sinC r b):(r+k) % 9+1≠b:=by
 unfold sinC at hk;omega
theorem qC (r b:Int):0≤sinC r b∧sinC r b<9:=by unfold sinC;omega
def bsC (s:St):Nat→Int
 | 0=>s.b1
 | 1=>s.b2
 | _=>s.b3
def sP (s:St) (slot:Int):Option (Int×Int)→Option (Int×Int)
 | none=>none
 | some (lo,la)=>if slot=0 then some (lo,la)else
   if(inB (sinC slot (batC s)) lo (lo+s.outs)&&!decide (sinC slot (batC s)≤la))=true then some (lo+1,sinC slot (batC s))else none
def avu (s:St):Nat→Option (Int×Int)
 | 0=>some (0,-1)
 | n+1=>sP s (bsC s n) (avu s n)
def ayC (s:St):Bool:=(avu s 3).isSome
theorem ayA {s:St}{k:Nat}(h:avu s k=none) (j:Nat):avu s (k+j)=none:=by
 induction j with
 | zero=>exact h
 | succ j ih=>show sP s _ (avu s (k+j))=none;rw [ih];rfl
theorem ayB {s:St}{k:Nat}(h:avu s k=none) (hk:k≤3):ayC s=false:=by
 have:=ayA h (3-k)
 rw [show k+(3-k)=3 by omega]at this
 simp [ayC,this]
def awy (s:St):Bool:=ajd s&&nuB s 2
structure Good (s:St):Prop where
 half:s.half=0∨s.half=1
 outs:0≤s.outs∧s.outs≤2
 b1:0≤s.b1∧s.b1≤9
 b2:0≤s.b2∧s.b2≤9
 b3:0≤s.b3∧s.b3≤9
 n0:1≤s.n0∧s.n0≤9
 n1:1≤s.n1∧s.n1≤9
theorem avm {s:St}(h:awy s=true):Good s:=by
 simp only [awy,nuB,baB,cnB,inB,ajd,Bool.and_eq_true,Bool.or_eq_true,decide_eq_true_eq]at h
 exact⟨h.1,by omega,by omega,by omega,by omega,by omega,by omega⟩
theorem Good.bat {s:St}(h:Good s):in19 (batC s)=true:=by
 rw [ajc];unfold batC;have:=h.n0;have:=h.n1;split<;>omega
def runE (s:St):Int:=if ayC s=true then 0 else 11
def tV:List Int→Int
 | []=>0
 | x::l=>if x=0 then tV l else x
def az0 (s:St):List Int:=[azM s,nH s,ax1 s,endE s,runE s]
def stE (s:St):Int:=tV (az0 s)
theorem aw7 {s:St}(h:stE s=0):inB s.inn 1 30=true∧inB s.half 0 1=true∧nuB s 2=true∧endE s=0∧ayC s=true:=by
 unfold stE az0 at h
 simp only [tV]at h
 by_cases h1:azM s=0
 · rw [if_pos h1]at h
   by_cases h2:nH s=0
   · rw [if_pos h2]at h
     by_cases h3:ax1 s=0
     · rw [if_pos h3]at h
       by_cases h4:endE s=0
       · rw [if_pos h4]at h
         by_cases h5:runE s=0
         · refine ⟨?_,?_,?_,h4,?_⟩
           · unfold azM at h1;split at h1<;>first|assumption|omega
           · unfold nH at h2;split at h2<;>first|assumption|omega
           · unfold ax1 at h3;split at h3<;>first|assumption|omega
           · unfold runE at h5;split at h5<;>first|assumption|omega
         · rw [if_neg h5]at h;exact absurd h h5
       · rw [if_neg h4]at h;exact absurd h h4
     · rw [if_neg h3]at h;exact absurd h h3
   · rw [if_neg h2]at h;exact absurd h h2
 · rw [if_neg h1]at h;exact absurd h h1
theorem vO {s:St}(h:stE s=0):Good s:=by
 obtain⟨_,h2,h3,_,_⟩:=aw7 h
 refine avm ?_
 simp only [awy,h3,Bool.and_true,ajd,Bool.or_eq_true,decide_eq_true_eq]
 simp only [inB,Bool.and_eq_true,decide_eq_true_eq]at h2
 omega
end Go.Ev
