import Derived.Test.YtfhpbcklkijaoaaGreatDoorDP2
set_option linter.unusedSimpArgs false
set_option linter.unusedVariables false
namespace Go.Ev
open Go.RowKit Go.Proofs
set_option maxRecDepth 100000
set_option maxHeartbeats 4000000
noncomputable section
def vMv (k:Int) (m:Mv):Prop:=m.f=k∧mvE m=0
theorem iS {m:Mv}(h:mvE m=0):0≤m.f∧m.f≤3∧1≤m.t∧m.t≤4∧awf m.f m.t m.o m.h=0:=by
 unfold mvE aq0 at h
 by_cases hc:m.f<0∨3<m.f
 · simp [dY,cZ,hc]at h
 by_cases hd:m.t<1∨4<m.t
 · simp [dY,cZ,hc,hd]at h
 by_cases hw:awf m.f m.t m.o m.h=0
 · exact⟨by omega,by omega,by omega,by omega,hw⟩
 · simp [dY,cZ,hc,hd,hw]at h
theorem gK {p:Option Int}{m:Mv}{l:List Mv}(h:az1 p (m::l)=0):mvE m=0∧(∀q,p=some q→m.f<q)∧az1 (some m.f) l=0:=by
 unfold az1 at h
 split at h
 · rename_i h1;exact absurd h h1
 · rename_i h1
   split at h
   · cases h
   · rename_i h2
     refine⟨by omega,?_,h⟩
     rintro q rfl
     simp at h2
     omega
def inSh (k:Nat):List Mv→Prop:=match k with
 | 0=>fun l=>l=[]
 | k+1=>fun l=>inSh k l∨∃m r,l=m::r∧vMv (k:Int) m∧inSh k r
theorem vP:∀(k:Nat) (p:Option Int) (l:List Mv),az1 p l=0→(∀m∈l.head?,m.f<(k:Int))→inSh k l
 | 0,p,[],_,_=>rfl
 | 0,p,m::l,h,hk=>by
   have h1:=iS (gK h).1
   have h2:=hk m (by simp)
   omega
 | k+1,p,[],_,_=>.inl (vP k none [] rfl (by simp))
 | k + 1,p,m::l,h,hk=>by
   obtain⟨h1,h2,h3⟩:=gK h
   have h4:=hk m (by simp)
   by_cases hf:m.f=(k:Int)
   · refine .inr ⟨m,l,rfl,⟨hf,h1⟩,vP k _ l h3 ?_⟩
     intro m' hm'
     match l,hm' with
     | x::l',hx=>
       simp at hx;subst hx
       have:=(gK h3).2.1 m.f rfl
       omega
   · exact .inl (vP k p (m::l) h (by intro m' hm';simp at hm';subst hm';omega))
theorem avg {l:List Mv}(h:aC l=0):inSh 4 l:=by
 unfold aC at h
 split at h
 · cases h
 · refine vP 4 none l h ?_
   intro m hm
   match l,hm with
   | x::l',hx=>
     simp at hx;subst hx
     have:=iS (gK h).1
     show x.f<4
     omega
@[elab_as_elim] theorem sh_cases {P:List Mv→Prop} {l:List Mv} (h:aC l=0) (e0:P []) (e1:∀a,vMv 0 a→P [a]) (e2:∀a,vMv 1 a→P [a]) (e3:∀a,vMv 2 a→P [a]) (e4:∀a,vMv 3 a→P [a])
  (e10:∀a b,vMv 1 a→vMv 0 b→P [a,b]) (e20:∀a b,vMv 2 a→vMv 0 b→P [a,b]) (e30:∀a b,vMv 3 a→vMv 0 b→P [a,b]) (e21:∀a b,vMv 2 a→vMv 1 b→P [a,b]) (e31:∀a b,vMv 3 a→vMv 1 b→P [a,b]) (e32:∀a b,vMv 3 a→vMv 2 b→P [a,b])
  (e210:∀a b c,vMv 2 a→vMv 1 b→vMv 0 c→P [a,b,c]) (e310:∀a b c,vMv 3 a→vMv 1 b→vMv 0 c→P [a,b,c]) (e320:∀a b c,vMv 3 a→vMv 2 b→vMv 0 c→P [a,b,c]) (e321:∀a b c,vMv 3 a→vMv 2 b→vMv 1 c→P [a,b,c])
  (e3210:∀a b c d,vMv 3 a→vMv 2 b→vMv 1 c→vMv 0 d→P [a,b,c,d]):P l:=by
  have h:=avg h
  simp only [inSh]at h
  rcases h with(((h|⟨a,r,h1,h2,h3⟩)|⟨a,r,h1,h2,h3|⟨b,r2,h4,h5,h6⟩⟩)|⟨a,r,h1,h2,(h3|⟨b,r2,h4,h5,h6⟩)|⟨b,r2,h4,h5,h6|⟨c,r3,h7,h8,h9⟩⟩⟩) |
   ⟨a,r,h1,h2,((h3|⟨b,r2,h4,h5,h6⟩)|⟨b,r2,h4,h5,h6|⟨c,r3,h7,h8,h9⟩⟩)|⟨b,r2,h4,h5,(h6|⟨c,r3,h7,h8,h9⟩)|⟨c,r3,h7,h8,h9|⟨d,r4,h10,h11,h12⟩⟩⟩⟩<;>subst_vars
  · exact e0
  · exact e1 _ h2
  · exact e2 _ h2
  · exact e10 _ _ h2 h5
  · exact e3 _ h2
  · exact e20 _ _ h2 h5
  · exact e21 _ _ h2 h5
  · exact e210 _ _ _ h2 h5 h8
  · exact e4 _ h2
  · exact e30 _ _ h2 h5
  · exact e31 _ _ h2 h5
  · exact e310 _ _ _ h2 h5 h8
  · exact e32 _ _ h2 h5
  · exact e320 _ _ _ h2 h5 h8
  · exact e321 _ _ _ h2 h5 h8
  · exact e3210 _ _ _ _ h2 h5 h8 h11
theorem fT {l:List Mv}(h:aC l=0):l.length≤4:=by
 unfold aC at h
 split at h
 · cases h
 · omega
end
end Go.Ev
namespace Go.Ev
open Go.RowKit Go.Proofs
set_option maxRecDepth 100000
set_option maxHeartbeats 4000000
set_option linter.unusedSimpArgs false
noncomputable section
theorem wr0:IntKind.i64.wrap 0=0:=by decide
theorem wr1:IntKind.i64.wrap 1=1:=by decide
theorem wr2:IntKind.i64.wrap 2=2:=by decide
theorem wr3:IntKind.i64.wrap 3=3:=by decide
theorem wr4:IntKind.i64.wrap 4=4:=by decide
theorem wr5:IntKind.i64.wrap 5=5:=by decide
theorem aqE:IntKind.i64.wrap (-1)=-1:=by decide
@[elab_as_elim] theorem len_cases {α:Type} {P:List α→Prop} {l:List α} (h:l.length≤4) (e0:P []) (e1:∀a,P [a]) (e2:∀a b,P [a,b]) (e3:∀a b c,P [a,b,c]) (e4:∀a b c d,P [a,b,c,d]):P l:=by
  match l,h with
  | [],_=>exact e0
  | [a],_=>exact e1 a
  | [a,b],_=>exact e2 a b
  | [a,b,c],_=>exact e3 a b c
  | [a,b,c,d],_=>exact e4 a b c d
  | a::b::c::d::e::l,h=>exact absurd h (by simp)
theorem len64 {α:Type}{l:List α}(h:l.length≤4):∃n,l.length+64=n+5:=⟨l.length+59,by omega⟩
def rnM (m:Mv):Bool:=!m.o&&(m.t==4)
theorem s196 (m:Mv):Sz196 (m,())=some m.o:=rfl
theorem s151 (m:Mv):ayr (m,())=some (rnM m):=by
 show Ez151 m=_
 unfold Ez151 Tz151 rnM
 simp only [TS,w6]
 cases m.o<;>rfl
def mAt (l:List Mv) (k:Int):Option Mv:=l.find? fun m=>m.f==k
theorem outs_j {l:List Mv}(h:l.length≤4) (n:Nat):gU l () (n+5) (.k6 0 0)=some ((l.countP (·.o):Nat):Int):=by
 refine len_cases (P:=fun l=>gU l () (n+5) (.k6 0 0)=some ((l.countP (·.o):Nat):Int)) h ?_ ?_ ?_ ?_ ?_
 · simp [dZ,dA,TS,w6,inR,wr0,wr1,wr2,wr3,wr4,wr5,aqE,obind_some,s196,List.countP_cons]
 · intro a
   cases h0:a.o<;>simp [dZ,dA,TS,w6,inR,wr0,wr1,wr2,wr3,wr4,wr5,aqE,obind_some,s196,List.countP_cons,h0]
 · intro a b
   cases h0:a.o<;>cases h1:b.o<;>simp [dZ,dA,TS,w6,inR,wr0,wr1,wr2,wr3,wr4,wr5,aqE,obind_some,s196,List.countP_cons,h0,h1]
 · intro a b c
   cases h0:a.o<;>cases h1:b.o<;>cases h2:c.o<;>simp [dZ,dA,TS,w6,inR,wr0,wr1,wr2,wr3,wr4,wr5,aqE,obind_some,s196,List.countP_cons,h0,h1,h2]
 · intro a b c d
   cases h0:a.o<;>cases h1:b.o<;>cases h2:c.o<;>cases h3:d.o<;>simp [dZ,dA,TS,w6,inR,wr0,wr1,wr2,wr3,wr4,wr5,aqE,obind_some,s196,List.countP_cons,h0,h1,h2,h3]
theorem outs_p {l:List Mv}(h:l.length≤4):sJ (l,(),())=some ((l.countP (·.o):Nat):Int):=by
 obtain⟨n,e⟩:=len64 h
 show sO (l.length+64) l ()=_
 unfold sO sG
 simp only [TS,w6]
 rw [e];exact outs_j h n
theorem runs_j {l:List Mv}(h:l.length≤4) (n:Nat):gV l () (n+5) (.k6 0 0)=some ((l.countP rnM:Nat):Int):=by
 refine len_cases (P:=fun l=>gV l () (n+5) (.k6 0 0)=some ((l.countP rnM:Nat):Int)) h ?_ ?_ ?_ ?_ ?_
 · simp [d9,dB,TS,w6,inR,wr0,wr1,wr2,wr3,wr4,wr5,aqE,obind_some,s151,List.countP_cons]
 · intro a
   cases h0:rnM a<;>simp [d9,dB,TS,w6,inR,wr0,wr1,wr2,wr3,wr4,wr5,aqE,obind_some,s151,List.countP_cons,h0]
 · intro a b
   cases h0:rnM a<;>cases h1:rnM b<;>simp [d9,dB,TS,w6,inR,wr0,wr1,wr2,wr3,wr4,wr5,aqE,obind_some,s151,List.countP_cons,h0,h1]
 · intro a b c
   cases h0:rnM a<;>cases h1:rnM b<;>cases h2:rnM c<;>simp [d9,dB,TS,w6,inR,wr0,wr1,wr2,wr3,wr4,wr5,aqE,obind_some,s151,List.countP_cons,h0,h1,h2]
 · intro a b c d
   cases h0:rnM a<;>cases h1:rnM b<;>cases h2:rnM c<;>cases h3:rnM d<;>simp [d9,dB,TS,w6,inR,wr0,wr1,wr2,wr3,wr4,wr5,aqE,obind_some,s151,List.countP_cons,h0,h1,h2,h3]
theorem runs_p {l:List Mv}(h:l.length≤4):sK (l,(),())=some ((l.countP rnM:Nat):Int):=by
 obtain⟨n,e⟩:=len64 h
 show sP (l.length+64) l ()=_
 unfold sP sH
 simp only [TS,w6]
 rw [e];exact runs_j h n
theorem outs_rj {l:List Mv}(h:l.length≤4) (n:Nat) {p ev:List Nat}{lt:Bool}:awY ⟨p,ev,lt,l⟩ (n+5) (.k6 0 0)=some ((l.countP (·.o):Nat):Int):=by
 refine len_cases (P:=fun l=>awY ⟨p,ev,lt,l⟩ (n+5) (.k6 0 0)=some ((l.countP (·.o):Nat):Int)) h ?_ ?_ ?_ ?_ ?_
 · simp [sN,zK,TS,w6,inR,wr0,wr1,wr2,wr3,wr4,wr5,aqE,obind_some,List.countP_cons]
 · intro a
   cases h0:a.o<;>simp [sN,zK,TS,w6,inR,wr0,wr1,wr2,wr3,wr4,wr5,aqE,obind_some,List.countP_cons,h0]
 · intro a b
   cases h0:a.o<;>cases h1:b.o<;>simp [sN,zK,TS,w6,inR,wr0,wr1,wr2,wr3,wr4,wr5,aqE,obind_some,List.countP_cons,h0,h1]
 · intro a b c
   cases h0:a.o<;>cases h1:b.o<;>cases h2:c.o<;>simp [sN,zK,TS,w6,inR,wr0,wr1,wr2,wr3,wr4,wr5,aqE,obind_some,List.countP_cons,h0,h1,h2]
 · intro a b c d
   cases h0:a.o<;>cases h1:b.o<;>cases h2:c.o<;>cases h3:d.o<;>simp [sN,zK,TS,w6,inR,wr0,wr1,wr2,wr3,wr4,wr5,aqE,obind_some,List.countP_cons,h0,h1,h2,h3]
theorem outs_r {l:List Mv}{p ev:List Nat}{lt:Bool}(h:l.length≤4):Sz59 (⟨p,ev,lt,l⟩,())=some ((l.countP (·.o):Nat):Int):=by
 obtain⟨n,e⟩:=len64 h
 show Ez59 (l.length+64) ⟨p,ev,lt,l⟩=_
 unfold Ez59 Tz59
 simp only [TS,w6]
 rw [e];exact outs_rj h n
end
end Go.Ev
