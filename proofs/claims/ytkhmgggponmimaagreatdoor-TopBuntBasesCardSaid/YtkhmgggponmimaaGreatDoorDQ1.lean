import Derived.Test.YtkhmgggponmimaaGreatDoorDP2
set_option linter.unusedSimpArgs false
set_option linter.unusedVariables false
namespace Go.Ev
open Go.RowKit Go.Proofs
set_option maxRecDepth 100000
set_option maxHeartbeats 4000000
noncomputable section
def vMv (k:Int) (m:Mv):Prop:=m.f=k∧mvE m=0
theorem fQ {m:Mv}(h:mvE m=0):0≤m.f∧m.f≤3∧1≤m.t∧m.t≤4∧wayE m.f m.t m.o m.h=0:=by
 unfold mvE moveE at h
 by_cases hc:m.f<0∨3<m.f
 · simp [jF,lX,hc]at h
 by_cases hd:m.t<1∨4<m.t
 · simp [jF,lX,hc,hd]at h
 by_cases hw:wayE m.f m.t m.o m.h=0
 · exact⟨by omega,by omega,by omega,by omega,hw⟩
 · simp [jF,lX,hc,hd,hw]at h
theorem gO {p:Option Int}{m:Mv}{l:List Mv}(h:azL p (m::l)=0):mvE m=0∧(∀q,p=some q→m.f<q)∧azL (some m.f) l=0:=by
 unfold azL at h
 split at h
 · rename_i h1;exact absurd h h1
 · rename_i h1
   split at h
   · cases h
   · rename_i h2
     refine⟨by omega,?_,h⟩
     rintro q rfl
     simp at h2
     omega
def inSh (k:Nat):List Mv→Prop:=match k with
 | 0=>fun l=>l=[]
 | k+1=>fun l=>inSh k l∨∃m r,l=m::r∧vMv (k:Int) m∧inSh k r
theorem vM:∀(k:Nat) (p:Option Int) (l:List Mv),azL p l=0→(∀m∈l.head?,m.f<(k:Int))→inSh k l
 | 0,p,[],_,_=>rfl
 | 0,p,m::l,h,hk=>by
   have h1:=fQ (gO h).1
   have h2:=hk m (by simp)
   omega
 | k+1,p,[],_,_=>.inl (vM k none [] rfl (by simp))
 | k + 1,p,m::l,h,hk=>by
   obtain⟨h1,h2,h3⟩:=gO h
   have h4:=hk m (by simp)
   by_cases hf:m.f=(k:Int)
   · refine .inr ⟨m,l,rfl,⟨hf,h1⟩,vM k _ l h3 ?_⟩
     intro m' hm'
     match l,hm' with
     | x::l',hx=>
       simp at hx;subst hx
       have:=(gO h3).2.1 m.f rfl
       omega
   · exact .inl (vM k p (m::l) h (by intro m' hm';simp at hm';subst hm';omega))
theorem av8 {l:List Mv}(h:aC l=0):inSh 4 l:=by
 unfold aC at h
 split at h
 · cases h
 · refine vM 4 none l h ?_
   intro m hm
   match l,hm with
   | x::l',hx=>
     simp at hx;subst hx
     have:=fQ (gO h).1
     show x.f<4
     omega
@[elab_as_elim] theorem sh_cases {P:List Mv→Prop} {l:List Mv} (h:aC l=0) (e0:P []) (e1:∀a,vMv 0 a→P [a]) (e2:∀a,vMv 1 a→P [a]) (e3:∀a,vMv 2 a→P [a]) (e4:∀a,vMv 3 a→P [a])
  (e10:∀a b,vMv 1 a→vMv 0 b→P [a,b]) (e20:∀a b,vMv 2 a→vMv 0 b→P [a,b]) (e30:∀a b,vMv 3 a→vMv 0 b→P [a,b]) (e21:∀a b,vMv 2 a→vMv 1 b→P [a,b]) (e31:∀a b,vMv 3 a→vMv 1 b→P [a,b]) (e32:∀a b,vMv 3 a→vMv 2 b→P [a,b])
  (e210:∀a b c,vMv 2 a→vMv 1 b→vMv 0 c→P [a,b,c]) (e310:∀a b c,vMv 3 a→vMv 1 b→vMv 0 c→P [a,b,c]) (e320:∀a b c,vMv 3 a→vMv 2 b→vMv 0 c→P [a,b,c]) (e321:∀a b c,vMv 3 a→vMv 2 b→vMv 1 c→P [a,b,c])
  (e3210:∀a b c d,vMv 3 a→vMv 2 b→vMv 1 c→vMv 0 d→P [a,b,c,d]):P l:=by
  have h:=av8 h
  simp only [inSh]at h
  rcases h with(((h|⟨a,r,h1,h2,h3⟩)|⟨a,r,h1,h2,h3|⟨b,r2,h4,h5,h6⟩⟩)|⟨a,r,h1,h2,(h3|⟨b,r2,h4,h5,h6⟩)|⟨b,r2,h4,h5,h6|⟨c,r3,h7,h8,h9⟩⟩⟩) |
   ⟨a,r,h1,h2,((h3|⟨b,r2,h4,h5,h6⟩)|⟨b,r2,h4,h5,h6|⟨c,r3,h7,h8,h9⟩⟩)|⟨b,r2,h4,h5,(h6|⟨c,r3,h7,h8,h9⟩)|⟨c,r3,h7,h8,h9|⟨d,r4,h10,h11,h12⟩⟩⟩⟩<;>subst_vars
  · exact e0
  · exact e1 _ h2
  · exact e2 _ h2
  · exact e10 _ _ h2 h5
  · exact e3 _ h2
  · exact e20 _ _ h2 h5
  · exact e21 _ _ h2 h5
  · exact e210 _ _ _ h2 h5 h8
  · exact e4 _ h2
  · exact e30 _ _ h2 h5
  · exact e31 _ _ h2 h5
  · exact e310 _ _ _ h2 h5 h8
  · exact e32 _ _ h2 h5
  · exact e320 _ _ _ h2 h5 h8
  · exact e321 _ _ _ h2 h5 h8
  · exact e3210 _ _ _ _ h2 h5 h8 h11
theorem dI {l:List Mv}(h:aC l=0):l.length≤4:=by
 unfold aC at h
 split at h
 · cases h
 · omega
end
end Go.Ev
