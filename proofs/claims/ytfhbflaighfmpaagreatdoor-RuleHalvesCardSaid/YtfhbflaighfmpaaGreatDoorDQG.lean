import Derived.Test.YtfhbflaighfmpaaGreatDoorDP2
set_option linter.unusedSimpArgs false
set_option linter.unusedVariables false
namespace Go.Ev
open Go.RowKit Go.Proofs
set_option maxRecDepth 100000
set_option maxHeartbeats 4000000
noncomputable section
def vMv (k:Int) (m:Mv):Prop:=m.f=k∧mvE m=0
theorem gL {m:Mv}(h:mvE m=0):0≤m.f∧m.f≤3∧1≤m.t∧m.t≤4∧bq6 m.f m.t m.o m.h=0:=by
 unfold mvE ajp at h;by_cases hc:m.f<0∨3<m.f;· simp [eS,dV,hc]at h
 by_cases hd:m.t<1∨4<m.t;· simp [eS,dV,hc,hd]at h
 by_cases hw:bq6 m.f m.t m.o m.h=0;· exact⟨by omega,by omega,by omega,by omega,hw⟩
 · simp [eS,dV,hc,hd,hw]at h
theorem iQ {p:Option Int}{m:Mv}{l:List Mv}(h:azI p (m::l)=0):mvE m=0∧(∀q,p=some q→m.f<q)∧azI (some m.f) l=0:=by
 unfold azI at h;split at h;· rename_i h1;exact absurd h h1
 · rename_i h1;split at h;· cases h
   · rename_i h2;refine⟨by omega,?_,h⟩;rintro q rfl;simp at h2;omega
def inSh (k:Nat):List Mv→Prop:=match k with
 | 0=>fun l=>l=[]
 | k+1=>fun l=>inSh k l∨∃m r,l=m::r∧vMv (k:Int) m∧inSh k r
theorem yP:∀(k:Nat) (p:Option Int) (l:List Mv),azI p l=0→(∀m∈l.head?,m.f<(k:Int))→inSh k l
 | 0,p,[],_,_=>rfl| 0,p,m::l,h,hk=>by have h1:=gL (iQ h).1;have h2:=hk m (by simp);omega
 | k+1,p,[],_,_=>.inl (yP k none [] rfl (by simp))| k + 1,p,m::l,h,hk=>by
   obtain⟨h1,h2,h3⟩:=iQ h;have h4:=hk m (by simp);by_cases hf:m.f=(k:Int)
   · refine .inr ⟨m,l,rfl,⟨hf,h1⟩,yP k _ l h3 ?_⟩;intro m' hm';match l,hm' with
     | x::l',hx=>simp at hx;subst hx;have:=(iQ h3).2.1 m.f rfl;omega
   · exact .inl (yP k p (m::l) h (by intro m' hm';simp at hm';subst hm';omega))
theorem aw3 {l:List Mv}(h:aB l=0):inSh 4 l:=by
 unfold aB at h;split at h;· cases h
 · refine yP 4 none l h ?_;intro m hm;match l,hm with
   | x::l',hx=>simp at hx;subst hx;have:=gL (iQ h).1;show x.f<4;omega
@[elab_as_elim] theorem sh_cases {P:List Mv→Prop} {l:List Mv} (h:aB l=0) (e0:P []) (e1:∀a,vMv 0 a→P [a]) (e2:∀a,vMv 1 a→P [a]) (e3:∀a,vMv 2 a→P [a]) (e4:∀a,vMv 3 a→P [a])
  (e10:∀a b,vMv 1 a→vMv 0 b→P [a,b]) (e20:∀a b,vMv 2 a→vMv 0 b→P [a,b]) (e30:∀a b,vMv 3 a→vMv 0 b→P [a,b]) (e21:∀a b,vMv 2 a→vMv 1 b→P [a,b]) (e31:∀a b,vMv 3 a→vMv 1 b→P [a,b]) (e32:∀a b,vMv 3 a→vMv 2 b→P [a,b])
  (e210:∀a b c,vMv 2 a→vMv 1 b→vMv 0 c→P [a,b,c]) (e310:∀a b c,vMv 3 a→vMv 1 b→vMv 0 c→P [a,b,c]) (e320:∀a b c,vMv 3 a→vMv 2 b→vMv 0 c→P [a,b,c]) (e321:∀a b c,vMv 3 a→vMv 2 b→vMv 1 c→P [a,b,c])
  (e3210:∀a b c d,vMv 3 a→vMv 2 b→vMv 1 c→vMv 0 d→P [a,b,c,d]):P l:=by
  have h:=aw3 h;simp only [inSh]at h;rcases h with(((h|⟨a,r,h1,h2,h3⟩)|⟨a,r,h1,h2,h3|⟨b,r2,h4,h5,h6⟩⟩)|⟨a,r,h1,h2,(h3|⟨b,r2,h4,h5,h6⟩)|⟨b,r2,h4,h5,h6|⟨c,r3,h7,h8,h9⟩⟩⟩) |
   ⟨a,r,h1,h2,((h3|⟨b,r2,h4,h5,h6⟩)|⟨b,r2,h4,h5,h6|⟨c,r3,h7,h8,h9⟩⟩)|⟨b,r2,h4,h5,(h6|⟨c,r3,h7,h8,h9⟩)|⟨c,r3,h7,h8,h9|⟨d,r4,h10,h11,h12⟩⟩⟩⟩<;>subst_vars
  · exact e0
  · exact e1 _ h2
  · exact e2 _ h2
  · exact e10 _ _ h2 h5
  · exact e3 _ h2
  · exact e20 _ _ h2 h5
  · exact e21 _ _ h2 h5
  · exact e210 _ _ _ h2 h5 h8
  · exact e4 _ h2
  · exact e30 _ _ h2 h5
  · exact e31 _ _ h2 h5
  · exact e310 _ _ _ h2 h5 h8
  · exact e32 _ _ h2 h5
  · exact e320 _ _ _ h2 h5 h8
  · exact e321 _ _ _ h2 h5 h8
  · exact e3210 _ _ _ _ h2 h5 h8 h11
theorem bL {l:List Mv}(h:aB l=0):l.length≤4:=by
 unfold aB at h;split at h;· cases h
 · omega
end
end Go.Ev
namespace Go.Ev
open Go.RowKit Go.Proofs
set_option maxRecDepth 100000
set_option maxHeartbeats 4000000
set_option linter.unusedSimpArgs false
noncomputable section
theorem wr0:IntKind.i64.wrap 0=0:=by decide
theorem wr1:IntKind.i64.wrap 1=1:=by decide
theorem wr2:IntKind.i64.wrap 2=2:=by decide
theorem wr3:IntKind.i64.wrap 3=3:=by decide
theorem wr4:IntKind.i64.wrap 4=4:=by decide
theorem wr5:IntKind.i64.wrap 5=5:=by decide
theorem nE:IntKind.i64.wrap (-1)=-1:=by decide
@[elab_as_elim] theorem len_cases {α:Type} {P:List α→Prop} {l:List α} (h:l.length≤4) (e0:P []) (e1:∀a,P [a]) (e2:∀a b,P [a,b]) (e3:∀a b c,P [a,b,c]) (e4:∀a b c d,P [a,b,c,d]):P l:=by
  match l,h with
  | [],_=>exact e0| [a],_=>exact e1 a| [a,b],_=>exact e2 a b| [a,b,c],_=>exact e3 a b c| [a,b,c,d],_=>exact e4 a b c d| a::b::c::d::e::l,h=>exact absurd h (by simp)
theorem ajs {α:Type}{l:List α}(h:l.length≤4):∃n,l.length+64=n+5:=⟨l.length+59,by omega⟩
def rnM (m:Mv):Bool:=!m.o&&(m.t==4)
theorem s196 (m:Mv):Sz196 (m,())=some m.o:=rfl
theorem s151 (m:Mv):bjx (m,())=some (rnM m):=by show Ez151 m=_;unfold Ez151 Tz151 rnM;simp only [TS,w6];cases m.o<;>rfl
def mvIx (l:List Mv) (k:Int):Int:=match l with
 | []=>-1| a::r=>bif a.f==k then 0 else(match mvIx r k with
   | .ofNat j=>.ofNat (j+1)| i=>i)
def mAt (l:List Mv) (k:Int):Option Mv:=l.find? fun m=>m.f==k
theorem outs_j {l:List Mv}(h:l.length≤4) (n:Nat):iZ l () (n+5) (.k6 0 0)=some ((l.countP (·.o):Nat):Int):=by
 refine len_cases (P:=fun l=>iZ l () (n+5) (.k6 0 0)=some ((l.countP (·.o):Nat):Int)) h ?_ ?_ ?_ ?_ ?_;· simp [fG,dX,TS,w6,inR,wr0,wr1,wr2,wr3,wr4,wr5,nE,obind_some,s196,List.countP_cons]
 · intro a;cases h0:a.o<;>simp [fG,dX,TS,w6,inR,wr0,wr1,wr2,wr3,wr4,wr5,nE,obind_some,s196,List.countP_cons,h0]
 · intro a b;cases h0:a.o<;>cases h1:b.o<;>simp [fG,dX,TS,w6,inR,wr0,wr1,wr2,wr3,wr4,wr5,nE,obind_some,s196,List.countP_cons,h0,h1]
 · intro a b c;cases h0:a.o<;>cases h1:b.o<;>cases h2:c.o<;>simp [fG,dX,TS,w6,inR,wr0,wr1,wr2,wr3,wr4,wr5,nE,obind_some,s196,List.countP_cons,h0,h1,h2]
 · intro a b c d;cases h0:a.o<;>cases h1:b.o<;>cases h2:c.o<;>cases h3:d.o<;>simp [fG,dX,TS,w6,inR,wr0,wr1,wr2,wr3,wr4,wr5,nE,obind_some,s196,List.countP_cons,h0,h1,h2,h3]
theorem outs_p {l:List Mv}(h:l.length≤4):uV (l,(),())=some ((l.countP (·.o):Nat):Int):=by obtain⟨n,e⟩:=ajs h;show vA (l.length+64) l ()=_;unfold vA uQ;simp only [TS,w6];rw [e];exact outs_j h n
theorem runs_j {l:List Mv}(h:l.length≤4) (n:Nat):i0 l () (n+5) (.k6 0 0)=some ((l.countP rnM:Nat):Int):=by
 refine len_cases (P:=fun l=>i0 l () (n+5) (.k6 0 0)=some ((l.countP rnM:Nat):Int)) h ?_ ?_ ?_ ?_ ?_;· simp [fH,dY,TS,w6,inR,wr0,wr1,wr2,wr3,wr4,wr5,nE,obind_some,s151,List.countP_cons]
 · intro a;cases h0:rnM a<;>simp [fH,dY,TS,w6,inR,wr0,wr1,wr2,wr3,wr4,wr5,nE,obind_some,s151,List.countP_cons,h0]
 · intro a b;cases h0:rnM a<;>cases h1:rnM b<;>simp [fH,dY,TS,w6,inR,wr0,wr1,wr2,wr3,wr4,wr5,nE,obind_some,s151,List.countP_cons,h0,h1]
 · intro a b c;cases h0:rnM a<;>cases h1:rnM b<;>cases h2:rnM c<;>simp [fH,dY,TS,w6,inR,wr0,wr1,wr2,wr3,wr4,wr5,nE,obind_some,s151,List.countP_cons,h0,h1,h2]
 · intro a b c d;cases h0:rnM a<;>cases h1:rnM b<;>cases h2:rnM c<;>cases h3:rnM d<;>simp [fH,dY,TS,w6,inR,wr0,wr1,wr2,wr3,wr4,wr5,nE,obind_some,s151,List.countP_cons,h0,h1,h2,h3]
theorem runs_p {l:List Mv}(h:l.length≤4):uW (l,(),())=some ((l.countP rnM:Nat):Int):=by obtain⟨n,e⟩:=ajs h;show vB (l.length+64) l ()=_;unfold vB uR;simp only [TS,w6];rw [e];exact runs_j h n
theorem outs_rj {l:List Mv}(h:l.length≤4) (n:Nat) {p ev:List Nat}{lt:Bool}:bqK ⟨p,ev,lt,l⟩ (n+5) (.k6 0 0)=some ((l.countP (·.o):Nat):Int):=by
 refine len_cases (P:=fun l=>bqK ⟨p,ev,lt,l⟩ (n+5) (.k6 0 0)=some ((l.countP (·.o):Nat):Int)) h ?_ ?_ ?_ ?_ ?_;· simp [u7,ajD,TS,w6,inR,wr0,wr1,wr2,wr3,wr4,wr5,nE,obind_some,List.countP_cons]
 · intro a;cases h0:a.o<;>simp [u7,ajD,TS,w6,inR,wr0,wr1,wr2,wr3,wr4,wr5,nE,obind_some,List.countP_cons,h0]
 · intro a b;cases h0:a.o<;>cases h1:b.o<;>simp [u7,ajD,TS,w6,inR,wr0,wr1,wr2,wr3,wr4,wr5,nE,obind_some,List.countP_cons,h0,h1]
 · intro a b c;cases h0:a.o<;>cases h1:b.o<;>cases h2:c.o<;>simp [u7,ajD,TS,w6,inR,wr0,wr1,wr2,wr3,wr4,wr5,nE,obind_some,List.countP_cons,h0,h1,h2]
 · intro a b c d;cases h0:a.o<;>cases h1:b.o<;>cases h2:c.o<;>cases h3:d.o<;>simp [u7,ajD,TS,w6,inR,wr0,wr1,wr2,wr3,wr4,wr5,nE,obind_some,List.countP_cons,h0,h1,h2,h3]
theorem azB {l:List Mv}{p ev:List Nat}{lt:Bool}(h:l.length≤4):ajQ (⟨p,ev,lt,l⟩,())=some ((l.countP (·.o):Nat):Int):=by obtain⟨n,e⟩:=ajs h;show Ez59 (l.length+64) ⟨p,ev,lt,l⟩=_;unfold Ez59 Tz59;simp only [TS,w6];rw [e];exact outs_rj h n
theorem runs_rj {l:List Mv}(h:l.length≤4) (n:Nat) {p ev:List Nat}{lt:Bool}:ajU ⟨p,ev,lt,l⟩ (n+5) (.k6 0 0)=some ((l.countP rnM:Nat):Int):=by
 refine len_cases (P:=fun l=>ajU ⟨p,ev,lt,l⟩ (n+5) (.k6 0 0)=some ((l.countP rnM:Nat):Int)) h ?_ ?_ ?_ ?_ ?_;· simp [oQ,rE,TS,w6,inR,wr0,wr1,wr2,wr3,wr4,wr5,nE,obind_some,rnM,List.countP_cons]
 · intro a;cases h0:a.o<;>cases h1:(a.t==(4:Int))<;>simp [oQ,rE,TS,w6,inR,wr0,wr1,wr2,wr3,wr4,wr5,nE,obind_some,rnM,List.countP_cons,h0,h1]
 · intro a b;cases h0:a.o<;>cases h1:(a.t==(4:Int))<;>cases h2:b.o<;>cases h3:(b.t==(4:Int))<;>simp [oQ,rE,TS,w6,inR,wr0,wr1,wr2,wr3,wr4,wr5,nE,obind_some,rnM,List.countP_cons,h0,h1,h2,h3]
 · intro a b c;cases h0:a.o<;>cases h1:(a.t==(4:Int))<;>cases h2:b.o<;>cases h3:(b.t==(4:Int))<;>cases h4:c.o<;>cases h5:(c.t==(4:Int))<;>simp [oQ,rE,TS,w6,inR,wr0,wr1,wr2,wr3,wr4,wr5,nE,obind_some,rnM,List.countP_cons,h0,h1,h2,h3,h4,h5]
 · intro a b c d;cases h0:a.o<;>cases h1:(a.t==(4:Int))<;>cases h2:b.o<;>cases h3:(b.t==(4:Int))<;>cases h4:c.o<;>cases h5:(c.t==(4:Int))<;>cases h6:d.o<;>cases h7:(d.t==(4:Int))<;>simp [oQ,rE,TS,w6,inR,wr0,wr1,wr2,wr3,wr4,wr5,nE,obind_some,rnM,List.countP_cons,h0,h1,h2,h3,h4,h5,h6,h7]
theorem runs_r {l:List Mv}{p ev:List Nat}{lt:Bool}(h:l.length≤4):Sz201 (⟨p,ev,lt,l⟩,())=some ((l.countP rnM:Nat):Int):=by obtain⟨n,e⟩:=ajs h;show Ez201 (l.length+64) ⟨p,ev,lt,l⟩=_;unfold Ez201 Tz201;simp only [TS,w6];rw [e];exact runs_rj h n
theorem mvIx_j {l:List Mv}(h:l.length≤4) (n:Nat) {p ev:List Nat}{lt:Bool}{k:Int}:ajW ⟨p,ev,lt,l⟩ k (n+5) (.k4 0)=some (mvIx l k):=by
 refine len_cases (P:=fun l=>ajW ⟨p,ev,lt,l⟩ k (n+5) (.k4 0)=some (mvIx l k)) h ?_ ?_ ?_ ?_ ?_;· simp [oR,rF,TS,w6,inR,wr0,wr1,wr2,wr3,wr4,wr5,nE,obind_some,mvIx]
 · intro a;cases h0:(a.f==k)<;>simp [oR,rF,TS,w6,inR,wr0,wr1,wr2,wr3,wr4,wr5,nE,obind_some,mvIx,h0]
 · intro a b;cases h0:(a.f==k)<;>cases h1:(b.f==k)<;>simp [oR,rF,TS,w6,inR,wr0,wr1,wr2,wr3,wr4,wr5,nE,obind_some,mvIx,h0,h1]
 · intro a b c;cases h0:(a.f==k)<;>cases h1:(b.f==k)<;>cases h2:(c.f==k)<;>simp [oR,rF,TS,w6,inR,wr0,wr1,wr2,wr3,wr4,wr5,nE,obind_some,mvIx,h0,h1,h2]
 · intro a b c d;cases h0:(a.f==k)<;>cases h1:(b.f==k)<;>cases h2:(c.f==k)<;>cases h3:(d.f==k)<;>simp [oR,rF,TS,w6,inR,wr0,wr1,wr2,wr3,wr4,wr5,nE,obind_some,mvIx,h0,h1,h2,h3]
theorem aw2 {l:List Mv}{p ev:List Nat}{lt:Bool}{k:Int}(h:l.length≤4):ajS (⟨p,ev,lt,l⟩,k,())=some (mvIx l k):=by obtain⟨n,e⟩:=ajs h;show Ez157 (l.length+64) ⟨p,ev,lt,l⟩ k=_;unfold Ez157 Tz157;simp only [TS,w6];rw [e];exact mvIx_j h n
theorem has_j {l:List Nat}(h:l.length≤4) (n:Nat) {k:Int}:bqI l k (n+5) (.k4 0)=some (hasC l k):=by
 refine len_cases (P:=fun l=>bqI l k (n+5) (.k4 0)=some (hasC l k)) h ?_ ?_ ?_ ?_ ?_;· simp [uZ,ajC,TS,w6,inR,wr0,wr1,wr2,wr3,wr4,wr5,nE,obind_some,hasC]
 · intro a;cases h0:((a:Nat):Int)==k<;>simp [uZ,ajC,TS,w6,inR,wr0,wr1,wr2,wr3,wr4,wr5,nE,obind_some,hasC,h0]
 · intro a b;cases h0:((a:Nat):Int)==k<;>cases h1:((b:Nat):Int)==k<;>simp [uZ,ajC,TS,w6,inR,wr0,wr1,wr2,wr3,wr4,wr5,nE,obind_some,hasC,h0,h1]
 · intro a b c;cases h0:((a:Nat):Int)==k<;>cases h1:((b:Nat):Int)==k<;>cases h2:((c:Nat):Int)==k<;>simp [uZ,ajC,TS,w6,inR,wr0,wr1,wr2,wr3,wr4,wr5,nE,obind_some,hasC,h0,h1,h2]
 · intro a b c d;cases h0:((a:Nat):Int)==k<;>cases h1:((b:Nat):Int)==k<;>cases h2:((c:Nat):Int)==k<;>cases h3:((d:Nat):Int)==k<;>simp [uZ,ajC,TS,w6,inR,wr0,wr1,wr2,wr3,wr4,wr5,nE,obind_some,hasC,h0,h1,h2,h3]
theorem has_r {l:List Nat}{k:Int}(h:l.length≤4):Sz83 (l,k,())=some (hasC l k):=by obtain⟨n,e⟩:=ajs h;show Ez83 (l.length+64) l k=_;unfold Ez83 Tz83;simp only [TS,w6];rw [e];exact has_j h n
def isM (m:Mv) (out:Bool) (u:List Nat):Bool:=(m.o==out)&&hasC u ((m.h.getD 0 0:Nat):Int)
theorem is_r {m:Mv}{b:Bool}{u:List Nat}(hu:u.length≤4) (hm:m.h≠[]):gV (m,b,u,())=some (isM m b u):=by
 show Ez200 m b u=_;unfold Ez200 Tz200 isM;simp only [TS,w6];have h0:inR (0:Int) m.h.length=true:=by
  cases hh:m.h with
  | nil=>exact absurd hh hm| cons x r=>simp [inR]
 rw [has_r hu,h0];cases m.o==b<;>rfl
end
end Go.Ev
namespace Go.Ev
open Go.RowKit Go.Proofs
set_option maxRecDepth 100000
set_option maxHeartbeats 4000000
set_option linter.unusedSimpArgs false
noncomputable section
def evIn (e t:List Nat):Bool:=match e with
 | [x]=>hasC t (x:Int)| _=>false
def vEv (e:List Nat):Prop:=e=[]∨∃x∈[75,87,72,73,88,78,89],e=[x]
theorem vEv_of {e:List Nat}(h:tY e=0):vEv e:=by
 unfold tY at h;split at h
 · rename_i h1;match e,h1 with
   | [],_=>exact .inl rfl| [x],h1=>refine .inr ⟨x,?_,rfl⟩;simp [isEv,hasC]at h1;simp;omega| x::y::l,h1=>simp [isEv]at h1
 · cases h
theorem akA {s:Tn}{t:List Nat}(hv:vEv s.p_e) (ht:t∈CL):j7 (s,t,())=some (evIn s.p_e t):=by
 show Ez178 s t=_;unfold Ez178 Tz178;simp only [TS,w6];rcases hv with h|⟨x,hx,h⟩;· rw [h];rfl
 · have h2:zQ (t,[x],())=some (hasC t (x:Int)):=by
    unfold zQ;have hx2:x∈OL:=by simp only [List.mem_cons,List.not_mem_nil,or_false]at hx;rcases hx with rfl|rfl|rfl|rfl|rfl|rfl|rfl<;>simp [OL]
    show(if(t∈CL∧x∈OL)∨_ then _ else _)=_;rw [if_pos (Or.inl ⟨ht,hx2⟩)]
   rw [h,h2];rfl
theorem s179 {s:Tn}(h:aB s.p_m=0):ayr (s,())=some ((mAt s.p_m 0).getD mv0,(mAt s.p_m 0).isSome,()):=by show Ez179 s=_;unfold Ez179 Tz179;simp only [TS,w6];generalize s.p_m=l at h;refine sh_cases h ?_ ?_ ?_ ?_ ?_ ?_ ?_ ?_ ?_ ?_ ?_ ?_ ?_ ?_ ?_ ?_<;>intros<;>simp_all [vMv,mAt,inR,wr0,wr1,wr2,wr3,mv0]
theorem bqW {t:Pl}(h:aB t.m=0):bjs (t,())=some ((mAt t.m 0).getD mv0,(mAt t.m 0).isSome,()):=by obtain⟨p,e,b,l⟩:=t;show Ez197 _=_;unfold Ez197 Tz197;simp only [TS,w6];dsimp only at h ⊢;rw [aw2 (bL h)];refine sh_cases h ?_ ?_ ?_ ?_ ?_ ?_ ?_ ?_ ?_ ?_ ?_ ?_ ?_ ?_ ?_ ?_<;>intros<;>simp_all [vMv,mAt,mvIx,inR,mv0,obind_some]
theorem s63 (s:St):Sz63 (s,())=some (true,!(s.b1==0),!(s.b1==0)&&!(s.b2==0),!(s.b1==0)&&(!(s.b2==0)&&!(s.b3==0)),()):=by
 have j:∀n,bxZ s (n+5) (.k6 0 false false false)=some (true,!(s.b1==0),!(s.b1==0)&&!(s.b2==0),!(s.b1==0)&&(!(s.b2==0)&&!(s.b3==0)),()):=by intro n;cases h1:(s.b1==0)<;>cases h2:(s.b2==0)<;>cases h3:(s.b3==0)<;>simp [Ez63J_s,bjj,TS,w6,h1,h2,h3,wr0,wr1,wr2,wr3]
 show Ez63 64 s=_;unfold Ez63 Tz63;simp only [TS,w6];exact j 59
theorem s25 (s:St):Sz25 (s,())=some (true,!(s.b1==0),!(s.b1==0)&&!(s.b2==0),!(s.b1==0)&&(!(s.b2==0)&&!(s.b3==0)),()):=by
 have j:∀n,bx2 s (n+5) (.k6 1 false true false false)=some (true,!(s.b1==0),!(s.b1==0)&&!(s.b2==0),!(s.b1==0)&&(!(s.b2==0)&&!(s.b3==0)),()):=by intro n;cases h1:(s.b1==0)<;>cases h2:(s.b2==0)<;>cases h3:(s.b3==0)<;>simp [Ez25J_s,bjl,TS,w6,h1,h2,h3,wr0,wr1,wr2,wr3,wr4]
 show Ez25 64 s=_;unfold Ez25 Tz25;simp only [TS,w6];exact j 59
end
end Go.Ev
namespace Go.Ev
open Go.RowKit Go.Proofs
set_option maxRecDepth 100000
set_option maxHeartbeats 4000000
set_option linter.unusedSimpArgs false
noncomputable section
def bqa (s t:List Nat):Bool:=decide (t.length≤s.length)&&decide (s.drop (s.length-t.length)=t)
def askC (c:Cnt) (l:List Nat):List Nat:=if c.1=4 then [87]else if c.2=3 then [75]else if bqa l [72]=true then [72]else if bqa l [88]=true then [88]else []
theorem cond_ite {α:Type}{c:Bool}{a b:α}:cond c a b=if c=true then a else b:=by cases c<;>rfl
theorem suf1 {l:List Nat}{y z:Nat}(h:l[l.length-1]? = some y) (hl:0<l.length):bqa l [z]=decide (y=z):=by
 unfold bqa;have e:l.drop (l.length-1)=[y]:=by obtain⟨h1,h2⟩:=List.getElem?_eq_some_iff.1 h;rw [List.drop_eq_getElem_cons h1,h2,List.drop_eq_nil_of_le (by omega)]
 simp only [List.length_cons,List.length_nil,Nat.zero_add,e];have:decide (1≤l.length)=true:=by simp<;>omega
 rw [this,Bool.true_and];simp
theorem ak3 {c:Cnt}{x:Nat}(h:okC c false):¬((stepC c x).1=4∧(stepC c x).2=3):=by obtain⟨h1,h2,h3,h4,h5⟩:=h;have h5:=h5 rfl;unfold stepC;split<;>(try split)<;>(try split)<;>(try split)<;>(try simp only)<;>omega
theorem ayU:∀ {l:List Nat}{c c':Cnt}{d d':Bool},okC c d→¬(c.1=4∧c.2=3)→cnt c d l=.inl (c',d')→okC c' d'∧¬(c'.1=4∧c'.2=3)
 | [],c,c',d,d',h,h2,hc=>by simp only [cnt,Sum.inl.injEq,Prod.mk.injEq]at hc;obtain⟨rfl,rfl⟩:=hc;exact⟨h,h2⟩
 | x :: l,c,c',d,d',h,h2,hc=>by
   simp only [cnt]at hc;split at hc;· cases hc
   · rename_i hd;simp only [Bool.or_eq_true,Bool.not_eq_true',not_or,Bool.not_eq_true,Bool.not_eq_false]at hd;obtain⟨rfl,_⟩:=hd;cases hr:cnt (stepC c x) (doneC c x) l with
     | inr k=>rw [hr]at hc;cases hc| inl r=>rw [hr]at hc;cases hc;exact ayU (axo h) (ak3 h) hr
theorem ayV {b s:Int}{l:List Nat}(h:(aqr b s l).2.2.1=0):0≤(aqr b s l).1.1∧(aqr b s l).1.1≤4∧0≤(aqr b s l).1.2.1∧(aqr b s l).1.2.1≤3∧¬((aqr b s l).1.1=4∧(aqr b s l).1.2.1=3):=by
 unfold aqr at h ⊢;split at h;rotate_left;· simp at h
 rename_i hin;rw [if_pos hin];split at h;rotate_left;· simp at h
 rename_i hl;rw [if_pos hl];cases hc:cnt (b,s) false l with
 | inr k=>rw [hc]at h;simp [bzC]at h| inl q=>obtain⟨c',d'⟩:=q;simp only [bzC];have:=ayU (c:=(b,s)) (d:=false) (by simp only [okC];omega) (by simp only;omega) hc;obtain⟨⟨o1,o2,o3,o4,_⟩,o6⟩:=this;exact⟨o1,o3,o2,o4,o6⟩
theorem s191 {s t:List Nat}(h1:s.length<9223372036854775808) (h2:t.length<9223372036854775808):Sz191 (s,t,())=some (bqa s t):=by
 show Ez191 s t=_;unfold Ez191 Tz191;simp only [TS,w6];by_cases hle:t.length≤s.length
 · have w:IntKind.i64.wrap (((s.length:Nat):Int)-((t.length:Nat):Int))=((s.length-t.length:Nat):Int):=by rw [bD]<;>omega
   have a1:decide (((t.length:Nat):Int)≤((s.length:Nat):Int))=true:=by simp<;>omega
   have a2:(decide ((0:Int)≤((s.length-t.length:Nat):Int))&&decide (((s.length-t.length:Nat):Int)≤((s.length:Nat):Int)))=true:=by simp<;>omega
   simp only [w,a1,a2,cond_true,List.take_length,Int.toNat_natCast,bqa,hle,decide_true,Bool.true_and]
 · have a1:decide (((t.length:Nat):Int)≤((s.length:Nat):Int))=false:=by simp<;>omega
   simp only [a1,cond_false,bqa,hle,decide_false,Bool.false_and]
theorem s140 {s t:List Nat}(h1:s.length<9223372036854775808) (h2:t.length<9223372036854775808):bxA (s,t,())=some (bqa s t):=by show Ez140 s t=_;unfold Ez140 Tz140;simp only [TS,w6];rw [s191 h1 h2];rfl
theorem s82 {k0 k1:Int}{l:List Nat}(hl:l.length<9223372036854775808) (hk:0≤k0∧k0≤4∧0≤k1∧k1≤3∧¬(k0=4∧k1=3)):Sz82 ((k0,k1,()),l,())=some (askC (k0,k1) l):=by
 show Ez82 (k0,k1,()) l=_;unfold Ez82 Tz82;simp only [TS,w6];rw [s140 hl (by simp),obind_some,s140 hl (by simp),obind_some];simp only [cond_ite,decide_eq_true_eq,askC];have e1:(2<k1)=(k1=3):=by apply propext;omega
 have e2:(3<k0)=(k0=4):=by apply propext;omega
 simp only [e1,e2];by_cases h1:k0=4;· have h2:¬k1=3:=fun h2=>hk.2.2.2.2 ⟨h1,h2⟩;rw [if_neg h2,if_pos h1,if_pos h1]
 · rw [if_neg h1];by_cases h2:k1=3;· rw [if_pos h2,if_neg h1,if_pos h2]
   · rw [if_neg h2,if_neg h1,if_neg h2];split;· rfl
     · split<;>rfl
theorem s30 {k0 k1:Int}{l:List Nat}(hl:l.length<9223372036854775808):Sz30 ((k0,k1,()),l,())=some (askC (k0,k1) l):=by
 show Ez30 (k0,k1,()) l=_;unfold Ez30 Tz30;simp only [TS,w6];unfold askC;simp only;by_cases h1:k0=4;· simp [h1]
 have d1:(k0==(4:Int))=false:=by simpa using h1
 by_cases h2:k1=3;· simp [d1,h1,h2]
 have d2:(k1==(3:Int))=false:=by simpa using h2
 simp only [d1,d2,cond_false,if_neg h1,if_neg h2];by_cases hn:l=[];· subst hn;simp [bqa]
 have hpos:0<l.length:=List.length_pos_iff.2 hn;obtain⟨y,hy⟩:∃y,l[l.length-1]? = some y:=⟨_,List.getElem?_eq_getElem (by omega)⟩;have w:IntKind.i64.wrap (((l.length:Nat):Int)-(1:Int))=((l.length-1:Nat):Int):=by rw [bD]<;>omega
 have a1:inR ((l.length-1:Nat):Int) l.length=true:=gN (by omega) (by omega);have a2:(decide ((0:Int)≤((l.length-1:Nat):Int))&&decide (((l.length-1:Nat):Int)≤((l.length:Nat):Int)))=true:=by simp<;>omega
 have a3:(!decide (l=[]))=true:=by simp [hn]
 have q (m:Nat):(((y:Nat):Int)==((m:Nat):Int))=decide (y=m):=by rw [Bool.eq_iff_iff];simp;omega
 have q88:(((y:Nat):Int)==(88:Int))=decide (y=88):=q 88;have q72:(((y:Nat):Int)==(72:Int))=decide (y=72):=q 72;have e:l.drop (l.length-1)=[y]:=by obtain⟨h1,h2⟩:=List.getElem?_eq_some_iff.1 hy;rw [List.drop_eq_getElem_cons h1,h2,List.drop_eq_nil_of_le (by omega)]
 simp only [w,a1,a2,a3,cond_true,Int.toNat_natCast,aV hy,List.take_length,q88,q72,e,suf1 hy hpos];by_cases e88:y=88;· subst e88;simp
 · by_cases e72:y=72;· subst e72;simp
   · simp [e88,e72]
def vR (a e:List Nat):Bool:=if a=[88]then decide (e=[88])||decide (e=[89])else if a=[]then decide (e=[])||(decide (e=[73])||decide (e=[78]))else decide (e=a)
theorem s198 {a e:List Nat}:Sz198 (a,e,())=some (vR a e):=by show Ez198 a e=_;unfold Ez198 Tz198 vR;simp only [TS,w6];by_cases h1:a=[88]<;>by_cases h2:a=[]<;>by_cases h3:e=[]<;>by_cases h4:e=[73]<;>by_cases h5:e=[88]<;>simp [h1,h2,h3,h4,h5]<;>simp_all
theorem sF {e t:List Nat}:evIn e t=true↔∃x,e=[x]∧x∈t:=by
 unfold evIn;split
 · rename_i x;simp only [hasC,List.any_eq_true,beq_iff_eq];constructor;· rintro ⟨y,hy,h⟩;exact⟨x,rfl,by rw [←Int.ofNat.inj h];exact hy⟩
   · rintro ⟨y,h,hy⟩;cases h;exact⟨x,hy,rfl⟩
 · rename_i h;constructor;· intro h;cases h
   · rintro⟨x,rfl,_⟩;exact absurd rfl (h x)
theorem r2_p {s:Tn}(hv:vEv s.p_e) (hl:s.p_p.length<9223372036854775808) (hk:0≤s.k0∧s.k0≤4∧0≤s.k1∧s.k1≤3∧¬(s.k0=4∧s.k1=3)):bxM (s,())=some (!vR (askC (s.k0,s.k1) s.p_p) s.p_e):=by
 show Ez123 s=_;unfold Ez123 Tz123;simp only [TS,w6];rw [s82 hl hk,obind_some,akA hv (by simp [CL]),akA hv (by simp [CL]),obind_some,obind_some];show(cond _ (aX (Ez145 s) _) _)=_;unfold Ez145 Tz145;simp only [TS,w6];generalize askC (s.k0,s.k1) s.p_p=a;rcases hv with h|⟨x,hx,h⟩;· simp only [h];by_cases h1:a=[]<;>by_cases h2:a=[88]<;>simp_all [vR,evIn,obind_some]
 · simp only [h];simp only [List.mem_cons,List.not_mem_nil,or_false]at hx;rcases hx with rfl|rfl|rfl|rfl|rfl|rfl|rfl<;>by_cases h1:a=[]<;>by_cases h2:a=[88]<;>simp_all [vR,evIn,hasC,obind_some]
end
end Go.Ev
namespace Go.Ev
open Go.RowKit Go.Proofs
set_option maxRecDepth 100000
set_option maxHeartbeats 4000000
set_option linter.unusedSimpArgs false
noncomputable section
theorem bq5 {m:Mv}(h:mvE m=0):∃w∈wayT,w.1=m.o∧w.2.1=m.h∧reachB (if m.f=0 then w.2.2.1 else w.2.2.2) m.f m.t=true:=by
 have h:=(gL h).2.2.2.2;unfold bq6 at h;split at h
 · rename_i w hw;unfold findL at hw;have h1:=List.find?_some hw;have h2:=List.mem_of_find?_eq_some hw;simp only [Bool.and_eq_true,beq_iff_eq,decide_eq_true_eq]at h1;by_cases h3:reachB (if m.f=0 then w.2.2.1 else w.2.2.2) m.f m.t=true;· exact⟨w,h2,h1.1,h1.2,h3⟩
   · rw [if_neg h3]at h;cases h
 · cases h
theorem axj {m:Mv}(h:mvE m=0):∃x∈OL,m.h=[x]:=by
 obtain⟨w,hw,h1,h2,_⟩:=bq5 h;have:∀w∈wayT,∃x∈OL,w.2.1=[x]:=by intro w hw;simp only [wayT,List.mem_cons,List.not_mem_nil,or_false]at hw;rcases hw with rfl|rfl|rfl|rfl|rfl|rfl|rfl|rfl|rfl|rfl|rfl|rfl|rfl|rfl<;>exact⟨_,by simp [OL],rfl⟩
 obtain⟨x,hx,e⟩:=this w hw;exact⟨x,hx,h2▸e⟩
theorem s181 {c h:List Nat}(hc:c∈CL) (hh:∃x∈OL,h=[x]):zQ (c,h,())=some (evIn h c):=by obtain⟨x,hx,rfl⟩:=hh;show(if(c∈CL∧x∈OL)∨_ then _ else _)=_;rw [if_pos (Or.inl ⟨hc,hx⟩)];rfl
theorem azO {m:Mv}{b:Bool}{u:List Nat}(hu:u.length≤4) (hm:mvE m=0):gV (m,b,u,())=some ((m.o==b)&&evIn m.h u):=by obtain⟨x,hx,e⟩:=axj hm;rw [is_r hu (by simp [e])];unfold isM;rw [e];rfl
theorem pB {l:List Mv}{k:Int}{m:Mv}(h:aB l=0) (hm:mAt l k=some m):m.f=k∧mvE m=0:=by have h1:=List.find?_some hm;have h2:=List.mem_of_find?_eq_some hm;refine⟨by simpa using h1,?_⟩;clear hm h1;revert h2;refine sh_cases h ?_ ?_ ?_ ?_ ?_ ?_ ?_ ?_ ?_ ?_ ?_ ?_ ?_ ?_ ?_ ?_<;>intros<;>simp only [vMv,List.mem_cons,List.not_mem_nil,or_false]at *<;>rename_i hx<;>(try exact hx.elim)<;>(try (rcases hx with rfl|rfl|rfl|rfl))<;>(try (rcases hx with rfl|rfl|rfl))<;>(try (rcases hx with rfl|rfl))<;>(try subst hx)<;>simp_all
theorem r3_p {s:Tn}(h:aB s.p_m=0):bxL (s,())=some ((mAt s.p_m 0).isSome==decide (s.p_e=[])):=by show Ez124 s=_;unfold Ez124 Tz124;simp only [TS,w6];rw [s179 h,obind_some];rfl
def batIn (l:List Mv) (t:List Nat):Bool:=match mAt l 0 with
 | some m=>m.o&&evIn m.h t| none=>false
theorem s182 {s:Tn}{t:List Nat}(h:aB s.p_m=0) (ht:t∈CL):ajR (s,t,())=some (batIn s.p_m t):=by
 show Ez182 s t=_;unfold Ez182 Tz182 batIn;simp only [TS,w6];rw [s179 h,obind_some];cases hb:mAt s.p_m 0 with
 | none=>rfl| some m=>have hv:=pB h hb;simp only [Option.getD_some,Option.isSome_some,cond_true];rw [s181 ht (axj hv.2)];cases m.o<;>rfl
theorem r6_p {s:Tn}(h:aB s.p_m=0) (hv:vEv s.p_e):bxI (s,())=some (evIn s.p_e [75]&&(!batIn s.p_m [107]&&(!(s.s_b1==0)&&decide (s.s_outs<2)))):=by show Ez127 s=_;unfold Ez127 Tz127;simp only [TS,w6];rw [akA hv (by simp [CL]),obind_some,s182 h (by simp [CL]),obind_some];cases evIn s.p_e [75]<;>cases batIn s.p_m [107]<;>cases(s.s_b1==0)<;>rfl
theorem r7_p {s:Tn}(hv:vEv s.p_e):bxH (s,())=some (evIn s.p_e [89]&&((s.s_outs==2)||((s.s_b1==0)||(s.s_b2==0)))):=by show Ez128 s=_;unfold Ez128 Tz128;simp only [TS,w6];rw [akA hv (by simp [CL]),obind_some];cases evIn s.p_e [89]<;>cases(s.s_outs==2)<;>cases(s.s_b1==0)<;>rfl
theorem r12_p {s:Tn}:bxC (s,())=some (decide (3<s.outs)):=rfl
theorem r13_p {s:Tn}(h:aB s.p_m=0):bxB (s,())=some (s.p_l&&(decide (s.outs<3)||(((s.p_m.countP rnM:Nat):Int)==0))):=by show Ez134 s=_;unfold Ez134 Tz134;simp only [TS,w6];rw [runs_p (bL h),obind_some];cases s.p_l<;>cases decide (s.outs<3)<;>rfl
section
variable {s:St}{t:Pl}
theorem s29 (hl:t.p.length<9223372036854775808):S29 (s.balls,s.strikes,t.p,())=some (aqr s.balls s.strikes t.p):=by unfold S29;rw [if_pos hl]
def jT (s:St) (t:Pl):CntR:=aqr s.balls s.strikes t.p
theorem rr1 (h:aB t.m=0) (hl:t.p.length<9223372036854775808):j8 (s,t,1,())=some (!((jT s t).2.2.1==0)):=by show jX _ s t 1=_;unfold jX uT;simp only [TS,w6];rw [s29 hl,obind_some,bqW h,obind_some];rfl
theorem rr2 (h:aB t.m=0) (hl:t.p.length<9223372036854775808):j8 (s,t,2,())=some (!vR (askC ((jT s t).1.1,(jT s t).1.2.1) t.p) t.e):=by show jX _ s t 2=_;unfold jX uT;simp only [TS,w6];rw [s29 hl,obind_some,bqW h,obind_some,s30 hl,obind_some,s198,obind_some];rfl
theorem rr3 (h:aB t.m=0) (hl:t.p.length<9223372036854775808):j8 (s,t,3,())=some (!((mAt t.m 0).isSome==(!decide (t.e=[])))):=by show jX _ s t 3=_;unfold jX uT;simp only [TS,w6];rw [s29 hl,obind_some,bqW h,obind_some];rfl
theorem rr7 (h:aB t.m=0) (hl:t.p.length<9223372036854775808):j8 (s,t,7,())=some (decide (t.e=[89])&&((s.outs==2)||((s.b1==0)||(s.b2==0)))):=by show jX _ s t 7=_;unfold jX uT;simp only [TS,w6];rw [s29 hl,obind_some,bqW h,obind_some];show cond _ _ _=_;cases decide (t.e=[89])<;>cases(s.outs==2)<;>cases(s.b1==0)<;>rfl
theorem rr12 (h:aB t.m=0) (hl:t.p.length<9223372036854775808):j8 (s,t,12,())=some (decide (3<IntKind.i64.wrap (s.outs+((t.m.countP (·.o):Nat):Int)))):=by show jX _ s t 12=_;unfold jX uT;simp only [TS,w6];obtain⟨p,e,b,l⟩:=t;rw [s29 hl,obind_some,bqW h,obind_some,azB (bL h),obind_some];rfl
theorem s155 (h:aB t.m=0):bjw (s,t,())=some (IntKind.i64.wrap (s.outs+((t.m.countP (·.o):Nat):Int))==3):=by obtain⟨p,e,b,l⟩:=t;show Ez155 s _=_;unfold Ez155 Tz155;simp only [TS,w6];rw [azB (bL h),obind_some]
theorem rr13 (h:aB t.m=0) (hl:t.p.length<9223372036854775808):j8 (s,t,13,())=some (t.l&&(!(IntKind.i64.wrap (s.outs+((t.m.countP (·.o):Nat):Int))==3)||(((t.m.countP rnM:Nat):Int)==0))):=by show jX _ s t 13=_;unfold jX uT;simp only [TS,w6];rw [s29 hl,obind_some,bqW h,obind_some,s155 h,obind_some];obtain⟨p,e,b,l⟩:=t;rw [runs_r (bL h),obind_some];show cond _ _ _=_;cases b<;>cases(IntKind.i64.wrap (s.outs+((l.countP (·.o):Nat):Int))==3)<;>rfl
end
end
end Go.Ev
namespace Go.Ev
open Go.RowKit Go.Proofs
set_option maxRecDepth 100000
set_option maxHeartbeats 8000000
set_option linter.unusedSimpArgs false
noncomputable section
theorem aze {m:Mv}(h:mvE m=0) (hf:m.f=0):(m.o,m.h)∈[(false,[98]),(false,[97]),(false,[112]),(false,[116]),(false,[111]),(true,[102]),(true,[103]),(true,[99]),(true,[107]),(true,[110]),(true,[121])]:=by obtain⟨w,hw,h1,h2,h3⟩:=bq5 h;rw [if_pos hf,hf]at h3;simp only [wayT,List.mem_cons,List.not_mem_nil,or_false]at hw;rw [←h1,←h2];rcases hw with rfl|rfl|rfl|rfl|rfl|rfl|rfl|rfl|rfl|rfl|rfl|rfl|rfl|rfl<;>simp [reachB]at h3 ⊢
def batFits (e:List Nat) (m:Mv):Bool:=if e=[75]then(m.o&&evIn m.h [107,102,103])||(!m.o&&evIn m.h [112,116])
 else if e=[87]∨e=[72]∨e=[73]then(!m.o&&evIn m.h [97])&&(m.t==1)
 else if e=[88]then(!m.o&&evIn m.h [98,116,111])||(m.o&&evIn m.h [102,99,103])
 else if e=[78]then m.o&&evIn m.h [110]else m.o&&evIn m.h [121]
theorem s199 {e:List Nat}{m:Mv}(hm:mvE m=0):Sz199 (e,m,())=some (batFits e m):=by
 show Ez199 e m=_;unfold Ez199 Tz199 batFits;simp only [TS,w6];simp only [azO (u:=[107,102,103]) (by simp) hm,azO (u:=[112,116]) (by simp) hm,azO (u:=[97]) (by simp) hm,azO (u:=[98,116,111]) (by simp) hm,azO (u:=[102,99,103]) (by simp) hm,azO (u:=[110]) (by simp) hm,azO (u:=[121]) (by simp) hm,obind_some];have e1:∀b:Bool,(b==true)=b:=by decide
 have e2:∀b:Bool,(b==false)=!b:=by decide
 simp only [e1,e2];by_cases h1:e=[75];· subst h1;simp [cond_ite];cases m.o<;>cases evIn m.h [107,102,103]<;>simp
 by_cases h2:e=[87];· subst h2;simp [cond_ite];cases m.o<;>cases evIn m.h [97]<;>simp
 by_cases h3:e=[72];· subst h3;simp [cond_ite];cases m.o<;>cases evIn m.h [97]<;>simp
 by_cases h4:e=[73];· subst h4;simp [cond_ite];cases m.o<;>cases evIn m.h [97]<;>simp
 by_cases h5:e=[88];· subst h5;simp [cond_ite];cases m.o<;>cases evIn m.h [98,116,111]<;>simp
 by_cases h6:e=[78];· subst h6;simp
 simp [h1,h2,h3,h4,h5,h6]
theorem r5_p {s:Tn}(h:aB s.p_m=0) (hv:vEv s.p_e) (h3:(mAt s.p_m 0).isSome=!decide (s.p_e=[])):bxJ (s,())=some (match mAt s.p_m 0 with
  | some m=>!batFits s.p_e m| none=>false):=by
 show Ez126 s=_;unfold Ez126 Tz126;simp only [TS,w6];rw [s179 h,obind_some];cases hb:mAt s.p_m 0 with
 | none=>rfl| some m=>
   have hm:=pB h hb;rw [hb]at h3;simp only [Option.isSome_some]at h3;simp only [Option.getD_some,Option.isSome_some,Bool.not_true,cond_false];have hS:=fun c (hc:c∈CL)=>s181 hc (axj hm.2);rw [hS [107,102,103,112,116] (by simp [CL]),hS [97] (by simp [CL]),hS [98,116,111,102,99,103] (by simp [CL]),hS [110] (by simp [CL]),hS [121] (by simp [CL]),hS [] (by simp [CL])];simp only [obind_some];have hw:=aze hm.2 hm.1;clear hS hm hb;obtain⟨f,t,o,hh,b⟩:=m;dsimp only at hw ⊢;rcases hv with hv|⟨x,hx,hv⟩;· rw [hv]at h3;simp at h3
   rw [hv];clear hv h3;simp only [List.mem_cons,List.not_mem_nil,or_false]at hx;simp only [List.mem_cons,List.not_mem_nil,or_false,Prod.mk.injEq]at hw;rcases hx with rfl|rfl|rfl|rfl|rfl|rfl|rfl<;>rcases hw with⟨rfl,rfl⟩ | ⟨rfl,rfl⟩ | ⟨rfl,rfl⟩ | ⟨rfl,rfl⟩ | ⟨rfl,rfl⟩ | ⟨rfl,rfl⟩ | ⟨rfl,rfl⟩ | ⟨rfl,rfl⟩ | ⟨rfl,rfl⟩ | ⟨rfl,rfl⟩ | ⟨rfl,rfl⟩<;>simp [batFits,evIn,hasC]
theorem rr5 {s:St}{t:Pl}(h:aB t.m=0) (hl:t.p.length<9223372036854775808):j8 (s,t,5,())=some (match mAt t.m 0 with
  | some m=>!batFits t.e m| none=>false):=by
 show jX _ s t 5=_;unfold jX uT;simp only [TS,w6];rw [s29 hl,obind_some,bqW h,obind_some];cases hb:mAt t.m 0 with
 | none=>rfl| some m=>have hm:=pB h hb;simp only [Option.getD_some,Option.isSome_some];rw [s199 hm.2];rfl
theorem rr6 {s:St}{t:Pl}(h:aB t.m=0) (hl:t.p.length<9223372036854775808) (h3:(mAt t.m 0).isSome=!decide (t.e=[])):j8 (s,t,6,())=some (decide (t.e=[75])&&(!batIn t.m [107]&&(!(s.b1==0)&&decide (s.outs<2)))):=by
 show jX _ s t 6=_;unfold jX uT batIn;simp only [TS,w6];rw [s29 hl,obind_some,bqW h,obind_some];cases hb:mAt t.m 0 with
 | none=>
   rw [hb]at h3;have:t.e=[]:=by simpa using h3
   rw [this];rfl
 | some m=>
   have hm:=pB h hb;simp only [Option.getD_some,Option.isSome_some];rw [azO (by simp) hm.2,obind_some];have e1:∀b:Bool,(b==true)=b:=by decide
   simp only [e1];show cond _ _ _=_;cases decide (t.e=[75])<;>cases(m.o&&evIn m.h [107])<;>cases(s.b1==0)<;>rfl
end
end Go.Ev
namespace Go.Ev
open Go.RowKit Go.Proofs
set_option maxRecDepth 100000
set_option maxHeartbeats 8000000
set_option linter.unusedSimpArgs false
noncomputable section
theorem lS {m:Mv}(h:mvE m=0) (hf:¬m.f=0):(m.o,m.h)∈[(false,[98]),(false,[97]),(false,[115]),(false,[112]),(false,[107]),(false,[116]),(false,[111]),(true,[102]),(true,[103]),(true,[100]),(true,[110])]:=by obtain⟨w,hw,h1,h2,h3⟩:=bq5 h;rw [if_neg hf]at h3;simp only [wayT,List.mem_cons,List.not_mem_nil,or_false]at hw;rw [←h1,←h2];rcases hw with rfl|rfl|rfl|rfl|rfl|rfl|rfl|rfl|rfl|rfl|rfl|rfl|rfl|rfl<;>simp [reachB]at h3 ⊢
def fcdB (f1 f2 f3:Bool) (f:Int):Bool:=if f=1 then f1 else if f=2 then f2 else f3
def wayB (e p:List Nat) (fc bc bk:Bool) (m:Mv):Bool:=
 if m.h=[98]then decide (e=[88])||decide (e=[89])
 else if m.h=[97]then(decide (e=[87])||(decide (e=[72])||decide (e=[73])))&&(fc&&(m.t==IntKind.i64.wrap (m.f+1)))
 else if m.h=[115]then decide (e=[])||(decide (e=[75])||decide (e=[87]))
 else if m.h=[112]then(decide (e=[])||(decide (e=[75])||decide (e=[87])))&&!decide (p=[])
 else if m.h=[107]then decide (e=[])
 else if m.h=[102]then fc&&((decide (e=[88])||decide (e=[75]))&&!bk)
 else if m.h=[100]then decide (e=[89])||bc
 else !(decide (e=[72])||(decide (e=[73])||decide (e=[78])))
theorem s183 {s:Tn}{m:Mv}(h:aB s.p_m=0) (hv:vEv s.p_e) (hm:mvE m=0) (hf:¬m.f=0) (ho:m.o=true):Sz183 (s,m,())=some (wayB s.p_e s.p_p (fcdB s.f1 s.f2 s.f3 m.f) (batIn s.p_m [99]) (batIn s.p_m [99,107]) m):=by
 show Ez183 s m=_;unfold Ez183 Tz183;simp only [TS,w6];rw [akA (t:=[88,75]) hv (by simp [CL]),akA (t:=[89]) hv (by simp [CL]),akA (t:=[72,73,78]) hv (by simp [CL]),s182 (t:=[99,107]) h (by simp [CL]),s182 (t:=[99]) h (by simp [CL])];simp only [obind_some];have hw:=lS hm hf;have hr:=gL hm;have h4:m.f=1∨m.f=2∨m.f=3:=by omega
 generalize batIn s.p_m [99]=bc;generalize batIn s.p_m [99,107]=bk;obtain⟨f,t,o,hh,b⟩:=m;dsimp only at hw ho h4 ⊢;clear hm hf hr;subst ho;simp only [List.mem_cons,List.not_mem_nil,or_false,Prod.mk.injEq]at hw;rcases hv with hv|⟨x,hx,hv⟩;· rw [hv];rcases h4 with rfl|rfl|rfl<;>rcases hw with⟨hh,rfl⟩ | ⟨hh,rfl⟩ | ⟨hh,rfl⟩ | ⟨hh,rfl⟩ | ⟨hh,rfl⟩ | ⟨hh,rfl⟩ | ⟨hh,rfl⟩ | ⟨hh,rfl⟩ | ⟨hh,rfl⟩ | ⟨hh,rfl⟩ | ⟨hh,rfl⟩<;>first|(cases hh;done)|(simp [wayB,fcdB,evIn];done)|(simp [wayB,fcdB,evIn];cases s.f1<;>cases s.f2<;>cases s.f3<;>cases bc<;>cases bk<;>rfl)
 · rw [hv];simp only [List.mem_cons,List.not_mem_nil,or_false]at hx;rcases hx with rfl|rfl|rfl|rfl|rfl|rfl|rfl<;>rcases h4 with rfl|rfl|rfl<;>rcases hw with⟨hh,rfl⟩ | ⟨hh,rfl⟩ | ⟨hh,rfl⟩ | ⟨hh,rfl⟩ | ⟨hh,rfl⟩ | ⟨hh,rfl⟩ | ⟨hh,rfl⟩ | ⟨hh,rfl⟩ | ⟨hh,rfl⟩ | ⟨hh,rfl⟩ | ⟨hh,rfl⟩<;>first|(cases hh;done)|(simp [wayB,fcdB,evIn,hasC];done)|(simp [wayB,fcdB,evIn,hasC];cases s.f1<;>cases s.f2<;>cases s.f3<;>cases bc<;>cases bk<;>rfl)
theorem s184 {s:Tn}{m:Mv}(hv:vEv s.p_e) (hm:mvE m=0) (hf:¬m.f=0) (ho:m.o=false) (bc bk:Bool):bjt (s,m,())=some (wayB s.p_e s.p_p (fcdB s.f1 s.f2 s.f3 m.f) bc bk m):=by
 show Ez184 s m=_;unfold Ez184 Tz184;simp only [TS,w6];have h5:rQ (s,())=some (decide (s.p_e=[])):=rfl;rw [akA (t:=[88,89]) hv (by simp [CL]),akA (t:=[87,72,73]) hv (by simp [CL]),akA (t:=[75,87]) hv (by simp [CL]),akA (t:=[72,73,78]) hv (by simp [CL]),h5];simp only [obind_some];have hw:=lS hm hf;have hr:=gL hm;have h4:m.f=1∨m.f=2∨m.f=3:=by omega
 obtain⟨f,t,o,hh,b⟩:=m;dsimp only at hw ho h4 ⊢;clear hm hf hr;subst ho;simp only [List.mem_cons,List.not_mem_nil,or_false,Prod.mk.injEq]at hw;rcases hv with hv|⟨x,hx,hv⟩;· rw [hv];rcases h4 with rfl|rfl|rfl<;>rcases hw with⟨hh,rfl⟩ | ⟨hh,rfl⟩ | ⟨hh,rfl⟩ | ⟨hh,rfl⟩ | ⟨hh,rfl⟩ | ⟨hh,rfl⟩ | ⟨hh,rfl⟩ | ⟨hh,rfl⟩ | ⟨hh,rfl⟩ | ⟨hh,rfl⟩ | ⟨hh,rfl⟩<;>first|(cases hh;done)|(simp [wayB,fcdB,evIn];done)|(simp [wayB,fcdB,evIn];cases s.f1<;>cases s.f2<;>cases s.f3<;>rfl)
 · rw [hv];simp only [List.mem_cons,List.not_mem_nil,or_false]at hx;rcases hx with rfl|rfl|rfl|rfl|rfl|rfl|rfl<;>rcases h4 with rfl|rfl|rfl<;>rcases hw with⟨hh,rfl⟩ | ⟨hh,rfl⟩ | ⟨hh,rfl⟩ | ⟨hh,rfl⟩ | ⟨hh,rfl⟩ | ⟨hh,rfl⟩ | ⟨hh,rfl⟩ | ⟨hh,rfl⟩ | ⟨hh,rfl⟩ | ⟨hh,rfl⟩ | ⟨hh,rfl⟩<;>first|(cases hh;done)|(simp [wayB,fcdB,evIn,hasC];done)|(simp [wayB,fcdB,evIn,hasC];cases s.f1<;>cases s.f2<;>cases s.f3<;>rfl)
end
end Go.Ev
namespace Go.Ev
open Go.RowKit Go.Proofs
set_option maxRecDepth 100000
set_option maxHeartbeats 8000000
set_option linter.unusedSimpArgs false
noncomputable section
theorem ayS {s:St}{t:Pl}{m:Mv}(n:Nat) (hv:vEv t.e) (hw:(m.o,m.h)∈[(false,[98]),(false,[97]),(false,[115]),(false,[112]),(false,[107]),(false,[116]),(false,[111]),(true,[102]),(true,[103]),(true,[100]),(true,[110])]) (h4:m.f=1∨m.f=2∨m.f=3)
  (has:Bool) (b:Mv) (bc bk g1 g2 g3:Bool) (q25:Sz25 (s,())=some (true,g1,g2,g3,())) (i1:has=true→gV ((⟨b.f,b.t,b.o,b.h,b.b⟩:Mv),true,[99],())=some bc) (i2:has=true→gV ((⟨b.f,b.t,b.o,b.h,b.b⟩:Mv),true,[99,107],())=some bk) (i3:has=false→bc=false∧bk=false) :
   (cond (decide (t.e=[72])) (xJ s t m (n+5) (.k9 has b.f b.t b.o b.h b.b true)) (cond (decide (t.e=[73])) (xJ s t m (n+5) (.k9 has b.f b.t b.o b.h b.b true)) (xJ s t m (n+5) (.k9 has b.f b.t b.o b.h b.b (decide (t.e=[78])))))) =
   some (wayB t.e t.p (fcdB g1 g2 g3 m.f) bc bk m):=by
 obtain⟨p,ev,lt,l⟩:=t;obtain⟨f,tt,o,hh,bb⟩:=m;dsimp only at hw h4 hv ⊢;have hev:ev=[]∨ev=[75]∨ev=[87]∨ev=[72]∨ev=[73]∨ev=[88]∨ev=[78]∨ev=[89]:=by
  rcases hv with rfl|⟨x,hx,rfl⟩;· exact .inl rfl
  · simp only [List.mem_cons,List.not_mem_nil,or_false]at hx;rcases hx with rfl|rfl|rfl|rfl|rfl|rfl|rfl<;>simp
 clear hv;simp only [List.mem_cons,List.not_mem_nil,or_false,Prod.mk.injEq]at hw;cases has with
 | false=>
   obtain⟨rfl,rfl⟩:=i3 rfl;clear i1 i2 i3;rcases hev with rfl|rfl|rfl|rfl|rfl|rfl|rfl|rfl<;>rcases h4 with rfl|rfl|rfl<;>simp [Ez202J_s,Tz202J,TS,w6,q25,obind_some] <;>
    rcases hw with⟨rfl,rfl⟩ | ⟨rfl,rfl⟩ | ⟨rfl,rfl⟩ | ⟨rfl,rfl⟩ | ⟨rfl,rfl⟩ | ⟨rfl,rfl⟩ | ⟨rfl,rfl⟩ | ⟨rfl,rfl⟩ | ⟨rfl,rfl⟩ | ⟨rfl,rfl⟩ | ⟨rfl,rfl⟩<;>first|(simp [wayB,fcdB];done)|(simp [wayB,fcdB];cases g1<;>cases g2<;>cases g3<;>rfl)
 | true=>
   have i1:=i1 rfl;have i2:=i2 rfl;clear i3;rcases hev with rfl|rfl|rfl|rfl|rfl|rfl|rfl|rfl<;>rcases h4 with rfl|rfl|rfl<;>simp [Ez202J_s,Tz202J,TS,w6,q25,i1,i2,obind_some] <;>
    rcases hw with⟨rfl,rfl⟩ | ⟨rfl,rfl⟩ | ⟨rfl,rfl⟩ | ⟨rfl,rfl⟩ | ⟨rfl,rfl⟩ | ⟨rfl,rfl⟩ | ⟨rfl,rfl⟩ | ⟨rfl,rfl⟩ | ⟨rfl,rfl⟩ | ⟨rfl,rfl⟩ | ⟨rfl,rfl⟩<;>first|(simp [wayB,fcdB];done)|(simp [wayB,fcdB];cases g1<;>cases g2<;>cases g3<;>cases bc<;>cases bk<;>rfl)
theorem s202 {s:St}{t:Pl}{m:Mv}(h:aB t.m=0) (hv:vEv t.e) (hm:mvE m=0) (hf:¬m.f=0) :
  bjr (s,t,m,())=some (wayB t.e t.p (fcdB (!(s.b1==0)) (!(s.b1==0)&&!(s.b2==0)) (!(s.b1==0)&&(!(s.b2==0)&&!(s.b3==0))) m.f) (batIn t.m [99]) (batIn t.m [99,107]) m):=by
 obtain⟨n,e⟩:=ajs (bL h);show Ez202 (t.m.length+64) s t m=_;rw [e];unfold Ez202 Tz202;simp only [TS,w6];rw [bqW h,obind_some];have hr:=gL hm;cases hb:mAt t.m 0 with
 | none=>exact ayS n hv (lS hm hf) (by omega) false mv0 _ _ _ _ _ (s25 s) (fun h=>by cases h) (fun h=>by cases h) (fun _=>by simp [batIn,hb])| some b=>
   have hbv:=pB h hb;have e1:∀b:Bool,(b==true)=b:=by decide
   refine ayS n hv (lS hm hf) (by omega) true b _ _ _ _ _ (s25 s) (fun _=>?_) (fun _=>?_) (fun h=>by cases h);· simp only [batIn,hb];have:=azO (b:=true) (u:=[99]) (by simp) hbv.2;rw [e1]at this;exact this
   · simp only [batIn,hb];have:=azO (b:=true) (u:=[99,107]) (by simp) hbv.2;rw [e1]at this;exact this
end
end Go.Ev
namespace Go.Ev
open Go.RowKit Go.Proofs
set_option maxRecDepth 100000
set_option maxHeartbeats 8000000
set_option linter.unusedSimpArgs false
noncomputable section
theorem tE {l:List Mv}(h:aB l=0):∀m∈l,mvE m=0:=by refine sh_cases h ?_ ?_ ?_ ?_ ?_ ?_ ?_ ?_ ?_ ?_ ?_ ?_ ?_ ?_ ?_ ?_<;>intros<;>simp only [vMv,List.mem_cons,List.not_mem_nil,or_false]at *<;>rename_i hx<;>(try exact hx.elim)<;>(try (rcases hx with rfl|rfl|rfl|rfl))<;>(try (rcases hx with rfl|rfl|rfl))<;>(try (rcases hx with rfl|rfl))<;>(try subst hx)<;>simp_all
def bzB (b1 b2 b3:Int) (f:Int):Bool:=if f=1 then b1==0 else if f=2 then b2==0 else b3==0
def fcS (s:St) (f:Int):Bool:=fcdB (!(s.b1==0)) (!(s.b1==0)&&!(s.b2==0)) (!(s.b1==0)&&(!(s.b2==0)&&!(s.b3==0))) f
def chk4 (s:St) (m:Mv):Bool:=decide (0<m.f)&&bzB s.b1 s.b2 s.b3 m.f
def chk8 (s:St) (t:Pl) (m:Mv):Bool:=decide (0<m.f)&&!wayB t.e t.p (fcS s m.f) (batIn t.m [99]) (batIn t.m [99,107]) m
def chkR (s:St) (t:Pl) (u:Int) (m:Mv):Bool:=if u=4 then chk4 s m else if u=8 then chk8 s t m else false
def balk (m:Mv):Bool:=decide (m.h=[107])&&!m.o
section
variable {s:St}{t:Pl}{u:Int}
theorem st44 (h:aB t.m=0) (hv:vEv t.e) (n k:Nat) (x:Bool) {m:Mv}(hm:t.m[k]? = some m):aE s t u (n+4) (.k44 x (k:Int))=cond (chkR s t u m) (some true) (aE s t u n (.k44 (x||balk m) ((k+1:Nat):Int))):=by
 have hlen:=bL h;have hk:k<t.m.length:=(List.getElem?_eq_some_iff.1 hm).1;have hmv:=tE h m (List.mem_of_getElem? hm);have hr:=gL hmv;have c1:decide ((k:Int)<((t.m.length:Nat):Int))=true:=by simp;omega
 have c2:inR (k:Int) t.m.length=true:=gN (by omega) (by omega);have w4:IntKind.i64.wrap ((k:Int)+1)=(k:Int)+1:=by rw [bD]<;>omega
 have hg:t.m[k]?.getD mv0=m:=by rw [hm];rfl
 have q8:¬m.f=0→bjr (s,t,(⟨m.f,m.t,m.o,m.h,m.b⟩:Mv),())=some (wayB t.e t.p (fcS s m.f) (batIn t.m [99]) (batIn t.m [99,107]) m):=fun hf=>s202 h hv hmv hf;have rest:∀y:Bool,aE s t u (n+3) (.k51 y (k:Int))=cond (chkR s t u m) (some true) (aE s t u n (.k44 y ((k+1:Nat):Int))):=by
  intro y;by_cases hf:m.f=0;· simp [Ez153J_s,Tz153J,TS,w6,c2,hg,hf,w4,chkR,chk4,chk8]
  · have hp:decide (0<m.f)=true:=by simp;omega
    have hp':0<m.f:=by omega
    have h4:m.f=1∨m.f=2∨m.f=3:=by omega
    by_cases hu4:u=4;· subst hu4;rcases h4 with h4|h4|h4<;>simp [Ez153J_s,Tz153J,TS,w6,c2,hg,h4,w4,wr0,wr1,wr2,chkR,chk4,bzB]
    · by_cases hu8:u=8;· subst hu8;have q8:=q8 hf;simp [Ez153J_s,Tz153J,TS,w6,c2,hg,hp',w4,q8,chkR,chk8,obind_some]
      · have e4:(u==4)=false:=by simpa using hu4
        have e8:(u==8)=false:=by simpa using hu8
        simp [Ez153J_s,Tz153J,TS,w6,c2,hg,hp',w4,e4,e8,hu4,hu8,chkR]
 have e0:aE s t u (n+4) (.k44 x (k:Int))=aE s t u (n+3) (.k51 (x||balk m) (k:Int)):=by
  have c1':decide (k<t.m.length)=true:=by simpa using hk
  have u1:aE s t u (n+4) (.k44 x (k:Int))=(cond (decide ((k:Int)<((t.m.length:Nat):Int))) (cond x (aE s t u (n+3) (.k51 true k)) (cond (inR (k:Int) t.m.length) (cond (decide (((t.m.getD (k:Int).toNat mv0).h)=[107])) (cond (inR (k:Int) t.m.length) (aE s t u (n+3) (.k51 (!(t.m.getD (k:Int).toNat mv0).o) k)) none) (aE s t u (n+3) (.k51 false k))) none)) (aE s t u (n+3) (.k61 x))):=rfl;rw [u1,c1,c2,Int.toNat_natCast,aV hm];unfold balk;cases x<;>by_cases hh:m.h=[107]<;>simp [hh]
 rw [e0,rest]
theorem lp44 (h:aB t.m=0) (hv:vEv t.e):∀(j k n:Nat) (x:Bool),t.m.length=k+j→aE s t u (n+4*j+1) (.k44 x (k:Int))=cond ((t.m.drop k).any (chkR s t u)) (some true) (aE s t u n (.k61 (x||(t.m.drop k).any balk)))
 | 0,k,n,x,hl=>by
   have c1:decide ((k:Int)<((t.m.length:Nat):Int))=false:=by simp;omega
   rw [List.drop_eq_nil_of_le (by omega)];show aE s t u (n+1) _=_;simp only [Ez153J_s,Tz153J,TS,w6,c1,cond_false,List.any_nil,Bool.or_false]
 | j + 1,k,n,x,hl=>by
   have hk:k<t.m.length:=by omega
   obtain⟨m,hm⟩:∃m,t.m[k]? = some m:=⟨t.m[k],List.getElem?_eq_getElem hk⟩;have ih:=lp44 h hv j (k+1) n (x||balk m) (by omega);have hd:t.m.drop k=m::t.m.drop (k+1):=by obtain⟨h1,h2⟩:=List.getElem?_eq_some_iff.1 hm;rw [List.drop_eq_getElem_cons h1,h2]
   rw [show n+4*(j+1)+1=(n+4*j+1)+4 by omega,st44 h hv _ k x hm,ih,hd];simp only [List.any_cons,Bool.or_assoc];cases chkR s t u m<;>rfl
end
end
end Go.Ev
namespace Go.Ev
open Go.RowKit Go.Proofs
set_option maxRecDepth 100000
set_option maxHeartbeats 8000000
set_option linter.unusedSimpArgs false
noncomputable section
theorem ajo (k:Int):∀l:List Mv,match mAt l k with
  | none=>mvIx l k=-1| some m=>∃j:Nat,mvIx l k=(j:Int)∧l[j]? = some m
 | []=>rfl| a :: r=>by
   have ih:=ajo k r;unfold mAt at ih ⊢;cases ha:(a.f==k)with
   | true=>simp only [List.find?_cons,ha,mvIx,cond_true];exact⟨0,rfl,rfl⟩| false=>
     simp only [List.find?_cons,ha,mvIx,cond_false];cases hr:r.find? (fun m=>m.f==k)with
     | none=>rw [hr]at ih;simp only at ih ⊢;rw [ih];rfl| some m=>rw [hr]at ih;simp only at ih ⊢;obtain⟨j,h1,h2⟩:=ih;refine⟨j+1,?_,by simpa using h2⟩;rw [h1];rfl
def award (e:List Nat):Bool:=decide (e=[87])||(decide (e=[72])||decide (e=[73]))
def chkB (s:St) (t:Pl) (u:Int) (x:Bool) (i:Int):Bool:=if u=9 then x&&!(match mAt t.m i with
  | some m=>(!m.o&&evIn m.h [107])&&(m.t==IntKind.i64.wrap (i+1))| none=>false)
 else if u=10 then award t.e&&(fcS s i&&(match mAt t.m i with
  | some m=>m.o| none=>true))
 else false
section
variable {s:St}{t:Pl}{u:Int}
theorem st71 (h:aB t.m=0) (n:Nat) (x:Bool) {i:Int}(hi:i=1∨i=2∨i=3):aE s t u (n+2) (.k71 (mvIx t.m i) i x)=cond (chkB s t u x i) (some true) (aE s t u n (.k62 (IntKind.i64.wrap (i+1)) x)):=by
 have hx:=ajo i t.m;have aw:∀A:Bool→Option Bool,(cond (decide (t.e=[87])) (A true) (cond (decide (t.e=[72])) (A true) (A (decide (t.e=[73])))))=A (award t.e):=by intro A;unfold award;cases decide (t.e=[87])<;>cases decide (t.e=[72])<;>rfl
 have k77:∀aw':Bool,(aw'=award t.e)→aE s t u (n+1) (.k77 i (mvIx t.m i) aw' x)=cond (if u=10 then award t.e&&(fcS s i&&(match mAt t.m i with
  | some m=>m.o| none=>true))else false) (some true) (aE s t u n (.k62 (IntKind.i64.wrap (i+1)) x)):=by
  rintro _ rfl;by_cases hu:u=10
  · subst hu;have q:=s25 s;cases hm:mAt t.m i with
    | none=>rw [hm]at hx;simp only at hx;rcases hi with rfl|rfl|rfl<;>simp [Ez153J_s,Tz153J,TS,w6,hx,q,obind_some,fcS,fcdB]<;>cases award t.e<;>cases(s.b1==0)<;>cases(s.b2==0)<;>cases(s.b3==0)<;>rfl
    | some m=>
      rw [hm]at hx;obtain⟨j,h1,h2⟩:=hx;have hj:j<t.m.length:=(List.getElem?_eq_some_iff.1 h2).1;have hl:=bL h;have c2:inR (j:Int) t.m.length=true:=gN (by omega) (by omega);have c3:¬((j:Int)<0):=by omega
      have hg:t.m[j]?.getD mv0=m:=by rw [h2];rfl
      rcases hi with rfl|rfl|rfl<;>simp [Ez153J_s,Tz153J,TS,w6,h1,c2,c3,hg,q,obind_some,fcS,fcdB]<;>cases award t.e<;>cases(s.b1==0)<;>cases(s.b2==0)<;>cases(s.b3==0)<;>cases m.o<;>rfl
  · have e10:(u==10)=false:=by simpa using hu
    simp [Ez153J_s,Tz153J,TS,w6,e10,hu]
 by_cases hu:u=9
 · subst hu;have k77:∀aw',aw'=award t.e→aE s t 9 (n+1) (.k77 i (mvIx t.m i) aw' x)=aE s t 9 n (.k62 (IntKind.i64.wrap (i+1)) x):=fun aw' ha=>k77 aw' ha;cases x with
   | false=>have u1:aE s t 9 (n+2) (.k71 (mvIx t.m i) i false)=(cond (decide (t.e=[87])) (aE s t 9 (n+1) (.k77 i (mvIx t.m i) true false)) (cond (decide (t.e=[72])) (aE s t 9 (n+1) (.k77 i (mvIx t.m i) true false)) (aE s t 9 (n+1) (.k77 i (mvIx t.m i) (decide (t.e=[73])) false)))):=rfl;rw [u1,aw (fun b=>aE s t 9 (n+1) (.k77 i (mvIx t.m i) b false)),k77 _ rfl];simp [chkB]| true=>
     have u1:aE s t 9 (n+2) (.k71 (mvIx t.m i) i true)=(cond (decide (mvIx t.m i<(0:Int))) (some true) (cond (inR (mvIx t.m i) t.m.length) (aX (gV ((t.m.getD (mvIx t.m i).toNat mv0),false,[107],())) fun r80=>(cond (!r80) (some true) (cond (inR (mvIx t.m i) t.m.length) (cond (!((t.m.getD (mvIx t.m i).toNat mv0).t==(IntKind.i64.wrap (i+(1:Int))))) (some true) (cond (decide (t.e=[87])) (aE s t 9 (n+1) (.k77 i (mvIx t.m i) true true)) (cond (decide (t.e=[72])) (aE s t 9 (n+1) (.k77 i (mvIx t.m i) true true)) (aE s t 9 (n+1) (.k77 i (mvIx t.m i) (decide (t.e=[73])) true))))) none))) none)):=rfl;rw [u1,aw (fun b=>aE s t 9 (n+1) (.k77 i (mvIx t.m i) b true)),k77 _ rfl];cases hm:mAt t.m i with
     | none=>rw [hm]at hx;simp only at hx;simp [hx,chkB,hm]| some m=>
       rw [hm]at hx;obtain⟨j,h1,h2⟩:=hx;have hj:j<t.m.length:=(List.getElem?_eq_some_iff.1 h2).1;have hl:=bL h;have c2:inR (j:Int) t.m.length=true:=gN (by omega) (by omega);have c3:decide ((j:Int)<0)=false:=by simp
       have hmv:=tE h m (List.mem_of_getElem? h2);rw [h1,c2,c3,Int.toNat_natCast,aV h2,azO (by simp) hmv,obind_some];simp only [chkB,hm,if_true];have e2:∀b:Bool,(b==false)=!b:=by decide
       rw [e2];cases(!m.o&&evIn m.h [107])<;>cases(m.t==IntKind.i64.wrap (i+1))<;>rfl
 · have e9:(u==9)=false:=by simpa using hu
   have u1:aE s t u (n+2) (.k71 (mvIx t.m i) i x)=(cond (decide (t.e=[87])) (aE s t u (n+1) (.k77 i (mvIx t.m i) true x)) (cond (decide (t.e=[72])) (aE s t u (n+1) (.k77 i (mvIx t.m i) true x)) (aE s t u (n+1) (.k77 i (mvIx t.m i) (decide (t.e=[73])) x)))):=by simp only [Ez153J_s,Tz153J,TS,w6,e9,cond_false]
   rw [u1,aw (fun b=>aE s t u (n+1) (.k77 i (mvIx t.m i) b x)),k77 _ rfl];unfold chkB;rw [if_neg hu]
end
end
end Go.Ev
namespace Go.Ev
open Go.RowKit Go.Proofs
set_option maxRecDepth 100000
set_option maxHeartbeats 8000000
set_option linter.unusedSimpArgs false
noncomputable section
def placeB (l:List Mv) (b1 b2 b3:Int) (f:Int):Int:=match mAt l f with
 | some m=>if m.o then 0 else m.t| none=>if f=0 then 0 else if bzB b1 b2 b3 f then 0 else f
def badP (x y:Int):Bool:=decide (0<x)&&(decide (0<y)&&(decide (y≤x)&&!((x==4)&&(y==4))))
def avG (p0 p1 p2 p3:Int):Bool:=badP p0 p1||(badP p0 p2||(badP p0 p3||(badP p1 p2||(badP p1 p3||badP p2 p3))))
section
variable {s:St}{t:Pl}{u:Int}
theorem s98 (h:aB t.m=0) {i:Int}(hi:i=0∨i=1∨i=2∨i=3):bjq (s,t,i,())=some (placeB t.m s.b1 s.b2 s.b3 i):=by
 have hl:=bL h;have hx:=ajo i t.m;obtain⟨p,e,b,l⟩:=t;dsimp only at h hl hx ⊢;show Ez98 s _ i=_;unfold Ez98 Tz98;simp only [TS,w6];rw [aw2 hl,obind_some];unfold placeB;cases hm:mAt l i with
 | none=>rw [hm]at hx;simp only at hx;rcases hi with rfl|rfl|rfl|rfl<;>simp [hx,bzB,wr0,wr1,wr2]<;>(try (cases hb:(s.b1==0)<;>simp_all))<;>(try (cases hb:(s.b2==0)<;>simp_all))<;>(try (cases hb:(s.b3==0)<;>simp_all))
 | some m=>
   rw [hm]at hx;obtain⟨j,h1,h2⟩:=hx;have hj:j<l.length:=(List.getElem?_eq_some_iff.1 h2).1;have c2:inR (j:Int) l.length=true:=gN (by omega) (by omega);have c3:decide ((0:Int)≤(j:Int))=true:=by simp
   simp only;rw [h1,c2,c3,Int.toNat_natCast,aV h2];cases m.o<;>rfl
theorem st92 (h:aB t.m=0) (n:Nat) {i j:Int}(hi:i=0∨i=1∨i=2∨i=3) (hj:j=1∨j=2∨j=3):aE s t u (n+1) (.k92 j i)=cond (badP (placeB t.m s.b1 s.b2 s.b3 i) (placeB t.m s.b1 s.b2 s.b3 j)) (some true) (aE s t u n (.k92 (IntKind.i64.wrap (j+1)) i)):=by
 have q1:=s98 (s:=s) h hi;have q2:=s98 (s:=s) (i:=j) h (by omega);have u1:decide (j<(4:Int))=true:=by simp;omega
 generalize placeB t.m s.b1 s.b2 s.b3 i=x at *
 generalize placeB t.m s.b1 s.b2 s.b3 j=y at *
 have u2:aE s t u (n+1) (.k92 j i)=(cond (decide (j<(4:Int))) (aX (bjq (s,t,i,())) fun r82=>(aX (bjq (s,t,j,())) fun r83=>(cond (decide ((0:Int)<r82)) (cond (decide ((0:Int)<r83)) (cond (decide (r83≤r82)) (cond (r82==(4:Int)) (cond (!(r83==(4:Int))) (some true) (aE s t u n (.k92 (IntKind.i64.wrap (j+(1:Int))) i))) (some true)) (aE s t u n (.k92 (IntKind.i64.wrap (j+(1:Int))) i))) (aE s t u n (.k92 (IntKind.i64.wrap (j+(1:Int))) i))) (aE s t u n (.k92 (IntKind.i64.wrap (j+(1:Int))) i))))) (aE s t u n (.k86 (IntKind.i64.wrap (i+(1:Int)))))):=rfl;rw [u2,u1,q1,obind_some,q2,obind_some];unfold badP;cases decide (0<x)<;>cases decide (0<y)<;>cases decide (y≤x)<;>cases(x==4)<;>cases(y==4)<;>rfl
theorem bqc (n:Nat) (i:Int):aE s t u (n+1) (.k92 4 i)=aE s t u n (.k86 (IntKind.i64.wrap (i+1))):=by rw [Ez153J_s];simp only [Tz153J,TS,w6,show decide ((4:Int)<4)=false from by decide,cond_false]
theorem st86 (n:Nat) {i:Int}(hi:i=0∨i=1∨i=2∨i=3):aE s t u (n+1) (.k86 i)=aE s t u n (.k92 (IntKind.i64.wrap (i+1)) i):=by rcases hi with rfl|rfl|rfl|rfl<;>rfl
theorem st81 (m:Nat):aE s t u (m+1) .k81=cond (!(u==11)) (some false) (aE s t u m (.k86 0)):=by rw [Ez153J_s];simp only [Tz153J,TS]
theorem st624 (m:Nat) (x:Bool):aE s t u (m+1) (.k62 4 x)=aE s t u m .k81:=by rw [Ez153J_s];simp only [Tz153J,TS,show decide ((4:Int)<4)=false from by decide,cond_false]
theorem st61 (m:Nat) (x:Bool):aE s t u (m+1) (.k61 x)=aE s t u m (.k62 1 x):=by rw [Ez153J_s];simp only [Tz153J,TS]
def rH (s:St) (t:Pl) (u:Int):Bool:=if u=11 then avG (placeB t.m s.b1 s.b2 s.b3 0) (placeB t.m s.b1 s.b2 s.b3 1) (placeB t.m s.b1 s.b2 s.b3 2) (placeB t.m s.b1 s.b2 s.b3 3)else false
theorem lp81 (h:aB t.m=0) (n:Nat):aE s t u (n+17) .k81=some (rH s t u):=by
 by_cases hu:u=11
 · subst hu;have w1:IntKind.i64.wrap (0+1)=1:=by decide
   have w2:IntKind.i64.wrap (1+1)=2:=by decide
   have w3:IntKind.i64.wrap (2+1)=3:=by decide
   have w4:IntKind.i64.wrap (3+1)=4:=by decide
   have u1:aE s t 11 (n+17) .k81=aE s t 11 (n+16) (.k86 0):=(st81 (n+16)).trans (by rw [show((11:Int)==11)=true from rfl,Bool.not_true,cond_false]);rw [u1,st86 _ (by simp),w1,st92 h _ (by simp) (by simp),w2,st92 h _ (by simp) (by simp),w3,st92 h _ (by simp) (by simp),w4,bqc,w1,
    st86 _ (by simp),w2,st92 h _ (by simp) (by simp),w3,st92 h _ (by simp) (by simp),w4,bqc,w2,st86 _ (by simp),w3,st92 h _ (by simp) (by simp),w4,bqc,w3,st86 _ (by simp),w4,bqc,w4]
   have u9:∀m,aE s t 11 (m+1) (.k86 4)=some false:=fun _=>rfl;rw [u9];simp only [rH,avG,if_true];cases badP (placeB t.m s.b1 s.b2 s.b3 0) (placeB t.m s.b1 s.b2 s.b3 1)<;>cases badP (placeB t.m s.b1 s.b2 s.b3 0) (placeB t.m s.b1 s.b2 s.b3 2)<;>cases badP (placeB t.m s.b1 s.b2 s.b3 0) (placeB t.m s.b1 s.b2 s.b3 3)<;>cases badP (placeB t.m s.b1 s.b2 s.b3 1) (placeB t.m s.b1 s.b2 s.b3 2)<;>cases badP (placeB t.m s.b1 s.b2 s.b3 1) (placeB t.m s.b1 s.b2 s.b3 3)<;>cases badP (placeB t.m s.b1 s.b2 s.b3 2) (placeB t.m s.b1 s.b2 s.b3 3)<;>rfl
 · have e:(u==11)=false:=by simpa using hu
   have u1:aE s t u (n+17) .k81=(cond (!(u==(11:Int))) (some false) (aE s t u (n+16) (.k86 (0:Int)))):=st81 (n+16);rw [u1,e];unfold rH;rw [if_neg hu];rfl
theorem st62 (h:aB t.m=0) (n:Nat) (x:Bool) {i:Int}(hi:i=1∨i=2∨i=3):aE s t u (n+3) (.k62 i x)=cond (bzB s.b1 s.b2 s.b3 i) (aE s t u (n+2) (.k62 (IntKind.i64.wrap (i+1)) x)) (cond (chkB s t u x i) (some true) (aE s t u n (.k62 (IntKind.i64.wrap (i+1)) x))):=by
 have hl:=bL h;have q:ajS (t,i,())=some (mvIx t.m i):=by obtain⟨p,e,b,l⟩:=t;exact aw2 hl
 rw [←st71 h n x hi];rcases hi with rfl|rfl|rfl<;>simp [Ez153J_s,Tz153J,TS,w6,wr0,wr1,wr2,bzB,q,obind_some]
def vQ (s:St) (t:Pl) (u:Int) (x:Bool):Bool:=(!bzB s.b1 s.b2 s.b3 1&&chkB s t u x 1)||((!bzB s.b1 s.b2 s.b3 2&&chkB s t u x 2)||((!bzB s.b1 s.b2 s.b3 3&&chkB s t u x 3)||rH s t u))
theorem lp62 (h:aB t.m=0) (n:Nat) (x:Bool):aE s t u (n+27) (.k62 1 x)=some (vQ s t u x):=by
 have w2:IntKind.i64.wrap (1+1)=2:=by decide
 have w3:IntKind.i64.wrap (2+1)=3:=by decide
 have w4:IntKind.i64.wrap (3+1)=4:=by decide
 have e4:∀m,aE s t u (m+18) (.k62 4 x)=some (rH s t u):=fun m=>(st624 (m+17) x).trans (lp81 h m);have e3:∀m,aE s t u (m+21) (.k62 3 x)=some ((!bzB s.b1 s.b2 s.b3 3&&chkB s t u x 3)||rH s t u):=fun m=>by have b:aE s t u (m+18+2) (.k62 4 x)=some (rH s t u):=e4 (m+2);rw [show m+21=(m+18)+3 from rfl,st62 h _ x (by simp),w4,b,e4 m];cases bzB s.b1 s.b2 s.b3 3<;>cases chkB s t u x 3<;>rfl
 have e2:∀m,aE s t u (m+24) (.k62 2 x)=some ((!bzB s.b1 s.b2 s.b3 2&&chkB s t u x 2)||((!bzB s.b1 s.b2 s.b3 3&&chkB s t u x 3)||rH s t u)):=fun m=>by have b:aE s t u (m+21+2) (.k62 3 x)=_:=e3 (m+2);rw [show m+24=(m+21)+3 from rfl,st62 h _ x (by simp),w3,b,e3 m];cases bzB s.b1 s.b2 s.b3 2<;>cases chkB s t u x 2<;>rfl
 have b:aE s t u (n+24+2) (.k62 2 x)=_:=e2 (n+2);rw [show n+27=(n+24)+3 from rfl,st62 h _ x (by simp),w2,b,e2 n];unfold vQ;cases bzB s.b1 s.b2 s.b3 1<;>cases chkB s t u x 1<;>rfl
theorem rrL (h:aB t.m=0) (hv:vEv t.e) (hl:t.p.length<9223372036854775808) (hu:u=4∨u=8∨u=9∨u=10∨u=11):j8 (s,t,u,())=some (t.m.any (chkR s t u)||vQ s t u (t.m.any balk)):=by have hlen:=bL h;show jX (t.m.length+64) s t u=_;unfold jX uT;simp only [TS,w6];rw [s29 hl,obind_some,bqW h,obind_some];obtain⟨n,hn⟩:∃n,t.m.length+64=(n+28)+4*t.m.length+1:=⟨64-29-3*t.m.length,by omega⟩;rw [hn];have e0:=lp44 (s:=s) (u:=u) h hv t.m.length 0 (n+28) false (by omega);rw [List.drop_zero,Bool.false_or]at e0;have e1:aE s t u (n+28) (.k61 (t.m.any balk))=some (vQ s t u (t.m.any balk)):=(st61 (n+27) _).trans (lp62 h n _);rw [e1]at e0;have e2:aE s t u (n+28+4*t.m.length+1) (.k44 false 0)=some (t.m.any (chkR s t u)||vQ s t u (t.m.any balk)):=e0.trans (by cases t.m.any (chkR s t u)<;>rfl);rw [e2];rcases hu with rfl|rfl|rfl|rfl|rfl<;>rfl
end
end
end Go.Ev
namespace Go.Ev
open Go.RowKit Go.Proofs
set_option maxRecDepth 100000
set_option maxHeartbeats 8000000
set_option linter.unusedSimpArgs false
noncomputable section
section
variable {s:Tn}
theorem aT {α:Type}{l:List α}{k:Nat}{m:α}(hm:l[k]? = some m):l.drop k=m::l.drop (k+1):=by obtain⟨h1,h2⟩:=List.getElem?_eq_some_iff.1 hm;rw [List.drop_eq_getElem_cons h1,h2]
def c4 (b1 b2 b3:Int) (m:Mv):Bool:=decide (0<m.f)&&bzB b1 b2 b3 m.f
theorem lp125 (h:aB s.p_m=0):∀(j k n:Nat),s.p_m.length=k+j→azx s (n+j+1) (.k200002 (k:Int))=some ((s.p_m.drop k).any (c4 s.s_b1 s.s_b2 s.s_b3))
 | 0,k,n,hl=>by
   have c1:decide ((k:Int)<((s.p_m.length:Nat):Int))=false:=by simp;omega
   rw [List.drop_eq_nil_of_le (by omega)];simp only [azw,ajJ,TS,w6,c1,cond_false,List.any_nil]
 | j+1,k,n,hl=>by
   have hlen:=bL h;have hk:k<s.p_m.length:=by omega
   obtain⟨m,hm⟩:∃m,s.p_m[k]? = some m:=⟨s.p_m[k],List.getElem?_eq_getElem hk⟩;have ih:=lp125 h j (k+1) n (by omega);have hr:=gL (tE h m (List.mem_of_getElem? hm));have c1:decide ((k:Int)<((s.p_m.length:Nat):Int))=true:=by simp;omega
   have c2:inR (k:Int) s.p_m.length=true:=gN (by omega) (by omega);have w4:IntKind.i64.wrap ((k:Int)+1)=((k+1:Nat):Int):=by rw [bD]<;>omega
   rw [aT hm,show n+(j+1)+1=(n+j+1)+1 from rfl];generalize n+j+1=N at ih ⊢;simp only [azw,ajJ,TS,w6,c1,c2,cond_true,Int.toNat_natCast,aV hm,w4,ih,List.any_cons];have h4:m.f=0∨m.f=1∨m.f=2∨m.f=3:=by omega
   rcases h4 with h4|h4|h4|h4<;>simp [h4,c4,bzB,wr0,wr1,wr2]<;>(try (cases(s.s_b1==0)<;>rfl))<;>(try (cases(s.s_b2==0)<;>rfl))<;>(try (cases(s.s_b3==0)<;>rfl))
theorem mQ {l:List Mv}:l.length+64=63+l.length+1:=by omega
theorem r4_p (h:aB s.p_m=0):bxK (s,())=some (s.p_m.any (c4 s.s_b1 s.s_b2 s.s_b3)):=by show Ez125 (s.p_m.length+64) s=_;unfold Ez125 Tz125;simp only [TS,w6];rw [mQ];exact lp125 h s.p_m.length 0 63 (by omega)
def c8 (s:Tn) (m:Mv):Bool:=decide (0<m.f)&&!wayB s.p_e s.p_p (fcdB s.f1 s.f2 s.f3 m.f) (batIn s.p_m [99]) (batIn s.p_m [99,107]) m
theorem lp129 (h:aB s.p_m=0) (hv:vEv s.p_e):∀(j k n:Nat),s.p_m.length=k+j→azv s (n+j+1) (.k200002 (k:Int))=some ((s.p_m.drop k).any (c8 s))
 | 0,k,n,hl=>by
   have c1:decide ((k:Int)<((s.p_m.length:Nat):Int))=false:=by simp;omega
   rw [List.drop_eq_nil_of_le (by omega)];simp only [azu,ajI,TS,w6,c1,cond_false,List.any_nil]
 | j + 1,k,n,hl=>by
   have hlen:=bL h;have hk:k<s.p_m.length:=by omega
   obtain⟨m,hm⟩:∃m,s.p_m[k]? = some m:=⟨s.p_m[k],List.getElem?_eq_getElem hk⟩;have ih:=lp129 h hv j (k+1) n (by omega);have hmv:=tE h m (List.mem_of_getElem? hm);have hr:=gL hmv;have c1:decide ((k:Int)<((s.p_m.length:Nat):Int))=true:=by simp;omega
   have c2:inR (k:Int) s.p_m.length=true:=gN (by omega) (by omega);have w4:IntKind.i64.wrap ((k:Int)+1)=((k+1:Nat):Int):=by rw [bD]<;>omega
   rw [aT hm,show n+(j+1)+1=(n+j+1)+1 from rfl];generalize n+j+1=N at ih ⊢;simp only [azu,ajI,TS,w6,c1,c2,cond_true,Int.toNat_natCast,aV hm,w4,ih,List.any_cons,c8];by_cases hf:m.f=0
   · have c0:decide (0<m.f)=false:=by simp;omega
     simp only [c0,cond_false,Bool.false_and,Bool.false_or]
   · have c0:decide (0<m.f)=true:=by simp;omega
     simp only [c0,cond_true,Bool.true_and];cases ho:m.o with
     | true=>simp only [cond_true,Bool.not_true,cond_false];rw [s183 h hv hmv hf ho,obind_some];cases wayB s.p_e s.p_p (fcdB s.f1 s.f2 s.f3 m.f) (batIn s.p_m [99]) (batIn s.p_m [99,107]) m<;>rfl
     | false=>simp only [cond_false,Bool.not_false,cond_true];rw [s184 hv hmv hf ho (batIn s.p_m [99]) (batIn s.p_m [99,107]),obind_some];cases wayB s.p_e s.p_p (fcdB s.f1 s.f2 s.f3 m.f) (batIn s.p_m [99]) (batIn s.p_m [99,107]) m<;>rfl
theorem r8_p (h:aB s.p_m=0) (hv:vEv s.p_e):bxG (s,())=some (s.p_m.any (c8 s)):=by show Ez129 (s.p_m.length+64) s=_;unfold Ez129 Tz129;simp only [TS,w6];rw [mQ];exact lp129 h hv s.p_m.length 0 63 (by omega)
def bk9 (m:Mv):Bool:=decide (0<m.f)&&decide (m.h=[107])
def st9 (m:Mv):Bool:=decide (0<m.f)&&(decide (m.h=[107])&&(m.t==IntKind.i64.wrap (m.f+1)))
def nz (b:Int):Nat:=bif b==0 then 0 else 1
theorem s185 (b1 b2 b3:Int):uX ([b1,b2,b3],(),())=some (((nz b1+(nz b2+nz b3):Nat)):Int):=by
 have j:∀n,mI [b1,b2,b3] () (n+4) (.k6 0 0)=some (((nz b1+(nz b2+nz b3):Nat)):Int):=by intro n;have e:∀b:Int,Sz186 (b,())=some (!(b==0)):=fun _=>rfl;cases h1:(b1==0)<;>cases h2:(b2==0)<;>cases h3:(b3==0)<;>simp [ajV,mG,TS,w6,inR,e,obind_some,h1,h2,h3,nz,wr0,wr1,wr2,wr3]
 show vC (3+64) [b1,b2,b3] ()=_;unfold vC uS;simp only [TS,w6];exact j 63
theorem bqv (h:aB s.p_m=0):∀(j k n:Nat) (x:Bool) (c:Nat),s.p_m.length=k+j→c≤k→azt s (n+j+1) (.k200002 (k:Int) x (c:Int))=some ((x||(s.p_m.drop k).any bk9)&&decide (((c+(s.p_m.drop k).countP st9:Nat):Int)<((nz s.s_b1+(nz s.s_b2+nz s.s_b3):Nat):Int)))
 | 0,k,n,x,c,hl,hc=>by
   have c1:decide ((k:Int)<((s.p_m.length:Nat):Int))=false:=by simp;omega
   rw [List.drop_eq_nil_of_le (by omega)];simp only [azs,ajH,TS,w6,c1,cond_false,List.any_nil,s185,obind_some,List.countP_nil,Bool.or_false,Nat.add_zero];cases x<;>rfl
 | j+1,k,n,x,c,hl,hc=>by
   have hlen:=bL h;have hk:k<s.p_m.length:=by omega
   obtain⟨m,hm⟩:∃m,s.p_m[k]? = some m:=⟨s.p_m[k],List.getElem?_eq_getElem hk⟩;have c1:decide ((k:Int)<((s.p_m.length:Nat):Int))=true:=by simp;omega
   have c2:inR (k:Int) s.p_m.length=true:=gN (by omega) (by omega);have w4:IntKind.i64.wrap ((k:Int)+1)=((k+1:Nat):Int):=by rw [bD]<;>omega
   have w5:IntKind.i64.wrap ((c:Int)+1)=((c+1:Nat):Int):=by rw [bD]<;>omega
   have ih1:=bqv h j (k+1) n true (c+1) (by omega) (by omega);have ih2:=bqv h j (k+1) n true c (by omega) (by omega);have ih3:=bqv h j (k+1) n x c (by omega) (by omega);rw [aT hm,show n+(j+1)+1=(n+j+1)+1 from rfl];generalize n+j+1=N at ih1 ih2 ih3 ⊢;simp only [azs,ajH,TS,w6,c1,c2,cond_true,Int.toNat_natCast,aV hm,w4,w5,ih1,ih2,ih3,List.any_cons,List.countP_cons,bk9,st9];have h3:(m.t==IntKind.i64.wrap (m.f+1))=true∨(m.t==IntKind.i64.wrap (m.f+1))=false:=by cases(m.t==IntKind.i64.wrap (m.f+1))<;>simp
   rcases h3 with h3|h3<;>by_cases h1:0<m.f<;>by_cases h2:m.h=[107]<;>simp [h1,h2,h3,Nat.add_assoc,Nat.add_comm 1]
theorem r9_p (h:aB s.p_m=0):bxF (s,())=some (s.p_m.any bk9&&decide (((s.p_m.countP st9:Nat):Int)<((nz s.s_b1+(nz s.s_b2+nz s.s_b3):Nat):Int))):=by show Ez130 (s.p_m.length+64) s=_;unfold Ez130 Tz130;simp only [TS,w6];rw [mQ];have:=bqv h s.p_m.length 0 63 false 0 (by omega) (by omega);simpa using this
end
end
end Go.Ev
namespace Go.Ev
open Go.RowKit Go.Proofs
set_option maxRecDepth 100000
set_option maxHeartbeats 8000000
set_option linter.unusedSimpArgs false
noncomputable section
section
variable {s:Tn}
def safeAt (i:Int) (m:Mv):Bool:=!m.o&&(m.f==i)
def wtB (l:List Mv) (i:Int) (f:Bool):Bool:=f&&!(l.any (safeAt i))
theorem lp131 (h:aB s.p_m=0):∀(j k n:Nat) (x3 x2 x1 x0:Bool),s.p_m.length=k+j→ajX s (n+j+1) (.k10 (k:Int) x3 x2 x1 x0)=some (wtB (s.p_m.drop k) 0 x0||(wtB (s.p_m.drop k) 1 x1||(wtB (s.p_m.drop k) 2 x2||wtB (s.p_m.drop k) 3 x3)))
 | 0,k,n,x3,x2,x1,x0,hl=>by
   have c1:decide ((k:Int)<((s.p_m.length:Nat):Int))=false:=by simp;omega
   rw [List.drop_eq_nil_of_le (by omega)];simp only [azr,ajG,TS,w6,c1,cond_false,wtB,List.any_nil];cases x0<;>cases x1<;>cases x2<;>cases x3<;>rfl
 | j+1,k,n,x3,x2,x1,x0,hl=>by
   have hlen:=bL h;have hk:k<s.p_m.length:=by omega
   obtain⟨m,hm⟩:∃m,s.p_m[k]? = some m:=⟨s.p_m[k],List.getElem?_eq_getElem hk⟩;have ih:=fun x3 x2 x1 x0=>lp131 h j (k+1) n x3 x2 x1 x0 (by omega);have hr:=gL (tE h m (List.mem_of_getElem? hm));have c1:decide ((k:Int)<((s.p_m.length:Nat):Int))=true:=by simp;omega
   have c2:inR (k:Int) s.p_m.length=true:=gN (by omega) (by omega);have w4:IntKind.i64.wrap ((k:Int)+1)=((k+1:Nat):Int):=by rw [bD]<;>omega
   rw [aT hm,show n+(j+1)+1=(n+j+1)+1 from rfl];generalize n+j+1=N at ih ⊢;simp only [azr,ajG,TS,w6,c1,c2,cond_true,Int.toNat_natCast,aV hm,w4,ih];have h4:m.f=0∨m.f=1∨m.f=2∨m.f=3:=by omega
   rcases h4 with h4|h4|h4|h4<;>cases ho:m.o<;>simp [h4,ho,wtB,safeAt]
theorem r10_p (h:aB s.p_m=0) (hv:vEv s.p_e):bxE (s,())=some (evIn s.p_e [87,72,73]&&(wtB s.p_m 0 s.f0||(wtB s.p_m 1 s.f1||(wtB s.p_m 2 s.f2||wtB s.p_m 3 s.f3)))):=by have e:=lp131 h s.p_m.length 0 63 s.f3 s.f2 s.f1 s.f0 (by omega);rw [←mQ,List.drop_zero]at e;show Ez131 (s.p_m.length+64) s=_;unfold Ez131 Tz131;simp only [TS,w6];rw [akA hv (by simp [CL]),obind_some];have e':ajX s (s.p_m.length+64) (.k10 0 s.f3 s.f2 s.f1 s.f0)=_:=e;rw [e'];cases evIn s.p_e [87,72,73]<;>rfl
def upd (i:Int) (p:Int) (m:Mv):Int:=if m.f=i then(if m.o then 0 else m.t)else p
theorem lp152 (h:aB s.p_m=0):∀(j k n:Nat) (p1 p0 p2 p3:Int),s.p_m.length=k+j→xK s (n+j+1) (.k18 p1 p0 p2 p3 (k:Int))=some ((s.p_m.drop k).foldl (upd 0) p0,(s.p_m.drop k).foldl (upd 1) p1,(s.p_m.drop k).foldl (upd 2) p2,(s.p_m.drop k).foldl (upd 3) p3,())
 | 0,k,n,p1,p0,p2,p3,hl=>by
   have c1:decide ((k:Int)<((s.p_m.length:Nat):Int))=false:=by simp;omega
   rw [List.drop_eq_nil_of_le (by omega)];simp only [zU,xH,TS,w6,c1,cond_false,List.foldl_nil]
 | j+1,k,n,p1,p0,p2,p3,hl=>by
   have hlen:=bL h;have hk:k<s.p_m.length:=by omega
   obtain⟨m,hm⟩:∃m,s.p_m[k]? = some m:=⟨s.p_m[k],List.getElem?_eq_getElem hk⟩;have ih:=fun p1 p0 p2 p3=>lp152 h j (k+1) n p1 p0 p2 p3 (by omega);have hr:=gL (tE h m (List.mem_of_getElem? hm));have c1:decide ((k:Int)<((s.p_m.length:Nat):Int))=true:=by simp;omega
   have c2:inR (k:Int) s.p_m.length=true:=gN (by omega) (by omega);have w4:IntKind.i64.wrap ((k:Int)+1)=((k+1:Nat):Int):=by rw [bD]<;>omega
   rw [aT hm,show n+(j+1)+1=(n+j+1)+1 from rfl];generalize n+j+1=N at ih ⊢;simp only [zU,xH,TS,w6,c1,c2,cond_true,Int.toNat_natCast,aV hm,w4,ih,List.foldl_cons];have h4:m.f=0∨m.f=1∨m.f=2∨m.f=3:=by omega
   rcases h4 with h4|h4|h4|h4<;>cases ho:m.o<;>simp [h4,ho,upd]
theorem axk {l:List Mv}(h:aB l=0) {i p:Int}:l.foldl (upd i) p=match mAt l i with
  | some m=>if m.o then 0 else m.t| none=>p:=by
 have one:∀(r:List Mv) (q:Int),(∀m∈r,¬m.f=i)→r.foldl (upd i) q=q:=by
  intro r;induction r with
  | nil=>intro q _;rfl| cons a r ih=>intro q hq;rw [List.foldl_cons,ih _ fun m hm=>hq m (List.mem_cons_of_mem _ hm)];unfold upd;rw [if_neg (hq a List.mem_cons_self)]
 have core:∀(r:List Mv) (q:Int) (pr:Option Int),azI pr r=0→r.foldl (upd i) q=match mAt r i with
  | some m=>if m.o then 0 else m.t| none=>q:=by
  intro r;induction r with
  | nil=>intro q _ _;rfl| cons a r ih=>
    intro q pr hg;obtain⟨h1,h2,h3⟩:=iQ hg;rw [List.foldl_cons];unfold mAt;by_cases hf:a.f=i
    · have e:(a.f==i)=true:=by simpa using hf
      rw [List.find?_cons,e];have lt:∀(r:List Mv) (pr:Int),azI (some pr) r=0→∀m∈r,m.f<pr:=by
       intro r;induction r with
       | nil=>intro _ _ m hm;cases hm| cons b r ih=>
         intro pr hg m hm;obtain⟨g1,g2,g3⟩:=iQ hg;have g4:=g2 pr rfl;rcases List.mem_cons.1 hm with rfl|hm;· exact g4
         · have:=ih b.f g3 m hm;omega
      rw [one r _ fun m hm=>by have:=lt r a.f h3 m hm;omega];simp only [upd,if_pos hf]
    · have e:(a.f==i)=false:=by simpa using hf
      rw [List.find?_cons,e,ih _ _ h3];simp only [upd,if_neg hf];rfl
 unfold aB at h;split at h;· cases h
 · exact core l p none h
theorem s152 (h:aB s.p_m=0):ays (s,())=some (placeB s.p_m s.s_b1 s.s_b2 s.s_b3 0,placeB s.p_m s.s_b1 s.s_b2 s.s_b3 1,placeB s.p_m s.s_b1 s.s_b2 s.s_b3 2,placeB s.p_m s.s_b1 s.s_b2 s.s_b3 3,()):=by
 have hl:=bL h;have e1:∀n,xK s (n+4) (.k6 0 0 0 0 0)=xK s n (.k18 (if bzB s.s_b1 s.s_b2 s.s_b3 1 then 0 else 1) 0 (if bzB s.s_b1 s.s_b2 s.s_b3 2 then 0 else 2) (if bzB s.s_b1 s.s_b2 s.s_b3 3 then 0 else 3) 0):=by intro n;cases h1:(s.s_b1==0)<;>cases h2:(s.s_b2==0)<;>cases h3:(s.s_b3==0)<;>simp [zU,xH,TS,w6,bzB,h1,h2,h3,wr0,wr1,wr2,wr3]
 show Ez152 (s.p_m.length+64) s=_;unfold Ez152 Tz152;simp only [TS,w6];rw [show s.p_m.length+64=(59+s.p_m.length+1)+4 by omega,e1];have e2:=lp152 h s.p_m.length 0 59 (if bzB s.s_b1 s.s_b2 s.s_b3 1 then 0 else 1) 0 (if bzB s.s_b1 s.s_b2 s.s_b3 2 then 0 else 2) (if bzB s.s_b1 s.s_b2 s.s_b3 3 then 0 else 3) (by omega);rw [List.drop_zero]at e2;refine e2.trans ?_;rw [axk h,axk h,axk h,axk h];unfold placeB;cases mAt s.p_m 0<;>cases mAt s.p_m 1<;>cases mAt s.p_m 2<;>cases mAt s.p_m 3<;>simp
def badQ (x y:Int):Bool:=!(x==0)&&(!(y==0)&&(decide (y≤x)&&!((x==4)&&(y==4))))
theorem xB {d c:Int}{A:Option Bool}:(cond (!(d==(0:Int))) (cond (!(c==(0:Int))) (cond (decide (c≤d)) (cond (!(d==(4:Int))) (some true) (cond (!(c==(4:Int))) (some true) A)) A) A) A)=cond (badQ d c) (some true) A:=by unfold badQ;cases(d==0)<;>cases(c==0)<;>cases decide (c≤d)<;>cases(d==4)<;>cases(c==4)<;>rfl
theorem avd {x y:Int}(hx:0≤x) (hy:0≤y):badQ x y=badP x y:=by
 unfold badQ badP;have e1:(!(x==0))=decide (0<x):=by rw [Bool.eq_iff_iff];simp;omega
 have e2:(!(y==0))=decide (0<y):=by rw [Bool.eq_iff_iff];simp;omega
 rw [e1,e2]
theorem ez132 (n:Nat) (a b c d p q r t:Int):dI s (n+15) (.k6_0 a b c d p q r t)=some (badQ p b||(badQ p c||(badQ q c||(badQ p d||(badQ q d||badQ r d))))):=by have u1:∀m,dI s (m+1) (.k12_1 b a b c d p q r t)=cond (badQ p b) (some true) (dI s m (.k12_2 b a b c d p q r t)):=fun m=>(show _=_ from rfl).trans xB;have u2:∀m,dI s (m+1) (.k12_3 c a b c d p q r t)=cond (badQ p c) (some true) (dI s m (.k12_4 c a b c d p q r t)):=fun m=>(show _=_ from rfl).trans xB;have u3:∀m,dI s (m+1) (.k12_4 c a b c d p q r t)=cond (badQ q c) (some true) (dI s m (.k12_5 c a b c d p q r t)):=fun m=>(show _=_ from rfl).trans xB;have u4:∀m,dI s (m+1) (.k12_6 d a b c d p q r t)=cond (badQ p d) (some true) (dI s m (.k12_7 d a b c d p q r t)):=fun m=>(show _=_ from rfl).trans xB;have u5:∀m,dI s (m+1) (.k12_7 d a b c d p q r t)=cond (badQ q d) (some true) (dI s m (.k12_8 d a b c d p q r t)):=fun m=>(show _=_ from rfl).trans xB;have u6:∀m,dI s (m+1) (.k12_8 d a b c d p q r t)=cond (badQ r d) (some true) (dI s m (.k12_9 d a b c d p q r t)):=fun m=>(show _=_ from rfl).trans xB;have v1:∀m,dI s (m+3) (.k6_0 a b c d p q r t)=dI s m (.k12_1 b a b c d p q r t):=fun _=>rfl;have v2:∀m,dI s (m+2) (.k12_2 b a b c d p q r t)=dI s m (.k12_3 c a b c d p q r t):=fun _=>rfl;have v3:∀m,dI s (m+2) (.k12_5 c a b c d p q r t)=dI s m (.k12_6 d a b c d p q r t):=fun _=>rfl;have v4:∀m,dI s (m+2) (.k12_9 d a b c d p q r t)=some false:=fun _=>rfl;rw [show n+15=(n+12)+3 from rfl,v1,show n+12=(n+11)+1 from rfl,u1,show n+11=(n+9)+2 from rfl,v2,show n+9=(n+8)+1 from rfl,u2,show n+8=(n+7)+1 from rfl,u3,show n+7=(n+5)+2 from rfl,v3,show n+5=(n+4)+1 from rfl,u4,show n+4=(n+3)+1 from rfl,u5,show n+3=(n+2)+1 from rfl,u6,v4];cases badQ p b<;>cases badQ p c<;>cases badQ q c<;>cases badQ p d<;>cases badQ q d<;>cases badQ r d<;>rfl
theorem iO {l:List Mv}(h:aB l=0) {b1 b2 b3 i:Int}(hi:0≤i):0≤placeB l b1 b2 b3 i:=by
 unfold placeB;split;· rename_i m hm;have:=gL (pB h hm).2;split<;>omega
 · split;· omega
   · split<;>omega
theorem r11_p (h:aB s.p_m=0):bxD (s,())=some (avG (placeB s.p_m s.s_b1 s.s_b2 s.s_b3 0) (placeB s.p_m s.s_b1 s.s_b2 s.s_b3 1) (placeB s.p_m s.s_b1 s.s_b2 s.s_b3 2) (placeB s.p_m s.s_b1 s.s_b2 s.s_b3 3)):=by
 show Ez132 (s.p_m.length+64) s=_;unfold Ez132 Tz132;simp only [TS,w6];rw [s152 h,obind_some];have n0:=iO h (b1:=s.s_b1) (b2:=s.s_b2) (b3:=s.s_b3) (i:=0) (by omega);have n1:=iO h (b1:=s.s_b1) (b2:=s.s_b2) (b3:=s.s_b3) (i:=1) (by omega);have n2:=iO h (b1:=s.s_b1) (b2:=s.s_b2) (b3:=s.s_b3) (i:=2) (by omega);have n3:=iO h (b1:=s.s_b1) (b2:=s.s_b2) (b3:=s.s_b3) (i:=3) (by omega);generalize placeB s.p_m s.s_b1 s.s_b2 s.s_b3 0=p0 at *
 generalize placeB s.p_m s.s_b1 s.s_b2 s.s_b3 1=p1 at *
 generalize placeB s.p_m s.s_b1 s.s_b2 s.s_b3 2=p2 at *
 generalize placeB s.p_m s.s_b1 s.s_b2 s.s_b3 3=p3 at *
 rw [show s.p_m.length+64=(s.p_m.length+49)+15 from rfl,ez132];rw [avd n0 n1,avd n0 n2,avd n1 n2,avd n0 n3,avd n1 n3,avd n2 n3];unfold avG;cases badP p0 p1<;>cases badP p0 p2<;>cases badP p1 p2<;>cases badP p0 p3<;>cases badP p1 p3<;>cases badP p2 p3<;>rfl
end
end
end Go.Ev
namespace Go.Ev
open Go.RowKit Go.Proofs
set_option maxRecDepth 100000
set_option maxHeartbeats 8000000
set_option linter.unusedSimpArgs false
noncomputable section
def outsI (s:St) (t:Pl):Int:=IntKind.i64.wrap (s.outs+((t.m.countP (·.o):Nat):Int))
def dA (s:St) (t:Pl):Tn:=⟨s.inn,s.half,s.outs,s.balls,s.strikes,s.b1,s.b2,s.b3,s.n0,s.n1,s.c0,s.c1,s.over,t.p,t.e,t.l,t.m,(jT s t).1.1,(jT s t).1.2.1,(jT s t).2.2.1==0,outsI s t,true,!(s.b1==0),!(s.b1==0)&&!(s.b2==0),!(s.b1==0)&&(!(s.b2==0)&&!(s.b3==0))⟩
theorem s143 {s:St}{t:Pl}(h:aB t.m=0) (hb:bB t.p=true):bjz (s,t,())=some (dA s t):=by
 show Ez143 (t.m.length+64) s t=_;unfold Ez143 Tz143;simp only [TS,w6];have e:S81 (s.balls,s.strikes,t.p,())=some (jT s t):=by unfold S81;rw [if_pos hb];rfl
 rw [e,obind_some,outs_p (bL h),obind_some,s63,obind_some];rfl
theorem u144_0 (s:Tn) (n:Nat) (x0 x1 x2 x3 x4 x5 x6 x7 x8 x9 x10 x11 x12:List Nat):bT s (n+1) (.k6_0 x0 x1 x2 x3 x4 x5 x6 x7 x8 x9 x10 x11 x12)=aX (Sz122 (s,())) fun r=>cond r (some (1:Int)) (bT s n (.k6_1 x0 x1 x2 x3 x4 x5 x6 x7 x8 x9 x10 x11 x12)):=rfl
theorem u144_1 (s:Tn) (n:Nat) (x0 x1 x2 x3 x4 x5 x6 x7 x8 x9 x10 x11 x12:List Nat):bT s (n+1) (.k6_1 x0 x1 x2 x3 x4 x5 x6 x7 x8 x9 x10 x11 x12)=aX (bxM (s,())) fun r=>cond r (some (2:Int)) (bT s n (.k6_2 x0 x1 x2 x3 x4 x5 x6 x7 x8 x9 x10 x11 x12)):=rfl
theorem u144_2 (s:Tn) (n:Nat) (x0 x1 x2 x3 x4 x5 x6 x7 x8 x9 x10 x11 x12:List Nat):bT s (n+1) (.k6_2 x0 x1 x2 x3 x4 x5 x6 x7 x8 x9 x10 x11 x12)=aX (bxL (s,())) fun r=>cond r (some (3:Int)) (bT s n (.k6_3 x0 x1 x2 x3 x4 x5 x6 x7 x8 x9 x10 x11 x12)):=rfl
theorem u144_3 (s:Tn) (n:Nat) (x0 x1 x2 x3 x4 x5 x6 x7 x8 x9 x10 x11 x12:List Nat):bT s (n+1) (.k6_3 x0 x1 x2 x3 x4 x5 x6 x7 x8 x9 x10 x11 x12)=aX (bxK (s,())) fun r=>cond r (some (4:Int)) (bT s n (.k6_4 x0 x1 x2 x3 x4 x5 x6 x7 x8 x9 x10 x11 x12)):=rfl
theorem u144_4 (s:Tn) (n:Nat) (x0 x1 x2 x3 x4 x5 x6 x7 x8 x9 x10 x11 x12:List Nat):bT s (n+1) (.k6_4 x0 x1 x2 x3 x4 x5 x6 x7 x8 x9 x10 x11 x12)=aX (bxJ (s,())) fun r=>cond r (some (5:Int)) (bT s n (.k6_5 x0 x1 x2 x3 x4 x5 x6 x7 x8 x9 x10 x11 x12)):=rfl
theorem u144_5 (s:Tn) (n:Nat) (x0 x1 x2 x3 x4 x5 x6 x7 x8 x9 x10 x11 x12:List Nat):bT s (n+1) (.k6_5 x0 x1 x2 x3 x4 x5 x6 x7 x8 x9 x10 x11 x12)=aX (bxI (s,())) fun r=>cond r (some (6:Int)) (bT s n (.k6_6 x0 x1 x2 x3 x4 x5 x6 x7 x8 x9 x10 x11 x12)):=rfl
theorem u144_6 (s:Tn) (n:Nat) (x0 x1 x2 x3 x4 x5 x6 x7 x8 x9 x10 x11 x12:List Nat):bT s (n+1) (.k6_6 x0 x1 x2 x3 x4 x5 x6 x7 x8 x9 x10 x11 x12)=aX (bxH (s,())) fun r=>cond r (some (7:Int)) (bT s n (.k6_7 x0 x1 x2 x3 x4 x5 x6 x7 x8 x9 x10 x11 x12)):=rfl
theorem u144_7 (s:Tn) (n:Nat) (x0 x1 x2 x3 x4 x5 x6 x7 x8 x9 x10 x11 x12:List Nat):bT s (n+1) (.k6_7 x0 x1 x2 x3 x4 x5 x6 x7 x8 x9 x10 x11 x12)=aX (bxG (s,())) fun r=>cond r (some (8:Int)) (bT s n (.k6_8 x0 x1 x2 x3 x4 x5 x6 x7 x8 x9 x10 x11 x12)):=rfl
theorem u144_8 (s:Tn) (n:Nat) (x0 x1 x2 x3 x4 x5 x6 x7 x8 x9 x10 x11 x12:List Nat):bT s (n+1) (.k6_8 x0 x1 x2 x3 x4 x5 x6 x7 x8 x9 x10 x11 x12)=aX (bxF (s,())) fun r=>cond r (some (9:Int)) (bT s n (.k6_9 x0 x1 x2 x3 x4 x5 x6 x7 x8 x9 x10 x11 x12)):=rfl
theorem u144_9 (s:Tn) (n:Nat) (x0 x1 x2 x3 x4 x5 x6 x7 x8 x9 x10 x11 x12:List Nat):bT s (n+1) (.k6_9 x0 x1 x2 x3 x4 x5 x6 x7 x8 x9 x10 x11 x12)=aX (bxE (s,())) fun r=>cond r (some (10:Int)) (bT s n (.k6_10 x0 x1 x2 x3 x4 x5 x6 x7 x8 x9 x10 x11 x12)):=rfl
theorem u144_10 (s:Tn) (n:Nat) (x0 x1 x2 x3 x4 x5 x6 x7 x8 x9 x10 x11 x12:List Nat):bT s (n+1) (.k6_10 x0 x1 x2 x3 x4 x5 x6 x7 x8 x9 x10 x11 x12)=aX (bxD (s,())) fun r=>cond r (some (11:Int)) (bT s n (.k6_11 x0 x1 x2 x3 x4 x5 x6 x7 x8 x9 x10 x11 x12)):=rfl
theorem u144_11 (s:Tn) (n:Nat) (x0 x1 x2 x3 x4 x5 x6 x7 x8 x9 x10 x11 x12:List Nat):bT s (n+1) (.k6_11 x0 x1 x2 x3 x4 x5 x6 x7 x8 x9 x10 x11 x12)=aX (bxC (s,())) fun r=>cond r (some (12:Int)) (bT s n (.k6_12 x0 x1 x2 x3 x4 x5 x6 x7 x8 x9 x10 x11 x12)):=rfl
theorem u144_12 (s:Tn) (n:Nat) (x0 x1 x2 x3 x4 x5 x6 x7 x8 x9 x10 x11 x12:List Nat):bT s (n+1) (.k6_12 x0 x1 x2 x3 x4 x5 x6 x7 x8 x9 x10 x11 x12)=aX (bxB (s,())) fun r=>cond r (some (13:Int)) (bT s n (.k6_13 x0 x1 x2 x3 x4 x5 x6 x7 x8 x9 x10 x11 x12)):=rfl
theorem u144_13 (s:Tn) (n:Nat) (x0 x1 x2 x3 x4 x5 x6 x7 x8 x9 x10 x11 x12:List Nat):bT s (n+1) (.k6_13 x0 x1 x2 x3 x4 x5 x6 x7 x8 x9 x10 x11 x12)=some 0:=rfl
theorem u94 (s:St) (t:Pl) (n:Nat) (k:Int) (hk:k≤13):bqD s t (n+1) (.k4 k)=aX (j8 (s,t,k,())) fun r=>cond r (some k) (bqD s t n (.k4 (IntKind.i64.wrap (k+1)))):=by
 have e:decide (k≤(13:Int))=true:=by simpa using hk
 have u:bqD s t (n+1) (.k4 k)=(cond (decide (k≤(13:Int))) (aX (j8 (s,t,k,())) fun r4=>(cond r4 (some k) (bqD s t n (.k4 (IntKind.i64.wrap (k+(1:Int))))))) (some (0:Int))):=rfl;rw [u,e,cond_true]
def two (A B:Option Int) (F:Prop):Prop:=∃k,A=some k∧B=some k∧(k=0→F)∧0≤k∧k≤13
theorem cV {x y:Option Bool}{b:Bool}{k:Int}{A B:Option Int}{F:Prop}(hx:x=some b) (hy:y=some b) (hk:k≠0∧0≤k∧k≤13) (h:b=false→two A B F):two (aX x fun r=>cond r (some k) A) (aX y fun r=>cond r (some k) B) F:=by
 rw [hx,hy,obind_some,obind_some];cases b with
 | true=>exact⟨k,rfl,rfl,fun h=>absurd h hk.1,hk.2⟩| false=>exact h rfl
section
variable {s:St}{t:Pl}
theorem evIn1 {e:List Nat}{x:Nat}:evIn e [x]=decide (e=[x]):=by
 rw [Bool.eq_iff_iff,sF,decide_eq_true_eq];constructor;· rintro⟨y,rfl,hy⟩;simp at hy;rw [hy]
 · intro h;exact⟨x,h,by simp⟩
theorem evAw {e:List Nat}:evIn e [87,72,73]=award e:=by
 rw [Bool.eq_iff_iff,sF];simp only [award,Bool.or_eq_true,decide_eq_true_eq];constructor;· rintro⟨y,rfl,hy⟩;simpa using hy
 · rintro(h|h|h)<;>exact⟨_,h,by simp⟩
theorem base0 {u:Int}{x:Bool}(h9:u≠9) (h10:u≠10) (h11:u≠11):vQ s t u x=false:=by simp [vQ,chkB,rH,h9,h10,h11]
theorem anyF {l:List Mv}{u:Int}(h4:u≠4) (h8:u≠8):l.any (chkR s t u)=false:=by
 have:chkR s t u=fun _=>false:=by funext m;simp [chkR,h4,h8]
 rw [this];simp
theorem eq4 (h:aB t.m=0) (hv:vEv t.e) (hl:t.p.length<9223372036854775808):j8 (s,t,4,())=some (t.m.any (c4 s.b1 s.b2 s.b3)):=by rw [rrL h hv hl (by simp),base0 (by decide) (by decide) (by decide),Bool.or_false];rfl
theorem eq8 (h:aB t.m=0) (hv:vEv t.e) (hl:t.p.length<9223372036854775808):j8 (s,t,8,())=some (t.m.any (c8 (dA s t))):=by rw [rrL h hv hl (by simp),base0 (by decide) (by decide) (by decide),Bool.or_false];rfl
theorem eq11 (h:aB t.m=0) (hv:vEv t.e) (hl:t.p.length<9223372036854775808):j8 (s,t,11,())=some (avG (placeB t.m s.b1 s.b2 s.b3 0) (placeB t.m s.b1 s.b2 s.b3 1) (placeB t.m s.b1 s.b2 s.b3 2) (placeB t.m s.b1 s.b2 s.b3 3)):=by rw [rrL h hv hl (by simp),anyF (by decide) (by decide),Bool.false_or];simp [vQ,chkB,rH]
theorem xW {l:List Mv}(h:aB l=0) {i:Int}(hi:i=0∨i=1∨i=2∨i=3):l.any (safeAt i)=match mAt l i with
  | some m=>!m.o| none=>false:=by
 rcases hi with rfl|rfl|rfl|rfl<;>refine sh_cases h ?_ ?_ ?_ ?_ ?_ ?_ ?_ ?_ ?_ ?_ ?_ ?_ ?_ ?_ ?_ ?_<;>intros<;>(try simp only [vMv]at *)<;>simp_all [mAt,safeAt]
theorem eq10 (h:aB t.m=0) (hv:vEv t.e) (hl:t.p.length<9223372036854775808) (h3:(mAt t.m 0).isSome=!decide (t.e=[])) (h5:∀m,mAt t.m 0=some m→batFits t.e m=true) :
  j8 (s,t,10,())=some (evIn t.e [87,72,73]&&(wtB t.m 0 true||(wtB t.m 1 (!(s.b1==0))||(wtB t.m 2 (!(s.b1==0)&&!(s.b2==0))||wtB t.m 3 (!(s.b1==0)&&(!(s.b2==0)&&!(s.b3==0))))))):=by
 rw [rrL h hv hl (by simp),anyF (by decide) (by decide),Bool.false_or,evAw];have w0:award t.e=true→wtB t.m 0 true=false:=by
  intro ha;unfold wtB;rw [xW h (by simp)];cases hm:mAt t.m 0 with
  | none=>
    rw [hm]at h3;have:t.e=[]:=by simpa using h3
    rw [this]at ha;cases ha
  | some m=>
    have hf:=h5 m hm;simp only [award,Bool.or_eq_true,decide_eq_true_eq]at ha;unfold batFits at hf;have n75:¬t.e=[75]:=by rcases ha with ha|ha|ha<;>simp [ha]
    rw [if_neg n75,if_pos ha]at hf;simp at hf;simp [hf.1.1]
 simp only [vQ,chkB,rH,wtB,fcS,fcdB,bzB]at w0 ⊢;rw [xW h (i:=1) (by simp),xW h (i:=2) (by simp),xW h (i:=3) (by simp)];cases ha:award t.e with
 | false=>simp| true=>have w0:=w0 ha;rw [w0];cases(s.b1==0)<;>cases(s.b2==0)<;>cases(s.b3==0)<;>cases mAt t.m 1<;>cases mAt t.m 2<;>cases mAt t.m 3<;>simp
end
end
end Go.Ev
namespace Go.Ev
open Go.RowKit Go.Proofs
set_option maxRecDepth 100000
set_option maxHeartbeats 8000000
set_option linter.unusedSimpArgs false
noncomputable section
section
variable {s:St}{t:Pl}
theorem bk_balk {m:Mv}(hm:mvE m=0):bk9 m=balk m:=by
 have hr:=gL hm;unfold bk9 balk;by_cases hf:m.f=0;· have hw:=aze hm hf;obtain⟨f,tt,o,hh,b⟩:=m;dsimp only at hw hf ⊢;subst hf;simp only [List.mem_cons,List.not_mem_nil,or_false,Prod.mk.injEq]at hw;rcases hw with⟨rfl,rfl⟩ | ⟨rfl,rfl⟩ | ⟨rfl,rfl⟩ | ⟨rfl,rfl⟩ | ⟨rfl,rfl⟩ | ⟨rfl,rfl⟩ | ⟨rfl,rfl⟩ | ⟨rfl,rfl⟩ | ⟨rfl,rfl⟩ | ⟨rfl,rfl⟩ | ⟨rfl,rfl⟩<;>rfl
 · have hw:=lS hm hf;have hp:decide (0<m.f)=true:=by simp;omega
   rw [hp];obtain⟨f,tt,o,hh,b⟩:=m;dsimp only at hw ⊢;simp only [List.mem_cons,List.not_mem_nil,or_false,Prod.mk.injEq]at hw;rcases hw with⟨rfl,rfl⟩ | ⟨rfl,rfl⟩ | ⟨rfl,rfl⟩ | ⟨rfl,rfl⟩ | ⟨rfl,rfl⟩ | ⟨rfl,rfl⟩ | ⟨rfl,rfl⟩ | ⟨rfl,rfl⟩ | ⟨rfl,rfl⟩ | ⟨rfl,rfl⟩ | ⟨rfl,rfl⟩<;>rfl
theorem any_bk {l:List Mv}(h:aB l=0):l.any bk9=l.any balk:=by
 have hv:=tE h;clear h;induction l with
 | nil=>rfl| cons a l ih=>rw [List.any_cons,List.any_cons,bk_balk (hv a List.mem_cons_self),ih fun m hm=>hv m (List.mem_cons_of_mem _ hm)]
def kB (l:List Mv) (i:Int):Bool:=match mAt l i with
 | some m=>st9 m| none=>false
def b2n (b:Bool):Nat:=bif b then 1 else 0
theorem cb9 (a:Mv) (l:List Mv):(a::l).countP st9=l.countP st9+b2n (st9 a):=by rw [List.countP_cons];cases st9 a<;>rfl
theorem z9 {m:Mv}(h:m.f=0):st9 m=false:=by unfold st9;rw [h];rfl
theorem b0n:b2n false=0:=rfl
theorem bin (b:Bool):(if b=true then 1 else 0)=b2n b:=by cases b<;>rfl
theorem bj3 {l:List Mv}(h:aB l=0):l.countP st9=b2n (kB l 3)+(b2n (kB l 2)+b2n (kB l 1)):=by refine sh_cases h ?_ ?_ ?_ ?_ ?_ ?_ ?_ ?_ ?_ ?_ ?_ ?_ ?_ ?_ ?_ ?_<;>intros<;>(try simp only [vMv]at *)<;>simp_all [kB,mAt,cb9,z9,b0n,bin]<;>(try omega)
theorem at_nz {l:List Mv}{b1 b2 b3:Int}(h:aB l=0) (h4:l.any (c4 b1 b2 b3)=false) {i:Int}(hi:i=1∨i=2∨i=3) {m:Mv}(hm:mAt l i=some m):bzB b1 b2 b3 i=false:=by
 have hf:=(pB h hm).1;have h2:=List.mem_of_find?_eq_some hm;rw [List.any_eq_false]at h4;have h5:=h4 m h2;unfold c4 at h5;rw [hf]at h5;have hp:decide (0<i)=true:=by simp;omega
 rw [hp]at h5;simpa using h5
theorem eq9 (h:aB t.m=0) (hv:vEv t.e) (hl:t.p.length<9223372036854775808) (h4:t.m.any (c4 s.b1 s.b2 s.b3)=false) :
  j8 (s,t,9,())=some (t.m.any bk9&&decide (((t.m.countP st9:Nat):Int)<((nz s.b1+(nz s.b2+nz s.b3):Nat):Int))):=by
 rw [rrL h hv hl (by simp),anyF (by decide) (by decide),Bool.false_or,any_bk h,bj3 h];have g:∀i:Int,(i=1∨i=2∨i=3)→chkB s t 9 (t.m.any balk) i=(t.m.any balk&&!kB t.m i)∧(bzB s.b1 s.b2 s.b3 i=true→kB t.m i=false):=by
  intro i hi;unfold kB chkB;rw [if_pos rfl];cases hm:mAt t.m i with
  | none=>exact⟨rfl,fun _=>rfl⟩| some m=>
    have hz:=at_nz h h4 hi hm;obtain⟨hf,hmv⟩:=pB h hm;have hne:¬m.f=0:=by omega
    have hw:=lS hmv hne;have hp:decide (0<m.f)=true:=by simp;omega
    refine⟨?_,fun hz'=>by rw [hz]at hz';cases hz'⟩;have e:((!m.o&&evIn m.h [107])&&(m.t==IntKind.i64.wrap (i+1)))=st9 m:=by unfold st9;rw [hp,←hf];clear hz hm hmv hne hp hf;obtain⟨f,tt,o,hh,b⟩:=m;dsimp only at hw ⊢;simp only [List.mem_cons,List.not_mem_nil,or_false,Prod.mk.injEq]at hw;rcases hw with⟨rfl,rfl⟩ | ⟨rfl,rfl⟩ | ⟨rfl,rfl⟩ | ⟨rfl,rfl⟩ | ⟨rfl,rfl⟩ | ⟨rfl,rfl⟩ | ⟨rfl,rfl⟩ | ⟨rfl,rfl⟩ | ⟨rfl,rfl⟩ | ⟨rfl,rfl⟩ | ⟨rfl,rfl⟩<;>simp [evIn,hasC]
    simp only;rw [e]
 obtain⟨a1,z1⟩:=g 1 (by simp);obtain⟨a2,z2⟩:=g 2 (by simp);obtain⟨a3,z3⟩:=g 3 (by simp);have t0:rH s t 9=false:=rfl;unfold vQ;rw [a1,a2,a3,t0];generalize kB t.m 1=c1 at *
 generalize kB t.m 2=c2 at *
 generalize kB t.m 3=c3 at *
 have y1:bzB s.b1 s.b2 s.b3 1=(s.b1==0):=rfl;have y2:bzB s.b1 s.b2 s.b3 2=(s.b2==0):=rfl;have y3:bzB s.b1 s.b2 s.b3 3=(s.b3==0):=rfl;rw [y1]at z1;rw [y2]at z2;rw [y3]at z3;rw [y1,y2,y3];unfold nz;generalize (s.b1==0)=d1 at *
 generalize (s.b2==0)=d2 at *
 generalize (s.b3==0)=d3 at *
 generalize t.m.any balk=bb;clear g a1 a2 a3 t0 y1 y2 y3 h4;revert z1 z2 z3;cases bb<;>cases d1<;>cases d2<;>cases d3<;>cases c1<;>cases c2<;>cases c3<;>decide
end
end
end Go.Ev
namespace Go.Ev
open Go.RowKit Go.Proofs
set_option maxRecDepth 100000
set_option maxHeartbeats 8000000
set_option linter.unusedSimpArgs false
noncomputable section
structure fF (s:St) (t:Pl):Prop where
 cnt:(jT s t).2.2.1=0
 has:(mAt t.m 0).isSome=!decide (t.e=[])
 four:t.m.any (c4 s.b1 s.b2 s.b3)=false
 fits:∀m,mAt t.m 0=some m→batFits t.e m=true
 order:avG (placeB t.m s.b1 s.b2 s.b3 0) (placeB t.m s.b1 s.b2 s.b3 1) (placeB t.m s.b1 s.b2 s.b3 2) (placeB t.m s.b1 s.b2 s.b3 3)=false
 outs:outsI s t≤3
 late:(t.l&&(decide (outsI s t<3)||(((t.m.countP rnM:Nat):Int)==0)))=false
 asks:vR (askC ((jT s t).1.1,(jT s t).1.2.1) t.p) t.e=true
theorem ay3 {s:St}{t:Pl}(h:aB t.m=0) (hv:vEv t.e) (hb:bB t.p=true) (hl:t.p.length<9223372036854775808):two (avj (dA s t,())) (Sz94 (s,t,())) (fF s t):=by
 show two (Ez144 (t.m.length+64) (dA s t)) (Ez94 (t.m.length+64) s t) _;unfold Ez144 Tz144 Ez94 Tz94;simp only [TS,w6];have e74:Sz74 ()=Ez74:=rfl;rw [e74];unfold Ez74 Tz74;simp only [TS,w6];rw [obind_some,show t.m.length+64=(t.m.length+50)+14 from rfl];generalize t.m.length+50=n;have w2:IntKind.i64.wrap (1+1)=2:=by decide
 have w3:IntKind.i64.wrap (2+1)=3:=by decide
 have w4:IntKind.i64.wrap (3+1)=4:=by decide
 have w5:IntKind.i64.wrap (4+1)=5:=by decide
 have w6:IntKind.i64.wrap (5+1)=6:=by decide
 have w7:IntKind.i64.wrap (6+1)=7:=by decide
 have w8:IntKind.i64.wrap (7+1)=8:=by decide
 have w9:IntKind.i64.wrap (8+1)=9:=by decide
 have w10:IntKind.i64.wrap (9+1)=10:=by decide
 have w11:IntKind.i64.wrap (10+1)=11:=by decide
 have w12:IntKind.i64.wrap (11+1)=12:=by decide
 have w13:IntKind.i64.wrap (12+1)=13:=by decide
 have w14:IntKind.i64.wrap (13+1)=14:=by decide
 rw [show n+14=(n+13)+1 from rfl,u144_0,u94 s t _ 1 (by decide),w2];refine cV (b:=!((jT s t).2.2.1==0)) rfl (rr1 h hl) (by decide) fun g1=>?_;have g1':(jT s t).2.2.1=0:=by simpa using g1
 have hk:=ayV g1';rw [show n+13=(n+12)+1 from rfl,u144_1,u94 s t _ 2 (by decide),w3];refine cV (r2_p (s:=dA s t) hv hl hk) (rr2 h hl) (by decide) fun g2=>?_;rw [show n+12=(n+11)+1 from rfl,u144_2,u94 s t _ 3 (by decide),w4];refine cV (r3_p (s:=dA s t) h) ((rr3 h hl).trans (congrArg some ?_)) (by decide) fun g3=>?_;· show (!((mAt t.m 0).isSome==(!decide (t.e=[]))))=((mAt t.m 0).isSome==decide (t.e=[]));cases(mAt t.m 0).isSome<;>cases decide (t.e=[])<;>rfl
 have g3':(mAt t.m 0).isSome=!decide (t.e=[]):=by have g3:((mAt t.m 0).isSome==decide (t.e=[]))=false:=g3;revert g3;cases(mAt t.m 0).isSome<;>cases decide (t.e=[])<;>decide
 rw [show n+11=(n+10)+1 from rfl,u144_3,u94 s t _ 4 (by decide),w5];refine cV (r4_p (s:=dA s t) h) (eq4 h hv hl) (by decide) fun g4=>?_;rw [show n+10=(n+9)+1 from rfl,u144_4,u94 s t _ 5 (by decide),w6];refine cV (r5_p (s:=dA s t) h hv g3') (rr5 h hl) (by decide) fun g5=>?_;have g5':∀m,mAt t.m 0=some m→batFits t.e m=true:=by
  intro m hm;have g5:(match mAt t.m 0 with
   | some m=>!batFits t.e m| none=>false)=false:=g5
  rw [hm]at g5;simpa using g5
 rw [show n+9=(n+8)+1 from rfl,u144_5,u94 s t _ 6 (by decide),w7];refine cV (r6_p (s:=dA s t) h hv) ((rr6 h hl g3').trans (congrArg some ?_)) (by decide) fun g6=>?_;· show _=(evIn t.e [75]&&_);rw [evIn1];rfl
 rw [show n+8=(n+7)+1 from rfl,u144_6,u94 s t _ 7 (by decide),w8];refine cV (r7_p (s:=dA s t) hv) ((rr7 h hl).trans (congrArg some ?_)) (by decide) fun g7=>?_;· show _=(evIn t.e [89]&&_);rw [evIn1];rfl
 rw [show n+7=(n+6)+1 from rfl,u144_7,u94 s t _ 8 (by decide),w9];refine cV (r8_p (s:=dA s t) h hv) (eq8 h hv hl) (by decide) fun g8=>?_;rw [show n+6=(n+5)+1 from rfl,u144_8,u94 s t _ 9 (by decide),w10];refine cV (r9_p (s:=dA s t) h) (eq9 h hv hl g4) (by decide) fun g9=>?_;rw [show n+5=(n+4)+1 from rfl,u144_9,u94 s t _ 10 (by decide),w11];refine cV (r10_p (s:=dA s t) h hv) (eq10 h hv hl g3' g5') (by decide) fun g10=>?_;rw [show n+4=(n+3)+1 from rfl,u144_10,u94 s t _ 11 (by decide),w12];refine cV (r11_p (s:=dA s t) h) (eq11 h hv hl) (by decide) fun g11=>?_;rw [show n+3=(n+2)+1 from rfl,u144_11,u94 s t _ 12 (by decide),w13];refine cV (b:=decide (3<outsI s t)) r12_p (rr12 h hl) (by decide) fun g12=>?_;have g12':outsI s t≤3:=by simp at g12;exact g12
 rw [show n+2=(n+1)+1 from rfl,u144_12,u94 s t _ 13 (by decide),w14];refine cV (r13_p (s:=dA s t) h) ((rr13 h hl).trans (congrArg some ?_)) (by decide) fun g13=>?_
 · show (t.l&&(!(outsI s t==3)||_))=(t.l&&(decide (outsI s t<3)||_));have:(!(outsI s t==3))=decide (outsI s t<3):=by rw [Bool.eq_iff_iff];simp;omega
   rw [this];rfl
 refine⟨0,u144_13 _ _ _ _ _ _ _ _ _ _ _ _ _ _ _,rfl,fun _=>⟨g1',g3',g4,g5',g11,g12',g13,by have g2:(!vR (askC ((jT s t).1.1,(jT s t).1.2.1) t.p) t.e)=false:=g2;simpa using g2⟩,by decide,by decide⟩
end
end Go.Ev
