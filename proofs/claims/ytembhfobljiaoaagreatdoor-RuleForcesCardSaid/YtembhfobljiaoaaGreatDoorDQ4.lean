import Derived.Test.YtembhfobljiaoaaGreatDoorDP2
set_option linter.unusedSimpArgs false
set_option linter.unusedVariables false
namespace Go.Ev
open Go.RowKit Go.Proofs
set_option maxRecDepth 100000
set_option maxHeartbeats 4000000
noncomputable section
def vMv (k:Int) (m:Mv):Prop:=m.f=k∧mvE m=0
theorem j9 {m:Mv}(h:mvE m=0):0≤m.f∧m.f≤3∧1≤m.t∧m.t≤4∧akb m.f m.t m.o m.h=0:=by
 unfold mvE zY at h
 by_cases hc:m.f<0∨3<m.f
 · simp [dD,b8,hc]at h
 by_cases hd:m.t<1∨4<m.t
 · simp [dD,b8,hc,hd]at h
 by_cases hw:akb m.f m.t m.o m.h=0
 · exact⟨by omega,by omega,by omega,by omega,hw⟩
 · simp [dD,b8,hc,hd,hw]at h
theorem gC {p:Option Int}{m:Mv}{l:List Mv}(h:axy p (m::l)=0):mvE m=0∧(∀q,p=some q→m.f<q)∧axy (some m.f) l=0:=by
 unfold axy at h
 split at h
 · rename_i h1;exact absurd h h1
 · rename_i h1
   split at h
   · cases h
   · rename_i h2
     refine⟨by omega,?_,h⟩
     rintro q rfl
     simp at h2
     omega
def inSh (k:Nat):List Mv→Prop:=match k with
 | 0=>fun l=>l=[]
 | k+1=>fun l=>inSh k l∨∃m r,l=m::r∧vMv (k:Int) m∧inSh k r
theorem uX:∀(k:Nat) (p:Option Int) (l:List Mv),axy p l=0→(∀m∈l.head?,m.f<(k:Int))→inSh k l
 | 0,p,[],_,_=>rfl
 | 0,p,m::l,h,hk=>by
   have h1:=j9 (gC h).1
   have h2:=hk m (by simp)
   omega
 | k+1,p,[],_,_=>.inl (uX k none [] rfl (by simp))
 | k + 1,p,m::l,h,hk=>by
   obtain⟨h1,h2,h3⟩:=gC h
   have h4:=hk m (by simp)
   by_cases hf:m.f=(k:Int)
   · refine .inr ⟨m,l,rfl,⟨hf,h1⟩,uX k _ l h3 ?_⟩
     intro m' hm'
     match l,hm' with
     | x::l',hx=>
       simp at hx;subst hx
       have:=(gC h3).2.1 m.f rfl
       omega
   · exact .inl (uX k p (m::l) h (by intro m' hm';simp at hm';subst hm';omega))
theorem avD {l:List Mv}(h:aT l=0):inSh 4 l:=by
 unfold aT at h
 split at h
 · cases h
 · refine uX 4 none l h ?_
   intro m hm
   match l,hm with
   | x::l',hx=>
     simp at hx;subst hx
     have:=j9 (gC h).1
     show x.f<4
     omega
@[elab_as_elim] theorem sh_cases {P:List Mv→Prop} {l:List Mv} (h:aT l=0) (e0:P []) (e1:∀a,vMv 0 a→P [a]) (e2:∀a,vMv 1 a→P [a]) (e3:∀a,vMv 2 a→P [a]) (e4:∀a,vMv 3 a→P [a])
  (e10:∀a b,vMv 1 a→vMv 0 b→P [a,b]) (e20:∀a b,vMv 2 a→vMv 0 b→P [a,b]) (e30:∀a b,vMv 3 a→vMv 0 b→P [a,b]) (e21:∀a b,vMv 2 a→vMv 1 b→P [a,b]) (e31:∀a b,vMv 3 a→vMv 1 b→P [a,b]) (e32:∀a b,vMv 3 a→vMv 2 b→P [a,b])
  (e210:∀a b c,vMv 2 a→vMv 1 b→vMv 0 c→P [a,b,c]) (e310:∀a b c,vMv 3 a→vMv 1 b→vMv 0 c→P [a,b,c]) (e320:∀a b c,vMv 3 a→vMv 2 b→vMv 0 c→P [a,b,c]) (e321:∀a b c,vMv 3 a→vMv 2 b→vMv 1 c→P [a,b,c])
  (e3210:∀a b c d,vMv 3 a→vMv 2 b→vMv 1 c→vMv 0 d→P [a,b,c,d]):P l:=by
  have h:=avD h
  simp only [inSh]at h
  rcases h with(((h|⟨a,r,h1,h2,h3⟩)|⟨a,r,h1,h2,h3|⟨b,r2,h4,h5,h6⟩⟩)|⟨a,r,h1,h2,(h3|⟨b,r2,h4,h5,h6⟩)|⟨b,r2,h4,h5,h6|⟨c,r3,h7,h8,h9⟩⟩⟩) |
   ⟨a,r,h1,h2,((h3|⟨b,r2,h4,h5,h6⟩)|⟨b,r2,h4,h5,h6|⟨c,r3,h7,h8,h9⟩⟩)|⟨b,r2,h4,h5,(h6|⟨c,r3,h7,h8,h9⟩)|⟨c,r3,h7,h8,h9|⟨d,r4,h10,h11,h12⟩⟩⟩⟩<;>subst_vars
  · exact e0
  · exact e1 _ h2
  · exact e2 _ h2
  · exact e10 _ _ h2 h5
  · exact e3 _ h2
  · exact e20 _ _ h2 h5
  · exact e21 _ _ h2 h5
  · exact e210 _ _ _ h2 h5 h8
  · exact e4 _ h2
  · exact e30 _ _ h2 h5
  · exact e31 _ _ h2 h5
  · exact e310 _ _ _ h2 h5 h8
  · exact e32 _ _ h2 h5
  · exact e320 _ _ _ h2 h5 h8
  · exact e321 _ _ _ h2 h5 h8
  · exact e3210 _ _ _ _ h2 h5 h8 h11
theorem iE {l:List Mv}(h:aT l=0):l.length≤4:=by
 unfold aT at h
 split at h
 · cases h
 · omega
end
end Go.Ev
namespace Go.Ev
open Go.RowKit Go.Proofs
set_option maxRecDepth 100000
set_option maxHeartbeats 4000000
set_option linter.unusedSimpArgs false
noncomputable section
theorem wr0:IntKind.i64.wrap 0=0:=by decide
theorem wr1:IntKind.i64.wrap 1=1:=by decide
theorem wr2:IntKind.i64.wrap 2=2:=by decide
theorem wr3:IntKind.i64.wrap 3=3:=by decide
theorem wr4:IntKind.i64.wrap 4=4:=by decide
theorem wr5:IntKind.i64.wrap 5=5:=by decide
theorem ak1:IntKind.i64.wrap (-1)=-1:=by decide
@[elab_as_elim] theorem len_cases {α:Type} {P:List α→Prop} {l:List α} (h:l.length≤4) (e0:P []) (e1:∀a,P [a]) (e2:∀a b,P [a,b]) (e3:∀a b c,P [a,b,c]) (e4:∀a b c d,P [a,b,c,d]):P l:=by
  match l,h with
  | [],_=>exact e0
  | [a],_=>exact e1 a
  | [a,b],_=>exact e2 a b
  | [a,b,c],_=>exact e3 a b c
  | [a,b,c,d],_=>exact e4 a b c d
  | a::b::c::d::e::l,h=>exact absurd h (by simp)
theorem len64 {α:Type}{l:List α}(h:l.length≤4):∃n,l.length+64=n+5:=⟨l.length+59,by omega⟩
def rnM (m:Mv):Bool:=!m.o&&(m.t==4)
theorem s196 (m:Mv):Sz196 (m,())=some m.o:=rfl
theorem s151 (m:Mv):awg (m,())=some (rnM m):=by
 show Ez151 m=_
 unfold Ez151 Tz151 rnM
 simp only [TS,w6]
 cases m.o<;>rfl
def mAt (l:List Mv) (k:Int):Option Mv:=l.find? fun m=>m.f==k
theorem outs_j {l:List Mv}(h:l.length≤4) (n:Nat):gL l () (n+5) (.k6 0 0)=some ((l.countP (·.o):Nat):Int):=by
 refine len_cases (P:=fun l=>gL l () (n+5) (.k6 0 0)=some ((l.countP (·.o):Nat):Int)) h ?_ ?_ ?_ ?_ ?_
 · simp [d6,cW,TS,w6,inR,wr0,wr1,wr2,wr3,wr4,wr5,ak1,obind_some,s196,List.countP_cons]
 · intro a
   cases h0:a.o<;>simp [d6,cW,TS,w6,inR,wr0,wr1,wr2,wr3,wr4,wr5,ak1,obind_some,s196,List.countP_cons,h0]
 · intro a b
   cases h0:a.o<;>cases h1:b.o<;>simp [d6,cW,TS,w6,inR,wr0,wr1,wr2,wr3,wr4,wr5,ak1,obind_some,s196,List.countP_cons,h0,h1]
 · intro a b c
   cases h0:a.o<;>cases h1:b.o<;>cases h2:c.o<;>simp [d6,cW,TS,w6,inR,wr0,wr1,wr2,wr3,wr4,wr5,ak1,obind_some,s196,List.countP_cons,h0,h1,h2]
 · intro a b c d
   cases h0:a.o<;>cases h1:b.o<;>cases h2:c.o<;>cases h3:d.o<;>simp [d6,cW,TS,w6,inR,wr0,wr1,wr2,wr3,wr4,wr5,ak1,obind_some,s196,List.countP_cons,h0,h1,h2,h3]
theorem outs_p {l:List Mv}(h:l.length≤4):rR (l,(),())=some ((l.countP (·.o):Nat):Int):=by
 obtain⟨n,e⟩:=len64 h
 show rX (l.length+64) l ()=_
 unfold rX rN
 simp only [TS,w6]
 rw [e];exact outs_j h n
theorem runs_j {l:List Mv}(h:l.length≤4) (n:Nat):gM l () (n+5) (.k6 0 0)=some ((l.countP rnM:Nat):Int):=by
 refine len_cases (P:=fun l=>gM l () (n+5) (.k6 0 0)=some ((l.countP rnM:Nat):Int)) h ?_ ?_ ?_ ?_ ?_
 · simp [d7,cX,TS,w6,inR,wr0,wr1,wr2,wr3,wr4,wr5,ak1,obind_some,s151,List.countP_cons]
 · intro a
   cases h0:rnM a<;>simp [d7,cX,TS,w6,inR,wr0,wr1,wr2,wr3,wr4,wr5,ak1,obind_some,s151,List.countP_cons,h0]
 · intro a b
   cases h0:rnM a<;>cases h1:rnM b<;>simp [d7,cX,TS,w6,inR,wr0,wr1,wr2,wr3,wr4,wr5,ak1,obind_some,s151,List.countP_cons,h0,h1]
 · intro a b c
   cases h0:rnM a<;>cases h1:rnM b<;>cases h2:rnM c<;>simp [d7,cX,TS,w6,inR,wr0,wr1,wr2,wr3,wr4,wr5,ak1,obind_some,s151,List.countP_cons,h0,h1,h2]
 · intro a b c d
   cases h0:rnM a<;>cases h1:rnM b<;>cases h2:rnM c<;>cases h3:rnM d<;>simp [d7,cX,TS,w6,inR,wr0,wr1,wr2,wr3,wr4,wr5,ak1,obind_some,s151,List.countP_cons,h0,h1,h2,h3]
theorem runs_p {l:List Mv}(h:l.length≤4):rS (l,(),())=some ((l.countP rnM:Nat):Int):=by
 obtain⟨n,e⟩:=len64 h
 show rY (l.length+64) l ()=_
 unfold rY rO
 simp only [TS,w6]
 rw [e];exact runs_j h n
end
end Go.Ev
namespace Go.Ev
open Go.RowKit Go.Proofs
set_option maxRecDepth 100000
set_option maxHeartbeats 4000000
set_option linter.unusedSimpArgs false
noncomputable section
def evIn (e t:List Nat):Bool:=match e with
 | [x]=>hasC t (x:Int)
 | _=>false
def vEv (e:List Nat):Prop:=e=[]∨∃x∈[75,87,72,73,88,78,89],e=[x]
theorem vEv_of {e:List Nat}(h:tP e=0):vEv e:=by
 unfold tP at h
 split at h
 · rename_i h1
   match e,h1 with
   | [],_=>exact .inl rfl
   | [x],h1=>
     refine .inr ⟨x,?_,rfl⟩
     simp [isEv,hasC]at h1
     simp
     omega
   | x::y::l,h1=>simp [isEv]at h1
 · cases h
theorem axx {s:Tn}{t:List Nat}(hv:vEv s.p_e) (ht:t∈CL):iH (s,t,())=some (evIn s.p_e t):=by
 show Ez178 s t=_
 unfold Ez178 Tz178
 simp only [TS,w6]
 rcases hv with h|⟨x,hx,h⟩
 · rw [h];rfl
 · have h2:v7 (t,[x],())=some (hasC t (x:Int)):=by
    unfold v7
    have hx2:x∈OL:=by
     simp only [List.mem_cons,List.not_mem_nil,or_false]at hx
     rcases hx with rfl|rfl|rfl|rfl|rfl|rfl|rfl<;>simp [OL]
    show(if(t∈CL∧x∈OL)∨_ then _ else _)=_
    rw [if_pos (Or.inl ⟨ht,hx2⟩)]
   rw [h,h2];rfl
theorem s179 {s:Tn}(h:aT s.p_m=0):akN (s,())=some ((mAt s.p_m 0).getD mv0,(mAt s.p_m 0).isSome,()):=by
 show Ez179 s=_
 unfold Ez179 Tz179
 simp only [TS,w6]
 generalize s.p_m=l at h
 refine sh_cases h ?_ ?_ ?_ ?_ ?_ ?_ ?_ ?_ ?_ ?_ ?_ ?_ ?_ ?_ ?_ ?_<;>intros<;>simp_all [vMv,mAt,inR,wr0,wr1,wr2,wr3,mv0]
theorem s63 (s:St):Sz63 (s,())=some (true,!(s.b1==0),!(s.b1==0)&&!(s.b2==0),!(s.b1==0)&&(!(s.b2==0)&&!(s.b3==0)),()):=by
 have j:∀n,aww s (n+5) (.k6 0 false false false)=some (true,!(s.b1==0),!(s.b1==0)&&!(s.b2==0),!(s.b1==0)&&(!(s.b2==0)&&!(s.b3==0)),()):=by
  intro n
  cases h1:(s.b1==0)<;>cases h2:(s.b2==0)<;>cases h3:(s.b3==0)<;>simp [Ez63J_s,aw8,TS,w6,h1,h2,h3,wr0,wr1,wr2,wr3]
 show Ez63 64 s=_
 unfold Ez63 Tz63
 simp only [TS,w6]
 exact j 59
end
end Go.Ev
namespace Go.Ev
open Go.RowKit Go.Proofs
set_option maxRecDepth 100000
set_option maxHeartbeats 4000000
set_option linter.unusedSimpArgs false
noncomputable section
def sufB (s t:List Nat):Bool:=decide (t.length≤s.length)&&decide (s.drop (s.length-t.length)=t)
def askC (c:Cnt) (l:List Nat):List Nat:=if c.1=4 then [87]else if c.2=3 then [75]else if sufB l [72]=true then [72]else if sufB l [88]=true then [88]else []
theorem cond_ite {α:Type}{c:Bool}{a b:α}:cond c a b=if c=true then a else b:=by cases c<;>rfl
theorem azS {c:Cnt}{x:Nat}(h:okC c false):¬((stepC c x).1=4∧(stepC c x).2=3):=by
 obtain⟨h1,h2,h3,h4,h5⟩:=h
 have h5:=h5 rfl
 unfold stepC
 split<;>(try split)<;>(try split)<;>(try split)<;>(try simp only)<;>omega
theorem avt:∀ {l:List Nat}{c c':Cnt}{d d':Bool},okC c d→¬(c.1=4∧c.2=3)→cnt c d l=.inl (c',d')→okC c' d'∧¬(c'.1=4∧c'.2=3)
 | [],c,c',d,d',h,h2,hc=>by simp only [cnt,Sum.inl.injEq,Prod.mk.injEq]at hc;obtain⟨rfl,rfl⟩:=hc;exact⟨h,h2⟩
 | x :: l,c,c',d,d',h,h2,hc=>by
   simp only [cnt]at hc
   split at hc
   · cases hc
   · rename_i hd
     simp only [Bool.or_eq_true,Bool.not_eq_true',not_or,Bool.not_eq_true,Bool.not_eq_false]at hd
     obtain⟨rfl,_⟩:=hd
     cases hr:cnt (stepC c x) (doneC c x) l with
     | inr k=>rw [hr]at hc;cases hc
     | inl r=>
       rw [hr]at hc
       cases hc
       exact avt (aql h) (azS h) hr
theorem cntR_ok {b s:Int}{l:List Nat}(h:(axW b s l).2.2.1=0):0≤(axW b s l).1.1∧(axW b s l).1.1≤4∧0≤(axW b s l).1.2.1∧(axW b s l).1.2.1≤3∧¬((axW b s l).1.1=4∧(axW b s l).1.2.1=3):=by
 unfold axW at h ⊢
 split at h
 rotate_left
 · simp at h
 rename_i hin
 rw [if_pos hin]
 split at h
 rotate_left
 · simp at h
 rename_i hl
 rw [if_pos hl]
 cases hc:cnt (b,s) false l with
 | inr k=>rw [hc]at h;simp [cntQ]at h
 | inl q=>
   obtain⟨c',d'⟩:=q
   simp only [cntQ]
   have:=avt (c:=(b,s)) (d:=false) (by simp only [okC];omega) (by simp only;omega) hc
   obtain⟨⟨o1,o2,o3,o4,_⟩,o6⟩:=this
   exact⟨o1,o3,o2,o4,o6⟩
theorem s191 {s t:List Nat}(h1:s.length<9223372036854775808) (h2:t.length<9223372036854775808):Sz191 (s,t,())=some (sufB s t):=by
 show Ez191 s t=_
 unfold Ez191 Tz191
 simp only [TS,w6]
 by_cases hle:t.length≤s.length
 · have w:IntKind.i64.wrap (((s.length:Nat):Int)-((t.length:Nat):Int))=((s.length-t.length:Nat):Int):=by rw [dP]<;>omega
   have a1:decide (((t.length:Nat):Int)≤((s.length:Nat):Int))=true:=by simp<;>omega
   have a2:(decide ((0:Int)≤((s.length-t.length:Nat):Int))&&decide (((s.length-t.length:Nat):Int)≤((s.length:Nat):Int)))=true:=by simp<;>omega
   simp only [w,a1,a2,cond_true,List.take_length,Int.toNat_natCast,sufB,hle,decide_true,Bool.true_and]
 · have a1:decide (((t.length:Nat):Int)≤((s.length:Nat):Int))=false:=by simp<;>omega
   simp only [a1,cond_false,sufB,hle,decide_false,Bool.false_and]
theorem s140 {s t:List Nat}(h1:s.length<9223372036854775808) (h2:t.length<9223372036854775808):awj (s,t,())=some (sufB s t):=by
 show Ez140 s t=_
 unfold Ez140 Tz140
 simp only [TS,w6]
 rw [s191 h1 h2];rfl
theorem s82 {k0 k1:Int}{l:List Nat}(hl:l.length<9223372036854775808) (hk:0≤k0∧k0≤4∧0≤k1∧k1≤3∧¬(k0=4∧k1=3)):Sz82 ((k0,k1,()),l,())=some (askC (k0,k1) l):=by
 show Ez82 (k0,k1,()) l=_
 unfold Ez82 Tz82
 simp only [TS,w6]
 rw [s140 hl (by simp),obind_some,s140 hl (by simp),obind_some]
 simp only [cond_ite,decide_eq_true_eq,askC]
 have e1:(2<k1)=(k1=3):=by apply propext;omega
 have e2:(3<k0)=(k0=4):=by apply propext;omega
 simp only [e1,e2]
 by_cases h1:k0=4
 · have h2:¬k1=3:=fun h2=>hk.2.2.2.2 ⟨h1,h2⟩
   rw [if_neg h2,if_pos h1,if_pos h1]
 · rw [if_neg h1]
   by_cases h2:k1=3
   · rw [if_pos h2,if_neg h1,if_pos h2]
   · rw [if_neg h2,if_neg h1,if_neg h2]
     split
     · rfl
     · split<;>rfl
def ax4 (a e:List Nat):Bool:=if a=[88]then decide (e=[88])||decide (e=[89])else if a=[]then decide (e=[])||(decide (e=[73])||decide (e=[78]))else decide (e=a)
theorem vC {e t:List Nat}:evIn e t=true↔∃x,e=[x]∧x∈t:=by
 unfold evIn
 split
 · rename_i x
   simp only [hasC,List.any_eq_true,beq_iff_eq]
   constructor
   · rintro ⟨y,hy,h⟩
     exact⟨x,rfl,by rw [←Int.ofNat.inj h];exact hy⟩
   · rintro ⟨y,h,hy⟩
     cases h
     exact⟨x,hy,rfl⟩
 · rename_i h
   constructor
   · intro h;cases h
   · rintro⟨x,rfl,_⟩;exact absurd rfl (h x)
theorem r2_p {s:Tn}(hv:vEv s.p_e) (hl:s.p_p.length<9223372036854775808) (hk:0≤s.k0∧s.k0≤4∧0≤s.k1∧s.k1≤3∧¬(s.k0=4∧s.k1=3)):axi (s,())=some (!ax4 (askC (s.k0,s.k1) s.p_p) s.p_e):=by
 show Ez123 s=_
 unfold Ez123 Tz123
 simp only [TS,w6]
 rw [s82 hl hk,obind_some,axx hv (by simp [CL]),axx hv (by simp [CL]),obind_some,obind_some]
 show(cond _ (aV (Ez145 s) _) _)=_
 unfold Ez145 Tz145
 simp only [TS,w6]
 generalize askC (s.k0,s.k1) s.p_p=a
 rcases hv with h|⟨x,hx,h⟩
 · simp only [h]
   by_cases h1:a=[]<;>by_cases h2:a=[88]<;>simp_all [ax4,evIn,obind_some]
 · simp only [h]
   simp only [List.mem_cons,List.not_mem_nil,or_false]at hx
   rcases hx with rfl|rfl|rfl|rfl|rfl|rfl|rfl<;>by_cases h1:a=[]<;>by_cases h2:a=[88]<;>simp_all [ax4,evIn,hasC,obind_some]
end
end Go.Ev
