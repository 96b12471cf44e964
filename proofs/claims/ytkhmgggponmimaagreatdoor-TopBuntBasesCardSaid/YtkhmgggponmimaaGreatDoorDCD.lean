import Derived.Test.YtkhmgggponmimaaGreatDoorDCC
set_option linter.unusedSimpArgs false
set_option linter.unusedVariables false
namespace Go.Ev
open Go.RowKit Go.Proofs
set_option maxRecDepth 100000
set_option maxHeartbeats 8000000
set_option linter.unusedSimpArgs false
noncomputable section
section
variable {s:St}{t:Pl}
theorem yI (h:aC t.m=0) (g:gH s t):t.e=[]↔act t.m 0=-1:=by
 have hh:=g.has
 unfold act
 cases hm:mAt t.m 0 with
 | none=>rw [hm]at hh;simpa using hh.symm
 | some m=>
   rw [hm]at hh
   have hr:=fQ (xT h hm).2
   have he:¬t.e=[]:=by simpa using hh
   simp only [he,false_iff]
   split<;>omega
theorem ajz {n:Int}(h:1≤n∧n≤9):ay4 n=n % 9+1:=by
 unfold ay4
 rw [wbeh]
 unfold behC
 rw [Int.tmod_eq_emod_of_nonneg (by omega)]
theorem bat_mvd (G:Good s):batC (mvd s t)=if t.e=[]then batC s else batC s % 9+1:=by
 have n0:=G.n0;have n1:=G.n1
 unfold batC mvd
 dsimp only
 by_cases he:t.e=[]
 · simp [he]
 · rcases G.half with hh|hh
   · simp [he,hh,ajz n0]
   · simp [he,hh,ajz n1]
theorem aka {b:Int}:((b2n (!(b==0)):Nat):Int)=nb b:=by
 unfold b2n nb
 by_cases h:b=0
 · simp [h]
 · rw [show(b==0)=false by simpa using h,if_neg h];rfl
theorem qD {r b:Int}{e:List Nat}(hr:1≤r∧r≤9) (hb:1≤b∧b≤9) (h:sinC r b≤4):sinC r (if e=[]then b else b % 9+1)=sinC r b+(if e=[]then 0 else 1):=by
 unfold sinC at h ⊢
 split<;>omega
theorem sig_bat {b:Int}(hb:1≤b∧b≤9):sinC b (b % 9+1)=0:=by unfold sinC;omega
theorem tT (h:aC t.m=0) (g:gH s t):((b2n (!(act t.m 0==-1)):Nat):Int)=if t.e=[]then 0 else 1:=by
 have:=yI h g
 unfold b2n
 by_cases he:t.e=[]
 · rw [this.1 he];simp [he]
 · have:¬act t.m 0=-1:=fun q=>he (this.2 q)
   rw [show(act t.m 0==-1)=false by simpa using this,if_neg he];rfl
theorem sg (h:aC t.m=0) (g:gH s t) (G:Good s) (F:awY s):(act t.m 0≠-1→sinC (sl s 0) (batC (mvd s t))=0) ∧
  (s.b1≠0→sinC (sl s 1) (batC (mvd s t))=sinC s.b1 (batC s)+(if t.e=[]then 0 else 1)) ∧
  (s.b2≠0→sinC (sl s 2) (batC (mvd s t))=sinC s.b2 (batC s)+(if t.e=[]then 0 else 1)) ∧
  (s.b3≠0→sinC (sl s 3) (batC (mvd s t))=sinC s.b3 (batC s)+(if t.e=[]then 0 else 1)):=by
 have o:=G.outs;have b:=bq7 G;have n1:=awm s.b1;have n2:=awm s.b2
 have c1:=G.b1;have c2:=G.b2;have c3:=G.b3
 rw [bat_mvd G]
 refine⟨fun z=>?_,fun z=>?_,fun z=>?_,fun z=>?_⟩
 · have he:¬t.e=[]:=fun q=>z ((yI h g).1 q)
   rw [if_neg he,sl0];exact sig_bat b
 · have:=F.f1 z
   rw [sl1];exact qD (by omega) b (by omega)
 · have:=F.f2 z
   rw [sl2];exact qD (by omega) b (by omega)
 · have:=F.f3 z
   rw [sl3];exact qD (by omega) b (by omega)
theorem z4 (h:aC t.m=0) (g:gH s t) (G:Good s) (F:awY s) {f:Int}(hp:awV s t f) :
  ((bqT (act t.m 0) (s.b1==0) (s.b2==0) (f+1):Nat):Int)≤sinC (sl s f) (batC (mvd s t))∧sinC (sl s f) (batC (mvd s t))≤((bqT (act t.m 0) (s.b1==0) (s.b2==0) (f+1):Nat):Int)+s.outs:=by
 obtain⟨s0,s1,s2,s3⟩:=sg h g G F
 have o:=G.outs
 have e1:=aka (b:=s.b1)
 have e2:=aka (b:=s.b2)
 have eT:=tT h g
 rcases hp with⟨rfl,z⟩ | ⟨rfl,z⟩ | ⟨rfl,z⟩ | ⟨rfl,z⟩
 · rw [s0 z]
   have:bqT (act t.m 0) (s.b1==0) (s.b2==0) (0+1)=0:=rfl
   rw [this];omega
 · have w:=F.f1 z
   rw [s1 z]
   have:bqT (act t.m 0) (s.b1==0) (s.b2==0) (1+1)=b2n (!(act t.m 0==-1)):=rfl
   rw [this,eT];omega
 · have w:=F.f2 z
   rw [s2 z]
   have:bqT (act t.m 0) (s.b1==0) (s.b2==0) (2+1)=b2n (!(act t.m 0==-1))+b2n (!(s.b1==0)):=rfl
   rw [this,Int.natCast_add,eT,e1];omega
 · have w:=F.f3 z
   rw [s3 z]
   have:bqT (act t.m 0) (s.b1==0) (s.b2==0) (3+1)=b2n (!(act t.m 0==-1))+(b2n (!(s.b1==0))+b2n (!(s.b2==0))):=rfl
   rw [this,Int.natCast_add,Int.natCast_add,eT,e1,e2];omega
theorem az5 (h:aC t.m=0) (g:gH s t) (G:Good s) (F:awY s) {f f':Int}(hp:awV s t f) (hp':awV s t f') (hf:f<f'):sinC (sl s f) (batC (mvd s t))<sinC (sl s f') (batC (mvd s t)):=by
 obtain⟨s0,s1,s2,s3⟩:=sg h g G F
 have n1:=awm s.b1
 have n2:=awm s.b2
 rcases hp with⟨rfl,z⟩ | ⟨rfl,z⟩ | ⟨rfl,z⟩ | ⟨rfl,z⟩<;>rcases hp' with⟨rfl,y⟩ | ⟨rfl,y⟩ | ⟨rfl,y⟩ | ⟨rfl,y⟩<;>first|omega|skip
 · have he:¬t.e=[]:=fun q=>z ((yI h g).1 q)
   have w:=F.f1 y
   rw [s0 z,s1 y,if_neg he];omega
 · have he:¬t.e=[]:=fun q=>z ((yI h g).1 q)
   have w:=F.f2 y
   rw [s0 z,s2 y,if_neg he];omega
 · have he:¬t.e=[]:=fun q=>z ((yI h g).1 q)
   have w:=F.f3 y
   rw [s0 z,s3 y,if_neg he];omega
 · have w:=F.l12 z y
   rw [s1 z,s2 y];omega
 · have w:=F.l13 z y
   rw [s1 z,s3 y];omega
 · have w:=F.l23 z y
   rw [s2 z,s3 y];omega
theorem bqQ (h:aC t.m=0) (G:Good s):outsI s t=s.outs+((zO t:Nat):Int):=by
 have o:=G.outs
 have l:=dI h
 have c:t.m.countP (·.o)≤t.m.length:=List.countP_le_length
 unfold outsI
 rw [fY (by omega) (by omega),outs_T h]
theorem fit_mvd (h:aC t.m=0) (g:gH s t) (G:Good s) (F:awY s):awY (mvd s t):=by
 have r1:=lV h g (i:=1) (by simp)
 have r2:=lV h g (i:=2) (by simp)
 have r3:=lV h g (i:=3) (by simp)
 have Z:=azS (zfin h g true).1
 have hfit:=(zfin h g true).2.2.1
 have oo:=bqQ h G
 have pz:∀f∈zB s t,awV s t f:=fun f hf=>Z.all f (List.mem_append_left _ hf)
 have ez:zB s t=vF (zr s t 1)++(vF (zr s t 2)++vF (zr s t 3)):=rfl
 rw [ez]at pz
 have tok:∀ {r b:Int},b=(if r=0 then 0 else sl s (r-1))→(∀f∈vF r,awV s t f)→(b≠0↔r≠0)∧(r≠0→awV s t (r-1)∧b=sl s (r-1)):=by
  intro r b hb hz
  by_cases hr:r=0
  · subst hb;simp [hr]
  · have e:vF r=[r-1]:=by unfold vF;rw [show(r==0)=false by simpa using hr];rfl
    have p:=hz (r-1) (by rw [e];simp)
    have:=sl_nz G p
    rw [if_neg hr]at hb
    refine⟨⟨fun _=>hr,fun _=>by omega⟩,fun _=>⟨p,hb⟩⟩
 obtain⟨q1,t1⟩:=tok r1 (fun f hf=>pz f (by simp [hf]))
 obtain⟨q2,t2⟩:=tok r2 (fun f hf=>pz f (by simp [hf]))
 obtain⟨q3,t3⟩:=tok r3 (fun f hf=>pz f (by simp [hf]))
 have nbt:∀ {r b:Int},(b≠0↔r≠0)→nb b=((b2n (!(r==0)):Nat):Int):=by
  intro r b hq
  rw [aka]
  unfold nb
  by_cases hr:r=0
  · have:b=0:=Decidable.not_not.1 fun q=>hq.1 q hr
    simp [hr,this]
  · simp [hr,hq.2 hr]
 have nb1:=nbt q1
 have nb2:=nbt q2
 simp only [fitT,fit1,ltT,Bool.and_eq_true,Bool.or_eq_true,beq_iff_eq,decide_eq_true_eq,Nat.ble_eq]at hfit
 obtain⟨a1,a2,a3,m12,m13,m23⟩:=hfit
 have B1:(mvd s t).b1=kK s t 1:=rfl
 have B2:(mvd s t).b2=kK s t 2:=rfl
 have B3:(mvd s t).b3=kK s t 3:=rfl
 have OO:(mvd s t).outs=outsI s t:=rfl
 refine⟨fun z=>?_,fun z=>?_,fun z=>?_,fun z y=>?_,fun z y=>?_,fun z y=>?_⟩
 · rw [B1]at z ⊢
   have hr:=q1.1 z
   obtain⟨p,e⟩:=t1 hr
   have w:=z4 h g G F p
   have v:=a1.resolve_left hr
   rw [Int.sub_add_cancel]at w
   rw [e,OO,oo];omega
 · rw [B2]at z ⊢
   have hr:=q2.1 z
   obtain⟨p,e⟩:=t2 hr
   have w:=z4 h g G F p
   have v:=a2.resolve_left hr
   rw [Int.sub_add_cancel]at w
   rw [e,OO,oo,B1,nb1];omega
 · rw [B3]at z ⊢
   have hr:=q3.1 z
   obtain⟨p,e⟩:=t3 hr
   have w:=z4 h g G F p
   have v:=a3.resolve_left hr
   rw [Int.sub_add_cancel]at w
   rw [e,OO,oo,B1,B2,nb1,nb2];omega
 · rw [B1]at z ⊢;rw [B2]at y ⊢
   obtain⟨p,e⟩:=t1 (q1.1 z)
   obtain⟨p',e'⟩:=t2 (q2.1 y)
   have v:=(m12.resolve_left (q1.1 z)).resolve_left (q2.1 y)
   rw [e,e'];exact az5 h g G F p p' (by omega)
 · rw [B1]at z ⊢;rw [B3]at y ⊢
   obtain⟨p,e⟩:=t1 (q1.1 z)
   obtain⟨p',e'⟩:=t3 (q3.1 y)
   have v:=(m13.resolve_left (q1.1 z)).resolve_left (q3.1 y)
   rw [e,e'];exact az5 h g G F p p' (by omega)
 · rw [B2]at z ⊢;rw [B3]at y ⊢
   obtain⟨p,e⟩:=t2 (q2.1 z)
   obtain⟨p',e'⟩:=t3 (q3.1 y)
   have v:=(m23.resolve_left (q2.1 z)).resolve_left (q3.1 y)
   rw [e,e'];exact az5 h g G F p p' (by omega)
end
end
end Go.Ev
