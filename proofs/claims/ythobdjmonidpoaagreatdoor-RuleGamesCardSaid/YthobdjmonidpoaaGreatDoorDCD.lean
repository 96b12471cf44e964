import Derived.Test.YthobdjmonidpoaaGreatDoorDCA
import Derived.Test.YthobdjmonidpoaaGreatDoorDQS
set_option linter.unusedSimpArgs false
set_option linter.unusedVariables false
namespace Go.Ev
open Go.RowKit Go.Proofs
set_option maxRecDepth 100000
set_option maxHeartbeats 8000000
set_option linter.unusedSimpArgs false
noncomputable section
def nb (b:Int):Int:=if b=0 then 0 else 1
structure aw2 (s:St):Prop where
 f1:s.b1≠0→0≤sinC s.b1 (batC s)∧sinC s.b1 (batC s)≤s.outs
 f2:s.b2≠0→nb s.b1≤sinC s.b2 (batC s)∧sinC s.b2 (batC s)≤nb s.b1+s.outs
 f3:s.b3≠0→nb s.b1+nb s.b2≤sinC s.b3 (batC s)∧sinC s.b3 (batC s)≤nb s.b1+nb s.b2+s.outs
 l12:s.b1≠0→s.b2≠0→sinC s.b1 (batC s)<sinC s.b2 (batC s)
 l13:s.b1≠0→s.b3≠0→sinC s.b1 (batC s)<sinC s.b3 (batC s)
 l23:s.b2≠0→s.b3≠0→sinC s.b2 (batC s)<sinC s.b3 (batC s)
abbrev okF (o lo la x:Int):Prop:=lo≤x∧x≤lo+o∧la<x
theorem ax1 {s:St}{slot lo la:Int}:sR s slot (some (lo,la))=if slot=0 then some (lo,la)else if lo≤sinC slot (batC s)∧sinC slot (batC s)≤lo+s.outs∧la<sinC slot (batC s)then some (lo+1,sinC slot (batC s))else none:=by
 simp only [sR]
 split
 · rfl
 · by_cases h:lo≤sinC slot (batC s)∧sinC slot (batC s)≤lo+s.outs∧la<sinC slot (batC s)
   · rw [if_pos h,if_pos]
     simp [inB];omega
   · rw [if_neg h,if_neg]
     simp [inB];omega
theorem azi {s:St}{slot lo la:Int}:sR s slot (some (lo,la))=if slot=0∨okF s.outs lo la (sinC slot (batC s))then some (lo+nb slot,if slot=0 then la else sinC slot (batC s))else none:=by
 rw [ax1]
 unfold nb okF
 by_cases h:slot=0
 · simp [h]
 · simp only [h,if_false,false_or]
theorem azj {s:St}{slot lo la:Int}{A:Prop} [Decidable A]:sR s slot (if A then some (lo,la)else none)=if A∧(slot=0∨okF s.outs lo la (sinC slot (batC s)))then some (lo+nb slot,if slot=0 then la else sinC slot (batC s))else none:=by
 by_cases h:A
 · rw [if_pos h,azi]
   simp only [h,true_and]
 · rw [if_neg h,if_neg (fun q=>h q.1)];rfl
theorem fit_iff (s:St):ayD s=true↔aw2 s:=by
 have h1:=qA s.b1 (batC s)
 unfold ayD
 simp only [avz,bsC]
 rw [azi,azj,azj]
 simp only [Option.isSome_ite]
 constructor
 · rintro ⟨⟨a1,a2⟩,a3⟩
   simp only [okF,Int.zero_add]at a1 a2 a3
   refine⟨fun z=>?_,fun z=>?_,fun z=>?_,fun z y=>?_,fun z y=>?_,fun z y=>?_⟩
   · have:=a1.resolve_left z;omega
   · have:=a2.resolve_left z;omega
   · have:=a3.resolve_left z;omega
   · have:=a2.resolve_left y;rw [if_neg z]at this;omega
   · have w:=a3.resolve_left y
     by_cases x:s.b2=0
     · rw [if_pos x,if_neg z]at w;omega
     · have v:=a2.resolve_left x
       rw [if_neg x]at w;rw [if_neg z]at v;omega
   · have w:=a3.resolve_left y
     rw [if_neg z]at w;omega
 · rintro ⟨f1,f2,f3,l12,l13,l23⟩
   simp only [okF,Int.zero_add]
   refine⟨⟨?_,?_⟩,?_⟩
   · by_cases z:s.b1=0
     · exact .inl z
     · have:=f1 z;exact .inr (by omega)
   · by_cases z:s.b2=0
     · exact .inl z
     · have w:=f2 z
       refine .inr ⟨w.1,w.2,?_⟩
       by_cases y:s.b1=0
       · rw [if_pos y];have:=qA s.b2 (batC s);omega
       · rw [if_neg y];exact l12 y z
   · by_cases z:s.b3=0
     · exact .inl z
     · have w:=f3 z
       refine .inr ⟨w.1,w.2,?_⟩
       by_cases x:s.b2=0
       · rw [if_pos x]
         by_cases y:s.b1=0
         · rw [if_pos y];have:=qA s.b3 (batC s);omega
         · rw [if_neg y];exact l13 y z
       · rw [if_neg x];exact l23 x z
end
end Go.Ev
namespace Go.Ev
open Go.RowKit Go.Proofs
set_option maxRecDepth 100000
set_option maxHeartbeats 8000000
set_option linter.unusedSimpArgs false
noncomputable section
section
variable {s:St}{t:Pl}
def awW (s:St) (t:Pl) (f:Int):Prop:=(f=0∧act t.m 0≠-1)∨(f=1∧s.b1≠0)∨(f=2∧s.b2≠0)∨(f=3∧s.b3≠0)
theorem av5 {f:Int}(h:preT (act t.m 0) (s.b1==0) (s.b2==0) (s.b3==0) f=true):awW s t f:=by
 unfold preT at h
 unfold awW
 by_cases h0:f=0
 · subst h0;simp at h;exact .inl ⟨rfl,h⟩
 · by_cases h1:f=1
   · subst h1;simp at h;exact .inr (.inl ⟨rfl,h⟩)
   · by_cases h2:f=2
     · subst h2;simp at h;exact .inr (.inr (.inl ⟨rfl,h⟩))
     · by_cases h3:f=3
       · subst h3;simp at h;exact .inr (.inr (.inr ⟨rfl,h⟩))
       · simp [h0,h1,h2,h3]at h
theorem sl0:sl s 0=batC s:=rfl
theorem sl1:sl s 1=s.b1:=rfl
theorem sl2:sl s 2=s.b2:=rfl
theorem sl3:sl s 3=s.b3:=rfl
theorem bqp (g:Good s):1≤batC s∧batC s≤9:=by
 have:=g.n0;have:=g.n1
 unfold batC;split<;>omega
theorem awp (b:Int):0≤nb b∧nb b≤1:=by unfold nb;split<;>omega
theorem sl_nz (g:Good s) {f:Int}(h:awW s t f):1≤sl s f∧sl s f≤9:=by
 have h1:=g.b1;have h2:=g.b2;have h3:=g.b3;have h0:=bqp g
 rcases h with⟨rfl,_⟩ | ⟨rfl,h⟩ | ⟨rfl,h⟩ | ⟨rfl,h⟩
 · rw [sl0];exact h0
 · rw [sl1];omega
 · rw [sl2];omega
 · rw [sl3];omega
theorem pG (h:aB t.m=0) (g:iG s t) {i:Int}(hi:i=1∨i=2∨i=3):iQ s t i=if zr s t i=0 then 0 else sl s (zr s t i-1):=by
 obtain⟨_,_,_,i1,i2,i3⟩:=zfin h g true
 have hin:inT (zr s t i)=true:=by rcases hi with rfl|rfl|rfl<;>assumption
 have p0:pl s t 0=pT (act t.m 0) true 0:=iN h 0 true (.inl rfl)
 have p1:pl s t 1=pT (act t.m 1) (s.b1==0) 1:=iN h 1 _ (.inr rfl)
 have p2:pl s t 2=pT (act t.m 2) (s.b2==0) 2:=iN h 2 _ (.inr rfl)
 have p3:pl s t 3=pT (act t.m 3) (s.b3==0) 3:=iN h 3 _ (.inr rfl)
 have q1:phi (sl s 0) s.b1 s.b2 s.b3 1=sl s 0:=rfl
 have q0:phi (sl s 0) s.b1 s.b2 s.b3 0=0:=rfl
 have e:phi (sl s 0) s.b1 s.b2 s.b3 (zr s t i)=iQ s t i:=by
  unfold iQ zr aj0
  rw [p0,p1,p2,p3,←phi_set,←phi_set,←phi_set,←phi_set,phi_tok1,phi_tok2,phi_tok3,q1,q0]
  rfl
 rw [←e]
 generalize zr s t i=r at hin
 simp only [inT,Bool.or_eq_true,beq_iff_eq]at hin
 rcases hin with rfl|rfl|rfl|rfl|rfl<;>rfl
theorem ajb {x:Int}:∀ {l:List Int},memI x l=true↔x∈l
 | []=>by simp [memI]
 | y::l=>by simp only [memI,Bool.or_eq_true,beq_iff_eq,ajb,List.mem_cons]
theorem aj5:∀ {l:List Int},nodI l=true↔l.Nodup
 | []=>by simp [nodI]
 | y::l=>by
   simp only [nodI,Bool.and_eq_true,List.nodup_cons,aj5,Bool.not_eq_true']
   rw [←ajb (x:=y) (l:=l)]
   simp
theorem axJ {p:Int→Bool}:∀ {l:List Int},allP p l=true↔∀x∈l,p x=true
 | []=>by simp [allP]
 | y::l=>by simp only [allP,Bool.and_eq_true,axJ,List.forall_mem_cons]
structure ZOk (s:St) (t:Pl) (z:List Int):Prop where
 nod:z.Nodup
 all:∀f∈z,awW s t f
 len:z.length+zO t=allT (act t.m 0) (s.b1==0) (s.b2==0) (s.b3==0)
theorem bqY {z:List Int}(h:zOk s t z=true):ZOk s t z:=by
 unfold zOk zOK at h
 simp only [Bool.and_eq_true,aj5,axJ]at h
 exact⟨h.1,fun f hf=>av5 (h.2.1 f hf),Nat.eq_of_beq_eq_true h.2.2⟩
end
end
end Go.Ev
namespace Go.Ev
open Go.RowKit Go.Proofs
set_option maxRecDepth 100000
set_option maxHeartbeats 8000000
set_option linter.unusedSimpArgs false
noncomputable section
section
variable {s:St}{t:Pl}
theorem yH (h:aB t.m=0) (g:iG s t):t.e=[]↔act t.m 0=-1:=by
 have hh:=g.has
 unfold act
 cases hm:mAt t.m 0 with
 | none=>rw [hm]at hh;simpa using hh.symm
 | some m=>
   rw [hm]at hh
   have hr:=fR (oV h hm).2
   have he:¬t.e=[]:=by simpa using hh
   simp only [he,false_iff]
   split<;>omega
theorem axE {n:Int}(h:1≤n∧n≤9):aw0 n=n % 9+1:=by
 unfold aw0
 rw [wbeh]
 unfold behC
 rw [Int.tmod_eq_emod_of_nonneg (by omega)]
theorem bat_mvd (G:Good s):batC (mvd s t)=if t.e=[]then batC s else batC s % 9+1:=by
 have n0:=G.n0;have n1:=G.n1
 unfold batC mvd
 dsimp only
 by_cases he:t.e=[]
 · simp [he]
 · rcases G.half with hh|hh
   · simp [he,hh,axE n0]
   · simp [he,hh,axE n1]
theorem akg {b:Int}:((b2n (!(b==0)):Nat):Int)=nb b:=by
 unfold b2n nb
 by_cases h:b=0
 · simp [h]
 · rw [show(b==0)=false by simpa using h,if_neg h];rfl
theorem qB {r b:Int}{e:List Nat}(hr:1≤r∧r≤9) (hb:1≤b∧b≤9) (h:sinC r b≤4):sinC r (if e=[]then b else b % 9+1)=sinC r b+(if e=[]then 0 else 1):=by
 unfold sinC at h ⊢
 split<;>omega
theorem sig_bat {b:Int}(hb:1≤b∧b≤9):sinC b (b % 9+1)=0:=by unfold sinC;omega
theorem tT (h:aB t.m=0) (g:iG s t):((b2n (!(act t.m 0==-1)):Nat):Int)=if t.e=[]then 0 else 1:=by
 have:=yH h g
 unfold b2n
 by_cases he:t.e=[]
 · rw [this.1 he];simp [he]
 · have:¬act t.m 0=-1:=fun q=>he (this.2 q)
   rw [show(act t.m 0==-1)=false by simpa using this,if_neg he];rfl
theorem sg (h:aB t.m=0) (g:iG s t) (G:Good s) (F:aw2 s):(act t.m 0≠-1→sinC (sl s 0) (batC (mvd s t))=0) ∧
  (s.b1≠0→sinC (sl s 1) (batC (mvd s t))=sinC s.b1 (batC s)+(if t.e=[]then 0 else 1)) ∧
  (s.b2≠0→sinC (sl s 2) (batC (mvd s t))=sinC s.b2 (batC s)+(if t.e=[]then 0 else 1)) ∧
  (s.b3≠0→sinC (sl s 3) (batC (mvd s t))=sinC s.b3 (batC s)+(if t.e=[]then 0 else 1)):=by
 have o:=G.outs;have b:=bqp G;have n1:=awp s.b1;have n2:=awp s.b2
 have c1:=G.b1;have c2:=G.b2;have c3:=G.b3
 rw [bat_mvd G]
 refine⟨fun z=>?_,fun z=>?_,fun z=>?_,fun z=>?_⟩
 · have he:¬t.e=[]:=fun q=>z ((yH h g).1 q)
   rw [if_neg he,sl0];exact sig_bat b
 · have:=F.f1 z
   rw [sl1];exact qB (by omega) b (by omega)
 · have:=F.f2 z
   rw [sl2];exact qB (by omega) b (by omega)
 · have:=F.f3 z
   rw [sl3];exact qB (by omega) b (by omega)
theorem aqC (h:aB t.m=0) (g:iG s t) (G:Good s) (F:aw2 s) {f:Int}(hp:awW s t f) :
  ((bq8 (act t.m 0) (s.b1==0) (s.b2==0) (f+1):Nat):Int)≤sinC (sl s f) (batC (mvd s t))∧sinC (sl s f) (batC (mvd s t))≤((bq8 (act t.m 0) (s.b1==0) (s.b2==0) (f+1):Nat):Int)+s.outs:=by
 obtain⟨s0,s1,s2,s3⟩:=sg h g G F
 have o:=G.outs
 have e1:=akg (b:=s.b1)
 have e2:=akg (b:=s.b2)
 have eT:=tT h g
 rcases hp with⟨rfl,z⟩ | ⟨rfl,z⟩ | ⟨rfl,z⟩ | ⟨rfl,z⟩
 · rw [s0 z]
   have:bq8 (act t.m 0) (s.b1==0) (s.b2==0) (0+1)=0:=rfl
   rw [this];omega
 · have w:=F.f1 z
   rw [s1 z]
   have:bq8 (act t.m 0) (s.b1==0) (s.b2==0) (1+1)=b2n (!(act t.m 0==-1)):=rfl
   rw [this,eT];omega
 · have w:=F.f2 z
   rw [s2 z]
   have:bq8 (act t.m 0) (s.b1==0) (s.b2==0) (2+1)=b2n (!(act t.m 0==-1))+b2n (!(s.b1==0)):=rfl
   rw [this,Int.natCast_add,eT,e1];omega
 · have w:=F.f3 z
   rw [s3 z]
   have:bq8 (act t.m 0) (s.b1==0) (s.b2==0) (3+1)=b2n (!(act t.m 0==-1))+(b2n (!(s.b1==0))+b2n (!(s.b2==0))):=rfl
   rw [this,Int.natCast_add,Int.natCast_add,eT,e1,e2];omega
theorem azc (h:aB t.m=0) (g:iG s t) (G:Good s) (F:aw2 s) {f f':Int}(hp:awW s t f) (hp':awW s t f') (hf:f<f'):sinC (sl s f) (batC (mvd s t))<sinC (sl s f') (batC (mvd s t)):=by
 obtain⟨s0,s1,s2,s3⟩:=sg h g G F
 have n1:=awp s.b1
 have n2:=awp s.b2
 rcases hp with⟨rfl,z⟩ | ⟨rfl,z⟩ | ⟨rfl,z⟩ | ⟨rfl,z⟩<;>rcases hp' with⟨rfl,y⟩ | ⟨rfl,y⟩ | ⟨rfl,y⟩ | ⟨rfl,y⟩<;>first|omega|skip
 · have he:¬t.e=[]:=fun q=>z ((yH h g).1 q)
   have w:=F.f1 y
   rw [s0 z,s1 y,if_neg he];omega
 · have he:¬t.e=[]:=fun q=>z ((yH h g).1 q)
   have w:=F.f2 y
   rw [s0 z,s2 y,if_neg he];omega
 · have he:¬t.e=[]:=fun q=>z ((yH h g).1 q)
   have w:=F.f3 y
   rw [s0 z,s3 y,if_neg he];omega
 · have w:=F.l12 z y
   rw [s1 z,s2 y];omega
 · have w:=F.l13 z y
   rw [s1 z,s3 y];omega
 · have w:=F.l23 z y
   rw [s2 z,s3 y];omega
theorem bq5 (h:aB t.m=0) (G:Good s):outsI s t=s.outs+((zO t:Nat):Int):=by
 have o:=G.outs
 have l:=bF h
 have c:t.m.countP (·.o)≤t.m.length:=List.countP_le_length
 unfold outsI
 rw [e6 (by omega) (by omega),outs_T h]
theorem fit_mvd (h:aB t.m=0) (g:iG s t) (G:Good s) (F:aw2 s):aw2 (mvd s t):=by
 have r1:=pG h g (i:=1) (by simp)
 have r2:=pG h g (i:=2) (by simp)
 have r3:=pG h g (i:=3) (by simp)
 have Z:=bqY (zfin h g true).1
 have hfit:=(zfin h g true).2.2.1
 have oo:=bq5 h G
 have pz:∀f∈zB s t,awW s t f:=fun f hf=>Z.all f (List.mem_append_left _ hf)
 have ez:zB s t=aj4 (zr s t 1)++(aj4 (zr s t 2)++aj4 (zr s t 3)):=rfl
 rw [ez]at pz
 have tok:∀ {r b:Int},b=(if r=0 then 0 else sl s (r-1))→(∀f∈aj4 r,awW s t f)→(b≠0↔r≠0)∧(r≠0→awW s t (r-1)∧b=sl s (r-1)):=by
  intro r b hb hz
  by_cases hr:r=0
  · subst hb;simp [hr]
  · have e:aj4 r=[r-1]:=by unfold aj4;rw [show(r==0)=false by simpa using hr];rfl
    have p:=hz (r-1) (by rw [e];simp)
    have:=sl_nz G p
    rw [if_neg hr]at hb
    refine⟨⟨fun _=>hr,fun _=>by omega⟩,fun _=>⟨p,hb⟩⟩
 obtain⟨q1,t1⟩:=tok r1 (fun f hf=>pz f (by simp [hf]))
 obtain⟨q2,t2⟩:=tok r2 (fun f hf=>pz f (by simp [hf]))
 obtain⟨q3,t3⟩:=tok r3 (fun f hf=>pz f (by simp [hf]))
 have nbt:∀ {r b:Int},(b≠0↔r≠0)→nb b=((b2n (!(r==0)):Nat):Int):=by
  intro r b hq
  rw [akg]
  unfold nb
  by_cases hr:r=0
  · have:b=0:=Decidable.not_not.1 fun q=>hq.1 q hr
    simp [hr,this]
  · simp [hr,hq.2 hr]
 have nb1:=nbt q1
 have nb2:=nbt q2
 simp only [fitT,fit1,ltT,Bool.and_eq_true,Bool.or_eq_true,beq_iff_eq,decide_eq_true_eq,Nat.ble_eq]at hfit
 obtain⟨a1,a2,a3,m12,m13,m23⟩:=hfit
 have B1:(mvd s t).b1=iQ s t 1:=rfl
 have B2:(mvd s t).b2=iQ s t 2:=rfl
 have B3:(mvd s t).b3=iQ s t 3:=rfl
 have OO:(mvd s t).outs=outsI s t:=rfl
 refine⟨fun z=>?_,fun z=>?_,fun z=>?_,fun z y=>?_,fun z y=>?_,fun z y=>?_⟩
 · rw [B1]at z ⊢
   have hr:=q1.1 z
   obtain⟨p,e⟩:=t1 hr
   have w:=aqC h g G F p
   have v:=a1.resolve_left hr
   rw [Int.sub_add_cancel]at w
   rw [e,OO,oo];omega
 · rw [B2]at z ⊢
   have hr:=q2.1 z
   obtain⟨p,e⟩:=t2 hr
   have w:=aqC h g G F p
   have v:=a2.resolve_left hr
   rw [Int.sub_add_cancel]at w
   rw [e,OO,oo,B1,nb1];omega
 · rw [B3]at z ⊢
   have hr:=q3.1 z
   obtain⟨p,e⟩:=t3 hr
   have w:=aqC h g G F p
   have v:=a3.resolve_left hr
   rw [Int.sub_add_cancel]at w
   rw [e,OO,oo,B1,B2,nb1,nb2];omega
 · rw [B1]at z ⊢;rw [B2]at y ⊢
   obtain⟨p,e⟩:=t1 (q1.1 z)
   obtain⟨p',e'⟩:=t2 (q2.1 y)
   have v:=(m12.resolve_left (q1.1 z)).resolve_left (q2.1 y)
   rw [e,e'];exact azc h g G F p p' (by omega)
 · rw [B1]at z ⊢;rw [B3]at y ⊢
   obtain⟨p,e⟩:=t1 (q1.1 z)
   obtain⟨p',e'⟩:=t3 (q3.1 y)
   have v:=(m13.resolve_left (q1.1 z)).resolve_left (q3.1 y)
   rw [e,e'];exact azc h g G F p p' (by omega)
 · rw [B2]at z ⊢;rw [B3]at y ⊢
   obtain⟨p,e⟩:=t2 (q2.1 z)
   obtain⟨p',e'⟩:=t3 (q3.1 y)
   have v:=(m23.resolve_left (q2.1 z)).resolve_left (q3.1 y)
   rw [e,e'];exact azc h g G F p p' (by omega)
end
end
end Go.Ev
