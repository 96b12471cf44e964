import Derived.Test.YtfhpbcklkijaoaaGreatDoorDCA
import Derived.Test.YtfhpbcklkijaoaaGreatDoorDQS
set_option linter.unusedSimpArgs false
set_option linter.unusedVariables false
namespace Go.Ev
open Go.RowKit Go.Proofs
set_option maxRecDepth 100000
set_option maxHeartbeats 8000000
set_option linter.unusedSimpArgs false
noncomputable section
def nb (b:Int):Int:=if b=0 then 0 else 1
structure awa (s:St):Prop where
 f1:s.b1≠0→0≤sinC s.b1 (batC s)∧sinC s.b1 (batC s)≤s.outs
 f2:s.b2≠0→nb s.b1≤sinC s.b2 (batC s)∧sinC s.b2 (batC s)≤nb s.b1+s.outs
 f3:s.b3≠0→nb s.b1+nb s.b2≤sinC s.b3 (batC s)∧sinC s.b3 (batC s)≤nb s.b1+nb s.b2+s.outs
 l12:s.b1≠0→s.b2≠0→sinC s.b1 (batC s)<sinC s.b2 (batC s)
 l13:s.b1≠0→s.b3≠0→sinC s.b1 (batC s)<sinC s.b3 (batC s)
 l23:s.b2≠0→s.b3≠0→sinC s.b2 (batC s)<sinC s.b3 (batC s)
abbrev okF (o lo la x:Int):Prop:=lo≤x∧x≤lo+o∧la<x
theorem ax7 {s:St}{slot lo la:Int}:sW s slot (some (lo,la))=if slot=0 then some (lo,la)else if lo≤sinC slot (batC s)∧sinC slot (batC s)≤lo+s.outs∧la<sinC slot (batC s)then some (lo+1,sinC slot (batC s))else none:=by
 simp only [sW]
 split
 · rfl
 · by_cases h:lo≤sinC slot (batC s)∧sinC slot (batC s)≤lo+s.outs∧la<sinC slot (batC s)
   · rw [if_pos h,if_pos]
     simp [inB];omega
   · rw [if_neg h,if_neg]
     simp [inB];omega
theorem azo {s:St}{slot lo la:Int}:sW s slot (some (lo,la))=if slot=0∨okF s.outs lo la (sinC slot (batC s))then some (lo+nb slot,if slot=0 then la else sinC slot (batC s))else none:=by
 rw [ax7]
 unfold nb okF
 by_cases h:slot=0
 · simp [h]
 · simp only [h,if_false,false_or]
theorem azp {s:St}{slot lo la:Int}{A:Prop} [Decidable A]:sW s slot (if A then some (lo,la)else none)=if A∧(slot=0∨okF s.outs lo la (sinC slot (batC s)))then some (lo+nb slot,if slot=0 then la else sinC slot (batC s))else none:=by
 by_cases h:A
 · rw [if_pos h,azo]
   simp only [h,true_and]
 · rw [if_neg h,if_neg (fun q=>h q.1)];rfl
theorem fit_iff (s:St):ayM s=true↔awa s:=by
 have h1:=qF s.b1 (batC s)
 unfold ayM
 simp only [akC,bsC]
 rw [azo,azp,azp]
 simp only [Option.isSome_ite]
 constructor
 · rintro ⟨⟨a1,a2⟩,a3⟩
   simp only [okF,Int.zero_add]at a1 a2 a3
   refine⟨fun z=>?_,fun z=>?_,fun z=>?_,fun z y=>?_,fun z y=>?_,fun z y=>?_⟩
   · have:=a1.resolve_left z;omega
   · have:=a2.resolve_left z;omega
   · have:=a3.resolve_left z;omega
   · have:=a2.resolve_left y;rw [if_neg z]at this;omega
   · have w:=a3.resolve_left y
     by_cases x:s.b2=0
     · rw [if_pos x,if_neg z]at w;omega
     · have v:=a2.resolve_left x
       rw [if_neg x]at w;rw [if_neg z]at v;omega
   · have w:=a3.resolve_left y
     rw [if_neg z]at w;omega
 · rintro ⟨f1,f2,f3,l12,l13,l23⟩
   simp only [okF,Int.zero_add]
   refine⟨⟨?_,?_⟩,?_⟩
   · by_cases z:s.b1=0
     · exact .inl z
     · have:=f1 z;exact .inr (by omega)
   · by_cases z:s.b2=0
     · exact .inl z
     · have w:=f2 z
       refine .inr ⟨w.1,w.2,?_⟩
       by_cases y:s.b1=0
       · rw [if_pos y];have:=qF s.b2 (batC s);omega
       · rw [if_neg y];exact l12 y z
   · by_cases z:s.b3=0
     · exact .inl z
     · have w:=f3 z
       refine .inr ⟨w.1,w.2,?_⟩
       by_cases x:s.b2=0
       · rw [if_pos x]
         by_cases y:s.b1=0
         · rw [if_pos y];have:=qF s.b3 (batC s);omega
         · rw [if_neg y];exact l13 y z
       · rw [if_neg x];exact l23 x z
end
end Go.Ev
namespace Go.Ev
open Go.RowKit Go.Proofs
set_option maxRecDepth 100000
set_option maxHeartbeats 8000000
set_option linter.unusedSimpArgs false
noncomputable section
section
variable {s:St}{t:Pl}
def aw3 (s:St) (t:Pl) (f:Int):Prop:=(f=0∧act t.m 0≠-1)∨(f=1∧s.b1≠0)∨(f=2∧s.b2≠0)∨(f=3∧s.b3≠0)
theorem av7 {f:Int}(h:preT (act t.m 0) (s.b1==0) (s.b2==0) (s.b3==0) f=true):aw3 s t f:=by
 unfold preT at h
 unfold aw3
 by_cases h0:f=0
 · subst h0;simp at h;exact .inl ⟨rfl,h⟩
 · by_cases h1:f=1
   · subst h1;simp at h;exact .inr (.inl ⟨rfl,h⟩)
   · by_cases h2:f=2
     · subst h2;simp at h;exact .inr (.inr (.inl ⟨rfl,h⟩))
     · by_cases h3:f=3
       · subst h3;simp at h;exact .inr (.inr (.inr ⟨rfl,h⟩))
       · simp [h0,h1,h2,h3]at h
theorem sl0:sl s 0=batC s:=rfl
theorem sl1:sl s 1=s.b1:=rfl
theorem sl2:sl s 2=s.b2:=rfl
theorem sl3:sl s 3=s.b3:=rfl
theorem bqi (g:Good s):1≤batC s∧batC s≤9:=by
 have:=g.n0;have:=g.n1
 unfold batC;split<;>omega
theorem aqZ (b:Int):0≤nb b∧nb b≤1:=by unfold nb;split<;>omega
theorem sl_nz (g:Good s) {f:Int}(h:aw3 s t f):1≤sl s f∧sl s f≤9:=by
 have h1:=g.b1;have h2:=g.b2;have h3:=g.b3;have h0:=bqi g
 rcases h with⟨rfl,_⟩ | ⟨rfl,h⟩ | ⟨rfl,h⟩ | ⟨rfl,h⟩
 · rw [sl0];exact h0
 · rw [sl1];omega
 · rw [sl2];omega
 · rw [sl3];omega
theorem gZ (h:aC t.m=0) (g:fR s t) {i:Int}(hi:i=1∨i=2∨i=3):fQ s t i=if zr s t i=0 then 0 else sl s (zr s t i-1):=by
 obtain⟨_,_,_,i1,i2,i3⟩:=zfin h g true
 have hin:inT (zr s t i)=true:=by rcases hi with rfl|rfl|rfl<;>assumption
 have p0:pl s t 0=pT (act t.m 0) true 0:=iO h 0 true (.inl rfl)
 have p1:pl s t 1=pT (act t.m 1) (s.b1==0) 1:=iO h 1 _ (.inr rfl)
 have p2:pl s t 2=pT (act t.m 2) (s.b2==0) 2:=iO h 2 _ (.inr rfl)
 have p3:pl s t 3=pT (act t.m 3) (s.b3==0) 3:=iO h 3 _ (.inr rfl)
 have q1:phi (sl s 0) s.b1 s.b2 s.b3 1=sl s 0:=rfl
 have q0:phi (sl s 0) s.b1 s.b2 s.b3 0=0:=rfl
 have e:phi (sl s 0) s.b1 s.b2 s.b3 (zr s t i)=fQ s t i:=by
  unfold fQ zr aj8
  rw [p0,p1,p2,p3,←phi_set,←phi_set,←phi_set,←phi_set,phi_tok1,phi_tok2,phi_tok3,q1,q0]
  rfl
 rw [←e]
 generalize zr s t i=r at hin
 simp only [inT,Bool.or_eq_true,beq_iff_eq]at hin
 rcases hin with rfl|rfl|rfl|rfl|rfl<;>rfl
theorem ajh {x:Int}:∀ {l:List Int},memI x l=true↔x∈l
 | []=>by simp [memI]
 | y::l=>by simp only [memI,Bool.or_eq_true,beq_iff_eq,ajh,List.mem_cons]
theorem ajc:∀ {l:List Int},nodI l=true↔l.Nodup
 | []=>by simp [nodI]
 | y::l=>by
   simp only [nodI,Bool.and_eq_true,List.nodup_cons,ajc,Bool.not_eq_true']
   rw [←ajh (x:=y) (l:=l)]
   simp
theorem axN {p:Int→Bool}:∀ {l:List Int},allP p l=true↔∀x∈l,p x=true
 | []=>by simp [allP]
 | y::l=>by simp only [allP,Bool.and_eq_true,axN,List.forall_mem_cons]
structure ZOk (s:St) (t:Pl) (z:List Int):Prop where
 nod:z.Nodup
 all:∀f∈z,aw3 s t f
 len:z.length+zO t=allT (act t.m 0) (s.b1==0) (s.b2==0) (s.b3==0)
theorem w7 {z:List Int}(h:zOk s t z=true):ZOk s t z:=by
 unfold zOk zOK at h
 simp only [Bool.and_eq_true,ajc,axN]at h
 exact⟨h.1,fun f hf=>av7 (h.2.1 f hf),Nat.eq_of_beq_eq_true h.2.2⟩
theorem bases_T (h:aC t.m=0) (g:fR s t) (G:Good s):[fQ s t 1,fQ s t 2,fQ s t 3].filter (fun b=>!(b==0))=(zB s t).map (sl s):=by
 have r1:=gZ h g (i:=1) (by simp)
 have r2:=gZ h g (i:=2) (by simp)
 have r3:=gZ h g (i:=3) (by simp)
 have Z:=w7 (zfin h g true).1
 have pz:∀f∈zB s t,sl s f≠0:=fun f hf=>by
  have:=sl_nz G (Z.all f (List.mem_append_left _ hf));omega
 have ez:zB s t=tS (zr s t 1)++(tS (zr s t 2)++tS (zr s t 3)):=rfl
 rw [ez]at pz ⊢
 have one:∀ {r b:Int},b=(if r=0 then 0 else sl s (r-1))→(∀f∈tS r,sl s f≠0)→[b].filter (fun b=>!(b==0))=(tS r).map (sl s):=by
  intro r b hb hz
  subst hb
  unfold tS at hz ⊢
  by_cases hr:r=0
  · simp [hr]
  · have:(r==0)=false:=by simpa using hr
    rw [this]at hz ⊢
    simp only [cond_false,List.mem_singleton,forall_eq]at hz
    simp [hr,hz]
 have sp:[fQ s t 1,fQ s t 2,fQ s t 3]=[fQ s t 1]++([fQ s t 2]++[fQ s t 3]):=rfl
 rw [sp,List.filter_append,List.filter_append,List.map_append,List.map_append,one r1 (fun f hf=>pz f (by simp [hf])),one r2 (fun f hf=>pz f (by simp [hf])),one r3 (fun f hf=>pz f (by simp [hf]))]
end
end
end Go.Ev
