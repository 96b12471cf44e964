import Derived.Test.YtgjbmohchdmdkaaGreatDoorDCB
set_option linter.unusedSimpArgs false
set_option linter.unusedVariables false
namespace Go.Ev
open Go.RowKit Go.Proofs
set_option maxRecDepth 100000
set_option maxHeartbeats 8000000
set_option linter.unusedSimpArgs false
noncomputable section
section
variable {s:St}{t:Pl}
def avB (s:St) (t:Pl) (f:Int):Prop:=(f=0∧act t.m 0≠-1)∨(f=1∧s.b1≠0)∨(f=2∧s.b2≠0)∨(f=3∧s.b3≠0)
theorem awA {f:Int}(h:preT (act t.m 0) (s.b1==0) (s.b2==0) (s.b3==0) f=true):avB s t f:=by
 unfold preT at h
 unfold avB
 by_cases h0:f=0
 · subst h0;simp at h;exact .inl ⟨rfl,h⟩
 · by_cases h1:f=1
   · subst h1;simp at h;exact .inr (.inl ⟨rfl,h⟩)
   · by_cases h2:f=2
     · subst h2;simp at h;exact .inr (.inr (.inl ⟨rfl,h⟩))
     · by_cases h3:f=3
       · subst h3;simp at h;exact .inr (.inr (.inr ⟨rfl,h⟩))
       · simp [h0,h1,h2,h3]at h
theorem sl0:sl s 0=batC s:=rfl
theorem sl1:sl s 1=s.b1:=rfl
theorem sl2:sl s 2=s.b2:=rfl
theorem sl3:sl s 3=s.b3:=rfl
theorem bx9 (g:Good s):1≤batC s∧batC s≤9:=by
 have:=g.n0;have:=g.n1
 unfold batC;split<;>omega
theorem mA (b:Int):0≤nb b∧nb b≤1:=by unfold nb;split<;>omega
theorem sl_nz (g:Good s) {f:Int}(h:avB s t f):1≤sl s f∧sl s f≤9:=by
 have h1:=g.b1;have h2:=g.b2;have h3:=g.b3;have h0:=bx9 g
 rcases h with⟨rfl,_⟩ | ⟨rfl,h⟩ | ⟨rfl,h⟩ | ⟨rfl,h⟩
 · rw [sl0];exact h0
 · rw [sl1];omega
 · rw [sl2];omega
 · rw [sl3];omega
theorem sl_inj (g:Good s) (F:avr s) {f f':Int}(h:avB s t f) (h':avB s t f') (he:sl s f=sl s f'):f=f':=by
 have o:=g.outs
 have n1:=mA s.b1
 have n2:=mA s.b2
 have bb:sinC (batC s) (batC s)=8:=by unfold sinC;omega
 obtain⟨f1,f2,f3,l12,l13,l23⟩:=F
 rcases h with⟨rfl,h⟩ | ⟨rfl,h⟩ | ⟨rfl,h⟩ | ⟨rfl,h⟩<;>rcases h' with⟨rfl,h'⟩ | ⟨rfl,h'⟩ | ⟨rfl,h'⟩ | ⟨rfl,h'⟩<;>simp only [sl0,sl1,sl2,sl3]at he<;>first
  | rfl
  | (exfalso
     first
      | (have w:=f1 ‹_›;rw [←he]at w;omega)
      | (have w:=f1 ‹_›;rw [he]at w;omega)
      | (have w:=f2 ‹_›;rw [←he]at w;omega)
      | (have w:=f2 ‹_›;rw [he]at w;omega)
      | (have w:=f3 ‹_›;rw [←he]at w;omega)
      | (have w:=f3 ‹_›;rw [he]at w;omega)
      | (have w:=l12 ‹_› ‹_›;rw [he]at w;omega)
      | (have w:=l12 ‹_› ‹_›;rw [←he]at w;omega)
      | (have w:=l13 ‹_› ‹_›;rw [he]at w;omega)
      | (have w:=l13 ‹_› ‹_›;rw [←he]at w;omega)
      | (have w:=l23 ‹_› ‹_›;rw [he]at w;omega)
      | (have w:=l23 ‹_› ‹_›;rw [←he]at w;omega))
theorem iF (h:aB t.m=0) (g:eP s t) {i:Int}(hi:i=1∨i=2∨i=3):eU s t i=if zr s t i=0 then 0 else sl s (zr s t i-1):=by
 obtain⟨_,_,_,i1,i2,i3⟩:=zfin h g true
 have hin:inT (zr s t i)=true:=by rcases hi with rfl|rfl|rfl<;>assumption
 have p0:pl s t 0=pT (act t.m 0) true 0:=i6 h 0 true (.inl rfl)
 have p1:pl s t 1=pT (act t.m 1) (s.b1==0) 1:=i6 h 1 _ (.inr rfl)
 have p2:pl s t 2=pT (act t.m 2) (s.b2==0) 2:=i6 h 2 _ (.inr rfl)
 have p3:pl s t 3=pT (act t.m 3) (s.b3==0) 3:=i6 h 3 _ (.inr rfl)
 have q1:phi (sl s 0) s.b1 s.b2 s.b3 1=sl s 0:=rfl
 have q0:phi (sl s 0) s.b1 s.b2 s.b3 0=0:=rfl
 have e:phi (sl s 0) s.b1 s.b2 s.b3 (zr s t i)=eU s t i:=by
  unfold eU zr axr
  rw [p0,p1,p2,p3,←phi_set,←phi_set,←phi_set,←phi_set,phi_tok1,phi_tok2,phi_tok3,q1,q0]
  rfl
 rw [←e]
 generalize zr s t i=r at hin
 simp only [inT,Bool.or_eq_true,beq_iff_eq]at hin
 rcases hin with rfl|rfl|rfl|rfl|rfl<;>rfl
theorem azB {x:Int}:∀ {l:List Int},memI x l=true↔x∈l
 | []=>by simp [memI]
 | y::l=>by simp only [memI,Bool.or_eq_true,beq_iff_eq,azB,List.mem_cons]
theorem axw:∀ {l:List Int},nodI l=true↔l.Nodup
 | []=>by simp [nodI]
 | y::l=>by
   simp only [nodI,Bool.and_eq_true,List.nodup_cons,axw,Bool.not_eq_true']
   rw [←azB (x:=y) (l:=l)]
   simp
theorem aza {p:Int→Bool}:∀ {l:List Int},allP p l=true↔∀x∈l,p x=true
 | []=>by simp [allP]
 | y::l=>by simp only [allP,Bool.and_eq_true,aza,List.forall_mem_cons]
structure ZOk (s:St) (t:Pl) (z:List Int):Prop where
 nod:z.Nodup
 all:∀f∈z,avB s t f
 len:z.length+zO t=allT (act t.m 0) (s.b1==0) (s.b2==0) (s.b3==0)
theorem zG {z:List Int}(h:zOk s t z=true):ZOk s t z:=by
 unfold zOk zOK at h
 simp only [Bool.and_eq_true,axw,aza]at h
 exact⟨h.1,fun f hf=>awA (h.2.1 f hf),Nat.eq_of_beq_eq_true h.2.2⟩
theorem rZ (g:Good s) (F:avr s):∀ {z:List Int},z.Nodup→(∀f∈z,avB s t f)→(z.map (sl s)).Nodup
 | [],_,_=>by simp
 | f::z,hn,hp=>by
   rw [List.nodup_cons]at hn
   rw [List.map_cons,List.nodup_cons]
   refine⟨fun hm=>?_,rZ g F hn.2 fun f hf=>hp f (List.mem_cons_of_mem _ hf)⟩
   obtain⟨f',hf',he⟩:=List.mem_map.1 hm
   have:=sl_inj g F (hp f' (List.mem_cons_of_mem _ hf')) (hp f List.mem_cons_self) he
   exact hn.1 (this▸hf')
theorem ayR (h:aB t.m=0) (g:eP s t) (G:Good s):[eU s t 1,eU s t 2,eU s t 3].filter (fun b=>!(b==0))=(zB s t).map (sl s):=by
 have r1:=iF h g (i:=1) (by simp)
 have r2:=iF h g (i:=2) (by simp)
 have r3:=iF h g (i:=3) (by simp)
 have Z:=zG (zfin h g true).1
 have pz:∀f∈zB s t,sl s f≠0:=fun f hf=>by
  have:=sl_nz G (Z.all f (List.mem_append_left _ hf));omega
 have ez:zB s t=vO (zr s t 1)++(vO (zr s t 2)++vO (zr s t 3)):=rfl
 rw [ez]at pz ⊢
 have one:∀ {r b:Int},b=(if r=0 then 0 else sl s (r-1))→(∀f∈vO r,sl s f≠0)→[b].filter (fun b=>!(b==0))=(vO r).map (sl s):=by
  intro r b hb hz
  subst hb
  unfold vO at hz ⊢
  by_cases hr:r=0
  · simp [hr]
  · have:(r==0)=false:=by simpa using hr
    rw [this]at hz ⊢
    simp only [cond_false,List.mem_singleton,forall_eq]at hz
    simp [hr,hz]
 have sp:[eU s t 1,eU s t 2,eU s t 3]=[eU s t 1]++([eU s t 2]++[eU s t 3]):=rfl
 rw [sp,List.filter_append,List.filter_append,List.map_append,List.map_append,one r1 (fun f hf=>pz f (by simp [hf])),one r2 (fun f hf=>pz f (by simp [hf])),one r3 (fun f hf=>pz f (by simp [hf]))]
end
end
end Go.Ev
