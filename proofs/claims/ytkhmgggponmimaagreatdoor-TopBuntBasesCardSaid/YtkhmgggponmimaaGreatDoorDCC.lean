import Derived.Test.YtkhmgggponmimaaGreatDoorDCB
set_option linter.unusedSimpArgs false
set_option linter.unusedVariables false
namespace Go.Ev
open Go.RowKit Go.Proofs
set_option maxRecDepth 100000
set_option maxHeartbeats 8000000
set_option linter.unusedSimpArgs false
noncomputable section
section
variable {s:St}{t:Pl}
def awV (s:St) (t:Pl) (f:Int):Prop:=(f=0∧act t.m 0≠-1)∨(f=1∧s.b1≠0)∨(f=2∧s.b2≠0)∨(f=3∧s.b3≠0)
theorem avS {f:Int}(h:preT (act t.m 0) (s.b1==0) (s.b2==0) (s.b3==0) f=true):awV s t f:=by
 unfold preT at h
 unfold awV
 by_cases h0:f=0
 · subst h0;simp at h;exact .inl ⟨rfl,h⟩
 · by_cases h1:f=1
   · subst h1;simp at h;exact .inr (.inl ⟨rfl,h⟩)
   · by_cases h2:f=2
     · subst h2;simp at h;exact .inr (.inr (.inl ⟨rfl,h⟩))
     · by_cases h3:f=3
       · subst h3;simp at h;exact .inr (.inr (.inr ⟨rfl,h⟩))
       · simp [h0,h1,h2,h3]at h
theorem sl0:sl s 0=batC s:=rfl
theorem sl1:sl s 1=s.b1:=rfl
theorem sl2:sl s 2=s.b2:=rfl
theorem sl3:sl s 3=s.b3:=rfl
theorem bq7 (g:Good s):1≤batC s∧batC s≤9:=by
 have:=g.n0;have:=g.n1
 unfold batC;split<;>omega
theorem awm (b:Int):0≤nb b∧nb b≤1:=by unfold nb;split<;>omega
theorem sl_nz (g:Good s) {f:Int}(h:awV s t f):1≤sl s f∧sl s f≤9:=by
 have h1:=g.b1;have h2:=g.b2;have h3:=g.b3;have h0:=bq7 g
 rcases h with⟨rfl,_⟩ | ⟨rfl,h⟩ | ⟨rfl,h⟩ | ⟨rfl,h⟩
 · rw [sl0];exact h0
 · rw [sl1];omega
 · rw [sl2];omega
 · rw [sl3];omega
theorem lV (h:aC t.m=0) (g:gH s t) {i:Int}(hi:i=1∨i=2∨i=3):kK s t i=if zr s t i=0 then 0 else sl s (zr s t i-1):=by
 obtain⟨_,_,_,i1,i2,i3⟩:=zfin h g true
 have hin:inT (zr s t i)=true:=by rcases hi with rfl|rfl|rfl<;>assumption
 have p0:pl s t 0=pT (act t.m 0) true 0:=eJ h 0 true (.inl rfl)
 have p1:pl s t 1=pT (act t.m 1) (s.b1==0) 1:=eJ h 1 _ (.inr rfl)
 have p2:pl s t 2=pT (act t.m 2) (s.b2==0) 2:=eJ h 2 _ (.inr rfl)
 have p3:pl s t 3=pT (act t.m 3) (s.b3==0) 3:=eJ h 3 _ (.inr rfl)
 have q1:phi (sl s 0) s.b1 s.b2 s.b3 1=sl s 0:=rfl
 have q0:phi (sl s 0) s.b1 s.b2 s.b3 0=0:=rfl
 have e:phi (sl s 0) s.b1 s.b2 s.b3 (zr s t i)=kK s t i:=by
  unfold kK zr xJ
  rw [p0,p1,p2,p3,←phi_set,←phi_set,←phi_set,←phi_set,phi_tok1,phi_tok2,phi_tok3,q1,q0]
  rfl
 rw [←e]
 generalize zr s t i=r at hin
 simp only [inT,Bool.or_eq_true,beq_iff_eq]at hin
 rcases hin with rfl|rfl|rfl|rfl|rfl<;>rfl
theorem aj6 {x:Int}:∀ {l:List Int},memI x l=true↔x∈l
 | []=>by simp [memI]
 | y::l=>by simp only [memI,Bool.or_eq_true,beq_iff_eq,aj6,List.mem_cons]
theorem aj1:∀ {l:List Int},nodI l=true↔l.Nodup
 | []=>by simp [nodI]
 | y::l=>by
   simp only [nodI,Bool.and_eq_true,List.nodup_cons,aj1,Bool.not_eq_true']
   rw [←aj6 (x:=y) (l:=l)]
   simp
theorem axE {p:Int→Bool}:∀ {l:List Int},allP p l=true↔∀x∈l,p x=true
 | []=>by simp [allP]
 | y::l=>by simp only [allP,Bool.and_eq_true,axE,List.forall_mem_cons]
structure ZOk (s:St) (t:Pl) (z:List Int):Prop where
 nod:z.Nodup
 all:∀f∈z,awV s t f
 len:z.length+zO t=allT (act t.m 0) (s.b1==0) (s.b2==0) (s.b3==0)
theorem azS {z:List Int}(h:zOk s t z=true):ZOk s t z:=by
 unfold zOk zOK at h
 simp only [Bool.and_eq_true,aj1,axE]at h
 exact⟨h.1,fun f hf=>avS (h.2.1 f hf),Nat.eq_of_beq_eq_true h.2.2⟩
end
end
end Go.Ev
