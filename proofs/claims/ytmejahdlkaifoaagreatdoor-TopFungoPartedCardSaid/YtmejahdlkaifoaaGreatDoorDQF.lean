import Derived.Test.YtmejahdlkaifoaaGreatDoorDQE
set_option linter.unusedSimpArgs false
set_option linter.unusedVariables false
namespace Go.Ev
open Go.RowKit Go.Proofs
set_option maxRecDepth 100000
set_option maxHeartbeats 8000000
set_option linter.unusedSimpArgs false
noncomputable section
section
variable {s:St}{t:Pl}
theorem bk_balk {m:Mv}(hm:mvE m=0):bk9 m=balk m:=by
 have hr:=gI hm
 unfold bk9 balk
 by_cases hf:m.f=0
 · have hw:=axk hm hf
   obtain⟨f,tt,o,hh,b⟩:=m
   dsimp only at hw hf ⊢
   subst hf
   simp only [List.mem_cons,List.not_mem_nil,or_false,Prod.mk.injEq]at hw
   rcases hw with⟨rfl,rfl⟩ | ⟨rfl,rfl⟩ | ⟨rfl,rfl⟩ | ⟨rfl,rfl⟩ | ⟨rfl,rfl⟩ | ⟨rfl,rfl⟩ | ⟨rfl,rfl⟩ | ⟨rfl,rfl⟩ | ⟨rfl,rfl⟩ | ⟨rfl,rfl⟩ | ⟨rfl,rfl⟩<;>rfl
 · have hw:=j0 hm hf
   have hp:decide (0<m.f)=true:=by simp;omega
   rw [hp]
   obtain⟨f,tt,o,hh,b⟩:=m
   dsimp only at hw ⊢
   simp only [List.mem_cons,List.not_mem_nil,or_false,Prod.mk.injEq]at hw
   rcases hw with⟨rfl,rfl⟩ | ⟨rfl,rfl⟩ | ⟨rfl,rfl⟩ | ⟨rfl,rfl⟩ | ⟨rfl,rfl⟩ | ⟨rfl,rfl⟩ | ⟨rfl,rfl⟩ | ⟨rfl,rfl⟩ | ⟨rfl,rfl⟩ | ⟨rfl,rfl⟩ | ⟨rfl,rfl⟩<;>rfl
theorem any_bk {l:List Mv}(h:aB l=0):l.any bk9=l.any balk:=by
 have hv:=q7 h
 clear h
 induction l with
 | nil=>rfl
 | cons a l ih=>
   rw [List.any_cons,List.any_cons,bk_balk (hv a List.mem_cons_self),ih fun m hm=>hv m (List.mem_cons_of_mem _ hm)]
def kB (l:List Mv) (i:Int):Bool:=match mAt l i with
 | some m=>st9 m
 | none=>false
def b2n (b:Bool):Nat:=bif b then 1 else 0
theorem cb9 (a:Mv) (l:List Mv):(a::l).countP st9=l.countP st9+b2n (st9 a):=by
 rw [List.countP_cons]
 cases st9 a<;>rfl
theorem z9 {m:Mv}(h:m.f=0):st9 m=false:=by
 unfold st9;rw [h];rfl
theorem b0n:b2n false=0:=rfl
theorem bin (b:Bool):(if b=true then 1 else 0)=b2n b:=by cases b<;>rfl
theorem bqH {l:List Mv}(h:aB l=0):l.countP st9=b2n (kB l 3)+(b2n (kB l 2)+b2n (kB l 1)):=by
 refine sh_cases h ?_ ?_ ?_ ?_ ?_ ?_ ?_ ?_ ?_ ?_ ?_ ?_ ?_ ?_ ?_ ?_<;>intros<;>(try simp only [vMv]at *)<;>simp_all [kB,mAt,cb9,z9,b0n,bin]<;>(try omega)
theorem at_nz {l:List Mv}{b1 b2 b3:Int}(h:aB l=0) (h4:l.any (c4 b1 b2 b3)=false) {i:Int}(hi:i=1∨i=2∨i=3) {m:Mv}(hm:mAt l i=some m):bzB b1 b2 b3 i=false:=by
 have hf:=(rB h hm).1
 have h2:=List.mem_of_find?_eq_some hm
 rw [List.any_eq_false]at h4
 have h5:=h4 m h2
 unfold c4 at h5
 rw [hf]at h5
 have hp:decide (0<i)=true:=by simp;omega
 rw [hp]at h5
 simpa using h5
theorem eq9 (h:aB t.m=0) (hv:vEv t.e) (hl:t.p.length<9223372036854775808) (h4:t.m.any (c4 s.b1 s.b2 s.b3)=false) :
  iP (s,t,9,())=some (t.m.any bk9&&decide (((t.m.countP st9:Nat):Int)<((nz s.b1+(nz s.b2+nz s.b3):Nat):Int))):=by
 rw [rrL h hv hl (by simp),anyF (by decide) (by decide),Bool.false_or,any_bk h,bqH h]
 have g:∀i:Int,(i=1∨i=2∨i=3)→chkB s t 9 (t.m.any balk) i=(t.m.any balk&&!kB t.m i)∧(bzB s.b1 s.b2 s.b3 i=true→kB t.m i=false):=by
  intro i hi
  unfold kB chkB
  rw [if_pos rfl]
  cases hm:mAt t.m i with
  | none=>exact⟨rfl,fun _=>rfl⟩
  | some m=>
    have hz:=at_nz h h4 hi hm
    obtain⟨hf,hmv⟩:=rB h hm
    have hne:¬m.f=0:=by omega
    have hw:=j0 hmv hne
    have hp:decide (0<m.f)=true:=by simp;omega
    refine⟨?_,fun hz'=>by rw [hz]at hz';cases hz'⟩
    have e:((!m.o&&evIn m.h [107])&&(m.t==IntKind.i64.wrap (i+1)))=st9 m:=by
     unfold st9
     rw [hp,←hf]
     clear hz hm hmv hne hp hf
     obtain⟨f,tt,o,hh,b⟩:=m
     dsimp only at hw ⊢
     simp only [List.mem_cons,List.not_mem_nil,or_false,Prod.mk.injEq]at hw
     rcases hw with⟨rfl,rfl⟩ | ⟨rfl,rfl⟩ | ⟨rfl,rfl⟩ | ⟨rfl,rfl⟩ | ⟨rfl,rfl⟩ | ⟨rfl,rfl⟩ | ⟨rfl,rfl⟩ | ⟨rfl,rfl⟩ | ⟨rfl,rfl⟩ | ⟨rfl,rfl⟩ | ⟨rfl,rfl⟩<;>simp [evIn,hasC]
    simp only
    rw [e]
 obtain⟨a1,z1⟩:=g 1 (by simp)
 obtain⟨a2,z2⟩:=g 2 (by simp)
 obtain⟨a3,z3⟩:=g 3 (by simp)
 have t0:pM s t 9=false:=rfl
 unfold tO
 rw [a1,a2,a3,t0]
 generalize kB t.m 1=c1 at *
 generalize kB t.m 2=c2 at *
 generalize kB t.m 3=c3 at *
 have y1:bzB s.b1 s.b2 s.b3 1=(s.b1==0):=rfl
 have y2:bzB s.b1 s.b2 s.b3 2=(s.b2==0):=rfl
 have y3:bzB s.b1 s.b2 s.b3 3=(s.b3==0):=rfl
 rw [y1]at z1
 rw [y2]at z2
 rw [y3]at z3
 rw [y1,y2,y3]
 unfold nz
 generalize (s.b1==0)=d1 at *
 generalize (s.b2==0)=d2 at *
 generalize (s.b3==0)=d3 at *
 generalize t.m.any balk=bb
 clear g a1 a2 a3 t0 y1 y2 y3 h4
 revert z1 z2 z3
 cases bb<;>cases d1<;>cases d2<;>cases d3<;>cases c1<;>cases c2<;>cases c3<;>decide
end
end
end Go.Ev
