import Derived.Test.YtkhmgggponmimaaGreatDoorDQ4
set_option linter.unusedSimpArgs false
set_option linter.unusedVariables false
namespace Go.Ev
open Go.RowKit Go.Proofs
set_option maxRecDepth 100000
set_option maxHeartbeats 4000000
set_option linter.unusedSimpArgs false
noncomputable section
theorem aw2 {m:Mv}(h:mvE m=0):∃w∈wayT,w.1=m.o∧w.2.1=m.h∧reachB (if m.f=0 then w.2.2.1 else w.2.2.2) m.f m.t=true:=by
 have h:=(fQ h).2.2.2.2
 unfold wayE at h
 split at h
 · rename_i w hw
   unfold findL at hw
   have h1:=List.find?_some hw
   have h2:=List.mem_of_find?_eq_some hw
   simp only [Bool.and_eq_true,beq_iff_eq,decide_eq_true_eq]at h1
   by_cases h3:reachB (if m.f=0 then w.2.2.1 else w.2.2.2) m.f m.t=true
   · exact⟨w,h2,h1.1,h1.2,h3⟩
   · rw [if_neg h3]at h;cases h
 · cases h
theorem azZ {m:Mv}(h:mvE m=0):∃x∈OL,m.h=[x]:=by
 obtain⟨w,hw,h1,h2,_⟩:=aw2 h
 have:∀w∈wayT,∃x∈OL,w.2.1=[x]:=by
  intro w hw
  simp only [wayT,List.mem_cons,List.not_mem_nil,or_false]at hw
  rcases hw with rfl|rfl|rfl|rfl|rfl|rfl|rfl|rfl|rfl|rfl|rfl|rfl|rfl|rfl<;>exact⟨_,by simp [OL],rfl⟩
 obtain⟨x,hx,e⟩:=this w hw
 exact⟨x,hx,h2▸e⟩
theorem s181 {c h:List Nat}(hc:c∈CL) (hh:∃x∈OL,h=[x]):wT (c,h,())=some (evIn h c):=by
 obtain⟨x,hx,rfl⟩:=hh
 show(if(c∈CL∧x∈OL)∨_ then _ else _)=_
 rw [if_pos (Or.inl ⟨hc,hx⟩)];rfl
theorem xT {l:List Mv}{k:Int}{m:Mv}(h:aC l=0) (hm:mAt l k=some m):m.f=k∧mvE m=0:=by
 have h1:=List.find?_some hm
 have h2:=List.mem_of_find?_eq_some hm
 refine⟨by simpa using h1,?_⟩
 clear hm h1
 revert h2
 refine sh_cases h ?_ ?_ ?_ ?_ ?_ ?_ ?_ ?_ ?_ ?_ ?_ ?_ ?_ ?_ ?_ ?_<;>intros<;>simp only [vMv,List.mem_cons,List.not_mem_nil,or_false]at *<;>rename_i hx<;>(try exact hx.elim)<;>(try (rcases hx with rfl|rfl|rfl|rfl))<;>(try (rcases hx with rfl|rfl|rfl))<;>(try (rcases hx with rfl|rfl))<;>(try subst hx)<;>simp_all
theorem r3_p {s:Tn}(h:aC s.p_m=0):awA (s,())=some ((mAt s.p_m 0).isSome==decide (s.p_e=[])):=by
 show Ez124 s=_
 unfold Ez124 Tz124
 simp only [TS,w6]
 rw [s179 h,obind_some];rfl
def batIn (l:List Mv) (t:List Nat):Bool:=match mAt l 0 with
 | some m=>m.o&&evIn m.h t
 | none=>false
theorem s182 {s:Tn}{t:List Nat}(h:aC s.p_m=0) (ht:t∈CL):zP (s,t,())=some (batIn s.p_m t):=by
 show Ez182 s t=_
 unfold Ez182 Tz182 batIn
 simp only [TS,w6]
 rw [s179 h,obind_some]
 cases hb:mAt s.p_m 0 with
 | none=>rfl
 | some m=>
   have hv:=xT h hb
   simp only [Option.getD_some,Option.isSome_some,cond_true]
   rw [s181 ht (azZ hv.2)]
   cases m.o<;>rfl
theorem r6_p {s:Tn}(h:aC s.p_m=0) (hv:vEv s.p_e):akx (s,())=some (evIn s.p_e [75]&&(!batIn s.p_m [107]&&(!(s.s_b1==0)&&decide (s.s_outs<2)))):=by
 show Ez127 s=_
 unfold Ez127 Tz127
 simp only [TS,w6]
 rw [azK hv (by simp [CL]),obind_some,s182 h (by simp [CL]),obind_some]
 cases evIn s.p_e [75]<;>cases batIn s.p_m [107]<;>cases(s.s_b1==0)<;>rfl
theorem r7_p {s:Tn}(hv:vEv s.p_e):akw (s,())=some (evIn s.p_e [89]&&((s.s_outs==2)||((s.s_b1==0)||(s.s_b2==0)))):=by
 show Ez128 s=_
 unfold Ez128 Tz128
 simp only [TS,w6]
 rw [azK hv (by simp [CL]),obind_some]
 cases evIn s.p_e [89]<;>cases(s.s_outs==2)<;>cases(s.s_b1==0)<;>rfl
theorem r12_p {s:Tn}:akr (s,())=some (decide (3<s.outs)):=rfl
theorem r13_p {s:Tn}(h:aC s.p_m=0):akq (s,())=some (s.p_l&&(decide (s.outs<3)||(((s.p_m.countP rnM:Nat):Int)==0))):=by
 show Ez134 s=_
 unfold Ez134 Tz134
 simp only [TS,w6]
 rw [runs_p (dI h),obind_some]
 cases s.p_l<;>cases decide (s.outs<3)<;>rfl
section
variable {s:St}{t:Pl}
def eR (s:St) (t:Pl):CntR:=axo s.balls s.strikes t.p
end
end
end Go.Ev
