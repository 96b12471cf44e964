import Derived.Test.YthobdjmonidpoaaGreatDoorDQ4
set_option linter.unusedSimpArgs false
set_option linter.unusedVariables false
namespace Go.Ev
open Go.RowKit Go.Proofs
set_option maxRecDepth 100000
set_option maxHeartbeats 4000000
set_option linter.unusedSimpArgs false
noncomputable section
theorem aw6 {m:Mv}(h:mvE m=0):∃w∈wayT,w.1=m.o∧w.2.1=m.h∧reachB (if m.f=0 then w.2.2.1 else w.2.2.2) m.f m.t=true:=by
 have h:=(fR h).2.2.2.2
 unfold aw7 at h
 split at h
 · rename_i w hw
   unfold findL at hw
   have h1:=List.find?_some hw
   have h2:=List.mem_of_find?_eq_some hw
   simp only [Bool.and_eq_true,beq_iff_eq,decide_eq_true_eq]at h1
   by_cases h3:reachB (if m.f=0 then w.2.2.1 else w.2.2.2) m.f m.t=true
   · exact⟨w,h2,h1.1,h1.2,h3⟩
   · rw [if_neg h3]at h;cases h
 · cases h
theorem ajN {m:Mv}(h:mvE m=0):∃x∈OL,m.h=[x]:=by
 obtain⟨w,hw,h1,h2,_⟩:=aw6 h
 have:∀w∈wayT,∃x∈OL,w.2.1=[x]:=by
  intro w hw
  simp only [wayT,List.mem_cons,List.not_mem_nil,or_false]at hw
  rcases hw with rfl|rfl|rfl|rfl|rfl|rfl|rfl|rfl|rfl|rfl|rfl|rfl|rfl|rfl<;>exact⟨_,by simp [OL],rfl⟩
 obtain⟨x,hx,e⟩:=this w hw
 exact⟨x,hx,h2▸e⟩
theorem s181 {c h:List Nat}(hc:c∈CL) (hh:∃x∈OL,h=[x]):wO (c,h,())=some (evIn h c):=by
 obtain⟨x,hx,rfl⟩:=hh
 show(if(c∈CL∧x∈OL)∨_ then _ else _)=_
 rw [if_pos (Or.inl ⟨hc,hx⟩)];rfl
theorem ajg {m:Mv}{b:Bool}{u:List Nat}(hu:u.length≤4) (hm:mvE m=0):fL (m,b,u,())=some ((m.o==b)&&evIn m.h u):=by
 obtain⟨x,hx,e⟩:=ajN hm
 rw [is_r hu (by simp [e])]
 unfold isM
 rw [e];rfl
theorem oV {l:List Mv}{k:Int}{m:Mv}(h:aB l=0) (hm:mAt l k=some m):m.f=k∧mvE m=0:=by
 have h1:=List.find?_some hm
 have h2:=List.mem_of_find?_eq_some hm
 refine⟨by simpa using h1,?_⟩
 clear hm h1
 revert h2
 refine sh_cases h ?_ ?_ ?_ ?_ ?_ ?_ ?_ ?_ ?_ ?_ ?_ ?_ ?_ ?_ ?_ ?_<;>intros<;>simp only [vMv,List.mem_cons,List.not_mem_nil,or_false]at *<;>rename_i hx<;>(try exact hx.elim)<;>(try (rcases hx with rfl|rfl|rfl|rfl))<;>(try (rcases hx with rfl|rfl|rfl))<;>(try (rcases hx with rfl|rfl))<;>(try subst hx)<;>simp_all
theorem r3_p {s:Tn}(h:aB s.p_m=0):bqA (s,())=some ((mAt s.p_m 0).isSome==decide (s.p_e=[])):=by
 show Ez124 s=_
 unfold Ez124 Tz124
 simp only [TS,w6]
 rw [s179 h,obind_some];rfl
def batIn (l:List Mv) (t:List Nat):Bool:=match mAt l 0 with
 | some m=>m.o&&evIn m.h t
 | none=>false
theorem s182 {s:Tn}{t:List Nat}(h:aB s.p_m=0) (ht:t∈CL):zT (s,t,())=some (batIn s.p_m t):=by
 show Ez182 s t=_
 unfold Ez182 Tz182 batIn
 simp only [TS,w6]
 rw [s179 h,obind_some]
 cases hb:mAt s.p_m 0 with
 | none=>rfl
 | some m=>
   have hv:=oV h hb
   simp only [Option.getD_some,Option.isSome_some,cond_true]
   rw [s181 ht (ajN hv.2)]
   cases m.o<;>rfl
theorem r6_p {s:Tn}(h:aB s.p_m=0) (hv:vEv s.p_e):ayx (s,())=some (evIn s.p_e [75]&&(!batIn s.p_m [107]&&(!(s.s_b1==0)&&decide (s.s_outs<2)))):=by
 show Ez127 s=_
 unfold Ez127 Tz127
 simp only [TS,w6]
 rw [azS hv (by simp [CL]),obind_some,s182 h (by simp [CL]),obind_some]
 cases evIn s.p_e [75]<;>cases batIn s.p_m [107]<;>cases(s.s_b1==0)<;>rfl
theorem r7_p {s:Tn}(hv:vEv s.p_e):ayw (s,())=some (evIn s.p_e [89]&&((s.s_outs==2)||((s.s_b1==0)||(s.s_b2==0)))):=by
 show Ez128 s=_
 unfold Ez128 Tz128
 simp only [TS,w6]
 rw [azS hv (by simp [CL]),obind_some]
 cases evIn s.p_e [89]<;>cases(s.s_outs==2)<;>cases(s.s_b1==0)<;>rfl
theorem r12_p {s:Tn}:ayr (s,())=some (decide (3<s.outs)):=rfl
theorem r13_p {s:Tn}(h:aB s.p_m=0):ayq (s,())=some (s.p_l&&(decide (s.outs<3)||(((s.p_m.countP rnM:Nat):Int)==0))):=by
 show Ez134 s=_
 unfold Ez134 Tz134
 simp only [TS,w6]
 rw [runs_p (bF h),obind_some]
 cases s.p_l<;>cases decide (s.outs<3)<;>rfl
section
variable {s:St}{t:Pl}
theorem s29 (hl:t.p.length<9223372036854775808):S29 (s.balls,s.strikes,t.p,())=some (yY s.balls s.strikes t.p):=by
 unfold S29;rw [if_pos hl]
def iD (s:St) (t:Pl):CntR:=yY s.balls s.strikes t.p
theorem rr1 (h:aB t.m=0) (hl:t.p.length<9223372036854775808):iS (s,t,1,())=some (!((iD s t).2.2.1==0)):=by
 show iH _ s t 1=_
 unfold iH sD
 simp only [TS,w6]
 rw [s29 hl,obind_some,awV h,obind_some];rfl
theorem rr2 (h:aB t.m=0) (hl:t.p.length<9223372036854775808):iS (s,t,2,())=some (!s8 (askC ((iD s t).1.1,(iD s t).1.2.1) t.p) t.e):=by
 show iH _ s t 2=_
 unfold iH sD
 simp only [TS,w6]
 rw [s29 hl,obind_some,awV h,obind_some,s30 hl,obind_some,s198,obind_some];rfl
theorem rr3 (h:aB t.m=0) (hl:t.p.length<9223372036854775808):iS (s,t,3,())=some (!((mAt t.m 0).isSome==(!decide (t.e=[])))):=by
 show iH _ s t 3=_
 unfold iH sD
 simp only [TS,w6]
 rw [s29 hl,obind_some,awV h,obind_some];rfl
theorem rr7 (h:aB t.m=0) (hl:t.p.length<9223372036854775808):iS (s,t,7,())=some (decide (t.e=[89])&&((s.outs==2)||((s.b1==0)||(s.b2==0)))):=by
 show iH _ s t 7=_
 unfold iH sD
 simp only [TS,w6]
 rw [s29 hl,obind_some,awV h,obind_some]
 show cond _ _ _=_
 cases decide (t.e=[89])<;>cases(s.outs==2)<;>cases(s.b1==0)<;>rfl
theorem rr12 (h:aB t.m=0) (hl:t.p.length<9223372036854775808):iS (s,t,12,())=some (decide (3<IntKind.i64.wrap (s.outs+((t.m.countP (·.o):Nat):Int)))):=by
 show iH _ s t 12=_
 unfold iH sD
 simp only [TS,w6]
 obtain⟨p,e,b,l⟩:=t
 rw [s29 hl,obind_some,awV h,obind_some,av6 (bF h),obind_some];rfl
theorem s155 (h:aB t.m=0):ayl (s,t,())=some (IntKind.i64.wrap (s.outs+((t.m.countP (·.o):Nat):Int))==3):=by
 obtain⟨p,e,b,l⟩:=t
 show Ez155 s _=_
 unfold Ez155 Tz155
 simp only [TS,w6]
 rw [av6 (bF h),obind_some]
theorem rr13 (h:aB t.m=0) (hl:t.p.length<9223372036854775808):iS (s,t,13,())=some (t.l&&(!(IntKind.i64.wrap (s.outs+((t.m.countP (·.o):Nat):Int))==3)||(((t.m.countP rnM:Nat):Int)==0))):=by
 show iH _ s t 13=_
 unfold iH sD
 simp only [TS,w6]
 rw [s29 hl,obind_some,awV h,obind_some,s155 h,obind_some]
 obtain⟨p,e,b,l⟩:=t
 rw [runs_r (bF h),obind_some]
 show cond _ _ _=_
 cases b<;>cases(IntKind.i64.wrap (s.outs+((l.countP (·.o):Nat):Int))==3)<;>rfl
end
end
end Go.Ev
