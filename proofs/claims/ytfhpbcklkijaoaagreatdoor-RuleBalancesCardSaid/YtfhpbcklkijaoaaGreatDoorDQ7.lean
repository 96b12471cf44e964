import Derived.Test.YtfhpbcklkijaoaaGreatDoorDQ4
set_option linter.unusedSimpArgs false
set_option linter.unusedVariables false
namespace Go.Ev
open Go.RowKit Go.Proofs
set_option maxRecDepth 100000
set_option maxHeartbeats 4000000
set_option linter.unusedSimpArgs false
noncomputable section
theorem awe {m:Mv}(h:mvE m=0):∃w∈wayT,w.1=m.o∧w.2.1=m.h∧reachB (if m.f=0 then w.2.2.1 else w.2.2.2) m.f m.t=true:=by
 have h:=(iS h).2.2.2.2
 unfold awf at h
 split at h
 · rename_i w hw
   unfold findL at hw
   have h1:=List.find?_some hw
   have h2:=List.mem_of_find?_eq_some hw
   simp only [Bool.and_eq_true,beq_iff_eq,decide_eq_true_eq]at h1
   by_cases h3:reachB (if m.f=0 then w.2.2.1 else w.2.2.2) m.f m.t=true
   · exact⟨w,h2,h1.1,h1.2,h3⟩
   · rw [if_neg h3]at h;cases h
 · cases h
theorem azb {m:Mv}(h:mvE m=0):∃x∈OL,m.h=[x]:=by
 obtain⟨w,hw,h1,h2,_⟩:=awe h
 have:∀w∈wayT,∃x∈OL,w.2.1=[x]:=by
  intro w hw
  simp only [wayT,List.mem_cons,List.not_mem_nil,or_false]at hw
  rcases hw with rfl|rfl|rfl|rfl|rfl|rfl|rfl|rfl|rfl|rfl|rfl|rfl|rfl|rfl<;>exact⟨_,by simp [OL],rfl⟩
 obtain⟨x,hx,e⟩:=this w hw
 exact⟨x,hx,h2▸e⟩
theorem s181 {c h:List Nat}(hc:c∈CL) (hh:∃x∈OL,h=[x]):wU (c,h,())=some (evIn h c):=by
 obtain⟨x,hx,rfl⟩:=hh
 show(if(c∈CL∧x∈OL)∨_ then _ else _)=_
 rw [if_pos (Or.inl ⟨hc,hx⟩)];rfl
theorem xY {l:List Mv}{k:Int}{m:Mv}(h:aC l=0) (hm:mAt l k=some m):m.f=k∧mvE m=0:=by
 have h1:=List.find?_some hm
 have h2:=List.mem_of_find?_eq_some hm
 refine⟨by simpa using h1,?_⟩
 clear hm h1
 revert h2
 refine sh_cases h ?_ ?_ ?_ ?_ ?_ ?_ ?_ ?_ ?_ ?_ ?_ ?_ ?_ ?_ ?_ ?_<;>intros<;>simp only [vMv,List.mem_cons,List.not_mem_nil,or_false]at *<;>rename_i hx<;>(try exact hx.elim)<;>(try (rcases hx with rfl|rfl|rfl|rfl))<;>(try (rcases hx with rfl|rfl|rfl))<;>(try (rcases hx with rfl|rfl))<;>(try subst hx)<;>simp_all
theorem r3_p {s:Tn}(h:aC s.p_m=0):awK (s,())=some ((mAt s.p_m 0).isSome==decide (s.p_e=[])):=by
 show Ez124 s=_
 unfold Ez124 Tz124
 simp only [TS,w6]
 rw [s179 h,obind_some];rfl
def batIn (l:List Mv) (t:List Nat):Bool:=match mAt l 0 with
 | some m=>m.o&&evIn m.h t
 | none=>false
theorem s182 {s:Tn}{t:List Nat}(h:aC s.p_m=0) (ht:t∈CL):zX (s,t,())=some (batIn s.p_m t):=by
 show Ez182 s t=_
 unfold Ez182 Tz182 batIn
 simp only [TS,w6]
 rw [s179 h,obind_some]
 cases hb:mAt s.p_m 0 with
 | none=>rfl
 | some m=>
   have hv:=xY h hb
   simp only [Option.getD_some,Option.isSome_some,cond_true]
   rw [s181 ht (azb hv.2)]
   cases m.o<;>rfl
theorem r6_p {s:Tn}(h:aC s.p_m=0) (hv:vEv s.p_e):awH (s,())=some (evIn s.p_e [75]&&(!batIn s.p_m [107]&&(!(s.s_b1==0)&&decide (s.s_outs<2)))):=by
 show Ez127 s=_
 unfold Ez127 Tz127
 simp only [TS,w6]
 rw [az0 hv (by simp [CL]),obind_some,s182 h (by simp [CL]),obind_some]
 cases evIn s.p_e [75]<;>cases batIn s.p_m [107]<;>cases(s.s_b1==0)<;>rfl
theorem r7_p {s:Tn}(hv:vEv s.p_e):awG (s,())=some (evIn s.p_e [89]&&((s.s_outs==2)||((s.s_b1==0)||(s.s_b2==0)))):=by
 show Ez128 s=_
 unfold Ez128 Tz128
 simp only [TS,w6]
 rw [az0 hv (by simp [CL]),obind_some]
 cases evIn s.p_e [89]<;>cases(s.s_outs==2)<;>cases(s.s_b1==0)<;>rfl
theorem r12_p {s:Tn}:awB (s,())=some (decide (3<s.outs)):=rfl
theorem r13_p {s:Tn}(h:aC s.p_m=0):awA (s,())=some (s.p_l&&(decide (s.outs<3)||(((s.p_m.countP rnM:Nat):Int)==0))):=by
 show Ez134 s=_
 unfold Ez134 Tz134
 simp only [TS,w6]
 rw [runs_p (fT h),obind_some]
 cases s.p_l<;>cases decide (s.outs<3)<;>rfl
section
variable {s:St}{t:Pl}
def jS (s:St) (t:Pl):CntR:=azC s.balls s.strikes t.p
end
end
end Go.Ev
namespace Go.Ev
open Go.RowKit Go.Proofs
set_option maxRecDepth 100000
set_option maxHeartbeats 8000000
set_option linter.unusedSimpArgs false
noncomputable section
theorem ayf {m:Mv}(h:mvE m=0) (hf:m.f=0):(m.o,m.h)∈[(false,[98]),(false,[97]),(false,[112]),(false,[116]),(false,[111]),(true,[102]),(true,[103]),(true,[99]),(true,[107]),(true,[110]),(true,[121])]:=by
 obtain⟨w,hw,h1,h2,h3⟩:=awe h
 rw [if_pos hf,hf]at h3
 simp only [wayT,List.mem_cons,List.not_mem_nil,or_false]at hw
 rw [←h1,←h2]
 rcases hw with rfl|rfl|rfl|rfl|rfl|rfl|rfl|rfl|rfl|rfl|rfl|rfl|rfl|rfl<;>simp [reachB]at h3 ⊢
def batFits (e:List Nat) (m:Mv):Bool:=if e=[75]then(m.o&&evIn m.h [107,102,103])||(!m.o&&evIn m.h [112,116])
 else if e=[87]∨e=[72]∨e=[73]then(!m.o&&evIn m.h [97])&&(m.t==1)
 else if e=[88]then(!m.o&&evIn m.h [98,116,111])||(m.o&&evIn m.h [102,99,103])
 else if e=[78]then m.o&&evIn m.h [110]else m.o&&evIn m.h [121]
theorem r5_p {s:Tn}(h:aC s.p_m=0) (hv:vEv s.p_e) (h3:(mAt s.p_m 0).isSome=!decide (s.p_e=[])):awI (s,())=some (match mAt s.p_m 0 with
  | some m=>!batFits s.p_e m
  | none=>false):=by
 show Ez126 s=_
 unfold Ez126 Tz126
 simp only [TS,w6]
 rw [s179 h,obind_some]
 cases hb:mAt s.p_m 0 with
 | none=>rfl
 | some m=>
   have hm:=xY h hb
   rw [hb]at h3
   simp only [Option.isSome_some]at h3
   simp only [Option.getD_some,Option.isSome_some,Bool.not_true,cond_false]
   have hS:=fun c (hc:c∈CL)=>s181 hc (azb hm.2)
   rw [hS [107,102,103,112,116] (by simp [CL]),hS [97] (by simp [CL]),hS [98,116,111,102,99,103] (by simp [CL]),hS [110] (by simp [CL]),hS [121] (by simp [CL]),hS [] (by simp [CL])]
   simp only [obind_some]
   have hw:=ayf hm.2 hm.1
   clear hS hm hb
   obtain⟨f,t,o,hh,b⟩:=m
   dsimp only at hw ⊢
   rcases hv with hv|⟨x,hx,hv⟩
   · rw [hv]at h3;simp at h3
   rw [hv]
   clear hv h3
   simp only [List.mem_cons,List.not_mem_nil,or_false]at hx
   simp only [List.mem_cons,List.not_mem_nil,or_false,Prod.mk.injEq]at hw
   rcases hx with rfl|rfl|rfl|rfl|rfl|rfl|rfl<;>rcases hw with⟨rfl,rfl⟩ | ⟨rfl,rfl⟩ | ⟨rfl,rfl⟩ | ⟨rfl,rfl⟩ | ⟨rfl,rfl⟩ | ⟨rfl,rfl⟩ | ⟨rfl,rfl⟩ | ⟨rfl,rfl⟩ | ⟨rfl,rfl⟩ | ⟨rfl,rfl⟩ | ⟨rfl,rfl⟩<;>simp [batFits,evIn,hasC]
end
end Go.Ev
namespace Go.Ev
open Go.RowKit Go.Proofs
set_option maxRecDepth 100000
set_option maxHeartbeats 8000000
set_option linter.unusedSimpArgs false
noncomputable section
theorem aj4 {m:Mv}(h:mvE m=0) (hf:¬m.f=0):(m.o,m.h)∈[(false,[98]),(false,[97]),(false,[115]),(false,[112]),(false,[107]),(false,[116]),(false,[111]),(true,[102]),(true,[103]),(true,[100]),(true,[110])]:=by
 obtain⟨w,hw,h1,h2,h3⟩:=awe h
 rw [if_neg hf]at h3
 simp only [wayT,List.mem_cons,List.not_mem_nil,or_false]at hw
 rw [←h1,←h2]
 rcases hw with rfl|rfl|rfl|rfl|rfl|rfl|rfl|rfl|rfl|rfl|rfl|rfl|rfl|rfl<;>simp [reachB]at h3 ⊢
def fcdB (f1 f2 f3:Bool) (f:Int):Bool:=if f=1 then f1 else if f=2 then f2 else f3
def wayB (e p:List Nat) (fc bc bk:Bool) (m:Mv):Bool:=
 if m.h=[98]then decide (e=[88])||decide (e=[89])
 else if m.h=[97]then(decide (e=[87])||(decide (e=[72])||decide (e=[73])))&&(fc&&(m.t==IntKind.i64.wrap (m.f+1)))
 else if m.h=[115]then decide (e=[])||(decide (e=[75])||decide (e=[87]))
 else if m.h=[112]then(decide (e=[])||(decide (e=[75])||decide (e=[87])))&&!decide (p=[])
 else if m.h=[107]then decide (e=[])
 else if m.h=[102]then fc&&((decide (e=[88])||decide (e=[75]))&&!bk)
 else if m.h=[100]then decide (e=[89])||bc
 else !(decide (e=[72])||(decide (e=[73])||decide (e=[78])))
theorem s183 {s:Tn}{m:Mv}(h:aC s.p_m=0) (hv:vEv s.p_e) (hm:mvE m=0) (hf:¬m.f=0) (ho:m.o=true):Sz183 (s,m,())=some (wayB s.p_e s.p_p (fcdB s.f1 s.f2 s.f3 m.f) (batIn s.p_m [99]) (batIn s.p_m [99,107]) m):=by
 show Ez183 s m=_
 unfold Ez183 Tz183
 simp only [TS,w6]
 rw [az0 (t:=[88,75]) hv (by simp [CL]),az0 (t:=[89]) hv (by simp [CL]),az0 (t:=[72,73,78]) hv (by simp [CL]),s182 (t:=[99,107]) h (by simp [CL]),s182 (t:=[99]) h (by simp [CL])]
 simp only [obind_some]
 have hw:=aj4 hm hf
 have hr:=iS hm
 have h4:m.f=1∨m.f=2∨m.f=3:=by omega
 generalize batIn s.p_m [99]=bc
 generalize batIn s.p_m [99,107]=bk
 obtain⟨f,t,o,hh,b⟩:=m
 dsimp only at hw ho h4 ⊢
 clear hm hf hr
 subst ho
 simp only [List.mem_cons,List.not_mem_nil,or_false,Prod.mk.injEq]at hw
 rcases hv with hv|⟨x,hx,hv⟩
 · rw [hv]
   rcases h4 with rfl|rfl|rfl<;>rcases hw with⟨hh,rfl⟩ | ⟨hh,rfl⟩ | ⟨hh,rfl⟩ | ⟨hh,rfl⟩ | ⟨hh,rfl⟩ | ⟨hh,rfl⟩ | ⟨hh,rfl⟩ | ⟨hh,rfl⟩ | ⟨hh,rfl⟩ | ⟨hh,rfl⟩ | ⟨hh,rfl⟩<;>first|(cases hh;done)|(simp [wayB,fcdB,evIn];done)|(simp [wayB,fcdB,evIn];cases s.f1<;>cases s.f2<;>cases s.f3<;>cases bc<;>cases bk<;>rfl)
 · rw [hv]
   simp only [List.mem_cons,List.not_mem_nil,or_false]at hx
   rcases hx with rfl|rfl|rfl|rfl|rfl|rfl|rfl<;>rcases h4 with rfl|rfl|rfl<;>rcases hw with⟨hh,rfl⟩ | ⟨hh,rfl⟩ | ⟨hh,rfl⟩ | ⟨hh,rfl⟩ | ⟨hh,rfl⟩ | ⟨hh,rfl⟩ | ⟨hh,rfl⟩ | ⟨hh,rfl⟩ | ⟨hh,rfl⟩ | ⟨hh,rfl⟩ | ⟨hh,rfl⟩<;>first|(cases hh;done)|(simp [wayB,fcdB,evIn,hasC];done)|(simp [wayB,fcdB,evIn,hasC];cases s.f1<;>cases s.f2<;>cases s.f3<;>cases bc<;>cases bk<;>rfl)
theorem s184 {s:Tn}{m:Mv}(hv:vEv s.p_e) (hm:mvE m=0) (hf:¬m.f=0) (ho:m.o=false) (bc bk:Bool):ayo (s,m,())=some (wayB s.p_e s.p_p (fcdB s.f1 s.f2 s.f3 m.f) bc bk m):=by
 show Ez184 s m=_
 unfold Ez184 Tz184
 simp only [TS,w6]
 have h5:pD (s,())=some (decide (s.p_e=[])):=rfl
 rw [az0 (t:=[88,89]) hv (by simp [CL]),az0 (t:=[87,72,73]) hv (by simp [CL]),az0 (t:=[75,87]) hv (by simp [CL]),az0 (t:=[72,73,78]) hv (by simp [CL]),h5]
 simp only [obind_some]
 have hw:=aj4 hm hf
 have hr:=iS hm
 have h4:m.f=1∨m.f=2∨m.f=3:=by omega
 obtain⟨f,t,o,hh,b⟩:=m
 dsimp only at hw ho h4 ⊢
 clear hm hf hr
 subst ho
 simp only [List.mem_cons,List.not_mem_nil,or_false,Prod.mk.injEq]at hw
 rcases hv with hv|⟨x,hx,hv⟩
 · rw [hv]
   rcases h4 with rfl|rfl|rfl<;>rcases hw with⟨hh,rfl⟩ | ⟨hh,rfl⟩ | ⟨hh,rfl⟩ | ⟨hh,rfl⟩ | ⟨hh,rfl⟩ | ⟨hh,rfl⟩ | ⟨hh,rfl⟩ | ⟨hh,rfl⟩ | ⟨hh,rfl⟩ | ⟨hh,rfl⟩ | ⟨hh,rfl⟩<;>first|(cases hh;done)|(simp [wayB,fcdB,evIn];done)|(simp [wayB,fcdB,evIn];cases s.f1<;>cases s.f2<;>cases s.f3<;>rfl)
 · rw [hv]
   simp only [List.mem_cons,List.not_mem_nil,or_false]at hx
   rcases hx with rfl|rfl|rfl|rfl|rfl|rfl|rfl<;>rcases h4 with rfl|rfl|rfl<;>rcases hw with⟨hh,rfl⟩ | ⟨hh,rfl⟩ | ⟨hh,rfl⟩ | ⟨hh,rfl⟩ | ⟨hh,rfl⟩ | ⟨hh,rfl⟩ | ⟨hh,rfl⟩ | ⟨hh,rfl⟩ | ⟨hh,rfl⟩ | ⟨hh,rfl⟩ | ⟨hh,rfl⟩<;>first|(cases hh;done)|(simp [wayB,fcdB,evIn,hasC];done)|(simp [wayB,fcdB,evIn,hasC];cases s.f1<;>cases s.f2<;>cases s.f3<;>rfl)
end
end Go.Ev
