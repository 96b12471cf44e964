import Derived.Test.YtkhmgggponmimaaGreatDoorDQ5
set_option linter.unusedSimpArgs false
set_option linter.unusedVariables false
namespace Go.Ev
open Go.RowKit Go.Proofs
set_option maxRecDepth 100000
set_option maxHeartbeats 8000000
set_option linter.unusedSimpArgs false
noncomputable section
theorem ay5 {m:Mv}(h:mvE m=0) (hf:m.f=0):(m.o,m.h)∈[(false,[98]),(false,[97]),(false,[112]),(false,[116]),(false,[111]),(true,[102]),(true,[103]),(true,[99]),(true,[107]),(true,[110]),(true,[121])]:=by
 obtain⟨w,hw,h1,h2,h3⟩:=aw2 h
 rw [if_pos hf,hf]at h3
 simp only [wayT,List.mem_cons,List.not_mem_nil,or_false]at hw
 rw [←h1,←h2]
 rcases hw with rfl|rfl|rfl|rfl|rfl|rfl|rfl|rfl|rfl|rfl|rfl|rfl|rfl|rfl<;>simp [reachB]at h3 ⊢
def batFits (e:List Nat) (m:Mv):Bool:=if e=[75]then(m.o&&evIn m.h [107,102,103])||(!m.o&&evIn m.h [112,116])
 else if e=[87]∨e=[72]∨e=[73]then(!m.o&&evIn m.h [97])&&(m.t==1)
 else if e=[88]then(!m.o&&evIn m.h [98,116,111])||(m.o&&evIn m.h [102,99,103])
 else if e=[78]then m.o&&evIn m.h [110]else m.o&&evIn m.h [121]
theorem r5_p {s:Tn}(h:aC s.p_m=0) (hv:vEv s.p_e) (h3:(mAt s.p_m 0).isSome=!decide (s.p_e=[])):aky (s,())=some (match mAt s.p_m 0 with
  | some m=>!batFits s.p_e m
  | none=>false):=by
 show Ez126 s=_
 unfold Ez126 Tz126
 simp only [TS,w6]
 rw [s179 h,obind_some]
 cases hb:mAt s.p_m 0 with
 | none=>rfl
 | some m=>
   have hm:=xT h hb
   rw [hb]at h3
   simp only [Option.isSome_some]at h3
   simp only [Option.getD_some,Option.isSome_some,Bool.not_true,cond_false]
   have hS:=fun c (hc:c∈CL)=>s181 hc (azZ hm.2)
   rw [hS [107,102,103,112,116] (by simp [CL]),hS [97] (by simp [CL]),hS [98,116,111,102,99,103] (by simp [CL]),hS [110] (by simp [CL]),hS [121] (by simp [CL]),hS [] (by simp [CL])]
   simp only [obind_some]
   have hw:=ay5 hm.2 hm.1
   clear hS hm hb
   obtain⟨f,t,o,hh,b⟩:=m
   dsimp only at hw ⊢
   rcases hv with hv|⟨x,hx,hv⟩
   · rw [hv]at h3;simp at h3
   rw [hv]
   clear hv h3
   simp only [List.mem_cons,List.not_mem_nil,or_false]at hx
   simp only [List.mem_cons,List.not_mem_nil,or_false,Prod.mk.injEq]at hw
   rcases hx with rfl|rfl|rfl|rfl|rfl|rfl|rfl<;>rcases hw with⟨rfl,rfl⟩ | ⟨rfl,rfl⟩ | ⟨rfl,rfl⟩ | ⟨rfl,rfl⟩ | ⟨rfl,rfl⟩ | ⟨rfl,rfl⟩ | ⟨rfl,rfl⟩ | ⟨rfl,rfl⟩ | ⟨rfl,rfl⟩ | ⟨rfl,rfl⟩ | ⟨rfl,rfl⟩<;>simp [batFits,evIn,hasC]
end
end Go.Ev
namespace Go.Ev
open Go.RowKit Go.Proofs
set_option maxRecDepth 100000
set_option maxHeartbeats 8000000
set_option linter.unusedSimpArgs false
noncomputable section
theorem ajT {m:Mv}(h:mvE m=0) (hf:¬m.f=0):(m.o,m.h)∈[(false,[98]),(false,[97]),(false,[115]),(false,[112]),(false,[107]),(false,[116]),(false,[111]),(true,[102]),(true,[103]),(true,[100]),(true,[110])]:=by
 obtain⟨w,hw,h1,h2,h3⟩:=aw2 h
 rw [if_neg hf]at h3
 simp only [wayT,List.mem_cons,List.not_mem_nil,or_false]at hw
 rw [←h1,←h2]
 rcases hw with rfl|rfl|rfl|rfl|rfl|rfl|rfl|rfl|rfl|rfl|rfl|rfl|rfl|rfl<;>simp [reachB]at h3 ⊢
def fcdB (f1 f2 f3:Bool) (f:Int):Bool:=if f=1 then f1 else if f=2 then f2 else f3
def wayB (e p:List Nat) (fc bc bk:Bool) (m:Mv):Bool:=
 if m.h=[98]then decide (e=[88])||decide (e=[89])
 else if m.h=[97]then(decide (e=[87])||(decide (e=[72])||decide (e=[73])))&&(fc&&(m.t==IntKind.i64.wrap (m.f+1)))
 else if m.h=[115]then decide (e=[])||(decide (e=[75])||decide (e=[87]))
 else if m.h=[112]then(decide (e=[])||(decide (e=[75])||decide (e=[87])))&&!decide (p=[])
 else if m.h=[107]then decide (e=[])
 else if m.h=[102]then fc&&((decide (e=[88])||decide (e=[75]))&&!bk)
 else if m.h=[100]then decide (e=[89])||bc
 else !(decide (e=[72])||(decide (e=[73])||decide (e=[78])))
theorem s183 {s:Tn}{m:Mv}(h:aC s.p_m=0) (hv:vEv s.p_e) (hm:mvE m=0) (hf:¬m.f=0) (ho:m.o=true):Sz183 (s,m,())=some (wayB s.p_e s.p_p (fcdB s.f1 s.f2 s.f3 m.f) (batIn s.p_m [99]) (batIn s.p_m [99,107]) m):=by
 show Ez183 s m=_
 unfold Ez183 Tz183
 simp only [TS,w6]
 rw [azK (t:=[88,75]) hv (by simp [CL]),azK (t:=[89]) hv (by simp [CL]),azK (t:=[72,73,78]) hv (by simp [CL]),s182 (t:=[99,107]) h (by simp [CL]),s182 (t:=[99]) h (by simp [CL])]
 simp only [obind_some]
 have hw:=ajT hm hf
 have hr:=fQ hm
 have h4:m.f=1∨m.f=2∨m.f=3:=by omega
 generalize batIn s.p_m [99]=bc
 generalize batIn s.p_m [99,107]=bk
 obtain⟨f,t,o,hh,b⟩:=m
 dsimp only at hw ho h4 ⊢
 clear hm hf hr
 subst ho
 simp only [List.mem_cons,List.not_mem_nil,or_false,Prod.mk.injEq]at hw
 rcases hv with hv|⟨x,hx,hv⟩
 · rw [hv]
   rcases h4 with rfl|rfl|rfl<;>rcases hw with⟨hh,rfl⟩ | ⟨hh,rfl⟩ | ⟨hh,rfl⟩ | ⟨hh,rfl⟩ | ⟨hh,rfl⟩ | ⟨hh,rfl⟩ | ⟨hh,rfl⟩ | ⟨hh,rfl⟩ | ⟨hh,rfl⟩ | ⟨hh,rfl⟩ | ⟨hh,rfl⟩<;>first|(cases hh;done)|(simp [wayB,fcdB,evIn];done)|(simp [wayB,fcdB,evIn];cases s.f1<;>cases s.f2<;>cases s.f3<;>cases bc<;>cases bk<;>rfl)
 · rw [hv]
   simp only [List.mem_cons,List.not_mem_nil,or_false]at hx
   rcases hx with rfl|rfl|rfl|rfl|rfl|rfl|rfl<;>rcases h4 with rfl|rfl|rfl<;>rcases hw with⟨hh,rfl⟩ | ⟨hh,rfl⟩ | ⟨hh,rfl⟩ | ⟨hh,rfl⟩ | ⟨hh,rfl⟩ | ⟨hh,rfl⟩ | ⟨hh,rfl⟩ | ⟨hh,rfl⟩ | ⟨hh,rfl⟩ | ⟨hh,rfl⟩ | ⟨hh,rfl⟩<;>first|(cases hh;done)|(simp [wayB,fcdB,evIn,hasC];done)|(simp [wayB,fcdB,evIn,hasC];cases s.f1<;>cases s.f2<;>cases s.f3<;>cases bc<;>cases bk<;>rfl)
theorem s184 {s:Tn}{m:Mv}(hv:vEv s.p_e) (hm:mvE m=0) (hf:¬m.f=0) (ho:m.o=false) (bc bk:Bool):ayf (s,m,())=some (wayB s.p_e s.p_p (fcdB s.f1 s.f2 s.f3 m.f) bc bk m):=by
 show Ez184 s m=_
 unfold Ez184 Tz184
 simp only [TS,w6]
 have h5:s4 (s,())=some (decide (s.p_e=[])):=rfl
 rw [azK (t:=[88,89]) hv (by simp [CL]),azK (t:=[87,72,73]) hv (by simp [CL]),azK (t:=[75,87]) hv (by simp [CL]),azK (t:=[72,73,78]) hv (by simp [CL]),h5]
 simp only [obind_some]
 have hw:=ajT hm hf
 have hr:=fQ hm
 have h4:m.f=1∨m.f=2∨m.f=3:=by omega
 obtain⟨f,t,o,hh,b⟩:=m
 dsimp only at hw ho h4 ⊢
 clear hm hf hr
 subst ho
 simp only [List.mem_cons,List.not_mem_nil,or_false,Prod.mk.injEq]at hw
 rcases hv with hv|⟨x,hx,hv⟩
 · rw [hv]
   rcases h4 with rfl|rfl|rfl<;>rcases hw with⟨hh,rfl⟩ | ⟨hh,rfl⟩ | ⟨hh,rfl⟩ | ⟨hh,rfl⟩ | ⟨hh,rfl⟩ | ⟨hh,rfl⟩ | ⟨hh,rfl⟩ | ⟨hh,rfl⟩ | ⟨hh,rfl⟩ | ⟨hh,rfl⟩ | ⟨hh,rfl⟩<;>first|(cases hh;done)|(simp [wayB,fcdB,evIn];done)|(simp [wayB,fcdB,evIn];cases s.f1<;>cases s.f2<;>cases s.f3<;>rfl)
 · rw [hv]
   simp only [List.mem_cons,List.not_mem_nil,or_false]at hx
   rcases hx with rfl|rfl|rfl|rfl|rfl|rfl|rfl<;>rcases h4 with rfl|rfl|rfl<;>rcases hw with⟨hh,rfl⟩ | ⟨hh,rfl⟩ | ⟨hh,rfl⟩ | ⟨hh,rfl⟩ | ⟨hh,rfl⟩ | ⟨hh,rfl⟩ | ⟨hh,rfl⟩ | ⟨hh,rfl⟩ | ⟨hh,rfl⟩ | ⟨hh,rfl⟩ | ⟨hh,rfl⟩<;>first|(cases hh;done)|(simp [wayB,fcdB,evIn,hasC];done)|(simp [wayB,fcdB,evIn,hasC];cases s.f1<;>cases s.f2<;>cases s.f3<;>rfl)
end
end Go.Ev
