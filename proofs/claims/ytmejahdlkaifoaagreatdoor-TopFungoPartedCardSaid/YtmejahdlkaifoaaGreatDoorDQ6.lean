import Derived.Test.YtmejahdlkaifoaaGreatDoorDQ5
set_option linter.unusedSimpArgs false
set_option linter.unusedVariables false
namespace Go.Ev
open Go.RowKit Go.Proofs
set_option maxRecDepth 100000
set_option maxHeartbeats 8000000
set_option linter.unusedSimpArgs false
noncomputable section
theorem axk {m:Mv}(h:mvE m=0) (hf:m.f=0):(m.o,m.h)∈[(false,[98]),(false,[97]),(false,[112]),(false,[116]),(false,[111]),(true,[102]),(true,[103]),(true,[99]),(true,[107]),(true,[110]),(true,[121])]:=by
 obtain⟨w,hw,h1,h2,h3⟩:=ayL h
 rw [if_pos hf,hf]at h3
 simp only [wayT,List.mem_cons,List.not_mem_nil,or_false]at hw
 rw [←h1,←h2]
 rcases hw with rfl|rfl|rfl|rfl|rfl|rfl|rfl|rfl|rfl|rfl|rfl|rfl|rfl|rfl<;>simp [reachB]at h3 ⊢
def batFits (e:List Nat) (m:Mv):Bool:=if e=[75]then(m.o&&evIn m.h [107,102,103])||(!m.o&&evIn m.h [112,116])
 else if e=[87]∨e=[72]∨e=[73]then(!m.o&&evIn m.h [97])&&(m.t==1)
 else if e=[88]then(!m.o&&evIn m.h [98,116,111])||(m.o&&evIn m.h [102,99,103])
 else if e=[78]then m.o&&evIn m.h [110]else m.o&&evIn m.h [121]
theorem s199 {e:List Nat}{m:Mv}(hm:mvE m=0):Sz199 (e,m,())=some (batFits e m):=by
 show Ez199 e m=_
 unfold Ez199 Tz199 batFits
 simp only [TS,w6]
 simp only [axU (u:=[107,102,103]) (by simp) hm,axU (u:=[112,116]) (by simp) hm,axU (u:=[97]) (by simp) hm,axU (u:=[98,116,111]) (by simp) hm,axU (u:=[102,99,103]) (by simp) hm,axU (u:=[110]) (by simp) hm,axU (u:=[121]) (by simp) hm,obind_some]
 have e1:∀b:Bool,(b==true)=b:=by decide
 have e2:∀b:Bool,(b==false)=!b:=by decide
 simp only [e1,e2]
 by_cases h1:e=[75]
 · subst h1;simp [cond_ite];cases m.o<;>cases evIn m.h [107,102,103]<;>simp
 by_cases h2:e=[87]
 · subst h2;simp [cond_ite];cases m.o<;>cases evIn m.h [97]<;>simp
 by_cases h3:e=[72]
 · subst h3;simp [cond_ite];cases m.o<;>cases evIn m.h [97]<;>simp
 by_cases h4:e=[73]
 · subst h4;simp [cond_ite];cases m.o<;>cases evIn m.h [97]<;>simp
 by_cases h5:e=[88]
 · subst h5;simp [cond_ite];cases m.o<;>cases evIn m.h [98,116,111]<;>simp
 by_cases h6:e=[78]
 · subst h6;simp
 simp [h1,h2,h3,h4,h5,h6]
theorem r5_p {s:Tn}(h:aB s.p_m=0) (hv:vEv s.p_e) (h3:(mAt s.p_m 0).isSome=!decide (s.p_e=[])):aqN (s,())=some (match mAt s.p_m 0 with
  | some m=>!batFits s.p_e m
  | none=>false):=by
 show Ez126 s=_
 unfold Ez126 Tz126
 simp only [TS,w6]
 rw [s179 h,obind_some]
 cases hb:mAt s.p_m 0 with
 | none=>rfl
 | some m=>
   have hm:=rB h hb
   rw [hb]at h3
   simp only [Option.isSome_some]at h3
   simp only [Option.getD_some,Option.isSome_some,Bool.not_true,cond_false]
   have hS:=fun c (hc:c∈CL)=>s181 hc (aju hm.2)
   rw [hS [107,102,103,112,116] (by simp [CL]),hS [97] (by simp [CL]),hS [98,116,111,102,99,103] (by simp [CL]),hS [110] (by simp [CL]),hS [121] (by simp [CL]),hS [] (by simp [CL])]
   simp only [obind_some]
   have hw:=axk hm.2 hm.1
   clear hS hm hb
   obtain⟨f,t,o,hh,b⟩:=m
   dsimp only at hw ⊢
   rcases hv with hv|⟨x,hx,hv⟩
   · rw [hv]at h3;simp at h3
   rw [hv]
   clear hv h3
   simp only [List.mem_cons,List.not_mem_nil,or_false]at hx
   simp only [List.mem_cons,List.not_mem_nil,or_false,Prod.mk.injEq]at hw
   rcases hx with rfl|rfl|rfl|rfl|rfl|rfl|rfl<;>rcases hw with⟨rfl,rfl⟩ | ⟨rfl,rfl⟩ | ⟨rfl,rfl⟩ | ⟨rfl,rfl⟩ | ⟨rfl,rfl⟩ | ⟨rfl,rfl⟩ | ⟨rfl,rfl⟩ | ⟨rfl,rfl⟩ | ⟨rfl,rfl⟩ | ⟨rfl,rfl⟩ | ⟨rfl,rfl⟩<;>simp [batFits,evIn,hasC]
theorem rr5 {s:St}{t:Pl}(h:aB t.m=0) (hl:t.p.length<9223372036854775808):iP (s,t,5,())=some (match mAt t.m 0 with
  | some m=>!batFits t.e m
  | none=>false):=by
 show iD _ s t 5=_
 unfold iD sV
 simp only [TS,w6]
 rw [s29 hl,obind_some,ayC h,obind_some]
 cases hb:mAt t.m 0 with
 | none=>rfl
 | some m=>
   have hm:=rB h hb
   simp only [Option.getD_some,Option.isSome_some]
   rw [s199 hm.2];rfl
theorem rr6 {s:St}{t:Pl}(h:aB t.m=0) (hl:t.p.length<9223372036854775808) (h3:(mAt t.m 0).isSome=!decide (t.e=[])):iP (s,t,6,())=some (decide (t.e=[75])&&(!batIn t.m [107]&&(!(s.b1==0)&&decide (s.outs<2)))):=by
 show iD _ s t 6=_
 unfold iD sV batIn
 simp only [TS,w6]
 rw [s29 hl,obind_some,ayC h,obind_some]
 cases hb:mAt t.m 0 with
 | none=>
   rw [hb]at h3
   have:t.e=[]:=by simpa using h3
   rw [this];rfl
 | some m=>
   have hm:=rB h hb
   simp only [Option.getD_some,Option.isSome_some]
   rw [axU (by simp) hm.2,obind_some]
   have e1:∀b:Bool,(b==true)=b:=by decide
   simp only [e1]
   show cond _ _ _=_
   cases decide (t.e=[75])<;>cases(m.o&&evIn m.h [107])<;>cases(s.b1==0)<;>rfl
end
end Go.Ev
