import Derived.Test.YtembhfobljiaoaaGreatDoorDQ4
set_option linter.unusedSimpArgs false
set_option linter.unusedVariables false
namespace Go.Ev
open Go.RowKit Go.Proofs
set_option maxRecDepth 100000
set_option maxHeartbeats 4000000
set_option linter.unusedSimpArgs false
noncomputable section
theorem aka {m:Mv}(h:mvE m=0):∃w∈wayT,w.1=m.o∧w.2.1=m.h∧reachB (if m.f=0 then w.2.2.1 else w.2.2.2) m.f m.t=true:=by
 have h:=(j9 h).2.2.2.2
 unfold akb at h
 split at h
 · rename_i w hw
   unfold findL at hw
   have h1:=List.find?_some hw
   have h2:=List.mem_of_find?_eq_some hw
   simp only [Bool.and_eq_true,beq_iff_eq,decide_eq_true_eq]at h1
   by_cases h3:reachB (if m.f=0 then w.2.2.1 else w.2.2.2) m.f m.t=true
   · exact⟨w,h2,h1.1,h1.2,h3⟩
   · rw [if_neg h3]at h;cases h
 · cases h
theorem azJ {m:Mv}(h:mvE m=0):∃x∈OL,m.h=[x]:=by
 obtain⟨w,hw,h1,h2,_⟩:=aka h
 have:∀w∈wayT,∃x∈OL,w.2.1=[x]:=by
  intro w hw
  simp only [wayT,List.mem_cons,List.not_mem_nil,or_false]at hw
  rcases hw with rfl|rfl|rfl|rfl|rfl|rfl|rfl|rfl|rfl|rfl|rfl|rfl|rfl|rfl<;>exact⟨_,by simp [OL],rfl⟩
 obtain⟨x,hx,e⟩:=this w hw
 exact⟨x,hx,h2▸e⟩
theorem s181 {c h:List Nat}(hc:c∈CL) (hh:∃x∈OL,h=[x]):v7 (c,h,())=some (evIn h c):=by
 obtain⟨x,hx,rfl⟩:=hh
 show(if(c∈CL∧x∈OL)∨_ then _ else _)=_
 rw [if_pos (Or.inl ⟨hc,hx⟩)];rfl
theorem axA {l:List Mv}{k:Int}{m:Mv}(h:aT l=0) (hm:mAt l k=some m):m.f=k∧mvE m=0:=by
 have h1:=List.find?_some hm
 have h2:=List.mem_of_find?_eq_some hm
 refine⟨by simpa using h1,?_⟩
 clear hm h1
 revert h2
 refine sh_cases h ?_ ?_ ?_ ?_ ?_ ?_ ?_ ?_ ?_ ?_ ?_ ?_ ?_ ?_ ?_ ?_<;>intros<;>simp only [vMv,List.mem_cons,List.not_mem_nil,or_false]at *<;>rename_i hx<;>(try exact hx.elim)<;>(try (rcases hx with rfl|rfl|rfl|rfl))<;>(try (rcases hx with rfl|rfl|rfl))<;>(try (rcases hx with rfl|rfl))<;>(try subst hx)<;>simp_all
theorem r3_p {s:Tn}(h:aT s.p_m=0):axh (s,())=some ((mAt s.p_m 0).isSome==decide (s.p_e=[])):=by
 show Ez124 s=_
 unfold Ez124 Tz124
 simp only [TS,w6]
 rw [s179 h,obind_some];rfl
def batIn (l:List Mv) (t:List Nat):Bool:=match mAt l 0 with
 | some m=>m.o&&evIn m.h t
 | none=>false
theorem s182 {s:Tn}{t:List Nat}(h:aT s.p_m=0) (ht:t∈CL):yV (s,t,())=some (batIn s.p_m t):=by
 show Ez182 s t=_
 unfold Ez182 Tz182 batIn
 simp only [TS,w6]
 rw [s179 h,obind_some]
 cases hb:mAt s.p_m 0 with
 | none=>rfl
 | some m=>
   have hv:=axA h hb
   simp only [Option.getD_some,Option.isSome_some,cond_true]
   rw [s181 ht (azJ hv.2)]
   cases m.o<;>rfl
theorem r6_p {s:Tn}(h:aT s.p_m=0) (hv:vEv s.p_e):axe (s,())=some (evIn s.p_e [75]&&(!batIn s.p_m [107]&&(!(s.s_b1==0)&&decide (s.s_outs<2)))):=by
 show Ez127 s=_
 unfold Ez127 Tz127
 simp only [TS,w6]
 rw [axx hv (by simp [CL]),obind_some,s182 h (by simp [CL]),obind_some]
 cases evIn s.p_e [75]<;>cases batIn s.p_m [107]<;>cases(s.s_b1==0)<;>rfl
theorem r7_p {s:Tn}(hv:vEv s.p_e):axd (s,())=some (evIn s.p_e [89]&&((s.s_outs==2)||((s.s_b1==0)||(s.s_b2==0)))):=by
 show Ez128 s=_
 unfold Ez128 Tz128
 simp only [TS,w6]
 rw [axx hv (by simp [CL]),obind_some]
 cases evIn s.p_e [89]<;>cases(s.s_outs==2)<;>cases(s.s_b1==0)<;>rfl
theorem r12_p {s:Tn}:ax8 (s,())=some (decide (3<s.outs)):=rfl
theorem r13_p {s:Tn}(h:aT s.p_m=0):ax7 (s,())=some (s.p_l&&(decide (s.outs<3)||(((s.p_m.countP rnM:Nat):Int)==0))):=by
 show Ez134 s=_
 unfold Ez134 Tz134
 simp only [TS,w6]
 rw [runs_p (iE h),obind_some]
 cases s.p_l<;>cases decide (s.outs<3)<;>rfl
section
variable {s:St}{t:Pl}
def oL (s:St) (t:Pl):CntR:=axW s.balls s.strikes t.p
end
end
end Go.Ev
namespace Go.Ev
open Go.RowKit Go.Proofs
set_option maxRecDepth 100000
set_option maxHeartbeats 8000000
set_option linter.unusedSimpArgs false
noncomputable section
theorem aw4 {m:Mv}(h:mvE m=0) (hf:m.f=0):(m.o,m.h)∈[(false,[98]),(false,[97]),(false,[112]),(false,[116]),(false,[111]),(true,[102]),(true,[103]),(true,[99]),(true,[107]),(true,[110]),(true,[121])]:=by
 obtain⟨w,hw,h1,h2,h3⟩:=aka h
 rw [if_pos hf,hf]at h3
 simp only [wayT,List.mem_cons,List.not_mem_nil,or_false]at hw
 rw [←h1,←h2]
 rcases hw with rfl|rfl|rfl|rfl|rfl|rfl|rfl|rfl|rfl|rfl|rfl|rfl|rfl|rfl<;>simp [reachB]at h3 ⊢
def batFits (e:List Nat) (m:Mv):Bool:=if e=[75]then(m.o&&evIn m.h [107,102,103])||(!m.o&&evIn m.h [112,116])
 else if e=[87]∨e=[72]∨e=[73]then(!m.o&&evIn m.h [97])&&(m.t==1)
 else if e=[88]then(!m.o&&evIn m.h [98,116,111])||(m.o&&evIn m.h [102,99,103])
 else if e=[78]then m.o&&evIn m.h [110]else m.o&&evIn m.h [121]
theorem r5_p {s:Tn}(h:aT s.p_m=0) (hv:vEv s.p_e) (h3:(mAt s.p_m 0).isSome=!decide (s.p_e=[])):axf (s,())=some (match mAt s.p_m 0 with
  | some m=>!batFits s.p_e m
  | none=>false):=by
 show Ez126 s=_
 unfold Ez126 Tz126
 simp only [TS,w6]
 rw [s179 h,obind_some]
 cases hb:mAt s.p_m 0 with
 | none=>rfl
 | some m=>
   have hm:=axA h hb
   rw [hb]at h3
   simp only [Option.isSome_some]at h3
   simp only [Option.getD_some,Option.isSome_some,Bool.not_true,cond_false]
   have hS:=fun c (hc:c∈CL)=>s181 hc (azJ hm.2)
   rw [hS [107,102,103,112,116] (by simp [CL]),hS [97] (by simp [CL]),hS [98,116,111,102,99,103] (by simp [CL]),hS [110] (by simp [CL]),hS [121] (by simp [CL]),hS [] (by simp [CL])]
   simp only [obind_some]
   have hw:=aw4 hm.2 hm.1
   clear hS hm hb
   obtain⟨f,t,o,hh,b⟩:=m
   dsimp only at hw ⊢
   rcases hv with hv|⟨x,hx,hv⟩
   · rw [hv]at h3;simp at h3
   rw [hv]
   clear hv h3
   simp only [List.mem_cons,List.not_mem_nil,or_false]at hx
   simp only [List.mem_cons,List.not_mem_nil,or_false,Prod.mk.injEq]at hw
   rcases hx with rfl|rfl|rfl|rfl|rfl|rfl|rfl<;>rcases hw with⟨rfl,rfl⟩ | ⟨rfl,rfl⟩ | ⟨rfl,rfl⟩ | ⟨rfl,rfl⟩ | ⟨rfl,rfl⟩ | ⟨rfl,rfl⟩ | ⟨rfl,rfl⟩ | ⟨rfl,rfl⟩ | ⟨rfl,rfl⟩ | ⟨rfl,rfl⟩ | ⟨rfl,rfl⟩<;>simp [batFits,evIn,hasC]
end
end Go.Ev
namespace Go.Ev
open Go.RowKit Go.Proofs
set_option maxRecDepth 100000
set_option maxHeartbeats 8000000
set_option linter.unusedSimpArgs false
noncomputable section
theorem aqr {m:Mv}(h:mvE m=0) (hf:¬m.f=0):(m.o,m.h)∈[(false,[98]),(false,[97]),(false,[115]),(false,[112]),(false,[107]),(false,[116]),(false,[111]),(true,[102]),(true,[103]),(true,[100]),(true,[110])]:=by
 obtain⟨w,hw,h1,h2,h3⟩:=aka h
 rw [if_neg hf]at h3
 simp only [wayT,List.mem_cons,List.not_mem_nil,or_false]at hw
 rw [←h1,←h2]
 rcases hw with rfl|rfl|rfl|rfl|rfl|rfl|rfl|rfl|rfl|rfl|rfl|rfl|rfl|rfl<;>simp [reachB]at h3 ⊢
def fcdB (f1 f2 f3:Bool) (f:Int):Bool:=if f=1 then f1 else if f=2 then f2 else f3
def wayB (e p:List Nat) (fc bc bk:Bool) (m:Mv):Bool:=
 if m.h=[98]then decide (e=[88])||decide (e=[89])
 else if m.h=[97]then(decide (e=[87])||(decide (e=[72])||decide (e=[73])))&&(fc&&(m.t==IntKind.i64.wrap (m.f+1)))
 else if m.h=[115]then decide (e=[])||(decide (e=[75])||decide (e=[87]))
 else if m.h=[112]then(decide (e=[])||(decide (e=[75])||decide (e=[87])))&&!decide (p=[])
 else if m.h=[107]then decide (e=[])
 else if m.h=[102]then fc&&((decide (e=[88])||decide (e=[75]))&&!bk)
 else if m.h=[100]then decide (e=[89])||bc
 else !(decide (e=[72])||(decide (e=[73])||decide (e=[78])))
theorem s183 {s:Tn}{m:Mv}(h:aT s.p_m=0) (hv:vEv s.p_e) (hm:mvE m=0) (hf:¬m.f=0) (ho:m.o=true):Sz183 (s,m,())=some (wayB s.p_e s.p_p (fcdB s.f1 s.f2 s.f3 m.f) (batIn s.p_m [99]) (batIn s.p_m [99,107]) m):=by
 show Ez183 s m=_
 unfold Ez183 Tz183
 simp only [TS,w6]
 rw [axx (t:=[88,75]) hv (by simp [CL]),axx (t:=[89]) hv (by simp [CL]),axx (t:=[72,73,78]) hv (by simp [CL]),s182 (t:=[99,107]) h (by simp [CL]),s182 (t:=[99]) h (by simp [CL])]
 simp only [obind_some]
 have hw:=aqr hm hf
 have hr:=j9 hm
 have h4:m.f=1∨m.f=2∨m.f=3:=by omega
 generalize batIn s.p_m [99]=bc
 generalize batIn s.p_m [99,107]=bk
 obtain⟨f,t,o,hh,b⟩:=m
 dsimp only at hw ho h4 ⊢
 clear hm hf hr
 subst ho
 simp only [List.mem_cons,List.not_mem_nil,or_false,Prod.mk.injEq]at hw
 rcases hv with hv|⟨x,hx,hv⟩
 · rw [hv]
   rcases h4 with rfl|rfl|rfl<;>rcases hw with⟨hh,rfl⟩ | ⟨hh,rfl⟩ | ⟨hh,rfl⟩ | ⟨hh,rfl⟩ | ⟨hh,rfl⟩ | ⟨hh,rfl⟩ | ⟨hh,rfl⟩ | ⟨hh,rfl⟩ | ⟨hh,rfl⟩ | ⟨hh,rfl⟩ | ⟨hh,rfl⟩<;>first|(cases hh;done)|(simp [wayB,fcdB,evIn];done)|(simp [wayB,fcdB,evIn];cases s.f1<;>cases s.f2<;>cases s.f3<;>cases bc<;>cases bk<;>rfl)
 · rw [hv]
   simp only [List.mem_cons,List.not_mem_nil,or_false]at hx
   rcases hx with rfl|rfl|rfl|rfl|rfl|rfl|rfl<;>rcases h4 with rfl|rfl|rfl<;>rcases hw with⟨hh,rfl⟩ | ⟨hh,rfl⟩ | ⟨hh,rfl⟩ | ⟨hh,rfl⟩ | ⟨hh,rfl⟩ | ⟨hh,rfl⟩ | ⟨hh,rfl⟩ | ⟨hh,rfl⟩ | ⟨hh,rfl⟩ | ⟨hh,rfl⟩ | ⟨hh,rfl⟩<;>first|(cases hh;done)|(simp [wayB,fcdB,evIn,hasC];done)|(simp [wayB,fcdB,evIn,hasC];cases s.f1<;>cases s.f2<;>cases s.f3<;>cases bc<;>cases bk<;>rfl)
theorem s184 {s:Tn}{m:Mv}(hv:vEv s.p_e) (hm:mvE m=0) (hf:¬m.f=0) (ho:m.o=false) (bc bk:Bool):awd (s,m,())=some (wayB s.p_e s.p_p (fcdB s.f1 s.f2 s.f3 m.f) bc bk m):=by
 show Ez184 s m=_
 unfold Ez184 Tz184
 simp only [TS,w6]
 have h5:sQ (s,())=some (decide (s.p_e=[])):=rfl
 rw [axx (t:=[88,89]) hv (by simp [CL]),axx (t:=[87,72,73]) hv (by simp [CL]),axx (t:=[75,87]) hv (by simp [CL]),axx (t:=[72,73,78]) hv (by simp [CL]),h5]
 simp only [obind_some]
 have hw:=aqr hm hf
 have hr:=j9 hm
 have h4:m.f=1∨m.f=2∨m.f=3:=by omega
 obtain⟨f,t,o,hh,b⟩:=m
 dsimp only at hw ho h4 ⊢
 clear hm hf hr
 subst ho
 simp only [List.mem_cons,List.not_mem_nil,or_false,Prod.mk.injEq]at hw
 rcases hv with hv|⟨x,hx,hv⟩
 · rw [hv]
   rcases h4 with rfl|rfl|rfl<;>rcases hw with⟨hh,rfl⟩ | ⟨hh,rfl⟩ | ⟨hh,rfl⟩ | ⟨hh,rfl⟩ | ⟨hh,rfl⟩ | ⟨hh,rfl⟩ | ⟨hh,rfl⟩ | ⟨hh,rfl⟩ | ⟨hh,rfl⟩ | ⟨hh,rfl⟩ | ⟨hh,rfl⟩<;>first|(cases hh;done)|(simp [wayB,fcdB,evIn];done)|(simp [wayB,fcdB,evIn];cases s.f1<;>cases s.f2<;>cases s.f3<;>rfl)
 · rw [hv]
   simp only [List.mem_cons,List.not_mem_nil,or_false]at hx
   rcases hx with rfl|rfl|rfl|rfl|rfl|rfl|rfl<;>rcases h4 with rfl|rfl|rfl<;>rcases hw with⟨hh,rfl⟩ | ⟨hh,rfl⟩ | ⟨hh,rfl⟩ | ⟨hh,rfl⟩ | ⟨hh,rfl⟩ | ⟨hh,rfl⟩ | ⟨hh,rfl⟩ | ⟨hh,rfl⟩ | ⟨hh,rfl⟩ | ⟨hh,rfl⟩ | ⟨hh,rfl⟩<;>first|(cases hh;done)|(simp [wayB,fcdB,evIn,hasC];done)|(simp [wayB,fcdB,evIn,hasC];cases s.f1<;>cases s.f2<;>cases s.f3<;>rfl)
end
end Go.Ev
namespace Go.Ev
open Go.RowKit Go.Proofs
set_option maxRecDepth 100000
set_option maxHeartbeats 8000000
set_option linter.unusedSimpArgs false
noncomputable section
theorem z4 {l:List Mv}(h:aT l=0):∀m∈l,mvE m=0:=by
 refine sh_cases h ?_ ?_ ?_ ?_ ?_ ?_ ?_ ?_ ?_ ?_ ?_ ?_ ?_ ?_ ?_ ?_<;>intros<;>simp only [vMv,List.mem_cons,List.not_mem_nil,or_false]at *<;>rename_i hx<;>(try exact hx.elim)<;>(try (rcases hx with rfl|rfl|rfl|rfl))<;>(try (rcases hx with rfl|rfl|rfl))<;>(try (rcases hx with rfl|rfl))<;>(try subst hx)<;>simp_all
def bzB (b1 b2 b3:Int) (f:Int):Bool:=if f=1 then b1==0 else if f=2 then b2==0 else b3==0
def fcS (s:St) (f:Int):Bool:=fcdB (!(s.b1==0)) (!(s.b1==0)&&!(s.b2==0)) (!(s.b1==0)&&(!(s.b2==0)&&!(s.b3==0))) f
section
variable {s:St}{t:Pl}{u:Int}
end
end
end Go.Ev
namespace Go.Ev
open Go.RowKit Go.Proofs
set_option maxRecDepth 100000
set_option maxHeartbeats 8000000
set_option linter.unusedSimpArgs false
noncomputable section
def placeB (l:List Mv) (b1 b2 b3:Int) (f:Int):Int:=match mAt l f with
 | some m=>if m.o then 0 else m.t
 | none=>if f=0 then 0 else if bzB b1 b2 b3 f then 0 else f
def badP (x y:Int):Bool:=decide (0<x)&&(decide (0<y)&&(decide (y≤x)&&!((x==4)&&(y==4))))
def ordB (p0 p1 p2 p3:Int):Bool:=badP p0 p1||(badP p0 p2||(badP p0 p3||(badP p1 p2||(badP p1 p3||badP p2 p3))))
section
variable {s:St}{t:Pl}{u:Int}
end
end
end Go.Ev
namespace Go.Ev
open Go.RowKit Go.Proofs
set_option maxRecDepth 100000
set_option maxHeartbeats 8000000
set_option linter.unusedSimpArgs false
noncomputable section
section
variable {s:Tn}
theorem dH {α:Type}{l:List α}{k:Nat}{m:α}(hm:l[k]? = some m):l.drop k=m::l.drop (k+1):=by
 obtain⟨h1,h2⟩:=List.getElem?_eq_some_iff.1 hm
 rw [List.drop_eq_getElem_cons h1,h2]
def c4 (b1 b2 b3:Int) (m:Mv):Bool:=decide (0<m.f)&&bzB b1 b2 b3 m.f
theorem lp125 (h:aT s.p_m=0):∀(j k n:Nat),s.p_m.length=k+j→ajl s (n+j+1) (.k200002 (k:Int))=some ((s.p_m.drop k).any (c4 s.s_b1 s.s_b2 s.s_b3))
 | 0,k,n,hl=>by
   have c1:decide ((k:Int)<((s.p_m.length:Nat):Int))=false:=by simp;omega
   rw [List.drop_eq_nil_of_le (by omega)]
   simp only [ajk,yQ,TS,w6,c1,cond_false,List.any_nil]
 | j+1,k,n,hl=>by
   have hlen:=iE h
   have hk:k<s.p_m.length:=by omega
   obtain⟨m,hm⟩:∃m,s.p_m[k]? = some m:=⟨s.p_m[k],List.getElem?_eq_getElem hk⟩
   have ih:=lp125 h j (k+1) n (by omega)
   have hr:=j9 (z4 h m (List.mem_of_getElem? hm))
   have c1:decide ((k:Int)<((s.p_m.length:Nat):Int))=true:=by simp;omega
   have c2:inR (k:Int) s.p_m.length=true:=sH (by omega) (by omega)
   have w4:IntKind.i64.wrap ((k:Int)+1)=((k+1:Nat):Int):=by rw [dP]<;>omega
   rw [dH hm,show n+(j+1)+1=(n+j+1)+1 from rfl]
   generalize n+j+1=N at ih ⊢
   simp only [ajk,yQ,TS,w6,c1,c2,cond_true,Int.toNat_natCast,bQ hm,w4,ih,List.any_cons]
   have h4:m.f=0∨m.f=1∨m.f=2∨m.f=3:=by omega
   rcases h4 with h4|h4|h4|h4<;>simp [h4,c4,bzB,wr0,wr1,wr2]<;>(try (cases(s.s_b1==0)<;>rfl))<;>(try (cases(s.s_b2==0)<;>rfl))<;>(try (cases(s.s_b3==0)<;>rfl))
theorem nY {l:List Mv}:l.length+64=63+l.length+1:=by omega
theorem r4_p (h:aT s.p_m=0):axg (s,())=some (s.p_m.any (c4 s.s_b1 s.s_b2 s.s_b3)):=by
 show Ez125 (s.p_m.length+64) s=_
 unfold Ez125 Tz125
 simp only [TS,w6]
 rw [nY]
 exact lp125 h s.p_m.length 0 63 (by omega)
def c8 (s:Tn) (m:Mv):Bool:=decide (0<m.f)&&!wayB s.p_e s.p_p (fcdB s.f1 s.f2 s.f3 m.f) (batIn s.p_m [99]) (batIn s.p_m [99,107]) m
theorem lp129 (h:aT s.p_m=0) (hv:vEv s.p_e):∀(j k n:Nat),s.p_m.length=k+j→ajj s (n+j+1) (.k200002 (k:Int))=some ((s.p_m.drop k).any (c8 s))
 | 0,k,n,hl=>by
   have c1:decide ((k:Int)<((s.p_m.length:Nat):Int))=false:=by simp;omega
   rw [List.drop_eq_nil_of_le (by omega)]
   simp only [aji,yP,TS,w6,c1,cond_false,List.any_nil]
 | j + 1,k,n,hl=>by
   have hlen:=iE h
   have hk:k<s.p_m.length:=by omega
   obtain⟨m,hm⟩:∃m,s.p_m[k]? = some m:=⟨s.p_m[k],List.getElem?_eq_getElem hk⟩
   have ih:=lp129 h hv j (k+1) n (by omega)
   have hmv:=z4 h m (List.mem_of_getElem? hm)
   have hr:=j9 hmv
   have c1:decide ((k:Int)<((s.p_m.length:Nat):Int))=true:=by simp;omega
   have c2:inR (k:Int) s.p_m.length=true:=sH (by omega) (by omega)
   have w4:IntKind.i64.wrap ((k:Int)+1)=((k+1:Nat):Int):=by rw [dP]<;>omega
   rw [dH hm,show n+(j+1)+1=(n+j+1)+1 from rfl]
   generalize n+j+1=N at ih ⊢
   simp only [aji,yP,TS,w6,c1,c2,cond_true,Int.toNat_natCast,bQ hm,w4,ih,List.any_cons,c8]
   by_cases hf:m.f=0
   · have c0:decide (0<m.f)=false:=by simp;omega
     simp only [c0,cond_false,Bool.false_and,Bool.false_or]
   · have c0:decide (0<m.f)=true:=by simp;omega
     simp only [c0,cond_true,Bool.true_and]
     cases ho:m.o with
     | true=>
       simp only [cond_true,Bool.not_true,cond_false]
       rw [s183 h hv hmv hf ho,obind_some]
       cases wayB s.p_e s.p_p (fcdB s.f1 s.f2 s.f3 m.f) (batIn s.p_m [99]) (batIn s.p_m [99,107]) m<;>rfl
     | false=>
       simp only [cond_false,Bool.not_false,cond_true]
       rw [s184 hv hmv hf ho (batIn s.p_m [99]) (batIn s.p_m [99,107]),obind_some]
       cases wayB s.p_e s.p_p (fcdB s.f1 s.f2 s.f3 m.f) (batIn s.p_m [99]) (batIn s.p_m [99,107]) m<;>rfl
theorem r8_p (h:aT s.p_m=0) (hv:vEv s.p_e):axc (s,())=some (s.p_m.any (c8 s)):=by
 show Ez129 (s.p_m.length+64) s=_
 unfold Ez129 Tz129
 simp only [TS,w6]
 rw [nY]
 exact lp129 h hv s.p_m.length 0 63 (by omega)
def bk9 (m:Mv):Bool:=decide (0<m.f)&&decide (m.h=[107])
def st9 (m:Mv):Bool:=decide (0<m.f)&&(decide (m.h=[107])&&(m.t==IntKind.i64.wrap (m.f+1)))
def nz (b:Int):Nat:=bif b==0 then 0 else 1
theorem s185 (b1 b2 b3:Int):rT ([b1,b2,b3],(),())=some (((nz b1+(nz b2+nz b3):Nat)):Int):=by
 have j:∀n,j5 [b1,b2,b3] () (n+4) (.k6 0 0)=some (((nz b1+(nz b2+nz b3):Nat)):Int):=by
  intro n
  have e:∀b:Int,Sz186 (b,())=some (!(b==0)):=fun _=>rfl
  cases h1:(b1==0)<;>cases h2:(b2==0)<;>cases h3:(b3==0)<;>simp [yX,j3,TS,w6,inR,e,obind_some,h1,h2,h3,nz,wr0,wr1,wr2,wr3]
 show rZ (3+64) [b1,b2,b3] ()=_
 unfold rZ rP
 simp only [TS,w6]
 exact j 63
theorem aks (h:aT s.p_m=0):∀(j k n:Nat) (x:Bool) (c:Nat),s.p_m.length=k+j→c≤k→ajh s (n+j+1) (.k200002 (k:Int) x (c:Int))=some ((x||(s.p_m.drop k).any bk9)&&decide (((c+(s.p_m.drop k).countP st9:Nat):Int)<((nz s.s_b1+(nz s.s_b2+nz s.s_b3):Nat):Int)))
 | 0,k,n,x,c,hl,hc=>by
   have c1:decide ((k:Int)<((s.p_m.length:Nat):Int))=false:=by simp;omega
   rw [List.drop_eq_nil_of_le (by omega)]
   simp only [ajg,yO,TS,w6,c1,cond_false,List.any_nil,s185,obind_some,List.countP_nil,Bool.or_false,Nat.add_zero]
   cases x<;>rfl
 | j+1,k,n,x,c,hl,hc=>by
   have hlen:=iE h
   have hk:k<s.p_m.length:=by omega
   obtain⟨m,hm⟩:∃m,s.p_m[k]? = some m:=⟨s.p_m[k],List.getElem?_eq_getElem hk⟩
   have c1:decide ((k:Int)<((s.p_m.length:Nat):Int))=true:=by simp;omega
   have c2:inR (k:Int) s.p_m.length=true:=sH (by omega) (by omega)
   have w4:IntKind.i64.wrap ((k:Int)+1)=((k+1:Nat):Int):=by rw [dP]<;>omega
   have w5:IntKind.i64.wrap ((c:Int)+1)=((c+1:Nat):Int):=by rw [dP]<;>omega
   have ih1:=aks h j (k+1) n true (c+1) (by omega) (by omega)
   have ih2:=aks h j (k+1) n true c (by omega) (by omega)
   have ih3:=aks h j (k+1) n x c (by omega) (by omega)
   rw [dH hm,show n+(j+1)+1=(n+j+1)+1 from rfl]
   generalize n+j+1=N at ih1 ih2 ih3 ⊢
   simp only [ajg,yO,TS,w6,c1,c2,cond_true,Int.toNat_natCast,bQ hm,w4,w5,ih1,ih2,ih3,List.any_cons,List.countP_cons,bk9,st9]
   have h3:(m.t==IntKind.i64.wrap (m.f+1))=true∨(m.t==IntKind.i64.wrap (m.f+1))=false:=by cases(m.t==IntKind.i64.wrap (m.f+1))<;>simp
   rcases h3 with h3|h3<;>by_cases h1:0<m.f<;>by_cases h2:m.h=[107]<;>simp [h1,h2,h3,Nat.add_assoc,Nat.add_comm 1]
theorem r9_p (h:aT s.p_m=0):axb (s,())=some (s.p_m.any bk9&&decide (((s.p_m.countP st9:Nat):Int)<((nz s.s_b1+(nz s.s_b2+nz s.s_b3):Nat):Int))):=by
 show Ez130 (s.p_m.length+64) s=_
 unfold Ez130 Tz130
 simp only [TS,w6]
 rw [nY]
 have:=aks h s.p_m.length 0 63 false 0 (by omega) (by omega)
 simpa using this
end
end
end Go.Ev
namespace Go.Ev
open Go.RowKit Go.Proofs
set_option maxRecDepth 100000
set_option maxHeartbeats 8000000
set_option linter.unusedSimpArgs false
noncomputable section
section
variable {s:Tn}
def ayE (i:Int) (m:Mv):Bool:=!m.o&&(m.f==i)
def wtB (l:List Mv) (i:Int) (f:Bool):Bool:=f&&!(l.any (ayE i))
theorem lp131 (h:aT s.p_m=0):∀(j k n:Nat) (x3 x2 x1 x0:Bool),s.p_m.length=k+j→yY s (n+j+1) (.k10 (k:Int) x3 x2 x1 x0)=some (wtB (s.p_m.drop k) 0 x0||(wtB (s.p_m.drop k) 1 x1||(wtB (s.p_m.drop k) 2 x2||wtB (s.p_m.drop k) 3 x3)))
 | 0,k,n,x3,x2,x1,x0,hl=>by
   have c1:decide ((k:Int)<((s.p_m.length:Nat):Int))=false:=by simp;omega
   rw [List.drop_eq_nil_of_le (by omega)]
   simp only [ajf,yN,TS,w6,c1,cond_false,wtB,List.any_nil]
   cases x0<;>cases x1<;>cases x2<;>cases x3<;>rfl
 | j+1,k,n,x3,x2,x1,x0,hl=>by
   have hlen:=iE h
   have hk:k<s.p_m.length:=by omega
   obtain⟨m,hm⟩:∃m,s.p_m[k]? = some m:=⟨s.p_m[k],List.getElem?_eq_getElem hk⟩
   have ih:=fun x3 x2 x1 x0=>lp131 h j (k+1) n x3 x2 x1 x0 (by omega)
   have hr:=j9 (z4 h m (List.mem_of_getElem? hm))
   have c1:decide ((k:Int)<((s.p_m.length:Nat):Int))=true:=by simp;omega
   have c2:inR (k:Int) s.p_m.length=true:=sH (by omega) (by omega)
   have w4:IntKind.i64.wrap ((k:Int)+1)=((k+1:Nat):Int):=by rw [dP]<;>omega
   rw [dH hm,show n+(j+1)+1=(n+j+1)+1 from rfl]
   generalize n+j+1=N at ih ⊢
   simp only [ajf,yN,TS,w6,c1,c2,cond_true,Int.toNat_natCast,bQ hm,w4,ih]
   have h4:m.f=0∨m.f=1∨m.f=2∨m.f=3:=by omega
   rcases h4 with h4|h4|h4|h4<;>cases ho:m.o<;>simp [h4,ho,wtB,ayE]
theorem r10_p (h:aT s.p_m=0) (hv:vEv s.p_e):axa (s,())=some (evIn s.p_e [87,72,73]&&(wtB s.p_m 0 s.f0||(wtB s.p_m 1 s.f1||(wtB s.p_m 2 s.f2||wtB s.p_m 3 s.f3)))):=by
 have e:=lp131 h s.p_m.length 0 63 s.f3 s.f2 s.f1 s.f0 (by omega)
 rw [←nY,List.drop_zero]at e
 show Ez131 (s.p_m.length+64) s=_
 unfold Ez131 Tz131
 simp only [TS,w6]
 rw [axx hv (by simp [CL]),obind_some]
 have e':yY s (s.p_m.length+64) (.k10 0 s.f3 s.f2 s.f1 s.f0)=_:=e
 rw [e']
 cases evIn s.p_e [87,72,73]<;>rfl
def upd (i:Int) (p:Int) (m:Mv):Int:=if m.f=i then(if m.o then 0 else m.t)else p
theorem lp152 (h:aT s.p_m=0):∀(j k n:Nat) (p1 p0 p2 p3:Int),s.p_m.length=k+j→t8 s (n+j+1) (.k18 p1 p0 p2 p3 (k:Int))=some ((s.p_m.drop k).foldl (upd 0) p0,(s.p_m.drop k).foldl (upd 1) p1,(s.p_m.drop k).foldl (upd 2) p2,(s.p_m.drop k).foldl (upd 3) p3,())
 | 0,k,n,p1,p0,p2,p3,hl=>by
   have c1:decide ((k:Int)<((s.p_m.length:Nat):Int))=false:=by simp;omega
   rw [List.drop_eq_nil_of_le (by omega)]
   simp only [v9,t6,TS,w6,c1,cond_false,List.foldl_nil]
 | j+1,k,n,p1,p0,p2,p3,hl=>by
   have hlen:=iE h
   have hk:k<s.p_m.length:=by omega
   obtain⟨m,hm⟩:∃m,s.p_m[k]? = some m:=⟨s.p_m[k],List.getElem?_eq_getElem hk⟩
   have ih:=fun p1 p0 p2 p3=>lp152 h j (k+1) n p1 p0 p2 p3 (by omega)
   have hr:=j9 (z4 h m (List.mem_of_getElem? hm))
   have c1:decide ((k:Int)<((s.p_m.length:Nat):Int))=true:=by simp;omega
   have c2:inR (k:Int) s.p_m.length=true:=sH (by omega) (by omega)
   have w4:IntKind.i64.wrap ((k:Int)+1)=((k+1:Nat):Int):=by rw [dP]<;>omega
   rw [dH hm,show n+(j+1)+1=(n+j+1)+1 from rfl]
   generalize n+j+1=N at ih ⊢
   simp only [v9,t6,TS,w6,c1,c2,cond_true,Int.toNat_natCast,bQ hm,w4,ih,List.foldl_cons]
   have h4:m.f=0∨m.f=1∨m.f=2∨m.f=3:=by omega
   rcases h4 with h4|h4|h4|h4<;>cases ho:m.o<;>simp [h4,ho,upd]
theorem aqg {l:List Mv}(h:aT l=0) {i p:Int}:l.foldl (upd i) p=match mAt l i with
  | some m=>if m.o then 0 else m.t
  | none=>p:=by
 have one:∀(r:List Mv) (q:Int),(∀m∈r,¬m.f=i)→r.foldl (upd i) q=q:=by
  intro r
  induction r with
  | nil=>intro q _;rfl
  | cons a r ih=>
    intro q hq
    rw [List.foldl_cons,ih _ fun m hm=>hq m (List.mem_cons_of_mem _ hm)]
    unfold upd
    rw [if_neg (hq a List.mem_cons_self)]
 have core:∀(r:List Mv) (q:Int) (pr:Option Int),axy pr r=0→r.foldl (upd i) q=match mAt r i with
  | some m=>if m.o then 0 else m.t
  | none=>q:=by
  intro r
  induction r with
  | nil=>intro q _ _;rfl
  | cons a r ih=>
    intro q pr hg
    obtain⟨h1,h2,h3⟩:=gC hg
    rw [List.foldl_cons]
    unfold mAt
    by_cases hf:a.f=i
    · have e:(a.f==i)=true:=by simpa using hf
      rw [List.find?_cons,e]
      have lt:∀(r:List Mv) (pr:Int),axy (some pr) r=0→∀m∈r,m.f<pr:=by
       intro r
       induction r with
       | nil=>intro _ _ m hm;cases hm
       | cons b r ih=>
         intro pr hg m hm
         obtain⟨g1,g2,g3⟩:=gC hg
         have g4:=g2 pr rfl
         rcases List.mem_cons.1 hm with rfl|hm
         · exact g4
         · have:=ih b.f g3 m hm;omega
      rw [one r _ fun m hm=>by have:=lt r a.f h3 m hm;omega]
      simp only [upd,if_pos hf]
    · have e:(a.f==i)=false:=by simpa using hf
      rw [List.find?_cons,e,ih _ _ h3]
      simp only [upd,if_neg hf]
      rfl
 unfold aT at h
 split at h
 · cases h
 · exact core l p none h
theorem s152 (h:aT s.p_m=0):Sz152 (s,())=some (placeB s.p_m s.s_b1 s.s_b2 s.s_b3 0,placeB s.p_m s.s_b1 s.s_b2 s.s_b3 1,placeB s.p_m s.s_b1 s.s_b2 s.s_b3 2,placeB s.p_m s.s_b1 s.s_b2 s.s_b3 3,()):=by
 have hl:=iE h
 have e1:∀n,t8 s (n+4) (.k6 0 0 0 0 0)=t8 s n (.k18 (if bzB s.s_b1 s.s_b2 s.s_b3 1 then 0 else 1) 0 (if bzB s.s_b1 s.s_b2 s.s_b3 2 then 0 else 2) (if bzB s.s_b1 s.s_b2 s.s_b3 3 then 0 else 3) 0):=by
  intro n
  cases h1:(s.s_b1==0)<;>cases h2:(s.s_b2==0)<;>cases h3:(s.s_b3==0)<;>simp [v9,t6,TS,w6,bzB,h1,h2,h3,wr0,wr1,wr2,wr3]
 show Ez152 (s.p_m.length+64) s=_
 unfold Ez152 Tz152
 simp only [TS,w6]
 rw [show s.p_m.length+64=(59+s.p_m.length+1)+4 by omega,e1]
 have e2:=lp152 h s.p_m.length 0 59 (if bzB s.s_b1 s.s_b2 s.s_b3 1 then 0 else 1) 0 (if bzB s.s_b1 s.s_b2 s.s_b3 2 then 0 else 2) (if bzB s.s_b1 s.s_b2 s.s_b3 3 then 0 else 3) (by omega)
 rw [List.drop_zero]at e2
 refine e2.trans ?_
 rw [aqg h,aqg h,aqg h,aqg h]
 unfold placeB
 cases mAt s.p_m 0<;>cases mAt s.p_m 1<;>cases mAt s.p_m 2<;>cases mAt s.p_m 3<;>simp
def badQ (x y:Int):Bool:=!(x==0)&&(!(y==0)&&(decide (y≤x)&&!((x==4)&&(y==4))))
theorem tZ {d c:Int}{A:Option Bool}:(cond (!(d==(0:Int))) (cond (!(c==(0:Int))) (cond (decide (c≤d)) (cond (!(d==(4:Int))) (some true) (cond (!(c==(4:Int))) (some true) A)) A) A) A)=cond (badQ d c) (some true) A:=by
 unfold badQ
 cases(d==0)<;>cases(c==0)<;>cases decide (c≤d)<;>cases(d==4)<;>cases(c==4)<;>rfl
theorem ax3 {x y:Int}(hx:0≤x) (hy:0≤y):badQ x y=badP x y:=by
 unfold badQ badP
 have e1:(!(x==0))=decide (0<x):=by rw [Bool.eq_iff_iff];simp;omega
 have e2:(!(y==0))=decide (0<y):=by rw [Bool.eq_iff_iff];simp;omega
 rw [e1,e2]
theorem ez132 (n:Nat) (a b c d p q r t:Int):cK s (n+15) (.k6_0 a b c d p q r t)=some (badQ p b||(badQ p c||(badQ q c||(badQ p d||(badQ q d||badQ r d))))):=by
 have u1:∀m,cK s (m+1) (.k12_1 b a b c d p q r t)=cond (badQ p b) (some true) (cK s m (.k12_2 b a b c d p q r t)):=fun m=>(show _=_ from rfl).trans tZ
 have u2:∀m,cK s (m+1) (.k12_3 c a b c d p q r t)=cond (badQ p c) (some true) (cK s m (.k12_4 c a b c d p q r t)):=fun m=>(show _=_ from rfl).trans tZ
 have u3:∀m,cK s (m+1) (.k12_4 c a b c d p q r t)=cond (badQ q c) (some true) (cK s m (.k12_5 c a b c d p q r t)):=fun m=>(show _=_ from rfl).trans tZ
 have u4:∀m,cK s (m+1) (.k12_6 d a b c d p q r t)=cond (badQ p d) (some true) (cK s m (.k12_7 d a b c d p q r t)):=fun m=>(show _=_ from rfl).trans tZ
 have u5:∀m,cK s (m+1) (.k12_7 d a b c d p q r t)=cond (badQ q d) (some true) (cK s m (.k12_8 d a b c d p q r t)):=fun m=>(show _=_ from rfl).trans tZ
 have u6:∀m,cK s (m+1) (.k12_8 d a b c d p q r t)=cond (badQ r d) (some true) (cK s m (.k12_9 d a b c d p q r t)):=fun m=>(show _=_ from rfl).trans tZ
 have v1:∀m,cK s (m+3) (.k6_0 a b c d p q r t)=cK s m (.k12_1 b a b c d p q r t):=fun _=>rfl
 have v2:∀m,cK s (m+2) (.k12_2 b a b c d p q r t)=cK s m (.k12_3 c a b c d p q r t):=fun _=>rfl
 have v3:∀m,cK s (m+2) (.k12_5 c a b c d p q r t)=cK s m (.k12_6 d a b c d p q r t):=fun _=>rfl
 have v4:∀m,cK s (m+2) (.k12_9 d a b c d p q r t)=some false:=fun _=>rfl
 rw [show n+15=(n+12)+3 from rfl,v1,show n+12=(n+11)+1 from rfl,u1,show n+11=(n+9)+2 from rfl,v2,show n+9=(n+8)+1 from rfl,u2,show n+8=(n+7)+1 from rfl,u3,show n+7=(n+5)+2 from rfl,v3,show n+5=(n+4)+1 from rfl,u4,show n+4=(n+3)+1 from rfl,u5,show n+3=(n+2)+1 from rfl,u6,v4]
 cases badQ p b<;>cases badQ p c<;>cases badQ q c<;>cases badQ p d<;>cases badQ q d<;>cases badQ r d<;>rfl
theorem lM {l:List Mv}(h:aT l=0) {b1 b2 b3 i:Int}(hi:0≤i):0≤placeB l b1 b2 b3 i:=by
 unfold placeB
 split
 · rename_i m hm
   have:=j9 (axA h hm).2
   split<;>omega
 · split
   · omega
   · split<;>omega
theorem r11_p (h:aT s.p_m=0):ax9 (s,())=some (ordB (placeB s.p_m s.s_b1 s.s_b2 s.s_b3 0) (placeB s.p_m s.s_b1 s.s_b2 s.s_b3 1) (placeB s.p_m s.s_b1 s.s_b2 s.s_b3 2) (placeB s.p_m s.s_b1 s.s_b2 s.s_b3 3)):=by
 show Ez132 (s.p_m.length+64) s=_
 unfold Ez132 Tz132
 simp only [TS,w6]
 rw [s152 h,obind_some]
 have n0:=lM h (b1:=s.s_b1) (b2:=s.s_b2) (b3:=s.s_b3) (i:=0) (by omega)
 have n1:=lM h (b1:=s.s_b1) (b2:=s.s_b2) (b3:=s.s_b3) (i:=1) (by omega)
 have n2:=lM h (b1:=s.s_b1) (b2:=s.s_b2) (b3:=s.s_b3) (i:=2) (by omega)
 have n3:=lM h (b1:=s.s_b1) (b2:=s.s_b2) (b3:=s.s_b3) (i:=3) (by omega)
 generalize placeB s.p_m s.s_b1 s.s_b2 s.s_b3 0=p0 at *
 generalize placeB s.p_m s.s_b1 s.s_b2 s.s_b3 1=p1 at *
 generalize placeB s.p_m s.s_b1 s.s_b2 s.s_b3 2=p2 at *
 generalize placeB s.p_m s.s_b1 s.s_b2 s.s_b3 3=p3 at *
 rw [show s.p_m.length+64=(s.p_m.length+49)+15 from rfl,ez132]
 rw [ax3 n0 n1,ax3 n0 n2,ax3 n1 n2,ax3 n0 n3,ax3 n1 n3,ax3 n2 n3]
 unfold ordB
 cases badP p0 p1<;>cases badP p0 p2<;>cases badP p1 p2<;>cases badP p0 p3<;>cases badP p1 p3<;>cases badP p2 p3<;>rfl
end
end
end Go.Ev
