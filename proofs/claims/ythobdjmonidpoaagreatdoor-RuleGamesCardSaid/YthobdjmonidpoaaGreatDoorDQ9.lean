import Derived.Test.YthobdjmonidpoaaGreatDoorDQ5
set_option linter.unusedSimpArgs false
set_option linter.unusedVariables false
namespace Go.Ev
open Go.RowKit Go.Proofs
set_option maxRecDepth 100000
set_option maxHeartbeats 8000000
set_option linter.unusedSimpArgs false
noncomputable section
theorem axF {m:Mv}(h:mvE m=0) (hf:m.f=0):(m.o,m.h)∈[(false,[98]),(false,[97]),(false,[112]),(false,[116]),(false,[111]),(true,[102]),(true,[103]),(true,[99]),(true,[107]),(true,[110]),(true,[121])]:=by
 obtain⟨w,hw,h1,h2,h3⟩:=aw6 h
 rw [if_pos hf,hf]at h3
 simp only [wayT,List.mem_cons,List.not_mem_nil,or_false]at hw
 rw [←h1,←h2]
 rcases hw with rfl|rfl|rfl|rfl|rfl|rfl|rfl|rfl|rfl|rfl|rfl|rfl|rfl|rfl<;>simp [reachB]at h3 ⊢
def batFits (e:List Nat) (m:Mv):Bool:=if e=[75]then(m.o&&evIn m.h [107,102,103])||(!m.o&&evIn m.h [112,116])
 else if e=[87]∨e=[72]∨e=[73]then(!m.o&&evIn m.h [97])&&(m.t==1)
 else if e=[88]then(!m.o&&evIn m.h [98,116,111])||(m.o&&evIn m.h [102,99,103])
 else if e=[78]then m.o&&evIn m.h [110]else m.o&&evIn m.h [121]
theorem s199 {e:List Nat}{m:Mv}(hm:mvE m=0):Sz199 (e,m,())=some (batFits e m):=by
 show Ez199 e m=_
 unfold Ez199 Tz199 batFits
 simp only [TS,w6]
 simp only [ajg (u:=[107,102,103]) (by simp) hm,ajg (u:=[112,116]) (by simp) hm,ajg (u:=[97]) (by simp) hm,ajg (u:=[98,116,111]) (by simp) hm,ajg (u:=[102,99,103]) (by simp) hm,ajg (u:=[110]) (by simp) hm,ajg (u:=[121]) (by simp) hm,obind_some]
 have e1:∀b:Bool,(b==true)=b:=by decide
 have e2:∀b:Bool,(b==false)=!b:=by decide
 simp only [e1,e2]
 by_cases h1:e=[75]
 · subst h1;simp [cond_ite];cases m.o<;>cases evIn m.h [107,102,103]<;>simp
 by_cases h2:e=[87]
 · subst h2;simp [cond_ite];cases m.o<;>cases evIn m.h [97]<;>simp
 by_cases h3:e=[72]
 · subst h3;simp [cond_ite];cases m.o<;>cases evIn m.h [97]<;>simp
 by_cases h4:e=[73]
 · subst h4;simp [cond_ite];cases m.o<;>cases evIn m.h [97]<;>simp
 by_cases h5:e=[88]
 · subst h5;simp [cond_ite];cases m.o<;>cases evIn m.h [98,116,111]<;>simp
 by_cases h6:e=[78]
 · subst h6;simp
 simp [h1,h2,h3,h4,h5,h6]
theorem r5_p {s:Tn}(h:aB s.p_m=0) (hv:vEv s.p_e) (h3:(mAt s.p_m 0).isSome=!decide (s.p_e=[])):ayy (s,())=some (match mAt s.p_m 0 with
  | some m=>!batFits s.p_e m
  | none=>false):=by
 show Ez126 s=_
 unfold Ez126 Tz126
 simp only [TS,w6]
 rw [s179 h,obind_some]
 cases hb:mAt s.p_m 0 with
 | none=>rfl
 | some m=>
   have hm:=oV h hb
   rw [hb]at h3
   simp only [Option.isSome_some]at h3
   simp only [Option.getD_some,Option.isSome_some,Bool.not_true,cond_false]
   have hS:=fun c (hc:c∈CL)=>s181 hc (ajN hm.2)
   rw [hS [107,102,103,112,116] (by simp [CL]),hS [97] (by simp [CL]),hS [98,116,111,102,99,103] (by simp [CL]),hS [110] (by simp [CL]),hS [121] (by simp [CL]),hS [] (by simp [CL])]
   simp only [obind_some]
   have hw:=axF hm.2 hm.1
   clear hS hm hb
   obtain⟨f,t,o,hh,b⟩:=m
   dsimp only at hw ⊢
   rcases hv with hv|⟨x,hx,hv⟩
   · rw [hv]at h3;simp at h3
   rw [hv]
   clear hv h3
   simp only [List.mem_cons,List.not_mem_nil,or_false]at hx
   simp only [List.mem_cons,List.not_mem_nil,or_false,Prod.mk.injEq]at hw
   rcases hx with rfl|rfl|rfl|rfl|rfl|rfl|rfl<;>rcases hw with⟨rfl,rfl⟩ | ⟨rfl,rfl⟩ | ⟨rfl,rfl⟩ | ⟨rfl,rfl⟩ | ⟨rfl,rfl⟩ | ⟨rfl,rfl⟩ | ⟨rfl,rfl⟩ | ⟨rfl,rfl⟩ | ⟨rfl,rfl⟩ | ⟨rfl,rfl⟩ | ⟨rfl,rfl⟩<;>simp [batFits,evIn,hasC]
theorem rr5 {s:St}{t:Pl}(h:aB t.m=0) (hl:t.p.length<9223372036854775808):iS (s,t,5,())=some (match mAt t.m 0 with
  | some m=>!batFits t.e m
  | none=>false):=by
 show iH _ s t 5=_
 unfold iH sD
 simp only [TS,w6]
 rw [s29 hl,obind_some,awV h,obind_some]
 cases hb:mAt t.m 0 with
 | none=>rfl
 | some m=>
   have hm:=oV h hb
   simp only [Option.getD_some,Option.isSome_some]
   rw [s199 hm.2];rfl
theorem rr6 {s:St}{t:Pl}(h:aB t.m=0) (hl:t.p.length<9223372036854775808) (h3:(mAt t.m 0).isSome=!decide (t.e=[])):iS (s,t,6,())=some (decide (t.e=[75])&&(!batIn t.m [107]&&(!(s.b1==0)&&decide (s.outs<2)))):=by
 show iH _ s t 6=_
 unfold iH sD batIn
 simp only [TS,w6]
 rw [s29 hl,obind_some,awV h,obind_some]
 cases hb:mAt t.m 0 with
 | none=>
   rw [hb]at h3
   have:t.e=[]:=by simpa using h3
   rw [this];rfl
 | some m=>
   have hm:=oV h hb
   simp only [Option.getD_some,Option.isSome_some]
   rw [ajg (by simp) hm.2,obind_some]
   have e1:∀b:Bool,(b==true)=b:=by decide
   simp only [e1]
   show cond _ _ _=_
   cases decide (t.e=[75])<;>cases(m.o&&evIn m.h [107])<;>cases(s.b1==0)<;>rfl
end
end Go.Ev
namespace Go.Ev
open Go.RowKit Go.Proofs
set_option maxRecDepth 100000
set_option maxHeartbeats 8000000
set_option linter.unusedSimpArgs false
noncomputable section
theorem jZ {m:Mv}(h:mvE m=0) (hf:¬m.f=0):(m.o,m.h)∈[(false,[98]),(false,[97]),(false,[115]),(false,[112]),(false,[107]),(false,[116]),(false,[111]),(true,[102]),(true,[103]),(true,[100]),(true,[110])]:=by
 obtain⟨w,hw,h1,h2,h3⟩:=aw6 h
 rw [if_neg hf]at h3
 simp only [wayT,List.mem_cons,List.not_mem_nil,or_false]at hw
 rw [←h1,←h2]
 rcases hw with rfl|rfl|rfl|rfl|rfl|rfl|rfl|rfl|rfl|rfl|rfl|rfl|rfl|rfl<;>simp [reachB]at h3 ⊢
def fcdB (f1 f2 f3:Bool) (f:Int):Bool:=if f=1 then f1 else if f=2 then f2 else f3
def wayB (e p:List Nat) (fc bc bk:Bool) (m:Mv):Bool:=
 if m.h=[98]then decide (e=[88])||decide (e=[89])
 else if m.h=[97]then(decide (e=[87])||(decide (e=[72])||decide (e=[73])))&&(fc&&(m.t==IntKind.i64.wrap (m.f+1)))
 else if m.h=[115]then decide (e=[])||(decide (e=[75])||decide (e=[87]))
 else if m.h=[112]then(decide (e=[])||(decide (e=[75])||decide (e=[87])))&&!decide (p=[])
 else if m.h=[107]then decide (e=[])
 else if m.h=[102]then fc&&((decide (e=[88])||decide (e=[75]))&&!bk)
 else if m.h=[100]then decide (e=[89])||bc
 else !(decide (e=[72])||(decide (e=[73])||decide (e=[78])))
theorem s183 {s:Tn}{m:Mv}(h:aB s.p_m=0) (hv:vEv s.p_e) (hm:mvE m=0) (hf:¬m.f=0) (ho:m.o=true):Sz183 (s,m,())=some (wayB s.p_e s.p_p (fcdB s.f1 s.f2 s.f3 m.f) (batIn s.p_m [99]) (batIn s.p_m [99,107]) m):=by
 show Ez183 s m=_
 unfold Ez183 Tz183
 simp only [TS,w6]
 rw [azS (t:=[88,75]) hv (by simp [CL]),azS (t:=[89]) hv (by simp [CL]),azS (t:=[72,73,78]) hv (by simp [CL]),s182 (t:=[99,107]) h (by simp [CL]),s182 (t:=[99]) h (by simp [CL])]
 simp only [obind_some]
 have hw:=jZ hm hf
 have hr:=fR hm
 have h4:m.f=1∨m.f=2∨m.f=3:=by omega
 generalize batIn s.p_m [99]=bc
 generalize batIn s.p_m [99,107]=bk
 obtain⟨f,t,o,hh,b⟩:=m
 dsimp only at hw ho h4 ⊢
 clear hm hf hr
 subst ho
 simp only [List.mem_cons,List.not_mem_nil,or_false,Prod.mk.injEq]at hw
 rcases hv with hv|⟨x,hx,hv⟩
 · rw [hv]
   rcases h4 with rfl|rfl|rfl<;>rcases hw with⟨hh,rfl⟩ | ⟨hh,rfl⟩ | ⟨hh,rfl⟩ | ⟨hh,rfl⟩ | ⟨hh,rfl⟩ | ⟨hh,rfl⟩ | ⟨hh,rfl⟩ | ⟨hh,rfl⟩ | ⟨hh,rfl⟩ | ⟨hh,rfl⟩ | ⟨hh,rfl⟩<;>first|(cases hh;done)|(simp [wayB,fcdB,evIn];done)|(simp [wayB,fcdB,evIn];cases s.f1<;>cases s.f2<;>cases s.f3<;>cases bc<;>cases bk<;>rfl)
 · rw [hv]
   simp only [List.mem_cons,List.not_mem_nil,or_false]at hx
   rcases hx with rfl|rfl|rfl|rfl|rfl|rfl|rfl<;>rcases h4 with rfl|rfl|rfl<;>rcases hw with⟨hh,rfl⟩ | ⟨hh,rfl⟩ | ⟨hh,rfl⟩ | ⟨hh,rfl⟩ | ⟨hh,rfl⟩ | ⟨hh,rfl⟩ | ⟨hh,rfl⟩ | ⟨hh,rfl⟩ | ⟨hh,rfl⟩ | ⟨hh,rfl⟩ | ⟨hh,rfl⟩<;>first|(cases hh;done)|(simp [wayB,fcdB,evIn,hasC];done)|(simp [wayB,fcdB,evIn,hasC];cases s.f1<;>cases s.f2<;>cases s.f3<;>cases bc<;>cases bk<;>rfl)
theorem s184 {s:Tn}{m:Mv}(hv:vEv s.p_e) (hm:mvE m=0) (hf:¬m.f=0) (ho:m.o=false) (bc bk:Bool):ayi (s,m,())=some (wayB s.p_e s.p_p (fcdB s.f1 s.f2 s.f3 m.f) bc bk m):=by
 show Ez184 s m=_
 unfold Ez184 Tz184
 simp only [TS,w6]
 have h5:tB (s,())=some (decide (s.p_e=[])):=rfl
 rw [azS (t:=[88,89]) hv (by simp [CL]),azS (t:=[87,72,73]) hv (by simp [CL]),azS (t:=[75,87]) hv (by simp [CL]),azS (t:=[72,73,78]) hv (by simp [CL]),h5]
 simp only [obind_some]
 have hw:=jZ hm hf
 have hr:=fR hm
 have h4:m.f=1∨m.f=2∨m.f=3:=by omega
 obtain⟨f,t,o,hh,b⟩:=m
 dsimp only at hw ho h4 ⊢
 clear hm hf hr
 subst ho
 simp only [List.mem_cons,List.not_mem_nil,or_false,Prod.mk.injEq]at hw
 rcases hv with hv|⟨x,hx,hv⟩
 · rw [hv]
   rcases h4 with rfl|rfl|rfl<;>rcases hw with⟨hh,rfl⟩ | ⟨hh,rfl⟩ | ⟨hh,rfl⟩ | ⟨hh,rfl⟩ | ⟨hh,rfl⟩ | ⟨hh,rfl⟩ | ⟨hh,rfl⟩ | ⟨hh,rfl⟩ | ⟨hh,rfl⟩ | ⟨hh,rfl⟩ | ⟨hh,rfl⟩<;>first|(cases hh;done)|(simp [wayB,fcdB,evIn];done)|(simp [wayB,fcdB,evIn];cases s.f1<;>cases s.f2<;>cases s.f3<;>rfl)
 · rw [hv]
   simp only [List.mem_cons,List.not_mem_nil,or_false]at hx
   rcases hx with rfl|rfl|rfl|rfl|rfl|rfl|rfl<;>rcases h4 with rfl|rfl|rfl<;>rcases hw with⟨hh,rfl⟩ | ⟨hh,rfl⟩ | ⟨hh,rfl⟩ | ⟨hh,rfl⟩ | ⟨hh,rfl⟩ | ⟨hh,rfl⟩ | ⟨hh,rfl⟩ | ⟨hh,rfl⟩ | ⟨hh,rfl⟩ | ⟨hh,rfl⟩ | ⟨hh,rfl⟩<;>first|(cases hh;done)|(simp [wayB,fcdB,evIn,hasC];done)|(simp [wayB,fcdB,evIn,hasC];cases s.f1<;>cases s.f2<;>cases s.f3<;>rfl)
end
end Go.Ev
namespace Go.Ev
open Go.RowKit Go.Proofs
set_option maxRecDepth 100000
set_option maxHeartbeats 8000000
set_option linter.unusedSimpArgs false
noncomputable section
theorem ak2 {s:St}{t:Pl}{m:Mv}(n:Nat) (hv:vEv t.e) (hw:(m.o,m.h)∈[(false,[98]),(false,[97]),(false,[115]),(false,[112]),(false,[107]),(false,[116]),(false,[111]),(true,[102]),(true,[103]),(true,[100]),(true,[110])]) (h4:m.f=1∨m.f=2∨m.f=3)
  (has:Bool) (b:Mv) (bc bk g1 g2 g3:Bool) (q25:Sz25 (s,())=some (true,g1,g2,g3,())) (i1:has=true→fL ((⟨b.f,b.t,b.o,b.h,b.b⟩:Mv),true,[99],())=some bc) (i2:has=true→fL ((⟨b.f,b.t,b.o,b.h,b.b⟩:Mv),true,[99,107],())=some bk) (i3:has=false→bc=false∧bk=false) :
   (cond (decide (t.e=[72])) (uM s t m (n+5) (.k9 has b.f b.t b.o b.h b.b true)) (cond (decide (t.e=[73])) (uM s t m (n+5) (.k9 has b.f b.t b.o b.h b.b true)) (uM s t m (n+5) (.k9 has b.f b.t b.o b.h b.b (decide (t.e=[78])))))) =
   some (wayB t.e t.p (fcdB g1 g2 g3 m.f) bc bk m):=by
 obtain⟨p,ev,lt,l⟩:=t
 obtain⟨f,tt,o,hh,bb⟩:=m
 dsimp only at hw h4 hv ⊢
 have hev:ev=[]∨ev=[75]∨ev=[87]∨ev=[72]∨ev=[73]∨ev=[88]∨ev=[78]∨ev=[89]:=by
  rcases hv with rfl|⟨x,hx,rfl⟩
  · exact .inl rfl
  · simp only [List.mem_cons,List.not_mem_nil,or_false]at hx
    rcases hx with rfl|rfl|rfl|rfl|rfl|rfl|rfl<;>simp
 clear hv
 simp only [List.mem_cons,List.not_mem_nil,or_false,Prod.mk.injEq]at hw
 cases has with
 | false=>
   obtain⟨rfl,rfl⟩:=i3 rfl
   clear i1 i2 i3
   rcases hev with rfl|rfl|rfl|rfl|rfl|rfl|rfl|rfl<;>rcases h4 with rfl|rfl|rfl<;>simp [Ez202J_s,Tz202J,TS,w6,q25,obind_some] <;>
    rcases hw with⟨rfl,rfl⟩ | ⟨rfl,rfl⟩ | ⟨rfl,rfl⟩ | ⟨rfl,rfl⟩ | ⟨rfl,rfl⟩ | ⟨rfl,rfl⟩ | ⟨rfl,rfl⟩ | ⟨rfl,rfl⟩ | ⟨rfl,rfl⟩ | ⟨rfl,rfl⟩ | ⟨rfl,rfl⟩<;>first|(simp [wayB,fcdB];done)|(simp [wayB,fcdB];cases g1<;>cases g2<;>cases g3<;>rfl)
 | true=>
   have i1:=i1 rfl
   have i2:=i2 rfl
   clear i3
   rcases hev with rfl|rfl|rfl|rfl|rfl|rfl|rfl|rfl<;>rcases h4 with rfl|rfl|rfl<;>simp [Ez202J_s,Tz202J,TS,w6,q25,i1,i2,obind_some] <;>
    rcases hw with⟨rfl,rfl⟩ | ⟨rfl,rfl⟩ | ⟨rfl,rfl⟩ | ⟨rfl,rfl⟩ | ⟨rfl,rfl⟩ | ⟨rfl,rfl⟩ | ⟨rfl,rfl⟩ | ⟨rfl,rfl⟩ | ⟨rfl,rfl⟩ | ⟨rfl,rfl⟩ | ⟨rfl,rfl⟩<;>first|(simp [wayB,fcdB];done)|(simp [wayB,fcdB];cases g1<;>cases g2<;>cases g3<;>cases bc<;>cases bk<;>rfl)
theorem s202 {s:St}{t:Pl}{m:Mv}(h:aB t.m=0) (hv:vEv t.e) (hm:mvE m=0) (hf:¬m.f=0) :
  ayg (s,t,m,())=some (wayB t.e t.p (fcdB (!(s.b1==0)) (!(s.b1==0)&&!(s.b2==0)) (!(s.b1==0)&&(!(s.b2==0)&&!(s.b3==0))) m.f) (batIn t.m [99]) (batIn t.m [99,107]) m):=by
 obtain⟨n,e⟩:=aqY (bF h)
 show Ez202 (t.m.length+64) s t m=_
 rw [e]
 unfold Ez202 Tz202
 simp only [TS,w6]
 rw [awV h,obind_some]
 have hr:=fR hm
 cases hb:mAt t.m 0 with
 | none=>exact ak2 n hv (jZ hm hf) (by omega) false mv0 _ _ _ _ _ (s25 s) (fun h=>by cases h) (fun h=>by cases h) (fun _=>by simp [batIn,hb])
 | some b=>
   have hbv:=oV h hb
   have e1:∀b:Bool,(b==true)=b:=by decide
   refine ak2 n hv (jZ hm hf) (by omega) true b _ _ _ _ _ (s25 s) (fun _=>?_) (fun _=>?_) (fun h=>by cases h)
   · simp only [batIn,hb]
     have:=ajg (b:=true) (u:=[99]) (by simp) hbv.2
     rw [e1]at this;exact this
   · simp only [batIn,hb]
     have:=ajg (b:=true) (u:=[99,107]) (by simp) hbv.2
     rw [e1]at this;exact this
end
end Go.Ev
namespace Go.Ev
open Go.RowKit Go.Proofs
set_option maxRecDepth 100000
set_option maxHeartbeats 8000000
set_option linter.unusedSimpArgs false
noncomputable section
theorem qM {l:List Mv}(h:aB l=0):∀m∈l,mvE m=0:=by
 refine sh_cases h ?_ ?_ ?_ ?_ ?_ ?_ ?_ ?_ ?_ ?_ ?_ ?_ ?_ ?_ ?_ ?_<;>intros<;>simp only [vMv,List.mem_cons,List.not_mem_nil,or_false]at *<;>rename_i hx<;>(try exact hx.elim)<;>(try (rcases hx with rfl|rfl|rfl|rfl))<;>(try (rcases hx with rfl|rfl|rfl))<;>(try (rcases hx with rfl|rfl))<;>(try subst hx)<;>simp_all
def bzB (b1 b2 b3:Int) (f:Int):Bool:=if f=1 then b1==0 else if f=2 then b2==0 else b3==0
def fcS (s:St) (f:Int):Bool:=fcdB (!(s.b1==0)) (!(s.b1==0)&&!(s.b2==0)) (!(s.b1==0)&&(!(s.b2==0)&&!(s.b3==0))) f
def chk4 (s:St) (m:Mv):Bool:=decide (0<m.f)&&bzB s.b1 s.b2 s.b3 m.f
def chk8 (s:St) (t:Pl) (m:Mv):Bool:=decide (0<m.f)&&!wayB t.e t.p (fcS s m.f) (batIn t.m [99]) (batIn t.m [99,107]) m
def chkR (s:St) (t:Pl) (u:Int) (m:Mv):Bool:=if u=4 then chk4 s m else if u=8 then chk8 s t m else false
def balk (m:Mv):Bool:=decide (m.h=[107])&&!m.o
section
variable {s:St}{t:Pl}{u:Int}
theorem st44 (h:aB t.m=0) (hv:vEv t.e) (n k:Nat) (x:Bool) {m:Mv}(hm:t.m[k]? = some m):aC s t u (n+4) (.k44 x (k:Int))=cond (chkR s t u m) (some true) (aC s t u n (.k44 (x||balk m) ((k+1:Nat):Int))):=by
 have hlen:=bF h
 have hk:k<t.m.length:=(List.getElem?_eq_some_iff.1 hm).1
 have hmv:=qM h m (List.mem_of_getElem? hm)
 have hr:=fR hmv
 have c1:decide ((k:Int)<((t.m.length:Nat):Int))=true:=by simp;omega
 have c2:inR (k:Int) t.m.length=true:=fE (by omega) (by omega)
 have w4:IntKind.i64.wrap ((k:Int)+1)=(k:Int)+1:=by rw [cL]<;>omega
 have hg:t.m[k]?.getD mv0=m:=by rw [hm];rfl
 have q8:¬m.f=0→ayg (s,t,(⟨m.f,m.t,m.o,m.h,m.b⟩:Mv),())=some (wayB t.e t.p (fcS s m.f) (batIn t.m [99]) (batIn t.m [99,107]) m):=fun hf=>s202 h hv hmv hf
 have rest:∀y:Bool,aC s t u (n+3) (.k51 y (k:Int))=cond (chkR s t u m) (some true) (aC s t u n (.k44 y ((k+1:Nat):Int))):=by
  intro y
  by_cases hf:m.f=0
  · simp [Ez153J_s,Tz153J,TS,w6,c2,hg,hf,w4,chkR,chk4,chk8]
  · have hp:decide (0<m.f)=true:=by simp;omega
    have hp':0<m.f:=by omega
    have h4:m.f=1∨m.f=2∨m.f=3:=by omega
    by_cases hu4:u=4
    · subst hu4
      rcases h4 with h4|h4|h4<;>simp [Ez153J_s,Tz153J,TS,w6,c2,hg,h4,w4,wr0,wr1,wr2,chkR,chk4,bzB]
    · by_cases hu8:u=8
      · subst hu8
        have q8:=q8 hf
        simp [Ez153J_s,Tz153J,TS,w6,c2,hg,hp',w4,q8,chkR,chk8,obind_some]
      · have e4:(u==4)=false:=by simpa using hu4
        have e8:(u==8)=false:=by simpa using hu8
        simp [Ez153J_s,Tz153J,TS,w6,c2,hg,hp',w4,e4,e8,hu4,hu8,chkR]
 have e0:aC s t u (n+4) (.k44 x (k:Int))=aC s t u (n+3) (.k51 (x||balk m) (k:Int)):=by
  have c1':decide (k<t.m.length)=true:=by simpa using hk
  have u1:aC s t u (n+4) (.k44 x (k:Int))=(cond (decide ((k:Int)<((t.m.length:Nat):Int))) (cond x (aC s t u (n+3) (.k51 true k)) (cond (inR (k:Int) t.m.length) (cond (decide (((t.m.getD (k:Int).toNat mv0).h)=[107])) (cond (inR (k:Int) t.m.length) (aC s t u (n+3) (.k51 (!(t.m.getD (k:Int).toNat mv0).o) k)) none) (aC s t u (n+3) (.k51 false k))) none)) (aC s t u (n+3) (.k61 x))):=rfl
  rw [u1,c1,c2,Int.toNat_natCast,aW hm]
  unfold balk
  cases x<;>by_cases hh:m.h=[107]<;>simp [hh]
 rw [e0,rest]
theorem lp44 (h:aB t.m=0) (hv:vEv t.e):∀(j k n:Nat) (x:Bool),t.m.length=k+j→aC s t u (n+4*j+1) (.k44 x (k:Int))=cond ((t.m.drop k).any (chkR s t u)) (some true) (aC s t u n (.k61 (x||(t.m.drop k).any balk)))
 | 0,k,n,x,hl=>by
   have c1:decide ((k:Int)<((t.m.length:Nat):Int))=false:=by simp;omega
   rw [List.drop_eq_nil_of_le (by omega)]
   show aC s t u (n+1) _=_
   simp only [Ez153J_s,Tz153J,TS,w6,c1,cond_false,List.any_nil,Bool.or_false]
 | j + 1,k,n,x,hl=>by
   have hk:k<t.m.length:=by omega
   obtain⟨m,hm⟩:∃m,t.m[k]? = some m:=⟨t.m[k],List.getElem?_eq_getElem hk⟩
   have ih:=lp44 h hv j (k+1) n (x||balk m) (by omega)
   have hd:t.m.drop k=m::t.m.drop (k+1):=by
    obtain⟨h1,h2⟩:=List.getElem?_eq_some_iff.1 hm
    rw [List.drop_eq_getElem_cons h1,h2]
   rw [show n+4*(j+1)+1=(n+4*j+1)+4 by omega,st44 h hv _ k x hm,ih,hd]
   simp only [List.any_cons,Bool.or_assoc]
   cases chkR s t u m<;>rfl
end
end
end Go.Ev
