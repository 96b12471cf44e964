import Derived.Test.YtkhmgggponmimaaGreatDoorDQ2
set_option linter.unusedSimpArgs false
set_option linter.unusedVariables false
namespace Go.Ev
open Go.RowKit Go.Proofs
set_option maxRecDepth 100000
set_option maxHeartbeats 4000000
set_option linter.unusedSimpArgs false
noncomputable section
def evIn (e t:List Nat):Bool:=match e with
 | [x]=>hasC t (x:Int)
 | _=>false
def vEv (e:List Nat):Prop:=e=[]∨∃x∈[75,87,72,73,88,78,89],e=[x]
theorem vEv_of {e:List Nat}(h:t0 e=0):vEv e:=by
 unfold t0 at h
 split at h
 · rename_i h1
   match e,h1 with
   | [],_=>exact .inl rfl
   | [x],h1=>
     refine .inr ⟨x,?_,rfl⟩
     simp [isEv,hasC]at h1
     simp
     omega
   | x::y::l,h1=>simp [isEv]at h1
 · cases h
theorem azK {s:Tn}{t:List Nat}(hv:vEv s.p_e) (ht:t∈CL):iZ (s,t,())=some (evIn s.p_e t):=by
 show Ez178 s t=_
 unfold Ez178 Tz178
 simp only [TS,w6]
 rcases hv with h|⟨x,hx,h⟩
 · rw [h];rfl
 · have h2:wT (t,[x],())=some (hasC t (x:Int)):=by
    unfold wT
    have hx2:x∈OL:=by
     simp only [List.mem_cons,List.not_mem_nil,or_false]at hx
     rcases hx with rfl|rfl|rfl|rfl|rfl|rfl|rfl<;>simp [OL]
    show(if(t∈CL∧x∈OL)∨_ then _ else _)=_
    rw [if_pos (Or.inl ⟨ht,hx2⟩)]
   rw [h,h2];rfl
theorem s179 {s:Tn}(h:aC s.p_m=0):akn (s,())=some ((mAt s.p_m 0).getD mv0,(mAt s.p_m 0).isSome,()):=by
 show Ez179 s=_
 unfold Ez179 Tz179
 simp only [TS,w6]
 generalize s.p_m=l at h
 refine sh_cases h ?_ ?_ ?_ ?_ ?_ ?_ ?_ ?_ ?_ ?_ ?_ ?_ ?_ ?_ ?_ ?_<;>intros<;>simp_all [vMv,mAt,inR,wr0,wr1,wr2,wr3,mv0]
theorem s63 (s:St):Sz63 (s,())=some (true,!(s.b1==0),!(s.b1==0)&&!(s.b2==0),!(s.b1==0)&&(!(s.b2==0)&&!(s.b3==0)),()):=by
 have j:∀n,ayz s (n+5) (.k6 0 false false false)=some (true,!(s.b1==0),!(s.b1==0)&&!(s.b2==0),!(s.b1==0)&&(!(s.b2==0)&&!(s.b3==0)),()):=by
  intro n
  cases h1:(s.b1==0)<;>cases h2:(s.b2==0)<;>cases h3:(s.b3==0)<;>simp [Ez63J_s,ayb,TS,w6,h1,h2,h3,wr0,wr1,wr2,wr3]
 show Ez63 64 s=_
 unfold Ez63 Tz63
 simp only [TS,w6]
 exact j 59
end
end Go.Ev
namespace Go.Ev
open Go.RowKit Go.Proofs
set_option maxRecDepth 100000
set_option maxHeartbeats 4000000
set_option linter.unusedSimpArgs false
noncomputable section
def sufB (s t:List Nat):Bool:=decide (t.length≤s.length)&&decide (s.drop (s.length-t.length)=t)
def askC (c:Cnt) (l:List Nat):List Nat:=if c.1=4 then [87]else if c.2=3 then [75]else if sufB l [72]=true then [72]else if sufB l [88]=true then [88]else []
theorem cond_ite {α:Type}{c:Bool}{a b:α}:cond c a b=if c=true then a else b:=by cases c<;>rfl
theorem azd {c:Cnt}{x:Nat}(h:okC c false):¬((stepC c x).1=4∧(stepC c x).2=3):=by
 obtain⟨h1,h2,h3,h4,h5⟩:=h
 have h5:=h5 rfl
 unfold stepC
 split<;>(try split)<;>(try split)<;>(try split)<;>(try simp only)<;>omega
theorem ak0:∀ {l:List Nat}{c c':Cnt}{d d':Bool},okC c d→¬(c.1=4∧c.2=3)→cnt c d l=.inl (c',d')→okC c' d'∧¬(c'.1=4∧c'.2=3)
 | [],c,c',d,d',h,h2,hc=>by simp only [cnt,Sum.inl.injEq,Prod.mk.injEq]at hc;obtain⟨rfl,rfl⟩:=hc;exact⟨h,h2⟩
 | x :: l,c,c',d,d',h,h2,hc=>by
   simp only [cnt]at hc
   split at hc
   · cases hc
   · rename_i hd
     simp only [Bool.or_eq_true,Bool.not_eq_true',not_or,Bool.not_eq_true,Bool.not_eq_false]at hd
     obtain⟨rfl,_⟩:=hd
     cases hr:cnt (stepC c x) (doneC c x) l with
     | inr k=>rw [hr]at hc;cases hc
     | inl r=>
       rw [hr]at hc
       cases hc
       exact ak0 (ajQ h) (azd h) hr
theorem ak1 {b s:Int}{l:List Nat}(h:(axo b s l).2.2.1=0):0≤(axo b s l).1.1∧(axo b s l).1.1≤4∧0≤(axo b s l).1.2.1∧(axo b s l).1.2.1≤3∧¬((axo b s l).1.1=4∧(axo b s l).1.2.1=3):=by
 unfold axo at h ⊢
 split at h
 rotate_left
 · simp at h
 rename_i hin
 rw [if_pos hin]
 split at h
 rotate_left
 · simp at h
 rename_i hl
 rw [if_pos hl]
 cases hc:cnt (b,s) false l with
 | inr k=>rw [hc]at h;simp [cntQ]at h
 | inl q=>
   obtain⟨c',d'⟩:=q
   simp only [cntQ]
   have:=ak0 (c:=(b,s)) (d:=false) (by simp only [okC];omega) (by simp only;omega) hc
   obtain⟨⟨o1,o2,o3,o4,_⟩,o6⟩:=this
   exact⟨o1,o3,o2,o4,o6⟩
theorem s191 {s t:List Nat}(h1:s.length<9223372036854775808) (h2:t.length<9223372036854775808):Sz191 (s,t,())=some (sufB s t):=by
 show Ez191 s t=_
 unfold Ez191 Tz191
 simp only [TS,w6]
 by_cases hle:t.length≤s.length
 · have w:IntKind.i64.wrap (((s.length:Nat):Int)-((t.length:Nat):Int))=((s.length-t.length:Nat):Int):=by rw [b7]<;>omega
   have a1:decide (((t.length:Nat):Int)≤((s.length:Nat):Int))=true:=by simp<;>omega
   have a2:(decide ((0:Int)≤((s.length-t.length:Nat):Int))&&decide (((s.length-t.length:Nat):Int)≤((s.length:Nat):Int)))=true:=by simp<;>omega
   simp only [w,a1,a2,cond_true,List.take_length,Int.toNat_natCast,sufB,hle,decide_true,Bool.true_and]
 · have a1:decide (((t.length:Nat):Int)≤((s.length:Nat):Int))=false:=by simp<;>omega
   simp only [a1,cond_false,sufB,hle,decide_false,Bool.false_and]
theorem s140 {s t:List Nat}(h1:s.length<9223372036854775808) (h2:t.length<9223372036854775808):ayl (s,t,())=some (sufB s t):=by
 show Ez140 s t=_
 unfold Ez140 Tz140
 simp only [TS,w6]
 rw [s191 h1 h2];rfl
theorem s82 {k0 k1:Int}{l:List Nat}(hl:l.length<9223372036854775808) (hk:0≤k0∧k0≤4∧0≤k1∧k1≤3∧¬(k0=4∧k1=3)):Sz82 ((k0,k1,()),l,())=some (askC (k0,k1) l):=by
 show Ez82 (k0,k1,()) l=_
 unfold Ez82 Tz82
 simp only [TS,w6]
 rw [s140 hl (by simp),obind_some,s140 hl (by simp),obind_some]
 simp only [cond_ite,decide_eq_true_eq,askC]
 have e1:(2<k1)=(k1=3):=by apply propext;omega
 have e2:(3<k0)=(k0=4):=by apply propext;omega
 simp only [e1,e2]
 by_cases h1:k0=4
 · have h2:¬k1=3:=fun h2=>hk.2.2.2.2 ⟨h1,h2⟩
   rw [if_neg h2,if_pos h1,if_pos h1]
 · rw [if_neg h1]
   by_cases h2:k1=3
   · rw [if_pos h2,if_neg h1,if_pos h2]
   · rw [if_neg h2,if_neg h1,if_neg h2]
     split
     · rfl
     · split<;>rfl
def aqn (a e:List Nat):Bool:=if a=[88]then decide (e=[88])||decide (e=[89])else if a=[]then decide (e=[])||(decide (e=[73])||decide (e=[78]))else decide (e=a)
theorem vU {e t:List Nat}:evIn e t=true↔∃x,e=[x]∧x∈t:=by
 unfold evIn
 split
 · rename_i x
   simp only [hasC,List.any_eq_true,beq_iff_eq]
   constructor
   · rintro ⟨y,hy,h⟩
     exact⟨x,rfl,by rw [←Int.ofNat.inj h];exact hy⟩
   · rintro ⟨y,h,hy⟩
     cases h
     exact⟨x,hy,rfl⟩
 · rename_i h
   constructor
   · intro h;cases h
   · rintro⟨x,rfl,_⟩;exact absurd rfl (h x)
theorem r2_p {s:Tn}(hv:vEv s.p_e) (hl:s.p_p.length<9223372036854775808) (hk:0≤s.k0∧s.k0≤4∧0≤s.k1∧s.k1≤3∧¬(s.k0=4∧s.k1=3)):awB (s,())=some (!aqn (askC (s.k0,s.k1) s.p_p) s.p_e):=by
 show Ez123 s=_
 unfold Ez123 Tz123
 simp only [TS,w6]
 rw [s82 hl hk,obind_some,azK hv (by simp [CL]),azK hv (by simp [CL]),obind_some,obind_some]
 show(cond _ (aM (Ez145 s) _) _)=_
 unfold Ez145 Tz145
 simp only [TS,w6]
 generalize askC (s.k0,s.k1) s.p_p=a
 rcases hv with h|⟨x,hx,h⟩
 · simp only [h]
   by_cases h1:a=[]<;>by_cases h2:a=[88]<;>simp_all [aqn,evIn,obind_some]
 · simp only [h]
   simp only [List.mem_cons,List.not_mem_nil,or_false]at hx
   rcases hx with rfl|rfl|rfl|rfl|rfl|rfl|rfl<;>by_cases h1:a=[]<;>by_cases h2:a=[88]<;>simp_all [aqn,evIn,hasC,obind_some]
end
end Go.Ev
