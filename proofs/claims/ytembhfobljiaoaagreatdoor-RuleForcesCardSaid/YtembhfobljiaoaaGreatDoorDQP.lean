import Derived.Test.YtembhfobljiaoaaGreatDoorDQD
set_option linter.unusedSimpArgs false
set_option linter.unusedVariables false
namespace Go.Ev
open Go.RowKit Go.Proofs
set_option maxRecDepth 100000
set_option maxHeartbeats 8000000
set_option linter.unusedSimpArgs false
noncomputable section
def outsI (s:St) (t:Pl):Int:=IntKind.i64.wrap (s.outs+((t.m.countP (·.o):Nat):Int))
def bV (s:St) (t:Pl):Tn:=⟨s.inn,s.half,s.outs,s.balls,s.strikes,s.b1,s.b2,s.b3,s.n0,s.n1,s.c0,s.c1,s.over,t.p,t.e,t.l,t.m,(oL s t).1.1,(oL s t).1.2.1,(oL s t).2.2.1==0,outsI s t,true,!(s.b1==0),!(s.b1==0)&&!(s.b2==0),!(s.b1==0)&&(!(s.b2==0)&&!(s.b3==0))⟩
theorem s143 {s:St}{t:Pl}(h:aT t.m=0) (hb:dT t.p=true):awi (s,t,())=some (bV s t):=by
 show Ez143 (t.m.length+64) s t=_
 unfold Ez143 Tz143
 simp only [TS,w6]
 have e:S81 (s.balls,s.strikes,t.p,())=some (oL s t):=by unfold S81;rw [if_pos hb];rfl
 rw [e,obind_some,outs_p (iE h),obind_some,s63,obind_some]
 rfl
theorem u144_0 (s:Tn) (n:Nat) (x0 x1 x2 x3 x4 x5 x6 x7 x8 x9 x10 x11 x12:List Nat):bD s (n+1) (.k6_0 x0 x1 x2 x3 x4 x5 x6 x7 x8 x9 x10 x11 x12)=aV (axj (s,())) fun r=>cond r (some (1:Int)) (bD s n (.k6_1 x0 x1 x2 x3 x4 x5 x6 x7 x8 x9 x10 x11 x12)):=rfl
theorem u144_1 (s:Tn) (n:Nat) (x0 x1 x2 x3 x4 x5 x6 x7 x8 x9 x10 x11 x12:List Nat):bD s (n+1) (.k6_1 x0 x1 x2 x3 x4 x5 x6 x7 x8 x9 x10 x11 x12)=aV (axi (s,())) fun r=>cond r (some (2:Int)) (bD s n (.k6_2 x0 x1 x2 x3 x4 x5 x6 x7 x8 x9 x10 x11 x12)):=rfl
theorem u144_2 (s:Tn) (n:Nat) (x0 x1 x2 x3 x4 x5 x6 x7 x8 x9 x10 x11 x12:List Nat):bD s (n+1) (.k6_2 x0 x1 x2 x3 x4 x5 x6 x7 x8 x9 x10 x11 x12)=aV (axh (s,())) fun r=>cond r (some (3:Int)) (bD s n (.k6_3 x0 x1 x2 x3 x4 x5 x6 x7 x8 x9 x10 x11 x12)):=rfl
theorem u144_3 (s:Tn) (n:Nat) (x0 x1 x2 x3 x4 x5 x6 x7 x8 x9 x10 x11 x12:List Nat):bD s (n+1) (.k6_3 x0 x1 x2 x3 x4 x5 x6 x7 x8 x9 x10 x11 x12)=aV (axg (s,())) fun r=>cond r (some (4:Int)) (bD s n (.k6_4 x0 x1 x2 x3 x4 x5 x6 x7 x8 x9 x10 x11 x12)):=rfl
theorem u144_4 (s:Tn) (n:Nat) (x0 x1 x2 x3 x4 x5 x6 x7 x8 x9 x10 x11 x12:List Nat):bD s (n+1) (.k6_4 x0 x1 x2 x3 x4 x5 x6 x7 x8 x9 x10 x11 x12)=aV (axf (s,())) fun r=>cond r (some (5:Int)) (bD s n (.k6_5 x0 x1 x2 x3 x4 x5 x6 x7 x8 x9 x10 x11 x12)):=rfl
theorem u144_5 (s:Tn) (n:Nat) (x0 x1 x2 x3 x4 x5 x6 x7 x8 x9 x10 x11 x12:List Nat):bD s (n+1) (.k6_5 x0 x1 x2 x3 x4 x5 x6 x7 x8 x9 x10 x11 x12)=aV (axe (s,())) fun r=>cond r (some (6:Int)) (bD s n (.k6_6 x0 x1 x2 x3 x4 x5 x6 x7 x8 x9 x10 x11 x12)):=rfl
theorem u144_6 (s:Tn) (n:Nat) (x0 x1 x2 x3 x4 x5 x6 x7 x8 x9 x10 x11 x12:List Nat):bD s (n+1) (.k6_6 x0 x1 x2 x3 x4 x5 x6 x7 x8 x9 x10 x11 x12)=aV (axd (s,())) fun r=>cond r (some (7:Int)) (bD s n (.k6_7 x0 x1 x2 x3 x4 x5 x6 x7 x8 x9 x10 x11 x12)):=rfl
theorem u144_7 (s:Tn) (n:Nat) (x0 x1 x2 x3 x4 x5 x6 x7 x8 x9 x10 x11 x12:List Nat):bD s (n+1) (.k6_7 x0 x1 x2 x3 x4 x5 x6 x7 x8 x9 x10 x11 x12)=aV (axc (s,())) fun r=>cond r (some (8:Int)) (bD s n (.k6_8 x0 x1 x2 x3 x4 x5 x6 x7 x8 x9 x10 x11 x12)):=rfl
theorem u144_8 (s:Tn) (n:Nat) (x0 x1 x2 x3 x4 x5 x6 x7 x8 x9 x10 x11 x12:List Nat):bD s (n+1) (.k6_8 x0 x1 x2 x3 x4 x5 x6 x7 x8 x9 x10 x11 x12)=aV (axb (s,())) fun r=>cond r (some (9:Int)) (bD s n (.k6_9 x0 x1 x2 x3 x4 x5 x6 x7 x8 x9 x10 x11 x12)):=rfl
theorem u144_9 (s:Tn) (n:Nat) (x0 x1 x2 x3 x4 x5 x6 x7 x8 x9 x10 x11 x12:List Nat):bD s (n+1) (.k6_9 x0 x1 x2 x3 x4 x5 x6 x7 x8 x9 x10 x11 x12)=aV (axa (s,())) fun r=>cond r (some (10:Int)) (bD s n (.k6_10 x0 x1 x2 x3 x4 x5 x6 x7 x8 x9 x10 x11 x12)):=rfl
theorem u144_10 (s:Tn) (n:Nat) (x0 x1 x2 x3 x4 x5 x6 x7 x8 x9 x10 x11 x12:List Nat):bD s (n+1) (.k6_10 x0 x1 x2 x3 x4 x5 x6 x7 x8 x9 x10 x11 x12)=aV (ax9 (s,())) fun r=>cond r (some (11:Int)) (bD s n (.k6_11 x0 x1 x2 x3 x4 x5 x6 x7 x8 x9 x10 x11 x12)):=rfl
theorem u144_11 (s:Tn) (n:Nat) (x0 x1 x2 x3 x4 x5 x6 x7 x8 x9 x10 x11 x12:List Nat):bD s (n+1) (.k6_11 x0 x1 x2 x3 x4 x5 x6 x7 x8 x9 x10 x11 x12)=aV (ax8 (s,())) fun r=>cond r (some (12:Int)) (bD s n (.k6_12 x0 x1 x2 x3 x4 x5 x6 x7 x8 x9 x10 x11 x12)):=rfl
theorem u144_12 (s:Tn) (n:Nat) (x0 x1 x2 x3 x4 x5 x6 x7 x8 x9 x10 x11 x12:List Nat):bD s (n+1) (.k6_12 x0 x1 x2 x3 x4 x5 x6 x7 x8 x9 x10 x11 x12)=aV (ax7 (s,())) fun r=>cond r (some (13:Int)) (bD s n (.k6_13 x0 x1 x2 x3 x4 x5 x6 x7 x8 x9 x10 x11 x12)):=rfl
theorem u144_13 (s:Tn) (n:Nat) (x0 x1 x2 x3 x4 x5 x6 x7 x8 x9 x10 x11 x12:List Nat):bD s (n+1) (.k6_13 x0 x1 x2 x3 x4 x5 x6 x7 x8 x9 x10 x11 x12)=some 0:=rfl
section
variable {s:St}{t:Pl}
theorem evIn1 {e:List Nat}{x:Nat}:evIn e [x]=decide (e=[x]):=by
 rw [Bool.eq_iff_iff,vC,decide_eq_true_eq]
 constructor
 · rintro⟨y,rfl,hy⟩;simp at hy;rw [hy]
 · intro h;exact⟨x,h,by simp⟩
end
end
end Go.Ev
namespace Go.Ev
open Go.RowKit Go.Proofs
set_option maxRecDepth 100000
set_option maxHeartbeats 8000000
set_option linter.unusedSimpArgs false
noncomputable section
section
variable {s:St}{t:Pl}
theorem at_nz {l:List Mv}{b1 b2 b3:Int}(h:aT l=0) (h4:l.any (c4 b1 b2 b3)=false) {i:Int}(hi:i=1∨i=2∨i=3) {m:Mv}(hm:mAt l i=some m):bzB b1 b2 b3 i=false:=by
 have hf:=(axA h hm).1
 have h2:=List.mem_of_find?_eq_some hm
 rw [List.any_eq_false]at h4
 have h5:=h4 m h2
 unfold c4 at h5
 rw [hf]at h5
 have hp:decide (0<i)=true:=by simp;omega
 rw [hp]at h5
 simpa using h5
end
end
end Go.Ev
namespace Go.Ev
open Go.RowKit Go.Proofs
set_option maxRecDepth 100000
set_option maxHeartbeats 8000000
set_option linter.unusedSimpArgs false
noncomputable section
structure akW (s:St) (t:Pl):Prop where
 cnt:(oL s t).2.2.1=0
 has:(mAt t.m 0).isSome=!decide (t.e=[])
 four:t.m.any (c4 s.b1 s.b2 s.b3)=false
 fits:∀m,mAt t.m 0=some m→batFits t.e m=true
 order:ordB (placeB t.m s.b1 s.b2 s.b3 0) (placeB t.m s.b1 s.b2 s.b3 1) (placeB t.m s.b1 s.b2 s.b3 2) (placeB t.m s.b1 s.b2 s.b3 3)=false
 outs:outsI s t≤3
 late:(t.l&&(decide (outsI s t<3)||(((t.m.countP rnM:Nat):Int)==0)))=false
 asks:ax4 (askC ((oL s t).1.1,(oL s t).1.2.1) t.p) t.e=true
end
end Go.Ev
namespace Go.Ev
open Go.RowKit Go.Proofs
set_option maxRecDepth 100000
set_option maxHeartbeats 8000000
set_option linter.unusedSimpArgs false
noncomputable section
def clM (m:Mv):Bool:=m.o&&(evIn m.h [102]||((m.f==0)&&(evIn m.h [99,107,121,110]||(evIn m.h [103]&&(m.t==1)))))
theorem evPerm {h:List Nat}:evIn h [99,107,110,121]=evIn h [99,107,121,110]:=by
 rw [Bool.eq_iff_iff,vC,vC]
 constructor<;>· rintro⟨x,rfl,hx⟩;refine⟨x,rfl,?_⟩;simp at hx ⊢;omega
section
variable {s:Tn}
theorem lp150 (h:aT s.p_m=0):∀(j k n:Nat),s.p_m.length=k+j→ajc s (n+j+1) (.k4 (k:Int))=some ((s.p_m.drop k).any clM)
 | 0,k,n,hl=>by
   have c1:decide ((k:Int)<((s.p_m.length:Nat):Int))=false:=by simp;omega
   rw [List.drop_eq_nil_of_le (by omega)]
   simp only [ajb,yL,TS,w6,c1,cond_false,List.any_nil]
 | j+1,k,n,hl=>by
   have hlen:=iE h
   have hk:k<s.p_m.length:=by omega
   obtain⟨m,hm⟩:∃m,s.p_m[k]? = some m:=⟨s.p_m[k],List.getElem?_eq_getElem hk⟩
   have ih:=lp150 h j (k+1) n (by omega)
   have hmv:=z4 h m (List.mem_of_getElem? hm)
   have c1:decide ((k:Int)<((s.p_m.length:Nat):Int))=true:=by simp;omega
   have c2:inR (k:Int) s.p_m.length=true:=sH (by omega) (by omega)
   have w4:IntKind.i64.wrap ((k:Int)+1)=((k+1:Nat):Int):=by rw [dP]<;>omega
   rw [dH hm,show n+(j+1)+1=(n+j+1)+1 from rfl]
   generalize n+j+1=N at ih ⊢
   simp only [ajb,yL,TS,w6,c1,c2,cond_true,Int.toNat_natCast,bQ hm,w4,ih,List.any_cons,s181 (c:=[99,107,110,121]) (by simp [CL]) (azJ hmv),obind_some,clM,←evPerm,evIn1]
   cases m.o<;>cases decide (m.h=[102])<;>cases(m.f==0)<;>cases evIn m.h [99,107,110,121]<;>cases decide (m.h=[103])<;>cases(m.t==1)<;>rfl
theorem s150 (h:aT s.p_m=0):Sz150 (s,())=some (s.p_m.any clM):=by
 show Ez150 (s.p_m.length+64) s=_
 unfold Ez150 Tz150
 simp only [TS,w6]
 rw [nY]
 exact lp150 h s.p_m.length 0 63 (by omega)
theorem lp89 (h:aT s.p_m=0):∀(j k n:Nat) (x:List Mv),s.p_m.length=k+j→x.length≤k→akY s (n+j+1) (.k10 (k:Int) x)=some (x++(s.p_m.drop k).filter rnM)
 | 0,k,n,x,hl,hx=>by
   have c1:decide ((k:Int)<((s.p_m.length:Nat):Int))=false:=by simp;omega
   rw [List.drop_eq_nil_of_le (by omega)]
   simp only [akX,akJ,TS,w6,c1,cond_false,List.filter_nil,List.append_nil]
 | j+1,k,n,x,hl,hx=>by
   have hlen:=iE h
   have hk:k<s.p_m.length:=by omega
   obtain⟨m,hm⟩:∃m,s.p_m[k]? = some m:=⟨s.p_m[k],List.getElem?_eq_getElem hk⟩
   have ih1:=lp89 h j (k+1) n (x++[m]) (by omega) (by simp;omega)
   have ih2:=lp89 h j (k+1) n x (by omega) (by omega)
   have c1:decide ((k:Int)<((s.p_m.length:Nat):Int))=true:=by simp;omega
   have c2:inR (k:Int) s.p_m.length=true:=sH (by omega) (by omega)
   have c3:Nat.ble (64*(x.length+1)) 1000000=true:=by rw [Nat.ble_eq];omega
   have w4:IntKind.i64.wrap ((k:Int)+1)=((k+1:Nat):Int):=by rw [dP]<;>omega
   rw [dH hm,show n+(j+1)+1=(n+j+1)+1 from rfl]
   generalize n+j+1=N at ih1 ih2 ⊢
   simp only [akX,akJ,TS,w6,List.length_map,c1,c2,c3,cond_true,Int.toNat_natCast,bQ hm,w4,ih1,ih2,s151,obind_some,List.filter_cons]
   cases rnM m<;>simp
def j8 (outs:Int) (late:Bool) (l:List Mv):List Mv:=if outs=3∧(late=true∨l.any clM=true)then []else l.filter rnM
theorem s89 (h:aT s.p_m=0):aja (s,())=some (j8 s.outs s.p_l s.p_m):=by
 have e:=lp89 h s.p_m.length 0 63 [] (by omega) (by simp)
 rw [←nY,List.drop_zero,List.nil_append]at e
 have e':akY s (s.p_m.length+64) (.k10 0 [])=some (s.p_m.filter rnM):=e
 show Ez89 (s.p_m.length+64) s=_
 unfold Ez89 Tz89 j8
 simp only [TS,w6]
 rw [s150 h,obind_some,e']
 cases ho:(s.outs==3)with
 | false=>
   have ho:¬s.outs=3:=by simpa using ho
   simp [ho]
 | true=>
   have ho:s.outs=3:=by simpa using ho
   cases s.p_l<;>cases s.p_m.any clM<;>simp [ho]
end
section
variable {s:St}{t:Pl}
def ajq (half n0 n1 b1 b2 b3 f:Int):Int:=if f=0 then(if half=0 then n0 else n1)else if f=1 then b1 else if f=2 then b2 else b3
theorem s91 {s:Tn}{i:Int}(hs:s.s_half=0∨s.s_half=1) (hi:i=0∨i=1∨i=2∨i=3):ay1 (s,i,())=some (ajq s.s_half s.s_n0 s.s_n1 s.s_b1 s.s_b2 s.s_b3 i):=by
 show Ez91 s i=_
 have e:∀x:St,Sz62 (x,())=Ez62 x:=fun _=>rfl
 unfold Ez91 Tz91 ajq
 simp only [TS,w6]
 rw [e]
 unfold Ez62 Tz62
 simp only [TS,w6]
 rcases hs with hs|hs<;>rcases hi with rfl|rfl|rfl|rfl<;>simp [hs,wr0,wr1,wr2,obind_some]
def sltM (s:St) (m:Mv):Int:=ajq s.half s.n0 s.n1 s.b1 s.b2 s.b3 m.f
end
end
end Go.Ev
namespace Go.Ev
open Go.RowKit Go.Proofs
set_option maxRecDepth 100000
set_option maxHeartbeats 8000000
set_option linter.unusedSimpArgs false
noncomputable section
def offB (i f x:Int):Int:=if f=i then 0 else x
def onB (i:Int) (m:Mv) (v x:Int):Int:=if m.o=false∧m.t=i then v else x
def mvB (i:Int) (v:Mv→Int) (x:Int) (m:Mv):Int:=onB i m (v m) (offB i m.f x)
def ajp (s:Tn) (m:Mv):Int:=ajq s.s_half s.s_n0 s.s_n1 s.s_b1 s.s_b2 s.s_b3 m.f
section
variable {s:Tn}
theorem lp147 (h:aT s.p_m=0) (hs:s.s_half=0∨s.s_half=1):∀(j k n:Nat) (x3 x2 x1:Int),s.p_m.length=k+j→aje s (n+j+1) (.k8 (k:Int) x3 x2 x1)=some ((s.p_m.drop k).foldl (mvB 1 (ajp s)) x1,(s.p_m.drop k).foldl (mvB 2 (ajp s)) x2,(s.p_m.drop k).foldl (mvB 3 (ajp s)) x3,())
 | 0,k,n,x3,x2,x1,hl=>by
   have c1:decide ((k:Int)<((s.p_m.length:Nat):Int))=false:=by simp;omega
   rw [List.drop_eq_nil_of_le (by omega)]
   simp only [ajd,yM,TS,w6,c1,cond_false,List.foldl_nil]
 | j+1,k,n,x3,x2,x1,hl=>by
   have hlen:=iE h
   have hk:k<s.p_m.length:=by omega
   obtain⟨m,hm⟩:∃m,s.p_m[k]? = some m:=⟨s.p_m[k],List.getElem?_eq_getElem hk⟩
   have ih:=fun x3 x2 x1=>lp147 h hs j (k+1) n x3 x2 x1 (by omega)
   have hr:=j9 (z4 h m (List.mem_of_getElem? hm))
   have q:ay1 (s,m.f,())=some (ajp s m):=s91 hs (by omega)
   have c1:decide ((k:Int)<((s.p_m.length:Nat):Int))=true:=by simp;omega
   have c2:inR (k:Int) s.p_m.length=true:=sH (by omega) (by omega)
   have w4:IntKind.i64.wrap ((k:Int)+1)=((k+1:Nat):Int):=by rw [dP]<;>omega
   rw [dH hm,show n+(j+1)+1=(n+j+1)+1 from rfl]
   generalize n+j+1=N at ih ⊢
   simp only [ajd,yM,TS,w6,c1,c2,cond_true,Int.toNat_natCast,bQ hm,w4,ih,q,obind_some,List.foldl_cons]
   have h4:m.f=0∨m.f=1∨m.f=2∨m.f=3:=by omega
   have h5:m.t=1∨m.t=2∨m.t=3∨m.t=4:=by omega
   rcases h4 with h4|h4|h4|h4<;>rcases h5 with h5|h5|h5|h5<;>cases ho:m.o<;>simp [h4,h5,ho,mvB,onB,offB,wr0,wr1,wr2,wr3]
theorem s147 (h:aT s.p_m=0) (hs:s.s_half=0∨s.s_half=1):akP (s,())=some (s.p_m.foldl (mvB 1 (ajp s)) s.s_b1,s.p_m.foldl (mvB 2 (ajp s)) s.s_b2,s.p_m.foldl (mvB 3 (ajp s)) s.s_b3,()):=by
 have e:=lp147 h hs s.p_m.length 0 63 s.s_b3 s.s_b2 s.s_b1 (by omega)
 rw [←nY,List.drop_zero]at e
 show Ez147 (s.p_m.length+64) s=_
 unfold Ez147 Tz147
 simp only [TS,w6]
 exact e
end
section
variable {s:St}{t:Pl}
def pl (s:St) (t:Pl) (f:Int):Int:=placeB t.m s.b1 s.b2 s.b3 f
def sl (s:St) (f:Int):Int:=ajq s.half s.n0 s.n1 s.b1 s.b2 s.b3 f
def s8 (i p v x:Int):Int:=if p=i then v else x
def oG (s:St) (t:Pl) (i:Int):Int:=s8 i (pl s t 3) (sl s 3) (s8 i (pl s t 2) (sl s 2) (s8 i (pl s t 1) (sl s 1) (s8 i (pl s t 0) (sl s 0) 0)))
end
end
end Go.Ev
namespace Go.Ev
open Go.RowKit Go.Proofs
set_option maxRecDepth 100000
set_option maxHeartbeats 40000000
set_option linter.unusedSimpArgs false
noncomputable section
theorem safe_lt {m:Mv}(h:mvE m=0) (ho:m.o=false):m.f<m.t:=by
 obtain⟨w,hw,h1,h2,h3⟩:=aka h
 have hr:=j9 h
 by_cases hf:m.f=0
 · omega
 · rw [if_neg hf]at h3
   rw [ho]at h1
   simp only [wayT,List.mem_cons,List.not_mem_nil,or_false]at hw
   rcases hw with rfl|rfl|rfl|rfl|rfl|rfl|rfl|rfl|rfl|rfl|rfl|rfl|rfl|rfl<;>simp [reachB]at h1 h3<;>omega
def act (l:List Mv) (f:Int):Int:=match mAt l f with
 | none=>-1
 | some m=>if m.o then 0 else m.t
def stepA (i f a v x:Int):Int:=if a=-1 then x else if a=i then v else if f=i then 0 else x
theorem awD {l:List Mv}(h:aT l=0) {i:Int}(hi:i=1∨i=2∨i=3) (v:Mv→Int) (V:Int→Int) (hv:∀m∈l,v m=V m.f) (x:Int) :
  l.foldl (mvB i v) x=stepA i 0 (act l 0) (V 0) (stepA i 1 (act l 1) (V 1) (stepA i 2 (act l 2) (V 2) (stepA i 3 (act l 3) (V 3) x))):=by
 have one:∀(m:Mv) (y:Int),mvE m=0→v m=V m.f→mvB i v y m=stepA i m.f (if m.o then 0 else m.t) (V m.f) y:=by
  intro m y hm hvm
  have hr:=j9 hm
  unfold mvB onB offB stepA
  rw [hvm]
  cases ho:m.o with
  | true=>
    have h0:¬(0:Int)=i:=by omega
    simp [h0]
  | false=>
    have h0:¬m.t=-1:=by omega
    simp [h0]
 have no:∀(f w y:Int),stepA i f (-1) w y=y:=by intro f w y;simp [stepA]
 revert hv
 refine sh_cases h ?_ ?_ ?_ ?_ ?_ ?_ ?_ ?_ ?_ ?_ ?_ ?_ ?_ ?_ ?_ ?_<;>intros<;>(try simp only [vMv]at *)<;>simp_all [act,mAt]
end
end Go.Ev
namespace Go.Ev
open Go.RowKit Go.Proofs
set_option maxRecDepth 100000
set_option maxHeartbeats 40000000
set_option linter.unusedSimpArgs false
noncomputable section
def sC (e:Bool) (f:Int):Int:=bif e then 0 else f+1
def pT (a:Int) (e:Bool) (f:Int):Int:=if a=-1 then(if f=0 then 0 else bif e then 0 else f)else a
def lhsT (a0 a1 a2 a3:Int) (e1 e2 e3:Bool) (i:Int):Int:=stepA i 0 a0 1 (stepA i 1 a1 (sC e1 1) (stepA i 2 a2 (sC e2 2) (stepA i 3 a3 (sC e3 3) (if i=1 then sC e1 1 else if i=2 then sC e2 2 else sC e3 3))))
def rhsT (a0 a1 a2 a3:Int) (e1 e2 e3:Bool) (i:Int):Int:=s8 i (pT a3 e3 3) (sC e3 3) (s8 i (pT a2 e2 2) (sC e2 2) (s8 i (pT a1 e1 1) (sC e1 1) (s8 i (pT a0 true 0) 1 0)))
def chkT (a0 a1 a2 a3:Int) (e1 e2 e3:Bool) (i:Int):Bool:=(e1&&!(a1==-1))||((e2&&!(a2==-1))||((e3&&!(a3==-1))||(ordB (pT a0 true 0) (pT a1 e1 1) (pT a2 e2 2) (pT a3 e3 3)||(lhsT a0 a1 a2 a3 e1 e2 e3 i==rhsT a0 a1 a2 a3 e1 e2 e3 i))))
theorem aw0:([-1,0,1,2,3,4].all fun a0=>[-1,0,2,3,4].all fun a1=>[-1,0,3,4].all fun a2=>[-1,0,4].all fun a3=>[true,false].all fun e1=>[true,false].all fun e2=>[true,false].all fun e3=>[1,2,3].all fun i=>chkT a0 a1 a2 a3 e1 e2 e3 i)=true:=by kernel_rfl
def phi (v0 b1 b2 b3 x:Int):Int:=if x=0 then 0 else if x=1 then v0 else if x=2 then b1 else if x=3 then b2 else b3
theorem phi_tok1 {v0 b1 b2 b3:Int}:phi v0 b1 b2 b3 (sC (b1==0) 1)=b1:=by
 cases h:(b1==0)
 · simp [phi,sC]
 · have h:b1=0:=by simpa using h
   simp [phi,sC,h]
theorem phi_tok2 {v0 b1 b2 b3:Int}:phi v0 b1 b2 b3 (sC (b2==0) 2)=b2:=by
 cases h:(b2==0)
 · simp [phi,sC]
 · have h:b2=0:=by simpa using h
   simp [phi,sC,h]
theorem phi_tok3 {v0 b1 b2 b3:Int}:phi v0 b1 b2 b3 (sC (b3==0) 3)=b3:=by
 cases h:(b3==0)
 · simp [phi,sC]
 · have h:b3=0:=by simpa using h
   simp [phi,sC,h]
theorem oZ {v0 b1 b2 b3 i f a v x:Int}:stepA i f a (phi v0 b1 b2 b3 v) (phi v0 b1 b2 b3 x)=phi v0 b1 b2 b3 (stepA i f a v x):=by
 have e0:phi v0 b1 b2 b3 0=0:=rfl
 unfold stepA
 split
 · rfl
 · split
   · rfl
   · split
     · exact e0.symm
     · rfl
theorem phi_set {v0 b1 b2 b3 i p v x:Int}:s8 i p (phi v0 b1 b2 b3 v) (phi v0 b1 b2 b3 x)=phi v0 b1 b2 b3 (s8 i p v x):=by
 unfold s8
 split<;>rfl
theorem akD {a0 a1 a2 a3 v0 b1 b2 b3 i:Int}(h0:a0∈[-1,0,1,2,3,4]) (h1:a1∈[-1,0,2,3,4]) (h2:a2∈[-1,0,3,4]) (h3:a3∈[-1,0,4]) (hi:i∈[1,2,3])
  (z1:b1=0→a1=-1) (z2:b2=0→a2=-1) (z3:b3=0→a3=-1) (ho:ordB (pT a0 true 0) (pT a1 (b1==0) 1) (pT a2 (b2==0) 2) (pT a3 (b3==0) 3)=false) :
  stepA i 0 a0 v0 (stepA i 1 a1 b1 (stepA i 2 a2 b2 (stepA i 3 a3 b3 (if i=1 then b1 else if i=2 then b2 else b3)))) =
  s8 i (pT a3 (b3==0) 3) b3 (s8 i (pT a2 (b2==0) 2) b2 (s8 i (pT a1 (b1==0) 1) b1 (s8 i (pT a0 true 0) v0 0))):=by
 have hb:∀b:Bool,b∈[true,false]:=by decide
 have c:=List.all_eq_true.1 (List.all_eq_true.1 (List.all_eq_true.1 (List.all_eq_true.1 (List.all_eq_true.1 (List.all_eq_true.1 (List.all_eq_true.1 (List.all_eq_true.1 aw0 a0 h0) a1 h1) a2 h2) a3 h3) (b1==0) (hb _)) (b2==0) (hb _)) (b3==0) (hb _)) i hi
 have y1:((b1==0)&&!(a1==-1))=false:=by
  by_cases h:b1=0
  · rw [z1 h];simp
  · simp [h]
 have y2:((b2==0)&&!(a2==-1))=false:=by
  by_cases h:b2=0
  · rw [z2 h];simp
  · simp [h]
 have y3:((b3==0)&&!(a3==-1))=false:=by
  by_cases h:b3=0
  · rw [z3 h];simp
  · simp [h]
 unfold chkT at c
 rw [y1,y2,y3,ho]at c
 simp only [Bool.false_or,beq_iff_eq]at c
 have p1:phi v0 b1 b2 b3 1=v0:=rfl
 have p0:phi v0 b1 b2 b3 0=0:=rfl
 have l:phi v0 b1 b2 b3 (lhsT a0 a1 a2 a3 (b1==0) (b2==0) (b3==0) i)=stepA i 0 a0 v0 (stepA i 1 a1 b1 (stepA i 2 a2 b2 (stepA i 3 a3 b3 (if i=1 then b1 else if i=2 then b2 else b3)))):=by
  unfold lhsT
  have e:phi v0 b1 b2 b3 (if i=1 then sC (b1==0) 1 else if i=2 then sC (b2==0) 2 else sC (b3==0) 3)=(if i=1 then b1 else if i=2 then b2 else b3):=by
   split
   · exact phi_tok1
   · split
     · exact phi_tok2
     · exact phi_tok3
  rw [←oZ,←oZ,←oZ,←oZ,phi_tok1,phi_tok2,phi_tok3,p1,e]
 have r:phi v0 b1 b2 b3 (rhsT a0 a1 a2 a3 (b1==0) (b2==0) (b3==0) i)=s8 i (pT a3 (b3==0) 3) b3 (s8 i (pT a2 (b2==0) 2) b2 (s8 i (pT a1 (b1==0) 1) b1 (s8 i (pT a0 true 0) v0 0))):=by
  unfold rhsT
  rw [←phi_set,←phi_set,←phi_set,←phi_set,phi_tok1,phi_tok2,phi_tok3,p1,p0]
 rw [←l,←r,c]
end
end Go.Ev
namespace Go.Ev
open Go.RowKit Go.Proofs
set_option maxRecDepth 100000
set_option maxHeartbeats 8000000
set_option linter.unusedSimpArgs false
noncomputable section
section
variable {s:St}{t:Pl}
theorem vZ {l:List Mv}(h:aT l=0) {f:Int}:act l f=-1∨act l f=0∨(f<act l f∧act l f≤4∧1≤act l f):=by
 unfold act
 cases hm:mAt l f with
 | none=>exact .inl rfl
 | some m=>
   obtain⟨hf,hv⟩:=axA h hm
   have hr:=j9 hv
   cases ho:m.o with
   | true=>exact .inr (.inl (by simp [ho]))
   | false=>
     have:=safe_lt hv ho
     refine .inr (.inr ?_)
     simp [ho]
     omega
theorem aqx (h:aT t.m=0) (f:Int) (e:Bool) (he:f=0∨e=bzB s.b1 s.b2 s.b3 f):pl s t f=pT (act t.m f) e f:=by
 unfold pl placeB pT act
 cases hm:mAt t.m f with
 | none=>
   simp only [if_true]
   split
   · rfl
   · rename_i hf
     rcases he with he|he
     · exact absurd he hf
     · rw [he];cases bzB s.b1 s.b2 s.b3 f<;>rfl
 | some m=>
   simp only
   cases ho:m.o with
   | true=>simp
   | false=>
     simp only [Bool.false_eq_true,if_false]
     split
     · rename_i h1
       have:=j9 (axA h hm).2
       omega
     · rfl
theorem vX (h:aT t.m=0) (g:akW s t) {i:Int}(hi:i=1∨i=2∨i=3):t.m.foldl (mvB i (ajp (bV s t))) (if i=1 then s.b1 else if i=2 then s.b2 else s.b3)=oG s t i:=by
 have hv:∀m∈t.m,ajp (bV s t) m=(fun f=>sl s f) m.f:=fun m _=>rfl
 rw [awD h hi _ (fun f=>sl s f) hv]
 have e1:sl s 1=s.b1:=rfl
 have e2:sl s 2=s.b2:=rfl
 have e3:sl s 3=s.b3:=rfl
 have a0:=vZ h (f:=0)
 have a1:=vZ h (f:=1)
 have a2:=vZ h (f:=2)
 have a3:=vZ h (f:=3)
 have z:∀f:Int,(f=1∨f=2∨f=3)→bzB s.b1 s.b2 s.b3 f=true→act t.m f=-1:=by
  intro f hf hz
  unfold act
  cases hm:mAt t.m f with
  | none=>rfl
  | some m=>rw [at_nz h g.four hf hm]at hz;cases hz
 have p0:pl s t 0=pT (act t.m 0) true 0:=aqx h 0 true (.inl rfl)
 have p1:pl s t 1=pT (act t.m 1) (s.b1==0) 1:=aqx h 1 _ (.inr rfl)
 have p2:pl s t 2=pT (act t.m 2) (s.b2==0) 2:=aqx h 2 _ (.inr rfl)
 have p3:pl s t 3=pT (act t.m 3) (s.b3==0) 3:=aqx h 3 _ (.inr rfl)
 have ho:=g.order
 have ho':ordB (pl s t 0) (pl s t 1) (pl s t 2) (pl s t 3)=false:=ho
 rw [p0,p1,p2,p3]at ho'
 unfold oG
 rw [p0,p1,p2,p3]
 simp only [e1,e2,e3]
 refine akD ?_ ?_ ?_ ?_ (by simpa using hi) (fun hb=>z 1 (by simp) (by simp [bzB,hb])) (fun hb=>z 2 (by simp) (by simp [bzB,hb])) (fun hb=>z 3 (by simp) (by simp [bzB,hb])) ho'
 · simp;omega
 · simp;omega
 · simp;omega
 · simp;omega
def behI (n:Int):Int:=IntKind.i64.wrap (n.tmod 9+1)
def zL (s:St) (t:Pl):Int:=((j8 (outsI s t) t.l t.m).length:Nat)
def mvd (s:St) (t:Pl):St:=⟨s.inn,s.half,outsI s t,if t.e=[]then(oL s t).1.1 else 0,if t.e=[]then(oL s t).1.2.1 else 0,oG s t 1,oG s t 2,oG s t 3,
 if ¬t.e=[]∧s.half=0 then behI s.n0 else s.n0,if ¬t.e=[]∧s.half=1 then behI s.n1 else s.n1,if s.half=0 then IntKind.i64.wrap (s.c0+zL s t)else s.c0,if s.half=1 then IntKind.i64.wrap (s.c1+zL s t)else s.c1,s.over⟩
end
end
end Go.Ev
namespace Go.Ev
open Go.RowKit Go.Proofs
set_option maxRecDepth 100000
set_option maxHeartbeats 8000000
set_option linter.unusedSimpArgs false
noncomputable section
def decI (x:St):Bool:=decide (9≤x.inn)&&((x.half==1)&&decide (x.c0<x.c1))
def endI (x:St):St:=⟨x.inn,x.half,0,0,0,0,0,0,x.n0,x.n1,x.c0,x.c1,true⟩
def lastI (x:St):Bool:=!decide (x.inn<9)&&(decide (x.c0<x.c1)||((x.half==1)&&(!(x.c0==x.c1)||(x.inn==30))))
def turnI (x:St):St:=⟨bif x.half==1 then IntKind.i64.wrap (x.inn+1)else x.inn,IntKind.i64.wrap (1-x.half),0,0,0,0,0,0,x.n0,x.n1,x.c0,x.c1,x.over⟩
def nxt (x:St):St:=bif decI x then endI x else bif x.outs==3 then(bif lastI x then endI x else turnI x)else x
theorem s177 (x:St):awe (x,())=some (decide (x.c0<x.c1)):=rfl
theorem s120 (x:St):akQ (x,())=some (decI x):=by
 show Ez120 x=_
 unfold Ez120 Tz120 decI
 simp only [TS,w6]
 rw [s177,obind_some]
 cases decide (9≤x.inn)<;>cases(x.half==1)<;>rfl
theorem s148 (x:St):ax6 (x,())=some (endI x):=rfl
theorem s176 (x:St):Sz176 (x,())=some (lastI x):=by
 show Ez176 x=_
 unfold Ez176 Tz176 lastI
 simp only [TS,w6]
 rw [s177,obind_some]
 cases decide (x.inn<9)<;>cases decide (x.c0<x.c1)<;>cases(x.half==1)<;>cases(x.c0==x.c1)<;>rfl
theorem s149 (x:St):akO (x,())=some (bif lastI x then endI x else turnI x):=by
 show Ez149 x=_
 unfold Ez149 Tz149
 simp only [TS,w6]
 rw [s176,obind_some,s148]
 have e:awf (x,())=some (⟨x.inn,x.half,0,0,0,0,0,0,x.n0,x.n1,x.c0,x.c1,x.over⟩:St):=rfl
 rw [e,obind_some,obind_some]
 cases lastI x with
 | true=>rfl
 | false=>
   unfold turnI
   cases(x.half==1)<;>rfl
theorem v86k9 (s:Tn):∀(m:Nat) (x2 x3:Int),v8 s (m+1) (.k9 x2 x3)=(v8 s m (.k11 x3 x2)):=fun _ _ _=>rfl
theorem v86k11 (s:Tn):∀(m:Nat) (x5 x6:Int),v8 s (m+1) (.k11 x5 x6)=(aV (sQ (s,())) fun r24=>(cond (!r24) (aV (Sz62 ((⟨s.s_inn,s.s_half,s.outs,(0:Int),(0:Int),s.s_b1,s.s_b2,s.s_b3,s.s_n0,s.s_n1,x5,x6,s.s_over⟩:St),())) fun r25=>(aV (awh (r25,())) fun r26=>(cond (s.s_half==(0:Int)) (v8 s m (.k17 s.s_n1 x5 x6 r26 (0:Int) (0:Int))) (cond (s.s_half==(1:Int)) (v8 s m (.k17 r26 x5 x6 s.s_n0 (0:Int) (0:Int))) none)))) (v8 s m (.k17 s.s_n1 x5 x6 s.s_n0 s.k0 s.k1)))):=fun _ _ _=>rfl
theorem v86k17 (s:Tn):∀(m:Nat) (x10 x11 x12 x13 x14 x15:Int),v8 s (m+1) (.k17 x10 x11 x12 x13 x14 x15)=(aV (akP (s,())) fun r27=>(aV (akQ ((⟨s.s_inn,s.s_half,s.outs,x14,x15,r27.1,r27.2.1,r27.2.2.1,x13,x10,x11,x12,s.s_over⟩:St),())) fun r28=>(cond r28 (aV (ax6 ((⟨s.s_inn,s.s_half,s.outs,x14,x15,r27.1,r27.2.1,r27.2.2.1,x13,x10,x11,x12,s.s_over⟩:St),())) fun r29=>(some r29)) (cond (s.outs==(3:Int)) (aV (akO ((⟨s.s_inn,s.s_half,s.outs,x14,x15,r27.1,r27.2.1,r27.2.2.1,x13,x10,x11,x12,s.s_over⟩:St),())) fun r30=>(some r30)) (some (⟨s.s_inn,s.s_half,s.outs,x14,x15,r27.1,r27.2.1,r27.2.2.1,x13,x10,x11,x12,s.s_over⟩:St)))))):=fun _ _ _ _ _ _ _=>rfl
section
variable {s:St}{t:Pl}
theorem s86 (h:aT t.m=0) (hs:s.half=0∨s.half=1) (g:akW s t):Sz86 (bV s t,())=some (nxt (mvd s t)):=by
 have e89:aja (bV s t,())=some (j8 (outsI s t) t.l t.m):=s89 (s:=bV s t) h
 have b1:=vX h g (i:=1) (by simp)
 have b2:=vX h g (i:=2) (by simp)
 have b3:=vX h g (i:=3) (by simp)
 have e147:akP (bV s t,())=some (oG s t 1,oG s t 2,oG s t 3,()):=by
  rw [s147 (s:=bV s t) h hs]
  rw [←b1,←b2,←b3];rfl
 have e62:∀x:St,x.half=s.half→Sz62 (x,())=some (if s.half=0 then x.n0 else x.n1):=by
  intro x hx
  show Ez62 x=_
  unfold Ez62 Tz62
  simp only [TS,w6]
  rw [hx]
  rcases hs with hs|hs<;>simp [hs]
 have e146:∀n:Int,awh (n,())=some (behI n):=fun _=>rfl
 have e145:sQ (bV s t,())=some (decide (t.e=[])):=rfl
 show Ez86 (t.m.length+64) (bV s t)=_
 unfold Ez86 Tz86
 simp only [TS,w6]
 rw [e89,show t.m.length+64=(t.m.length+61)+3 from rfl]
 generalize t.m.length+61=n
 have fin:∀x10 x11 x12 x13 x14 x15:Int,(⟨s.inn,s.half,outsI s t,x14,x15,oG s t 1,oG s t 2,oG s t 3,x13,x10,x11,x12,s.over⟩:St)=mvd s t→v8 (bV s t) (n+1) (.k17 x10 x11 x12 x13 x14 x15)=some (nxt (mvd s t)):=by
  intro x10 x11 x12 x13 x14 x15 hx
  rw [v86k17,e147,obind_some]
  show(aV (akQ ((⟨s.inn,s.half,outsI s t,x14,x15,oG s t 1,oG s t 2,oG s t 3,x13,x10,x11,x12,s.over⟩:St),())) fun r28=>(cond r28 (aV (ax6 ((⟨s.inn,s.half,outsI s t,x14,x15,oG s t 1,oG s t 2,oG s t 3,x13,x10,x11,x12,s.over⟩:St),())) fun r29=>(some r29)) (cond (outsI s t==(3:Int)) (aV (akO ((⟨s.inn,s.half,outsI s t,x14,x15,oG s t 1,oG s t 2,oG s t 3,x13,x10,x11,x12,s.over⟩:St),())) fun r30=>(some r30)) (some (⟨s.inn,s.half,outsI s t,x14,x15,oG s t 1,oG s t 2,oG s t 3,x13,x10,x11,x12,s.over⟩:St)))))=_
  rw [hx,s120,obind_some,s148,obind_some,s149,obind_some]
  have ho:(mvd s t).outs=outsI s t:=rfl
  unfold nxt
  rw [ho]
  cases decI (mvd s t)<;>cases(outsI s t==3)<;>rfl
 rcases hs with hs|hs<;>by_cases he:t.e=[] <;>
  simp only [show(bV s t).s_half=s.half from rfl,show(bV s t).s_c0=s.c0 from rfl,show(bV s t).s_c1=s.c1 from rfl,hs,obind_some,show n+3=(n+2)+1 from rfl,v86k9,show n+2=(n+1)+1 from rfl,v86k11,e145,he,decide_true,decide_false,Bool.not_true,Bool.not_false,cond_true,cond_false,show((0:Int)==0)=true from rfl,show((1:Int)==0)=false from rfl,show((1:Int)==1)=true from rfl] <;>
  (try rw [e62 _ (by first|exact hs.symm|rfl),obind_some,e146,obind_some])<;>(try simp only [hs,if_true,if_false,show((1:Int)=0)=False from by simp])<;>refine fin _ _ _ _ _ _ ?_<;>simp [mvd,hs,he,zL,oL,bV]
end
end
end Go.Ev
namespace Go.Ev
open Go.RowKit Go.Proofs
set_option maxRecDepth 100000
set_option maxHeartbeats 8000000
set_option linter.unusedSimpArgs false
noncomputable section
section
variable {s:St}{t:Pl}
def zSt:St:=⟨0,0,0,0,0,0,0,0,0,0,0,0,false⟩
def bigB (s:St) (t:Pl):Bool:=decide (9999<(if s.half=0 then IntKind.i64.wrap (s.c0+zL s t)else IntKind.i64.wrap (s.c1+zL s t)))
end
end
end Go.Ev
namespace Go.Ev
open Go.RowKit Go.Proofs
set_option maxRecDepth 100000
set_option maxHeartbeats 8000000
set_option linter.unusedSimpArgs false
noncomputable section
def o9 (s:St) (t:Pl):Int:=if stE s≠0 then stE s else if playE t.p t.e t.m≠0 then playE t.p t.e t.m else if s.over=true then 20 else 0
def okP (t:Pl):Prop:=okPl t=true∧dT t.p=true∧dT t.e=true∧t.p.length<9223372036854775808
section
variable {s:St}{t:Pl}
theorem s60 (ok:okP t):dN (s,(((),()),((t,()),()),((),()),()),())=some (o9 s t):=by
 have e18:S18 (s,())=some (stE s):=rfl
 have e141:Sz141 (s,t,())=some (playE t.p t.e t.m):=by
  show Ez141 s t=_
  unfold Ez141 Tz141 S142
  simp only [TS,w6]
  rw [if_pos ⟨ok.1,ok.2.1,ok.2.2.1⟩];rfl
 have e61:Sz61 (s,())=some (if s.over=true then 20 else 0):=by
  show Ez61 s=_
  unfold Ez61 Tz61
  simp only [TS,w6]
  cases s.over<;>rfl
 have j:∀n,cN s (((),()),((t,()),()),((),()),()) (n+4) (.k4 0)=some (o9 s t):=by
  intro n
  unfold o9
  generalize stE s=a at *
  generalize playE t.p t.e t.m=b at *
  by_cases ha:a=0<;>by_cases hb:b=0<;>cases ho:s.over<;>simp [mF,cM,TS,w6,e18,e141,e61,obind_some,ha,hb,ho,wr0,wr1,wr2,wr3,cond_ite]
 show fG 64 s _=_
 unfold fG fC
 simp only [TS,w6]
 exact j 60
theorem playE_zero (h:playE t.p t.e t.m=0):t.p.length≤24∧vEv t.e∧aT t.m=0:=by
 unfold playE at h
 simp only [dD]at h
 by_cases h1:xA t.p=0
 · by_cases h2:tP t.e=0
   · by_cases h3:aT t.m=0
     · refine ⟨?_,vEv_of h2,h3⟩
       unfold xA at h1
       split at h1
       · assumption
       · cases h1
     · simp [h1,h2,h3]at h
   · simp [h1,h2]at h
 · simp [h1]at h
theorem lU (h:o9 s t=0):stE s=0∧playE t.p t.e t.m=0∧s.over=false:=by
 unfold o9 at h
 by_cases h1:stE s=0
 · by_cases h2:playE t.p t.e t.m=0
   · cases ho:s.over with
     | false=>exact⟨h1,h2,rfl⟩
     | true=>simp [h1,h2,ho]at h
   · simp [h1,h2]at h
 · simp [h1]at h
def accR (s:St) (t:Pl) (k:Int):Option Tn×Int×Int×Unit:=if o9 s t≠0 then(none,0,o9 s t,())else if k≠0 then(none,k,18,())else if bigB s t=true then(none,0,4,())else(some (bV s t),0,0,())
theorem s85 (ok:okP t) {k:Int}(hk:o9 s t=0→rU (bV s t,())=some k):Sz85 (s,t,())=some (accR s t k):=by
 have u:∀n,Ez85J s t (n+1) .k3=(aV (dN (s,(((),()),((t,()),()),((),()),()),())) fun r6=>(cond (!(r6==(0:Int))) (some (none,(0:Int),r6,())) (aV (awi (s,t,())) fun r7=>(aV (rU (r7,())) fun r8=>(cond (!(r8==(0:Int))) (some (none,r8,(18:Int),())) (cond (s.half==(0:Int)) (aV (aja (r7,())) fun r10=>(cond (decide ((9999:Int)<(IntKind.i64.wrap (s.c0+((r10.length:Nat):Int))))) (some (none,(0:Int),(4:Int),())) (some ((some r7),(0:Int),(0:Int),())))) (cond (s.half==(1:Int)) (aV (aja (r7,())) fun r9=>(cond (decide ((9999:Int)<(IntKind.i64.wrap (s.c1+((r9.length:Nat):Int))))) (some (none,(0:Int),(4:Int),())) (some ((some r7),(0:Int),(0:Int),())))) none))))))):=fun _=>rfl
 show Ez85J s t ((t.m.length+63)+1) .k3=_
 rw [u,s60 ok,obind_some]
 unfold accR
 by_cases he:o9 s t=0
 · obtain ⟨h1,h2,h3⟩:=lU he
   obtain⟨p1,p2,p3⟩:=playE_zero h2
   have hs:=(aqB h1).half
   have e89:aja (bV s t,())=some (j8 (outsI s t) t.l t.m):=s89 (s:=bV s t) p3
   rw [s143 p3 ok.2.1,obind_some,hk he,obind_some,e89]
   have c:(!(o9 s t==0))=false:=by simp [he]
   rw [c,cond_false,if_neg (by simp [he])]
   by_cases hk0:k=0
   · have c2:(!(k==0))=false:=by simp [hk0]
     rw [c2,cond_false,if_neg (by simp [hk0])]
     unfold bigB zL
     rcases hs with hs|hs<;>simp [hs,cond_ite,obind_some]<;>split<;>rfl
   · have c2:(!(k==0))=true:=by simp [hk0]
     rw [c2,cond_true,if_pos hk0]
 · have c:(!(o9 s t==0))=true:=by simp [he]
   rw [c,cond_true,if_pos he]
end
end
end Go.Ev
namespace Go.Ev
open Go.RowKit Go.Proofs
set_option maxRecDepth 100000
set_option maxHeartbeats 8000000
set_option linter.unusedSimpArgs false
noncomputable section
def wB (s:St) (t:Pl) (k:Int):Int:=if o9 s t≠0 then o9 s t else if k≠0 then 18 else if bigB s t=true then 4 else 0
def numA (s:St) (t:Pl) (k:Int):Int:=if o9 s t≠0 then 0 else k
theorem lp88 (l:List Mv) (tn:Tn) (hl:l.length≤4) (hs:tn.s_half=0∨tn.s_half=1) (hv:∀m∈l,mvE m=0):∀(j k n:Nat) (x:List Int),l.length=k+j→x.length≤k→awv l ((tn,()),()) (n+j+1) (.k6 (k:Int) x)=some (x++(l.drop k).map (ajp tn))
 | 0,k,n,x,hk,hx=>by
   have c1:decide ((k:Int)<((l.length:Nat):Int))=false:=by simp;omega
   rw [List.drop_eq_nil_of_le (by omega)]
   simp only [akZ,akK,TS,w6,c1,cond_false,List.map_nil,List.append_nil]
 | j + 1,k,n,x,hlk,hx=>by
   have hk:k<l.length:=by omega
   obtain⟨m,hm⟩:∃m,l[k]? = some m:=⟨l[k],List.getElem?_eq_getElem hk⟩
   have hr:=j9 (hv m (List.mem_of_getElem? hm))
   have ih:=lp88 l tn hl hs hv j (k+1) n (x++[ajp tn m]) (by omega) (by simp;omega)
   have q:Sz90 (m,(tn,()),())=some (ajp tn m):=by
    show Ez90 m (tn,())=_
    unfold Ez90 Tz90
    simp only [TS,w6]
    rw [s91 hs (by omega)];rfl
   have c1:decide ((k:Int)<((l.length:Nat):Int))=true:=by simp;omega
   have c2:inR (k:Int) l.length=true:=sH (by omega) (by omega)
   have c3:Nat.ble (8*(x.length+1)) 1000000=true:=by rw [Nat.ble_eq];omega
   have w4:IntKind.i64.wrap ((k:Int)+1)=((k+1:Nat):Int):=by rw [dP]<;>omega
   rw [dH hm,show n+(j+1)+1=(n+j+1)+1 from rfl]
   generalize n+j+1=N at ih ⊢
   simp only [akZ,akK,TS,w6,List.length_map,c1,c2,c3,cond_true,Int.toNat_natCast,bQ hm,w4,ih,q,obind_some,List.map_cons]
   simp
theorem s88 {l:List Mv}{tn:Tn}(hl:l.length≤4) (hs:tn.s_half=0∨tn.s_half=1) (hv:∀m∈l,mvE m=0):Sz88 (l,((tn,()),()),())=some (l.map (ajp tn)):=by
 have e:=lp88 l tn hl hs hv l.length 0 63 [] (by omega) (by simp)
 rw [←nY,List.drop_zero,List.nil_append]at e
 show Ez88 (l.length+64) l ((tn,()),())=_
 unfold Ez88 Tz88
 simp only [TS,w6]
 exact e
section
variable {s:St}{t:Pl}{k:Int}
theorem wP {o:Int}{b:Bool}{l:List Mv}:(j8 o b l).length≤l.length∧∀m∈j8 o b l,m∈l:=by
 unfold j8
 split
 · simp
 · exact⟨List.length_filter_le _ _,fun m hm=>(List.mem_filter.1 hm).1⟩
theorem acc_cases (s:St) (t:Pl) (k:Int):(wB s t k≠0∧accR s t k=(none,numA s t k,wB s t k,()) )∨(wB s t k=0∧o9 s t=0∧k=0∧accR s t k=(some (bV s t),0,0,())):=by
 unfold accR wB numA
 by_cases h1:o9 s t=0
 · by_cases h2:k=0
   · cases h3:bigB s t with
     | true=>left;simp [h1,h2]
     | false=>right;simp [h1,h2]
   · left;simp [h1,h2]
 · left;simp [h1]
theorem s32 (ok:okP t) (hk:o9 s t=0→rU (bV s t,())=some k) (hg:k=0→o9 s t=0→akW s t):Sz32 (s,t,())=some (if wB s t k≠0 then(zSt,numA s t k,wB s t k,())else(nxt (mvd s t),0,0,())):=by
 show Ez32 s t=_
 unfold Ez32 Tz32
 simp only [TS,w6]
 rw [s85 ok hk,obind_some]
 rcases acc_cases s t k with⟨h1,h2⟩ | ⟨h1,h2,h3,h4⟩
 · rw [h2,if_pos h1]
   have c:(!(wB s t k==0))=true:=by simpa using h1
   show cond (!(wB s t k==0)) _ _=_
   rw [c];rfl
 · rw [h4,if_neg (by simpa using h1)]
   obtain⟨e1,e2,e3⟩:=lU h2
   show(aV (Sz86 (bV s t,())) fun r8=>(some (r8,(0:Int),(0:Int),())))=_
   rw [s86 (playE_zero e2).2.2 (aqB e1).half (hg h3 h2)];rfl
theorem s34 (ok:okP t) (hk:o9 s t=0→rU (bV s t,())=some k):Sz34 (s,t,())=some (if wB s t k≠0 then([],wB s t k,())else((j8 (outsI s t) t.l t.m).map (sltM s),0,())):=by
 show Ez34 ((t.m.length+63)+1) s t=_
 unfold Ez34 Tz34
 simp only [TS,w6]
 rw [s85 ok hk,obind_some]
 rcases acc_cases s t k with⟨h1,h2⟩ | ⟨h1,h2,h3,h4⟩
 · rw [h2,if_pos h1]
   have c:(!(wB s t k==0))=true:=by simpa using h1
   show cond (!(wB s t k==0)) _ _=_
   rw [c];rfl
 · rw [h4,if_neg (by simpa using h1)]
   obtain⟨e1,e2,e3⟩:=lU h2
   have hm:=(playE_zero e2).2.2
   have e89:aja (bV s t,())=some (j8 (outsI s t) t.l t.m):=s89 (s:=bV s t) hm
   have e88:Sz88 (j8 (outsI s t) t.l t.m,((bV s t,()),()),())=some ((j8 (outsI s t) t.l t.m).map (sltM s)):=s88 (Nat.le_trans wP.1 (iE hm)) (aqB e1).half fun m h=>z4 hm m (wP.2 m h)
   show(aV (aja (bV s t,())) fun r38=>(aV (Sz88 (r38,((bV s t,()),()),())) fun r39=>(some (r39,(0:Int),()))))=_
   rw [e89,obind_some,e88];rfl
end
end
end Go.Ev
