import Derived.Test.YtfhbflaighfmpaaGreatDoorEvD
import Derived.Test.YtfhbflaighfmpaaGreatDoorDQG
import Derived.Test.YtfhbflaighfmpaaGreatDoorBase
import Derived.Test.YtfhbflaighfmpaaGreatDoorDP2
set_option linter.unusedSimpArgs false
set_option linter.unusedVariables false
namespace Go.Ev
open Go.RowKit Go.Proofs
set_option maxRecDepth 100000
set_option maxHeartbeats 8000000
set_option linter.unusedSimpArgs false
noncomputable section
def clM (m:Mv):Bool:=m.o&&(evIn m.h [102]||((m.f==0)&&(evIn m.h [99,107,121,110]||(evIn m.h [103]&&(m.t==1)))))
theorem evPerm {h:List Nat}:evIn h [99,107,110,121]=evIn h [99,107,121,110]:=by rw [Bool.eq_iff_iff,sF,sF];constructor<;>· rintro⟨x,rfl,hx⟩;refine⟨x,rfl,?_⟩;simp at hx ⊢;omega
theorem s156 {m:Mv}(hm:mvE m=0):Sz156 (m,())=some (clM m):=by
 show Ez156 m=_;unfold Ez156 Tz156 clM;simp only [TS,w6];rw [azO (by simp) hm,obind_some,azO (by simp) hm,obind_some,azO (by simp) hm,obind_some];have e1:∀b:Bool,(b==true)=b:=by decide
 simp only [e1];cases m.o<;>cases evIn m.h [102]<;>cases(m.f==0)<;>cases evIn m.h [99,107,121,110]<;>cases evIn m.h [103]<;>cases(m.t==1)<;>rfl
section
variable {s:Tn}
theorem lp150 (h:aB s.p_m=0):∀(j k n:Nat),s.p_m.length=k+j→azo s (n+j+1) (.k4 (k:Int))=some ((s.p_m.drop k).any clM)
 | 0,k,n,hl=>by
   have c1:decide ((k:Int)<((s.p_m.length:Nat):Int))=false:=by simp;omega
   rw [List.drop_eq_nil_of_le (by omega)];simp only [azn,ajE,TS,w6,c1,cond_false,List.any_nil]
 | j+1,k,n,hl=>by
   have hlen:=bL h;have hk:k<s.p_m.length:=by omega
   obtain⟨m,hm⟩:∃m,s.p_m[k]? = some m:=⟨s.p_m[k],List.getElem?_eq_getElem hk⟩;have ih:=lp150 h j (k+1) n (by omega);have hmv:=tE h m (List.mem_of_getElem? hm);have c1:decide ((k:Int)<((s.p_m.length:Nat):Int))=true:=by simp;omega
   have c2:inR (k:Int) s.p_m.length=true:=gN (by omega) (by omega);have w4:IntKind.i64.wrap ((k:Int)+1)=((k+1:Nat):Int):=by rw [bD]<;>omega
   rw [aT hm,show n+(j+1)+1=(n+j+1)+1 from rfl];generalize n+j+1=N at ih ⊢;simp only [azn,ajE,TS,w6,c1,c2,cond_true,Int.toNat_natCast,aV hm,w4,ih,List.any_cons,s181 (c:=[99,107,110,121]) (by simp [CL]) (axj hmv),obind_some,clM,←evPerm,evIn1];cases m.o<;>cases decide (m.h=[102])<;>cases(m.f==0)<;>cases evIn m.h [99,107,110,121]<;>cases decide (m.h=[103])<;>cases(m.t==1)<;>rfl
theorem s150 (h:aB s.p_m=0):Sz150 (s,())=some (s.p_m.any clM):=by show Ez150 (s.p_m.length+64) s=_;unfold Ez150 Tz150;simp only [TS,w6];rw [mQ];exact lp150 h s.p_m.length 0 63 (by omega)
theorem lp89 (h:aB s.p_m=0):∀(j k n:Nat) (x:List Mv),s.p_m.length=k+j→x.length≤k→bqF s (n+j+1) (.k10 (k:Int) x)=some (x++(s.p_m.drop k).filter rnM)
 | 0,k,n,x,hl,hx=>by
   have c1:decide ((k:Int)<((s.p_m.length:Nat):Int))=false:=by simp;omega
   rw [List.drop_eq_nil_of_le (by omega)];simp only [bqE,ayf,TS,w6,c1,cond_false,List.filter_nil,List.append_nil]
 | j+1,k,n,x,hl,hx=>by
   have hlen:=bL h;have hk:k<s.p_m.length:=by omega
   obtain⟨m,hm⟩:∃m,s.p_m[k]? = some m:=⟨s.p_m[k],List.getElem?_eq_getElem hk⟩;have ih1:=lp89 h j (k+1) n (x++[m]) (by omega) (by simp;omega);have ih2:=lp89 h j (k+1) n x (by omega) (by omega);have c1:decide ((k:Int)<((s.p_m.length:Nat):Int))=true:=by simp;omega
   have c2:inR (k:Int) s.p_m.length=true:=gN (by omega) (by omega);have c3:Nat.ble (64*(x.length+1)) 1000000=true:=by rw [Nat.ble_eq];omega
   have w4:IntKind.i64.wrap ((k:Int)+1)=((k+1:Nat):Int):=by rw [bD]<;>omega
   rw [aT hm,show n+(j+1)+1=(n+j+1)+1 from rfl];generalize n+j+1=N at ih1 ih2 ⊢;simp only [bqE,ayf,TS,w6,List.length_map,c1,c2,c3,cond_true,Int.toNat_natCast,aV hm,w4,ih1,ih2,s151,obind_some,List.filter_cons];cases rnM m<;>simp
def fU (outs:Int) (late:Bool) (l:List Mv):List Mv:=if outs=3∧(late=true∨l.any clM=true)then []else l.filter rnM
theorem s89 (h:aB s.p_m=0):azm (s,())=some (fU s.outs s.p_l s.p_m):=by
 have e:=lp89 h s.p_m.length 0 63 [] (by omega) (by simp);rw [←mQ,List.drop_zero,List.nil_append]at e;have e':bqF s (s.p_m.length+64) (.k10 0 [])=some (s.p_m.filter rnM):=e;show Ez89 (s.p_m.length+64) s=_;unfold Ez89 Tz89 fU;simp only [TS,w6];rw [s150 h,obind_some,e'];cases ho:(s.outs==3)with
 | false=>
   have ho:¬s.outs=3:=by simpa using ho
   simp [ho]
 | true=>
   have ho:s.outs=3:=by simpa using ho
   cases s.p_l<;>cases s.p_m.any clM<;>simp [ho]
end
section
variable {s:St}{t:Pl}
theorem lp96 (h:aB t.m=0):∀(j k n:Nat),t.m.length=k+j→bqC s t (n+j+1) (.k8 (k:Int))=some (!(t.m.drop k).any clM&&!t.l)
 | 0,k,n,hl=>by
   have c1:decide ((k:Int)<((t.m.length:Nat):Int))=false:=by simp;omega
   rw [List.drop_eq_nil_of_le (by omega)];simp only [bqB,aye,TS,w6,c1,cond_false,List.any_nil,Bool.not_false,Bool.true_and]
 | j+1,k,n,hl=>by
   have hlen:=bL h;have hk:k<t.m.length:=by omega
   obtain⟨m,hm⟩:∃m,t.m[k]? = some m:=⟨t.m[k],List.getElem?_eq_getElem hk⟩;have ih:=lp96 h j (k+1) n (by omega);have hmv:=tE h m (List.mem_of_getElem? hm);have c1:decide ((k:Int)<((t.m.length:Nat):Int))=true:=by simp;omega
   have c2:inR (k:Int) t.m.length=true:=gN (by omega) (by omega);have w4:IntKind.i64.wrap ((k:Int)+1)=((k+1:Nat):Int):=by rw [bD]<;>omega
   rw [aT hm,show n+(j+1)+1=(n+j+1)+1 from rfl];generalize n+j+1=N at ih ⊢;simp only [bqB,aye,TS,w6,c1,c2,cond_true,Int.toNat_natCast,aV hm,w4,ih,List.any_cons,s156 hmv,obind_some];cases clM m<;>rfl
def cntsB (s:St) (t:Pl):Bool:=!(outsI s t==3)||(!t.m.any clM&&!t.l)
theorem s96 (h:aB t.m=0):Sz96 (s,t,())=some (cntsB s t):=by have e:=lp96 (s:=s) h t.m.length 0 63 (by omega);rw [←mQ,List.drop_zero]at e;have e':bqC s t (t.m.length+64) (.k8 0)=some (!t.m.any clM&&!t.l):=e;show Ez96 (t.m.length+64) s t=_;unfold Ez96 Tz96 cntsB;simp only [TS,w6];rw [s155 h,obind_some,e'];show cond (!(outsI s t==3)) _ _=_;cases(outsI s t==3)<;>rfl
def slotI (half n0 n1 b1 b2 b3 f:Int):Int:=if f=0 then(if half=0 then n0 else n1)else if f=1 then b1 else if f=2 then b2 else b3
theorem s97 {i:Int}(hs:s.half=0∨s.half=1) (hi:i=0∨i=1∨i=2∨i=3):bzM (s,i,())=some (slotI s.half s.n0 s.n1 s.b1 s.b2 s.b3 i):=by show Ez97 s i=_;unfold Ez97 Tz97 slotI;simp only [TS,w6];rcases hs with hs|hs<;>rcases hi with rfl|rfl|rfl|rfl<;>simp [hs,wr0,wr1,wr2]
theorem s91 {s:Tn}{i:Int}(hs:s.s_half=0∨s.s_half=1) (hi:i=0∨i=1∨i=2∨i=3):oS (s,i,())=some (slotI s.s_half s.s_n0 s.s_n1 s.s_b1 s.s_b2 s.s_b3 i):=by show Ez91 s i=_;have e:∀x:St,Sz62 (x,())=Ez62 x:=fun _=>rfl;unfold Ez91 Tz91 slotI;simp only [TS,w6];rw [e];unfold Ez62 Tz62;simp only [TS,w6];rcases hs with hs|hs<;>rcases hi with rfl|rfl|rfl|rfl<;>simp [hs,wr0,wr1,wr2,obind_some]
def bqe (s:St) (m:Mv):Int:=slotI s.half s.n0 s.n1 s.b1 s.b2 s.b3 m.f
theorem lp39 (h:aB t.m=0) (hs:s.half=0∨s.half=1):∀(j k n:Nat) (x:List Int),t.m.length=k+j→x.length≤k→bx1 s t (n+j+1) (.k6 (k:Int) x)=some (x++(if cntsB s t=true then((t.m.drop k).filter rnM).map (bqe s)else []))
 | 0,k,n,x,hl,hx=>by
   have c1:decide ((k:Int)<((t.m.length:Nat):Int))=false:=by simp;omega
   rw [List.drop_eq_nil_of_le (by omega)];simp only [bqS,ayl,TS,w6,c1,cond_false,List.filter_nil,List.map_nil,ite_self,List.append_nil]
 | j + 1,k,n,x,hl,hx=>by
   have hlen:=bL h;have hk:k<t.m.length:=by omega
   obtain⟨m,hm⟩:∃m,t.m[k]? = some m:=⟨t.m[k],List.getElem?_eq_getElem hk⟩;have hr:=gL (tE h m (List.mem_of_getElem? hm));have ih1:=lp39 h hs j (k+1) n (x++[bqe s m]) (by omega) (by simp;omega);have ih2:=lp39 h hs j (k+1) n x (by omega) (by omega);have q:bzM (s,m.f,())=some (bqe s m):=s97 hs (by omega);have c1:decide ((k:Int)<((t.m.length:Nat):Int))=true:=by simp;omega
   have c2:inR (k:Int) t.m.length=true:=gN (by omega) (by omega);have c3:Nat.ble (8*(x.length+1)) 1000000=true:=by rw [Nat.ble_eq];omega
   have w4:IntKind.i64.wrap ((k:Int)+1)=((k+1:Nat):Int):=by rw [bD]<;>omega
   rw [aT hm,show n+(j+1)+1=(n+j+1)+1 from rfl];generalize n+j+1=N at ih1 ih2 ⊢;simp only [bqS,ayl,TS,w6,List.length_map,c1,c2,c3,cond_true,Int.toNat_natCast,aV hm,w4,ih1,ih2,s96 h,q,obind_some,List.filter_cons];cases hc:cntsB s t with
   | false=>simp| true=>unfold rnM;cases m.o<;>cases(m.t==4)<;>simp
theorem s39 (h:aB t.m=0) (hs:s.half=0∨s.half=1):bzN (s,t,())=some ((fU (outsI s t) t.l t.m).map (bqe s)):=by have e:=lp39 h hs t.m.length 0 63 [] (by omega) (by simp);rw [←mQ,List.drop_zero,List.nil_append]at e;show Ez39 (t.m.length+64) s t=_;unfold Ez39 Tz39;simp only [TS,w6];refine e.trans ?_;unfold cntsB fU;by_cases ho:outsI s t=3<;>cases t.l<;>cases t.m.any clM<;>simp [ho]
end
end
end Go.Ev
namespace Go.Ev
open Go.RowKit Go.Proofs
set_option maxRecDepth 100000
set_option maxHeartbeats 8000000
set_option linter.unusedSimpArgs false
noncomputable section
def offB (i f x:Int):Int:=if f=i then 0 else x
def onB (i:Int) (m:Mv) (v x:Int):Int:=if m.o=false∧m.t=i then v else x
def mvB (i:Int) (v:Mv→Int) (x:Int) (m:Mv):Int:=onB i m (v m) (offB i m.f x)
def bqd (s:Tn) (m:Mv):Int:=slotI s.s_half s.s_n0 s.s_n1 s.s_b1 s.s_b2 s.s_b3 m.f
section
variable {s:Tn}
theorem lp147 (h:aB s.p_m=0) (hs:s.s_half=0∨s.s_half=1):∀(j k n:Nat) (x3 x2 x1:Int),s.p_m.length=k+j→azq s (n+j+1) (.k8 (k:Int) x3 x2 x1)=some ((s.p_m.drop k).foldl (mvB 1 (bqd s)) x1,(s.p_m.drop k).foldl (mvB 2 (bqd s)) x2,(s.p_m.drop k).foldl (mvB 3 (bqd s)) x3,())
 | 0,k,n,x3,x2,x1,hl=>by
   have c1:decide ((k:Int)<((s.p_m.length:Nat):Int))=false:=by simp;omega
   rw [List.drop_eq_nil_of_le (by omega)];simp only [azp,ajF,TS,w6,c1,cond_false,List.foldl_nil]
 | j+1,k,n,x3,x2,x1,hl=>by
   have hlen:=bL h;have hk:k<s.p_m.length:=by omega
   obtain⟨m,hm⟩:∃m,s.p_m[k]? = some m:=⟨s.p_m[k],List.getElem?_eq_getElem hk⟩;have ih:=fun x3 x2 x1=>lp147 h hs j (k+1) n x3 x2 x1 (by omega);have hr:=gL (tE h m (List.mem_of_getElem? hm));have q:oS (s,m.f,())=some (bqd s m):=s91 hs (by omega);have c1:decide ((k:Int)<((s.p_m.length:Nat):Int))=true:=by simp;omega
   have c2:inR (k:Int) s.p_m.length=true:=gN (by omega) (by omega);have w4:IntKind.i64.wrap ((k:Int)+1)=((k+1:Nat):Int):=by rw [bD]<;>omega
   rw [aT hm,show n+(j+1)+1=(n+j+1)+1 from rfl];generalize n+j+1=N at ih ⊢;simp only [azp,ajF,TS,w6,c1,c2,cond_true,Int.toNat_natCast,aV hm,w4,ih,q,obind_some,List.foldl_cons];have h4:m.f=0∨m.f=1∨m.f=2∨m.f=3:=by omega
   have h5:m.t=1∨m.t=2∨m.t=3∨m.t=4:=by omega
   rcases h4 with h4|h4|h4|h4<;>rcases h5 with h5|h5|h5|h5<;>cases ho:m.o<;>simp [h4,h5,ho,mvB,onB,offB,wr0,wr1,wr2,wr3]
theorem s147 (h:aB s.p_m=0) (hs:s.s_half=0∨s.s_half=1):ayu (s,())=some (s.p_m.foldl (mvB 1 (bqd s)) s.s_b1,s.p_m.foldl (mvB 2 (bqd s)) s.s_b2,s.p_m.foldl (mvB 3 (bqd s)) s.s_b3,()):=by have e:=lp147 h hs s.p_m.length 0 63 s.s_b3 s.s_b2 s.s_b1 (by omega);rw [←mQ,List.drop_zero]at e;show Ez147 (s.p_m.length+64) s=_;unfold Ez147 Tz147;simp only [TS,w6];exact e
end
section
variable {s:St}{t:Pl}
def pl (s:St) (t:Pl) (f:Int):Int:=placeB t.m s.b1 s.b2 s.b3 f
def sl (s:St) (f:Int):Int:=slotI s.half s.n0 s.n1 s.b1 s.b2 s.b3 f
def setB (i p v x:Int):Int:=if p=i then v else x
theorem st22 (h:aB t.m=0) (hs:s.half=0∨s.half=1) (n:Nat) (a b c d e f g x3 x2 x1:Int) {i:Int}(hi:i=0∨i=1∨i=2∨i=3):fN s t (n+1) (.k22 a b c d e f g i x3 x2 x1)=fN s t n (.k22 a b c d e f g (IntKind.i64.wrap (i+1)) (setB 3 (pl s t i) (sl s i) x3) (setB 2 (pl s t i) (sl s i) x2) (setB 1 (pl s t i) (sl s i) x1)):=by
 have q1:=s98 (s:=s) h hi;have q2:=s97 hs hi;have c1:decide (i<(4:Int))=true:=by simp;omega
 have hp:0≤placeB t.m s.b1 s.b2 s.b3 i:=iO h (by omega);have hp4:placeB t.m s.b1 s.b2 s.b3 i≤4:=by
  unfold placeB;split;· rename_i m hm;have:=gL (pB h hm).2;split<;>omega
  · split;· omega
    · split<;>omega
 simp only [Ez95J_s,bji,TS,w6,c1,cond_true,q1,q2,obind_some];show _=fN s t n (.k22 a b c d e f g (IntKind.i64.wrap (i+1)) (setB 3 (placeB t.m s.b1 s.b2 s.b3 i) (slotI s.half s.n0 s.n1 s.b1 s.b2 s.b3 i) x3) (setB 2 (placeB t.m s.b1 s.b2 s.b3 i) (slotI s.half s.n0 s.n1 s.b1 s.b2 s.b3 i) x2) (setB 1 (placeB t.m s.b1 s.b2 s.b3 i) (slotI s.half s.n0 s.n1 s.b1 s.b2 s.b3 i) x1));generalize placeB t.m s.b1 s.b2 s.b3 i=p at *
 generalize slotI s.half s.n0 s.n1 s.b1 s.b2 s.b3 i=v at *
 have h5:p=0∨p=1∨p=2∨p=3∨p=4:=by omega
 rcases h5 with rfl|rfl|rfl|rfl|rfl<;>simp [setB,wr0,wr1,wr2]
def fI (s:St) (t:Pl) (i:Int):Int:=setB i (pl s t 3) (sl s 3) (setB i (pl s t 2) (sl s 2) (setB i (pl s t 1) (sl s 1) (setB i (pl s t 0) (sl s 0) 0)))
theorem lp22 (h:aB t.m=0) (hs:s.half=0∨s.half=1) (n:Nat) (a b c d e f g:Int):fN s t (n+5) (.k22 a b c d e f g 0 0 0 0)=some (⟨s.inn,s.half,a,b,c,fI s t 1,fI s t 2,fI s t 3,d,e,g,f,s.over⟩:St):=by
 have w1:IntKind.i64.wrap (0+1)=1:=by decide
 have w2:IntKind.i64.wrap (1+1)=2:=by decide
 have w3:IntKind.i64.wrap (2+1)=3:=by decide
 have w4:IntKind.i64.wrap (3+1)=4:=by decide
 rw [show n+5=(n+4)+1 from rfl,st22 h hs _ _ _ _ _ _ _ _ _ _ _ (by simp),w1,show n+4=(n+3)+1 from rfl,st22 h hs _ _ _ _ _ _ _ _ _ _ _ (by simp),w2,show n+3=(n+2)+1 from rfl,st22 h hs _ _ _ _ _ _ _ _ _ _ _ (by simp),w3,show n+2=(n+1)+1 from rfl,st22 h hs _ _ _ _ _ _ _ _ _ _ _ (by simp),w4];rfl
end
end
end Go.Ev
namespace Go.Ev
open Go.RowKit Go.Proofs
set_option maxRecDepth 100000
set_option maxHeartbeats 40000000
set_option linter.unusedSimpArgs false
noncomputable section
theorem safe_lt {m:Mv}(h:mvE m=0) (ho:m.o=false):m.f<m.t:=by
 obtain⟨w,hw,h1,h2,h3⟩:=bq5 h;have hr:=gL h;by_cases hf:m.f=0;· omega
 · rw [if_neg hf]at h3;rw [ho]at h1;simp only [wayT,List.mem_cons,List.not_mem_nil,or_false]at hw;rcases hw with rfl|rfl|rfl|rfl|rfl|rfl|rfl|rfl|rfl|rfl|rfl|rfl|rfl|rfl<;>simp [reachB]at h1 h3<;>omega
def act (l:List Mv) (f:Int):Int:=match mAt l f with
 | none=>-1| some m=>if m.o then 0 else m.t
def stepA (i f a v x:Int):Int:=if a=-1 then x else if a=i then v else if f=i then 0 else x
theorem bjH {l:List Mv}(h:aB l=0) {i:Int}(hi:i=1∨i=2∨i=3) (v:Mv→Int) (V:Int→Int) (hv:∀m∈l,v m=V m.f) (x:Int) :
  l.foldl (mvB i v) x=stepA i 0 (act l 0) (V 0) (stepA i 1 (act l 1) (V 1) (stepA i 2 (act l 2) (V 2) (stepA i 3 (act l 3) (V 3) x))):=by
 have one:∀(m:Mv) (y:Int),mvE m=0→v m=V m.f→mvB i v y m=stepA i m.f (if m.o then 0 else m.t) (V m.f) y:=by
  intro m y hm hvm;have hr:=gL hm;unfold mvB onB offB stepA;rw [hvm];cases ho:m.o with
  | true=>
    have h0:¬(0:Int)=i:=by omega
    simp [h0]
  | false=>
    have h0:¬m.t=-1:=by omega
    simp [h0]
 have no:∀(f w y:Int),stepA i f (-1) w y=y:=by intro f w y;simp [stepA]
 revert hv;refine sh_cases h ?_ ?_ ?_ ?_ ?_ ?_ ?_ ?_ ?_ ?_ ?_ ?_ ?_ ?_ ?_ ?_<;>intros<;>(try simp only [vMv]at *)<;>simp_all [act,mAt]
end
end Go.Ev
namespace Go.Ev
open Go.RowKit Go.Proofs
set_option maxRecDepth 100000
set_option maxHeartbeats 40000000
set_option linter.unusedSimpArgs false
noncomputable section
def vE (e:Bool) (f:Int):Int:=bif e then 0 else f+1
def pT (a:Int) (e:Bool) (f:Int):Int:=if a=-1 then(if f=0 then 0 else bif e then 0 else f)else a
def lhsT (a0 a1 a2 a3:Int) (e1 e2 e3:Bool) (i:Int):Int:=stepA i 0 a0 1 (stepA i 1 a1 (vE e1 1) (stepA i 2 a2 (vE e2 2) (stepA i 3 a3 (vE e3 3) (if i=1 then vE e1 1 else if i=2 then vE e2 2 else vE e3 3))))
def axx (a0 a1 a2 a3:Int) (e1 e2 e3:Bool) (i:Int):Int:=setB i (pT a3 e3 3) (vE e3 3) (setB i (pT a2 e2 2) (vE e2 2) (setB i (pT a1 e1 1) (vE e1 1) (setB i (pT a0 true 0) 1 0)))
def chkT (a0 a1 a2 a3:Int) (e1 e2 e3:Bool) (i:Int):Bool:=(e1&&!(a1==-1))||((e2&&!(a2==-1))||((e3&&!(a3==-1))||(avG (pT a0 true 0) (pT a1 e1 1) (pT a2 e2 2) (pT a3 e3 3)||(lhsT a0 a1 a2 a3 e1 e2 e3 i==axx a0 a1 a2 a3 e1 e2 e3 i))))
theorem bja:([-1,0,1,2,3,4].all fun a0=>[-1,0,2,3,4].all fun a1=>[-1,0,3,4].all fun a2=>[-1,0,4].all fun a3=>[true,false].all fun e1=>[true,false].all fun e2=>[true,false].all fun e3=>[1,2,3].all fun i=>chkT a0 a1 a2 a3 e1 e2 e3 i)=true:=by kernel_rfl
def phi (v0 b1 b2 b3 x:Int):Int:=if x=0 then 0 else if x=1 then v0 else if x=2 then b1 else if x=3 then b2 else b3
theorem phi_tok1 {v0 b1 b2 b3:Int}:phi v0 b1 b2 b3 (vE (b1==0) 1)=b1:=by
 cases h:(b1==0);· simp [phi,vE]
 · have h:b1=0:=by simpa using h
   simp [phi,vE,h]
theorem phi_tok2 {v0 b1 b2 b3:Int}:phi v0 b1 b2 b3 (vE (b2==0) 2)=b2:=by
 cases h:(b2==0);· simp [phi,vE]
 · have h:b2=0:=by simpa using h
   simp [phi,vE,h]
theorem phi_tok3 {v0 b1 b2 b3:Int}:phi v0 b1 b2 b3 (vE (b3==0) 3)=b3:=by
 cases h:(b3==0);· simp [phi,vE]
 · have h:b3=0:=by simpa using h
   simp [phi,vE,h]
theorem sC {v0 b1 b2 b3 i f a v x:Int}:stepA i f a (phi v0 b1 b2 b3 v) (phi v0 b1 b2 b3 x)=phi v0 b1 b2 b3 (stepA i f a v x):=by
 have e0:phi v0 b1 b2 b3 0=0:=rfl;unfold stepA;split;· rfl
 · split;· rfl
   · split;· exact e0.symm
     · rfl
theorem phi_set {v0 b1 b2 b3 i p v x:Int}:setB i p (phi v0 b1 b2 b3 v) (phi v0 b1 b2 b3 x)=phi v0 b1 b2 b3 (setB i p v x):=by unfold setB;split<;>rfl
theorem ay7 {a0 a1 a2 a3 v0 b1 b2 b3 i:Int}(h0:a0∈[-1,0,1,2,3,4]) (h1:a1∈[-1,0,2,3,4]) (h2:a2∈[-1,0,3,4]) (h3:a3∈[-1,0,4]) (hi:i∈[1,2,3])
  (z1:b1=0→a1=-1) (z2:b2=0→a2=-1) (z3:b3=0→a3=-1) (ho:avG (pT a0 true 0) (pT a1 (b1==0) 1) (pT a2 (b2==0) 2) (pT a3 (b3==0) 3)=false) :
  stepA i 0 a0 v0 (stepA i 1 a1 b1 (stepA i 2 a2 b2 (stepA i 3 a3 b3 (if i=1 then b1 else if i=2 then b2 else b3)))) =
  setB i (pT a3 (b3==0) 3) b3 (setB i (pT a2 (b2==0) 2) b2 (setB i (pT a1 (b1==0) 1) b1 (setB i (pT a0 true 0) v0 0))):=by
 have hb:∀b:Bool,b∈[true,false]:=by decide
 have c:=List.all_eq_true.1 (List.all_eq_true.1 (List.all_eq_true.1 (List.all_eq_true.1 (List.all_eq_true.1 (List.all_eq_true.1 (List.all_eq_true.1 (List.all_eq_true.1 bja a0 h0) a1 h1) a2 h2) a3 h3) (b1==0) (hb _)) (b2==0) (hb _)) (b3==0) (hb _)) i hi;have y1:((b1==0)&&!(a1==-1))=false:=by
  by_cases h:b1=0;· rw [z1 h];simp
  · simp [h]
 have y2:((b2==0)&&!(a2==-1))=false:=by
  by_cases h:b2=0;· rw [z2 h];simp
  · simp [h]
 have y3:((b3==0)&&!(a3==-1))=false:=by
  by_cases h:b3=0;· rw [z3 h];simp
  · simp [h]
 unfold chkT at c;rw [y1,y2,y3,ho]at c;simp only [Bool.false_or,beq_iff_eq]at c;have p1:phi v0 b1 b2 b3 1=v0:=rfl;have p0:phi v0 b1 b2 b3 0=0:=rfl;have l:phi v0 b1 b2 b3 (lhsT a0 a1 a2 a3 (b1==0) (b2==0) (b3==0) i)=stepA i 0 a0 v0 (stepA i 1 a1 b1 (stepA i 2 a2 b2 (stepA i 3 a3 b3 (if i=1 then b1 else if i=2 then b2 else b3)))):=by
  unfold lhsT;have e:phi v0 b1 b2 b3 (if i=1 then vE (b1==0) 1 else if i=2 then vE (b2==0) 2 else vE (b3==0) 3)=(if i=1 then b1 else if i=2 then b2 else b3):=by
   split;· exact phi_tok1
   · split;· exact phi_tok2
     · exact phi_tok3
  rw [←sC,←sC,←sC,←sC,phi_tok1,phi_tok2,phi_tok3,p1,e]
 have r:phi v0 b1 b2 b3 (axx a0 a1 a2 a3 (b1==0) (b2==0) (b3==0) i)=setB i (pT a3 (b3==0) 3) b3 (setB i (pT a2 (b2==0) 2) b2 (setB i (pT a1 (b1==0) 1) b1 (setB i (pT a0 true 0) v0 0))):=by unfold axx;rw [←phi_set,←phi_set,←phi_set,←phi_set,phi_tok1,phi_tok2,phi_tok3,p1,p0]
 rw [←l,←r,c]
end
end Go.Ev
namespace Go.Ev
open Go.RowKit Go.Proofs
set_option maxRecDepth 100000
set_option maxHeartbeats 8000000
set_option linter.unusedSimpArgs false
noncomputable section
section
variable {s:St}{t:Pl}
theorem lH {l:List Mv}(h:aB l=0) {f:Int}:act l f=-1∨act l f=0∨(f<act l f∧act l f≤4∧1≤act l f):=by
 unfold act;cases hm:mAt l f with
 | none=>exact .inl rfl| some m=>
   obtain⟨hf,hv⟩:=pB h hm;have hr:=gL hv;cases ho:m.o with
   | true=>exact .inr (.inl (by simp [ho]))| false=>have:=safe_lt hv ho;refine .inr (.inr ?_);simp [ho];omega
theorem j3 (h:aB t.m=0) (f:Int) (e:Bool) (he:f=0∨e=bzB s.b1 s.b2 s.b3 f):pl s t f=pT (act t.m f) e f:=by
 unfold pl placeB pT act;cases hm:mAt t.m f with
 | none=>
   simp only [if_true];split;· rfl
   · rename_i hf;rcases he with he|he;· exact absurd he hf
     · rw [he];cases bzB s.b1 s.b2 s.b3 f<;>rfl
 | some m=>
   simp only;cases ho:m.o with
   | true=>simp| false=>
     simp only [Bool.false_eq_true,if_false];split;· rename_i h1;have:=gL (pB h hm).2;omega
     · rfl
theorem zL (h:aB t.m=0) (g:fF s t) {i:Int}(hi:i=1∨i=2∨i=3):t.m.foldl (mvB i (bqd (dA s t))) (if i=1 then s.b1 else if i=2 then s.b2 else s.b3)=fI s t i:=by
 have hv:∀m∈t.m,bqd (dA s t) m=(fun f=>sl s f) m.f:=fun m _=>rfl;rw [bjH h hi _ (fun f=>sl s f) hv];have e1:sl s 1=s.b1:=rfl;have e2:sl s 2=s.b2:=rfl;have e3:sl s 3=s.b3:=rfl;have a0:=lH h (f:=0);have a1:=lH h (f:=1);have a2:=lH h (f:=2);have a3:=lH h (f:=3);have z:∀f:Int,(f=1∨f=2∨f=3)→bzB s.b1 s.b2 s.b3 f=true→act t.m f=-1:=by
  intro f hf hz;unfold act;cases hm:mAt t.m f with
  | none=>rfl| some m=>rw [at_nz h g.four hf hm]at hz;cases hz
 have p0:pl s t 0=pT (act t.m 0) true 0:=j3 h 0 true (.inl rfl);have p1:pl s t 1=pT (act t.m 1) (s.b1==0) 1:=j3 h 1 _ (.inr rfl);have p2:pl s t 2=pT (act t.m 2) (s.b2==0) 2:=j3 h 2 _ (.inr rfl);have p3:pl s t 3=pT (act t.m 3) (s.b3==0) 3:=j3 h 3 _ (.inr rfl);have ho:=g.order;have ho':avG (pl s t 0) (pl s t 1) (pl s t 2) (pl s t 3)=false:=ho;rw [p0,p1,p2,p3]at ho';unfold fI;rw [p0,p1,p2,p3];simp only [e1,e2,e3];refine ay7 ?_ ?_ ?_ ?_ (by simpa using hi) (fun hb=>z 1 (by simp) (by simp [bzB,hb])) (fun hb=>z 2 (by simp) (by simp [bzB,hb])) (fun hb=>z 3 (by simp) (by simp [bzB,hb])) ho';· simp;omega
 · simp;omega
 · simp;omega
 · simp;omega
def bq0 (n:Int):Int:=IntKind.i64.wrap (n.tmod 9+1)
def runsN (s:St) (t:Pl):Int:=((fU (outsI s t) t.l t.m).length:Nat)
def mvd (s:St) (t:Pl):St:=⟨s.inn,s.half,outsI s t,if t.e=[]then(jT s t).1.1 else 0,if t.e=[]then(jT s t).1.2.1 else 0,fI s t 1,fI s t 2,fI s t 3,
 if ¬t.e=[]∧s.half=0 then bq0 s.n0 else s.n0,if ¬t.e=[]∧s.half=1 then bq0 s.n1 else s.n1,if s.half=0 then IntKind.i64.wrap (s.c0+runsN s t)else s.c0,if s.half=1 then IntKind.i64.wrap (s.c1+runsN s t)else s.c1,s.over⟩
theorem s95 (h:aB t.m=0) (hs:s.half=0∨s.half=1) (hl:t.p.length<9223372036854775808):Sz95 (s,t,())=some (mvd s t):=by
 have e39:=s39 (s:=s) h hs;have e59:ajQ (t,())=some ((t.m.countP (·.o):Nat):Int):=by obtain⟨p,e,b,l⟩:=t;exact azB (bL h)
 have e154:∀n:Int,avh (n,())=some (bq0 n):=fun _=>rfl;have hlen:((fU (outsI s t) t.l t.m).map (bqe s)).length=(fU (outsI s t) t.l t.m).length:=by simp
 show Ez95 (t.m.length+64) s t=_;unfold Ez95 Tz95;simp only [TS,w6];rw [s29 hl,obind_some,show t.m.length+64=(t.m.length+54)+5+5 from rfl];generalize t.m.length+54=n;have e22:=fun a b c d e f g=>lp22 h hs (n+1) a b c d e f g;have uk7:∀(m:Nat) (x2 x3:Int),fN s t (m+1) (.k7 x2 x3)=(fN s t m (.k11 x2 x3)):=fun _ _ _=>rfl;have uk11:∀(m:Nat) (x4 x5:Int),fN s t (m+1) (.k11 x4 x5)=(cond (!decide (t.e=[])) (fN s t m (.k13)) (aX (ajQ (t,())) fun r37=>(fN s t m (.k17 (IntKind.i64.wrap (s.outs+r37)) x4 x5 s.n1 s.n0)))):=fun _ _ _=>rfl;have uk13:∀(m:Nat),fN s t (m+1) (.k13)=(cond (s.half==(0:Int)) (aX (avh (s.n0,())) fun r41=>(cond (s.half==(0:Int)) (aX (ajQ (t,())) fun r43=>(fN s t m (.k17 (IntKind.i64.wrap (s.outs+r43)) (0:Int) (0:Int) s.n1 r41))) (cond (s.half==(1:Int)) (aX (ajQ (t,())) fun r42=>(fN s t m (.k17 (IntKind.i64.wrap (s.outs+r42)) (0:Int) (0:Int) r41 s.n0))) none))) (cond (s.half==(1:Int)) (aX (avh (s.n1,())) fun r38=>(cond (s.half==(0:Int)) (aX (ajQ (t,())) fun r40=>(fN s t m (.k17 (IntKind.i64.wrap (s.outs+r40)) (0:Int) (0:Int) s.n1 r38))) (cond (s.half==(1:Int)) (aX (ajQ (t,())) fun r39=>(fN s t m (.k17 (IntKind.i64.wrap (s.outs+r39)) (0:Int) (0:Int) r38 s.n0))) none))) none)):=fun _=>rfl;have uk17:∀(m:Nat) (x7 x8 x9 x12 x14:Int),fN s t (m+1) (.k17 x7 x8 x9 x12 x14)=(cond (s.half==(0:Int)) (aX (bzN (s,t,())) fun r45=>(cond (s.half==(0:Int)) (fN s t m (.k22 x7 x8 x9 x14 x12 s.c1 (IntKind.i64.wrap (s.c0+((r45.length:Nat):Int))) (0:Int) (0:Int) (0:Int) (0:Int))) (cond (s.half==(1:Int)) (fN s t m (.k22 x7 x8 x9 x14 x12 (IntKind.i64.wrap (s.c0+((r45.length:Nat):Int))) s.c0 (0:Int) (0:Int) (0:Int) (0:Int))) none))) (cond (s.half==(1:Int)) (aX (bzN (s,t,())) fun r44=>(cond (s.half==(0:Int)) (fN s t m (.k22 x7 x8 x9 x14 x12 s.c1 (IntKind.i64.wrap (s.c1+((r44.length:Nat):Int))) (0:Int) (0:Int) (0:Int) (0:Int))) (cond (s.half==(1:Int)) (fN s t m (.k22 x7 x8 x9 x14 x12 (IntKind.i64.wrap (s.c1+((r44.length:Nat):Int))) s.c0 (0:Int) (0:Int) (0:Int) (0:Int))) none))) none)):=fun _ _ _ _ _ _=>rfl;rw [show n+5+5=(n+9)+1 from rfl,uk7,show n+9=(n+8)+1 from rfl,uk11,show n+8=(n+7)+1 from rfl,uk13];have v17:∀(m:Nat) (a b c d e:Int),fN s t (m+6) (.k17 a b c d e)=some (⟨s.inn,s.half,a,b,c,fI s t 1,fI s t 2,fI s t 3,e,d,if s.half=0 then IntKind.i64.wrap (s.c0+runsN s t)else s.c0,if s.half=1 then IntKind.i64.wrap (s.c1+runsN s t)else s.c1,s.over⟩:St):=by intro m a b c d e;rw [show m+6=(m+5)+1 from rfl,uk17,e39];simp only [obind_some,hlen];rw [lp22 h hs,lp22 h hs,lp22 h hs,lp22 h hs];rcases hs with hs|hs<;>simp [hs,runsN]
 have w1:∀a b c d e:Int,fN s t (n+7) (.k17 a b c d e)=_:=v17 (n+1);have w2:∀a b c d e:Int,fN s t (n+8) (.k17 a b c d e)=_:=v17 (n+2);simp only [e59,e154,obind_some,w1,w2];unfold mvd outsI;rcases hs with hs|hs<;>by_cases he:t.e=[]<;>simp [hs,he,jT]
end
end
end Go.Ev
namespace Go.Ev
open Go.RowKit Go.Proofs
set_option maxRecDepth 100000
set_option maxHeartbeats 8000000
set_option linter.unusedSimpArgs false
noncomputable section
def decI (x:St):Bool:=decide (9≤x.inn)&&((x.half==1)&&decide (x.c0<x.c1))
def bjO (x:St):St:=⟨x.inn,x.half,0,0,0,0,0,0,x.n0,x.n1,x.c0,x.c1,true⟩
def lastI (x:St):Bool:=!decide (x.inn<9)&&(decide (x.c0<x.c1)||((x.half==1)&&(!(x.c0==x.c1)||(x.inn==30))))
def oW (x:St):St:=⟨bif x.half==1 then IntKind.i64.wrap (x.inn+1)else x.inn,IntKind.i64.wrap (1-x.half),0,0,0,0,0,0,x.n0,x.n1,x.c0,x.c1,x.over⟩
def nxt (x:St):St:=bif decI x then bjO x else bif x.outs==3 then(bif lastI x then bjO x else oW x)else x
theorem s177 (x:St):bju (x,())=some (decide (x.c0<x.c1)):=rfl
theorem s120 (x:St):ayv (x,())=some (decI x):=by show Ez120 x=_;unfold Ez120 Tz120 decI;simp only [TS,w6];rw [s177,obind_some];cases decide (9≤x.inn)<;>cases(x.half==1)<;>rfl
theorem s148 (x:St):avi (x,())=some (bjO x):=rfl
theorem s176 (x:St):Sz176 (x,())=some (lastI x):=by show Ez176 x=_;unfold Ez176 Tz176 lastI;simp only [TS,w6];rw [s177,obind_some];cases decide (x.inn<9)<;>cases decide (x.c0<x.c1)<;>cases(x.half==1)<;>cases(x.c0==x.c1)<;>rfl
theorem s149 (x:St):ayt (x,())=some (bif lastI x then bjO x else oW x):=by
 show Ez149 x=_;unfold Ez149 Tz149;simp only [TS,w6];rw [s176,obind_some,s148];have e:bjv (x,())=some (⟨x.inn,x.half,0,0,0,0,0,0,x.n0,x.n1,x.c0,x.c1,x.over⟩:St):=rfl;rw [e,obind_some,obind_some];cases lastI x with
 | true=>rfl| false=>unfold oW;cases(x.half==1)<;>rfl
theorem v86k9 (s:Tn):∀(m:Nat) (x2 x3:Int),zT s (m+1) (.k9 x2 x3)=(zT s m (.k11 x3 x2)):=fun _ _ _=>rfl
theorem v86k11 (s:Tn):∀(m:Nat) (x5 x6:Int),zT s (m+1) (.k11 x5 x6)=(aX (rQ (s,())) fun r24=>(cond (!r24) (aX (Sz62 ((⟨s.s_inn,s.s_half,s.outs,(0:Int),(0:Int),s.s_b1,s.s_b2,s.s_b3,s.s_n0,s.s_n1,x5,x6,s.s_over⟩:St),())) fun r25=>(aX (bjy (r25,())) fun r26=>(cond (s.s_half==(0:Int)) (zT s m (.k17 s.s_n1 x5 x6 r26 (0:Int) (0:Int))) (cond (s.s_half==(1:Int)) (zT s m (.k17 r26 x5 x6 s.s_n0 (0:Int) (0:Int))) none)))) (zT s m (.k17 s.s_n1 x5 x6 s.s_n0 s.k0 s.k1)))):=fun _ _ _=>rfl
theorem v86k17 (s:Tn):∀(m:Nat) (x10 x11 x12 x13 x14 x15:Int),zT s (m+1) (.k17 x10 x11 x12 x13 x14 x15)=(aX (ayu (s,())) fun r27=>(aX (ayv ((⟨s.s_inn,s.s_half,s.outs,x14,x15,r27.1,r27.2.1,r27.2.2.1,x13,x10,x11,x12,s.s_over⟩:St),())) fun r28=>(cond r28 (aX (avi ((⟨s.s_inn,s.s_half,s.outs,x14,x15,r27.1,r27.2.1,r27.2.2.1,x13,x10,x11,x12,s.s_over⟩:St),())) fun r29=>(some r29)) (cond (s.outs==(3:Int)) (aX (ayt ((⟨s.s_inn,s.s_half,s.outs,x14,x15,r27.1,r27.2.1,r27.2.2.1,x13,x10,x11,x12,s.s_over⟩:St),())) fun r30=>(some r30)) (some (⟨s.s_inn,s.s_half,s.outs,x14,x15,r27.1,r27.2.1,r27.2.2.1,x13,x10,x11,x12,s.s_over⟩:St)))))):=fun _ _ _ _ _ _ _=>rfl
section
variable {s:St}{t:Pl}
theorem s86 (h:aB t.m=0) (hs:s.half=0∨s.half=1) (g:fF s t):Sz86 (dA s t,())=some (nxt (mvd s t)):=by
 have e89:azm (dA s t,())=some (fU (outsI s t) t.l t.m):=s89 (s:=dA s t) h;have b1:=zL h g (i:=1) (by simp);have b2:=zL h g (i:=2) (by simp);have b3:=zL h g (i:=3) (by simp);have e147:ayu (dA s t,())=some (fI s t 1,fI s t 2,fI s t 3,()):=by rw [s147 (s:=dA s t) h hs];rw [←b1,←b2,←b3];rfl
 have e62:∀x:St,x.half=s.half→Sz62 (x,())=some (if s.half=0 then x.n0 else x.n1):=by intro x hx;show Ez62 x=_;unfold Ez62 Tz62;simp only [TS,w6];rw [hx];rcases hs with hs|hs<;>simp [hs]
 have e146:∀n:Int,bjy (n,())=some (bq0 n):=fun _=>rfl;have e145:rQ (dA s t,())=some (decide (t.e=[])):=rfl;show Ez86 (t.m.length+64) (dA s t)=_;unfold Ez86 Tz86;simp only [TS,w6];rw [e89,show t.m.length+64=(t.m.length+61)+3 from rfl];generalize t.m.length+61=n;have fin:∀x10 x11 x12 x13 x14 x15:Int,(⟨s.inn,s.half,outsI s t,x14,x15,fI s t 1,fI s t 2,fI s t 3,x13,x10,x11,x12,s.over⟩:St)=mvd s t→zT (dA s t) (n+1) (.k17 x10 x11 x12 x13 x14 x15)=some (nxt (mvd s t)):=by intro x10 x11 x12 x13 x14 x15 hx;rw [v86k17,e147,obind_some];show(aX (ayv ((⟨s.inn,s.half,outsI s t,x14,x15,fI s t 1,fI s t 2,fI s t 3,x13,x10,x11,x12,s.over⟩:St),())) fun r28=>(cond r28 (aX (avi ((⟨s.inn,s.half,outsI s t,x14,x15,fI s t 1,fI s t 2,fI s t 3,x13,x10,x11,x12,s.over⟩:St),())) fun r29=>(some r29)) (cond (outsI s t==(3:Int)) (aX (ayt ((⟨s.inn,s.half,outsI s t,x14,x15,fI s t 1,fI s t 2,fI s t 3,x13,x10,x11,x12,s.over⟩:St),())) fun r30=>(some r30)) (some (⟨s.inn,s.half,outsI s t,x14,x15,fI s t 1,fI s t 2,fI s t 3,x13,x10,x11,x12,s.over⟩:St)))))=_;rw [hx,s120,obind_some,s148,obind_some,s149,obind_some];have ho:(mvd s t).outs=outsI s t:=rfl;unfold nxt;rw [ho];cases decI (mvd s t)<;>cases(outsI s t==3)<;>rfl
 rcases hs with hs|hs<;>by_cases he:t.e=[] <;>
  simp only [show(dA s t).s_half=s.half from rfl,show(dA s t).s_c0=s.c0 from rfl,show(dA s t).s_c1=s.c1 from rfl,hs,obind_some,show n+3=(n+2)+1 from rfl,v86k9,show n+2=(n+1)+1 from rfl,v86k11,e145,he,decide_true,decide_false,Bool.not_true,Bool.not_false,cond_true,cond_false,show((0:Int)==0)=true from rfl,show((1:Int)==0)=false from rfl,show((1:Int)==1)=true from rfl] <;>
  (try rw [e62 _ (by first|exact hs.symm|rfl),obind_some,e146,obind_some])<;>(try simp only [hs,if_true,if_false,show((1:Int)=0)=False from by simp])<;>refine fin _ _ _ _ _ _ ?_<;>simp [mvd,hs,he,runsN,jT,dA]
end
end
end Go.Ev
namespace Go.Ev
open Go.RowKit Go.Proofs
set_option maxRecDepth 100000
set_option maxHeartbeats 8000000
set_option linter.unusedSimpArgs false
noncomputable section
def eP (x:St):Int:=bif decI x then 2 else bif x.outs==3 then(bif lastI x then 2 else 1)else 0
section
variable {s:St}{t:Pl}
theorem s92 (h:aB t.m=0) (hs:s.half=0∨s.half=1) (hv:s.over=false) (g:fF s t):Sz92 (dA s t,())=some (eP (mvd s t)):=by
 show Ez92 (dA s t)=_;unfold Ez92 Tz92;simp only [TS,w6];rw [s86 h hs g,obind_some];unfold nxt eP;have w0:IntKind.i64.wrap (1-0)=1:=by decide
 have w1:IntKind.i64.wrap (1-1)=0:=by decide
 have ho:(mvd s t).over=false:=hv;have hh:(mvd s t).half=s.half:=rfl;have ht:(dA s t).s_half=s.half:=rfl;rw [ht];generalize mvd s t=x at *
 cases decI x with
 | true=>rfl| false=>
   cases(x.outs==3)with
   | true=>
     cases lastI x with
     | true=>rfl| false=>simp only [cond_true,cond_false,oW,ho,hh];rcases hs with hs|hs<;>simp [hs,w0,w1,wr0,wr1]
   | false=>simp only [cond_false,ho,hh];simp
theorem s67 (x:St):Sz67 (x,())=some (decI x):=by show Ez67 x=_;unfold Ez67 Tz67 decI;simp only [TS,w6];cases decide (9≤x.inn)<;>cases(x.half==1)<;>rfl
theorem s41 (h:aB t.m=0) (hs:s.half=0∨s.half=1) (hl:t.p.length<9223372036854775808) (g:fF s t):Sz41 (s,t,())=some (eP (mvd s t)):=by
 show Ez41 s t=_;unfold Ez41 Tz41;simp only [TS,w6];rw [s95 h hs hl,obind_some,s67,obind_some];have hh:(mvd s t).half=s.half:=rfl;have ho:(mvd s t).outs≤3:=g.outs;unfold eP lastI;generalize mvd s t=x at *
 cases hd:decI x with
 | true=>rfl| false =>
   unfold decI at hd;have e3:decide (x.outs<3)=!(x.outs==3):=by rw [Bool.eq_iff_iff];simp;omega
   rw [e3];cases(x.outs==3)with
   | false=>rfl| true =>
     simp only [cond_true,cond_false,Bool.not_true];rw [hh]at hd ⊢;by_cases h9:(9:Int)≤x.inn
     · have d1:decide ((9:Int)≤x.inn)=true:=by simpa using h9
       have d2:decide (x.inn<9)=false:=by simp;omega
       rw [d1]at hd ⊢;rw [d2];rcases hs with hs|hs;· simp only [hs];cases decide (x.c0<x.c1)<;>rfl
       · simp only [hs]at hd ⊢;have hc:decide (x.c0<x.c1)=false:=by simpa using hd
         rw [hc];cases(x.c0==x.c1)<;>cases(x.inn==30)<;>rfl
     · have d1:decide ((9:Int)≤x.inn)=false:=by simpa using h9
       have d2:decide (x.inn<9)=true:=by simp;omega
       have d3:(x.inn==30)=false:=by simp;omega
       rw [d1,d2,d3];rcases hs with hs|hs<;>simp [hs]
theorem wr_half (hs:s.half=0∨s.half=1):(IntKind.i64.wrap (1-s.half)==0)=(s.half==1):=by
 have w0:IntKind.i64.wrap (1-0)=1:=by decide
 have w1:IntKind.i64.wrap (1-1)=0:=by decide
 rcases hs with hs|hs<;>simp [hs,w0,w1,wr0,wr1]
def zSt:St:=⟨0,0,0,0,0,0,0,0,0,0,0,0,false⟩
def akF (s:St) (t:Pl):Bool:=decide (9999<(if s.half=0 then IntKind.i64.wrap (s.c0+runsN s t)else IntKind.i64.wrap (s.c1+runsN s t)))
theorem s38 (h:aB t.m=0) (hs:s.half=0∨s.half=1) (hv:s.over=false) (hc:s.c0≤9999∧s.c1≤9999) (hl:t.p.length<9223372036854775808) {k:Int}(hk:Sz94 (s,t,())=some k) (g:k=0→fF s t) :
  Sz38 (s,t,())=some (if k≠0 then(zSt,k,18,())else if akF s t=true then(zSt,0,4,())else(nxt (mvd s t),0,0,())):=by
 show Ez38 s t=_;unfold Ez38 Tz38;simp only [TS,w6];rw [hv,hk,obind_some,s95 h hs hl,obind_some];by_cases hk0:k=0
 · subst hk0;have g:=g rfl;rw [s41 h hs hl g,obind_some];have c0:(mvd s t).c0=if s.half=0 then IntKind.i64.wrap (s.c0+runsN s t)else s.c0:=rfl
   have c1:(mvd s t).c1=if s.half=1 then IntKind.i64.wrap (s.c1+runsN s t)else s.c1:=rfl
   have hh:(mvd s t).half=s.half:=rfl;have hbig:(decide ((9999:Int)<(mvd s t).c0)||decide ((9999:Int)<(mvd s t).c1))=akF s t:=by
    rw [c0,c1];unfold akF;have n0:¬(9999:Int)<s.c0:=by omega
    have n1:¬(9999:Int)<s.c1:=by omega
    rcases hs with hs|hs<;>simp [hs,n0,n1]
   have tail:(cond (eP (mvd s t)==(0:Int)) (some (mvd s t,(0:Int),(0:Int),())) (cond (eP (mvd s t)==(2:Int)) (some (bjO (mvd s t),(0:Int),(0:Int),())) (cond ((IntKind.i64.wrap ((1:Int)-(mvd s t).half))==(0:Int)) (some ((⟨(IntKind.i64.wrap ((mvd s t).inn+(1:Int))),(IntKind.i64.wrap ((1:Int)-(mvd s t).half)),(0:Int),(0:Int),(0:Int),(0:Int),(0:Int),(0:Int),(mvd s t).n0,(mvd s t).n1,(mvd s t).c0,(mvd s t).c1,(mvd s t).over⟩:St),(0:Int),(0:Int),())) (some ((⟨(mvd s t).inn,(IntKind.i64.wrap ((1:Int)-(mvd s t).half)),(0:Int),(0:Int),(0:Int),(0:Int),(0:Int),(0:Int),(mvd s t).n0,(mvd s t).n1,(mvd s t).c0,(mvd s t).c1,(mvd s t).over⟩:St),(0:Int),(0:Int),())))))=some (nxt (mvd s t),0,0,()):=by have wh:(IntKind.i64.wrap (1-(mvd s t).half)==0)=((mvd s t).half==1):=wr_half hs;rw [wh];unfold eP nxt oW;generalize mvd s t=x;cases decI x<;>cases(x.outs==3)<;>cases lastI x<;>cases(x.half==1)<;>rfl
   show(cond (decide ((9999:Int)<(mvd s t).c0)) (some (zSt,(0:Int),(4:Int),())) (cond (decide ((9999:Int)<(mvd s t).c1)) (some (zSt,(0:Int),(4:Int),())) (cond (eP (mvd s t)==(0:Int)) (some (mvd s t,(0:Int),(0:Int),())) (cond (eP (mvd s t)==(2:Int)) (some (bjO (mvd s t),(0:Int),(0:Int),())) (cond ((IntKind.i64.wrap ((1:Int)-(mvd s t).half))==(0:Int)) (some ((⟨(IntKind.i64.wrap ((mvd s t).inn+(1:Int))),(IntKind.i64.wrap ((1:Int)-(mvd s t).half)),(0:Int),(0:Int),(0:Int),(0:Int),(0:Int),(0:Int),(mvd s t).n0,(mvd s t).n1,(mvd s t).c0,(mvd s t).c1,(mvd s t).over⟩:St),(0:Int),(0:Int),())) (some ((⟨(mvd s t).inn,(IntKind.i64.wrap ((1:Int)-(mvd s t).half)),(0:Int),(0:Int),(0:Int),(0:Int),(0:Int),(0:Int),(mvd s t).n0,(mvd s t).n1,(mvd s t).c0,(mvd s t).c1,(mvd s t).over⟩:St),(0:Int),(0:Int),())))))))=_;rw [tail,←hbig];simp only [ne_eq,not_true_eq_false,if_false];cases decide ((9999:Int)<(mvd s t).c0)<;>cases decide ((9999:Int)<(mvd s t).c1)<;>rfl
 · have e:(!(k==(0:Int)))=true:=by simpa using hk0
   rw [e];simp only [cond_true,cond_false];rw [if_pos hk0];rfl
end
end
end Go.Ev
namespace Go.Ev
open Go.RowKit Go.Proofs
set_option maxRecDepth 100000
set_option maxHeartbeats 8000000
set_option linter.unusedSimpArgs false
noncomputable section
def qV (s:St) (t:Pl):Int:=if stE s≠0 then stE s else if playE t.p t.e t.m≠0 then playE t.p t.e t.m else if s.over=true then 20 else 0
def okP (t:Pl):Prop:=awY t=true∧bB t.p=true∧bB t.e=true∧t.p.length<9223372036854775808
section
variable {s:St}{t:Pl}
theorem s60 (ok:okP t):eO (s,(((),()),((t,()),()),((),()),()),())=some (qV s t):=by
 have e18:S18 (s,())=some (stE s):=rfl;have e141:Sz141 (s,t,())=some (playE t.p t.e t.m):=by show Ez141 s t=_;unfold Ez141 Tz141 S142;simp only [TS,w6];rw [if_pos ⟨ok.1,ok.2.1,ok.2.2.1⟩];rfl
 have e61:Sz61 (s,())=some (if s.over=true then 20 else 0):=by show Ez61 s=_;unfold Ez61 Tz61;simp only [TS,w6];cases s.over<;>rfl
 have j:∀n,dN s (((),()),((t,()),()),((),()),()) (n+4) (.k4 0)=some (qV s t):=by
  intro n;unfold qV;generalize stE s=a at *
  generalize playE t.p t.e t.m=b at *
  by_cases ha:a=0<;>by_cases hb:b=0<;>cases ho:s.over<;>simp [oP,dL,TS,w6,e18,e141,e61,obind_some,ha,hb,ho,wr0,wr1,wr2,wr3,cond_ite]
 show g0 64 s _=_;unfold g0 gU;simp only [TS,w6];exact j 60
theorem playE_zero (h:playE t.p t.e t.m=0):t.p.length≤24∧vEv t.e∧aB t.m=0:=by
 unfold playE at h;simp only [eS]at h;by_cases h1:nU t.p=0
 · by_cases h2:tY t.e=0
   · by_cases h3:aB t.m=0
     · refine ⟨?_,vEv_of h2,h3⟩;unfold nU at h1;split at h1;· assumption
       · cases h1
     · simp [h1,h2,h3]at h
   · simp [h1,h2]at h
 · simp [h1]at h
theorem tZ (h:qV s t=0):stE s=0∧playE t.p t.e t.m=0∧s.over=false:=by
 unfold qV at h;by_cases h1:stE s=0
 · by_cases h2:playE t.p t.e t.m=0
   · cases ho:s.over with
     | false=>exact⟨h1,h2,rfl⟩| true=>simp [h1,h2,ho]at h
   · simp [h1,h2]at h
 · simp [h1]at h
theorem c_ok (h:stE s=0):s.c0≤9999∧s.c1≤9999:=by have:=(axs h).2.2.1;simp [nuB,inB]at this;omega
def accR (s:St) (t:Pl) (k:Int):Option Tn×Int×Int×Unit:=if qV s t≠0 then(none,0,qV s t,())else if k≠0 then(none,k,18,())else if akF s t=true then(none,0,4,())else(some (dA s t),0,0,())
theorem s85 (ok:okP t) {k:Int}(hk:qV s t=0→avj (dA s t,())=some k):Sz85 (s,t,())=some (accR s t k):=by
 have u:∀n,Ez85J s t (n+1) .k3=(aX (eO (s,(((),()),((t,()),()),((),()),()),())) fun r6=>(cond (!(r6==(0:Int))) (some (none,(0:Int),r6,())) (aX (bjz (s,t,())) fun r7=>(aX (avj (r7,())) fun r8=>(cond (!(r8==(0:Int))) (some (none,r8,(18:Int),())) (cond (s.half==(0:Int)) (aX (azm (r7,())) fun r10=>(cond (decide ((9999:Int)<(IntKind.i64.wrap (s.c0+((r10.length:Nat):Int))))) (some (none,(0:Int),(4:Int),())) (some ((some r7),(0:Int),(0:Int),())))) (cond (s.half==(1:Int)) (aX (azm (r7,())) fun r9=>(cond (decide ((9999:Int)<(IntKind.i64.wrap (s.c1+((r9.length:Nat):Int))))) (some (none,(0:Int),(4:Int),())) (some ((some r7),(0:Int),(0:Int),())))) none))))))):=fun _=>rfl;show Ez85J s t ((t.m.length+63)+1) .k3=_;rw [u,s60 ok,obind_some];unfold accR;by_cases he:qV s t=0
 · obtain ⟨h1,h2,h3⟩:=tZ he;obtain⟨p1,p2,p3⟩:=playE_zero h2;have hs:=(mY h1).half;have e89:azm (dA s t,())=some (fU (outsI s t) t.l t.m):=s89 (s:=dA s t) p3;rw [s143 p3 ok.2.1,obind_some,hk he,obind_some,e89];have c:(!(qV s t==0))=false:=by simp [he]
   rw [c,cond_false,if_neg (by simp [he])];by_cases hk0:k=0
   · have c2:(!(k==0))=false:=by simp [hk0]
     rw [c2,cond_false,if_neg (by simp [hk0])];unfold akF runsN;rcases hs with hs|hs<;>simp [hs,cond_ite,obind_some]<;>split<;>rfl
   · have c2:(!(k==0))=true:=by simp [hk0]
     rw [c2,cond_true,if_pos hk0]
 · have c:(!(qV s t==0))=true:=by simp [he]
   rw [c,cond_true,if_pos he]
end
end
end Go.Ev
namespace Go.Ev
open Go.RowKit Go.Proofs
set_option maxRecDepth 100000
set_option maxHeartbeats 8000000
set_option linter.unusedSimpArgs false
noncomputable section
def bjL (s:St) (t:Pl) (k:Int):Int:=if qV s t≠0 then qV s t else if k≠0 then 18 else if akF s t=true then 4 else 0
def numA (s:St) (t:Pl) (k:Int):Int:=if qV s t≠0 then 0 else k
section
variable {s:St}{t:Pl}{k:Int}
theorem awD {o:Int}{b:Bool}{l:List Mv}:(fU o b l).length≤l.length∧∀m∈fU o b l,m∈l:=by
 unfold fU;split;· simp
 · exact⟨List.length_filter_le _ _,fun m hm=>(List.mem_filter.1 hm).1⟩
theorem acc_cases (s:St) (t:Pl) (k:Int):(bjL s t k≠0∧accR s t k=(none,numA s t k,bjL s t k,()) )∨(bjL s t k=0∧qV s t=0∧k=0∧accR s t k=(some (dA s t),0,0,())):=by
 unfold accR bjL numA;by_cases h1:qV s t=0
 · by_cases h2:k=0
   · cases h3:akF s t with
     | true=>left;simp [h1,h2]| false=>right;simp [h1,h2]
   · left;simp [h1,h2]
 · left;simp [h1]
end
end
end Go.Ev
namespace Go.Ev
open Go.RowKit Go.Proofs
set_option maxRecDepth 100000
set_option maxHeartbeats 8000000
set_option linter.unusedSimpArgs false
noncomputable section
def lfP (hr:Bool) (p f:Int):List Int:=bif !(p==0)&&!(hr&&(p==4))then [f]else []
def lfR (a:Int) (c:Bool) (p f:Int):List Int:=bif(p==a)&&(decide (a<4)||!c)then [f]else []
def bxn (hr:Bool) (p0 p1 p2 p3:Int):List Int:=lfP hr p3 3++(lfP hr p2 2++(lfP hr p1 1++lfP hr p0 0))
def lfRa (a:Int) (c:Bool) (p0 p1 p2 p3:Int):List Int:=lfR a c p3 3++(lfR a c p2 2++(lfR a c p1 1++lfR a c p0 0))
def lfRs (c:Bool) (p0 p1 p2 p3:Int):List Int:=lfRa 4 c p0 p1 p2 p3++(lfRa 3 c p0 p1 p2 p3++(lfRa 2 c p0 p1 p2 p3++lfRa 1 c p0 p1 p2 p3))
def chkL (p0 p1 p2 p3:Int) (c:Bool):Bool:=avG p0 p1 p2 p3||((bxn c p0 p1 p2 p3==lfRs c p0 p1 p2 p3)&&((p0==4)||((p1==4)||((p2==4)||((p3==4)||(bxn (!c) p0 p1 p2 p3==bxn c p0 p1 p2 p3))))))
theorem bjb:([0,1,2,3,4].all fun p0=>[0,1,2,3,4].all fun p1=>[0,1,2,3,4].all fun p2=>[0,1,2,3,4].all fun p3=>[true,false].all fun c=>chkL p0 p1 p2 p3 c)=true:=by kernel_rfl
section
variable {s:St}{t:Pl}
theorem st93 {tn:Tn}(hs:tn.s_half=0∨tn.s_half=1) (n:Nat) (hr:Bool) (p0 p1 p2 p3:Int) (l:List Int) (hl:l.length≤20) {i p:Int}(hi:(i=0∧p=p3)∨(i=1∧p=p2)∨(i=2∧p=p1)∨(i=3∧p=p0)) :
  axf tn (n+1) (.k8 hr p0 p1 p2 p3 i l)=axf tn n (.k8 hr p0 p1 p2 p3 (IntKind.i64.wrap (i+1)) (l++(lfP hr p (3-i)).map (slotI tn.s_half tn.s_n0 tn.s_n1 tn.s_b1 tn.s_b2 tn.s_b3))):=by
 have c3:Nat.ble (8*(l.length+1)) 1000000=true:=by rw [Nat.ble_eq];omega
 have q:∀i:Int,(i=0∨i=1∨i=2∨i=3)→oS (tn,i,())=some (slotI tn.s_half tn.s_n0 tn.s_n1 tn.s_b1 tn.s_b2 tn.s_b3 i):=fun i hi=>s91 hs hi;have q0:=q 0 (by simp);have q1:=q 1 (by simp);have q2:=q 2 (by simp);have q3:=q 3 (by simp);have w0:IntKind.i64.wrap (3-0)=3:=by decide
 have w1:IntKind.i64.wrap (3-1)=2:=by decide
 have w2:IntKind.i64.wrap (3-2)=1:=by decide
 have w3:IntKind.i64.wrap (3-3)=0:=by decide
 rcases hi with⟨rfl,rfl⟩ | ⟨rfl,rfl⟩ | ⟨rfl,rfl⟩ | ⟨rfl,rfl⟩;· simp only [zS,ax0,TS,w6,List.length_map,w0,q3,obind_some,c3,cond_true,lfP];cases hr<;>cases(p==0)<;>cases(p==4)<;>simp
 · simp only [zS,ax0,TS,w6,List.length_map,w1,q2,obind_some,c3,cond_true,lfP];cases hr<;>cases(p==0)<;>cases(p==4)<;>simp
 · simp only [zS,ax0,TS,w6,List.length_map,w2,q1,obind_some,c3,cond_true,lfP];cases hr<;>cases(p==0)<;>cases(p==4)<;>simp
 · simp only [zS,ax0,TS,w6,List.length_map,w3,q0,obind_some,c3,cond_true,lfP];cases hr<;>cases(p==0)<;>cases(p==4)<;>simp
theorem lp93 {tn:Tn}(hs:tn.s_half=0∨tn.s_half=1) (n:Nat) (hr:Bool) (p0 p1 p2 p3:Int):axf tn (n+5) (.k8 hr p0 p1 p2 p3 0 [])=some ((bxn hr p0 p1 p2 p3).map (slotI tn.s_half tn.s_n0 tn.s_n1 tn.s_b1 tn.s_b2 tn.s_b3)):=by
 have w1:IntKind.i64.wrap (0+1)=1:=by decide
 have w2:IntKind.i64.wrap (1+1)=2:=by decide
 have w3:IntKind.i64.wrap (2+1)=3:=by decide
 have w4:IntKind.i64.wrap (3+1)=4:=by decide
 have ln:∀(p f:Int),(lfP hr p f).length≤1:=by intro p f;unfold lfP;cases(!(p==0)&&!(hr&&(p==4)))<;>simp
 have l3:=ln p3 3;have l2:=ln p2 2;have l1:=ln p1 1;rw [show n+5=(n+4)+1 from rfl,st93 hs _ hr p0 p1 p2 p3 [] (by simp) (.inl ⟨rfl,rfl⟩),w1];rw [show n+4=(n+3)+1 from rfl,st93 hs _ hr p0 p1 p2 p3 _ (by simp;omega) (.inr (.inl ⟨rfl,rfl⟩)),w2];rw [show n+3=(n+2)+1 from rfl,st93 hs _ hr p0 p1 p2 p3 _ (by simp;omega) (.inr (.inr (.inl ⟨rfl,rfl⟩))),w3];rw [show n+2=(n+1)+1 from rfl,st93 hs _ hr p0 p1 p2 p3 _ (by simp;omega) (.inr (.inr (.inr ⟨rfl,rfl⟩))),w4];have u:∀x,axf tn (n+1) (.k8 hr p0 p1 p2 p3 4 x)=some x:=fun _=>rfl;rw [u];simp [bxn]
theorem st40 (h:aB t.m=0) (hs:s.half=0∨s.half=1) (n:Nat) (l:List Int) (a:Int) (hl:l.length≤20) {f:Int}(hf:f=0∨f=1∨f=2∨f=3) :
  jW s t (n+1) (.k16 f l a)=jW s t n (.k16 (IntKind.i64.wrap (f-1)) (l++(lfR a (cntsB s t) (pl s t f) f).map (sl s)) a):=by
 have c3:Nat.ble (8*(l.length+1)) 1000000=true:=by rw [Nat.ble_eq];omega
 have q1:bjq (s,t,f,())=some (pl s t f):=s98 h hf;have q2:bzM (s,f,())=some (sl s f):=s97 hs hf;have c1:decide ((0:Int)≤f)=true:=by simp;omega
 generalize hN:n=N;simp only [Ez40J_s,bjk,TS,w6,List.length_map,c1,c3,q1,q2,s96 h,obind_some,cond_true,lfR];cases(pl s t f==a)<;>cases decide (a<4)<;>cases cntsB s t<;>simp
end
end
end Go.Ev
namespace Go.Ev
open Go.RowKit Go.Proofs
set_option maxRecDepth 100000
set_option maxHeartbeats 8000000
set_option linter.unusedSimpArgs false
noncomputable section
section
variable {s:St}{t:Pl}
def rowL (s:St) (t:Pl) (a:Int):List Int:=lfRa a (cntsB s t) (pl s t 0) (pl s t 1) (pl s t 2) (pl s t 3)
theorem mW (a:Int) (c:Bool) (p f:Int):(lfR a c p f).length≤1:=by unfold lfR;cases((p==a)&&(decide (a<4)||!c))<;>simp
theorem bqk (h:aB t.m=0) (hs:s.half=0∨s.half=1) (n:Nat) (l:List Int) (a:Int) (hl:l.length≤16):jW s t (n+5) (.k16 3 l a)=jW s t n (.k10 (IntKind.i64.wrap (a-1)) (l++(rowL s t a).map (sl s))):=by
 have w3:IntKind.i64.wrap (3-1)=2:=by decide
 have w2:IntKind.i64.wrap (2-1)=1:=by decide
 have w1:IntKind.i64.wrap (1-1)=0:=by decide
 have w0:IntKind.i64.wrap (0-1)=-1:=by decide
 have l3:=mW a (cntsB s t) (pl s t 3) 3;have l2:=mW a (cntsB s t) (pl s t 2) 2;have l1:=mW a (cntsB s t) (pl s t 1) 1;rw [show n+5=(n+4)+1 from rfl,st40 h hs _ l a (by omega) (by simp),w3];rw [show n+4=(n+3)+1 from rfl,st40 h hs _ _ a (by simp;omega) (by simp),w2];rw [show n+3=(n+2)+1 from rfl,st40 h hs _ _ a (by simp;omega) (by simp),w1];rw [show n+2=(n+1)+1 from rfl,st40 h hs _ _ a (by simp;omega) (by simp),w0];have u:∀x,jW s t (n+1) (.k16 (-1) x a)=jW s t n (.k10 (IntKind.i64.wrap (a-1)) x):=fun _=>rfl;rw [u];simp [rowL,lfRa]
theorem yB (a:Int):(rowL s t a).length≤4:=by have l3:=mW a (cntsB s t) (pl s t 3) 3;have l2:=mW a (cntsB s t) (pl s t 2) 2;have l1:=mW a (cntsB s t) (pl s t 1) 1;have l0:=mW a (cntsB s t) (pl s t 0) 0;simp [rowL,lfRa];omega
theorem lp40 (h:aB t.m=0) (hs:s.half=0∨s.half=1) (n:Nat):jW s t (n+25) (.k10 4 [])=some ((lfRs (cntsB s t) (pl s t 0) (pl s t 1) (pl s t 2) (pl s t 3)).map (sl s)):=by
 have w4:IntKind.i64.wrap (4-1)=3:=by decide
 have w3:IntKind.i64.wrap (3-1)=2:=by decide
 have w2:IntKind.i64.wrap (2-1)=1:=by decide
 have w1:IntKind.i64.wrap (1-1)=0:=by decide
 have u4:∀m x,jW s t (m+1) (.k10 4 x)=jW s t m (.k16 3 x 4):=fun _ _=>rfl;have u3:∀m x,jW s t (m+1) (.k10 3 x)=jW s t m (.k16 3 x 3):=fun _ _=>rfl;have u2:∀m x,jW s t (m+1) (.k10 2 x)=jW s t m (.k16 3 x 2):=fun _ _=>rfl;have u1:∀m x,jW s t (m+1) (.k10 1 x)=jW s t m (.k16 3 x 1):=fun _ _=>rfl;have u0:∀m x,jW s t (m+1) (.k10 0 x)=some x:=fun _ _=>rfl;have l4:=yB (s:=s) (t:=t) 4;have l3:=yB (s:=s) (t:=t) 3;have l2:=yB (s:=s) (t:=t) 2;rw [show n+25=(n+24)+1 from rfl,u4,show n+24=(n+19)+5 from rfl,bqk h hs _ _ _ (by simp),w4];rw [show n+19=(n+18)+1 from rfl,u3,show n+18=(n+13)+5 from rfl,bqk h hs _ _ _ (by simp;omega),w3];rw [show n+13=(n+12)+1 from rfl,u2,show n+12=(n+7)+5 from rfl,bqk h hs _ _ _ (by simp;omega),w2];rw [show n+7=(n+6)+1 from rfl,u1,show n+6=(n+1)+5 from rfl,bqk h hs _ _ _ (by simp;omega),w1,u0];simp [lfRs,rowL]
def jI (s:St) (t:Pl):List Int:=(lfRs (cntsB s t) (pl s t 0) (pl s t 1) (pl s t 2) (pl s t 3)).map (sl s)
theorem s40 (h:aB t.m=0) (hs:s.half=0∨s.half=1) (hl:t.p.length<9223372036854775808) (g:fF s t):Sz40 (s,t,())=some (if eP (mvd s t)=0 then []else jI s t):=by
 show Ez40 (t.m.length+64) s t=_;unfold Ez40 Tz40;simp only [TS,w6];rw [s41 h hs hl g,obind_some,show t.m.length+64=(t.m.length+39)+25 from rfl,lp40 h hs];by_cases he:eP (mvd s t)=0;· rw [if_pos he,he];rfl
 · have c:(eP (mvd s t)==0)=false:=by simpa using he
   rw [if_neg he,c];rfl
theorem bqu {x:Int}(h:0≤x∧x≤4):x∈[0,1,2,3,4]:=by simp;omega
theorem bqn (h:aB t.m=0) {i:Int}(hi:0≤i∧i≤3):0≤pl s t i∧pl s t i≤4:=by
 refine⟨iO h hi.1,?_⟩;unfold pl placeB;split;· rename_i m hm;have:=gL (pB h hm).2;split<;>omega
 · split;· omega
   · split<;>omega
theorem n9 (h:aB t.m=0) {i:Int}(hi:0≤i∧i≤3) (hp:pl s t i=4):decide ((0:Int)<(((fU (outsI s t) t.l t.m).length:Nat):Int))=cntsB s t:=by
 have hf:∃m∈t.m,rnM m=true:=by
  unfold pl placeB at hp;cases hm:mAt t.m i with
  | none=>
    rw [hm]at hp;simp only at hp;split at hp;· omega
    · split at hp<;>omega
  | some m=>
    rw [hm]at hp;simp only at hp;cases ho:m.o with
    | true=>rw [ho]at hp;simp at hp| false=>
      rw [ho]at hp;refine⟨m,List.mem_of_find?_eq_some hm,?_⟩;have hp:m.t=4:=by simpa using hp
      simp [rnM,ho,hp]
 have hne:0<(t.m.filter rnM).length:=by obtain⟨m,h1,h2⟩:=hf;exact List.length_pos_of_mem (List.mem_filter.2 ⟨h1,h2⟩)
 have hd:decide ((0:Int)<(((t.m.filter rnM).length:Nat):Int))=true:=decide_eq_true (by omega);unfold fU cntsB;by_cases ho:outsI s t=3
 · have hO:(outsI s t==3)=true:=by simpa using ho
   rw [hO];by_cases hc:t.l=true∨t.m.any clM=true;· rw [if_pos ⟨ho,hc⟩];rcases hc with hc|hc<;>rw [hc]<;>simp
   · rw [if_neg fun h=>hc h.2,hd];have h1:t.l=false:=by cases hl:t.l<;>simp_all
     have h2:t.m.any clM=false:=by cases hl:t.m.any clM<;>simp_all
     rw [h1,h2];rfl
 · have hO:(outsI s t==3)=false:=by simpa using ho
   rw [if_neg fun h=>ho h.1,hd,hO];rfl
theorem left_eq (h:aB t.m=0) (g:fF s t):(bxn (decide ((0:Int)<(((fU (outsI s t) t.l t.m).length:Nat):Int))) (pl s t 0) (pl s t 1) (pl s t 2) (pl s t 3)).map (sl s)=jI s t:=by
 have hb:∀b:Bool,b∈[true,false]:=by decide
 have c:=List.all_eq_true.1 (List.all_eq_true.1 (List.all_eq_true.1 (List.all_eq_true.1 (List.all_eq_true.1 bjb (pl s t 0) (bqu (bqn h (by omega)))) (pl s t 1) (bqu (bqn h (by omega)))) (pl s t 2) (bqu (bqn h (by omega)))) (pl s t 3) (bqu (bqn h (by omega)))) (cntsB s t) (hb _);have ho:avG (pl s t 0) (pl s t 1) (pl s t 2) (pl s t 3)=false:=g.order;unfold chkL at c;rw [ho]at c;simp only [Bool.false_or,Bool.and_eq_true,Bool.or_eq_true,beq_iff_eq]at c;obtain⟨c1,c2⟩:=c;unfold jI;rw [←c1];congr 1;have same:∀ {x:Bool},x=cntsB s t→bxn x (pl s t 0) (pl s t 1) (pl s t 2) (pl s t 3)=bxn (cntsB s t) (pl s t 0) (pl s t 1) (pl s t 2) (pl s t 3):=by rintro _ rfl;rfl
 rcases c2 with c2|c2|c2|c2|c2;· exact same (n9 h (by omega) c2)
 · exact same (n9 h (by omega) c2)
 · exact same (n9 h (by omega) c2)
 · exact same (n9 h (by omega) c2)
 · cases hx:decide ((0:Int)<(((fU (outsI s t) t.l t.m).length:Nat):Int))<;>cases hc:cntsB s t<;>rw [hc]at c2<;>first|rfl|exact c2|exact c2.symm
theorem s93 (h:aB t.m=0) (hs:s.half=0∨s.half=1) (g:fF s t):Sz93 (dA s t,())=some (jI s t):=by have e152:ays (dA s t,())=some (pl s t 0,pl s t 1,pl s t 2,pl s t 3,()):=s152 (s:=dA s t) h;have e89:azm (dA s t,())=some (fU (outsI s t) t.l t.m):=s89 (s:=dA s t) h;show Ez93 (t.m.length+64) (dA s t)=_;unfold Ez93 Tz93;simp only [TS,w6];rw [e152,obind_some,e89,obind_some,show t.m.length+64=(t.m.length+59)+5 from rfl];refine(lp93 (tn:=dA s t) hs _ _ _ _ _ _).trans ?_;rw [←left_eq h g];rfl
end
end
end Go.Ev
namespace Go.Ev
open Go.RowKit Go.Proofs
set_option maxRecDepth 100000
set_option maxHeartbeats 8000000
set_option linter.unusedSimpArgs false
noncomputable section
def memI (x:Int):List Int→Bool
 | []=>false| y::l=>(x==y)||memI x l
def nodI:List Int→Bool
 | []=>true| x::l=>!memI x l&&nodI l
def runT (a0 a1 a2 a3:Int):List Int:=(bif a3==4 then [3]else [])++((bif a2==4 then [2]else [])++((bif a1==4 then [1]else [])++(bif a0==4 then [0]else [])))
def outT (a0 a1 a2 a3:Int):Nat:=b2n (a3==0)+(b2n (a2==0)+(b2n (a1==0)+b2n (a0==0)))
def wC (r:Int):List Int:=bif r==0 then []else [r-1]
def basT (a0 a1 a2 a3:Int) (e1 e2 e3:Bool):List Int:=wC (axx a0 a1 a2 a3 e1 e2 e3 1)++(wC (axx a0 a1 a2 a3 e1 e2 e3 2)++wC (axx a0 a1 a2 a3 e1 e2 e3 3))
def preT (a0:Int) (e1 e2 e3:Bool) (f:Int):Bool:=bif f==0 then !(a0==-1)else bif f==1 then !e1 else bif f==2 then !e2 else bif f==3 then !e3 else false
def allT (a0:Int) (e1 e2 e3:Bool):Nat:=b2n (!e1)+(b2n (!e2)+(b2n (!e3)+b2n (!(a0==-1))))
def allP (p:Int→Bool):List Int→Bool
 | []=>true| x::l=>p x&&allP p l
def zOK (a0:Int) (e1 e2 e3:Bool) (o:Nat) (z:List Int):Bool:=nodI z&&(allP (preT a0 e1 e2 e3) z&&Nat.beq (z.length+o) (allT a0 e1 e2 e3))
def bxm (a0:Int) (e1 e2:Bool) (r:Int):Nat:=bif r==1 then 0 else bif r==2 then b2n (!(a0==-1))else bif r==3 then b2n (!(a0==-1))+b2n (!e1)else b2n (!(a0==-1))+(b2n (!e1)+b2n (!e2))
def fit1 (a0:Int) (e1 e2:Bool) (o i:Nat) (r:Int):Bool:=(r==0)||(Nat.ble i (bxm a0 e1 e2 r)&&Nat.ble (bxm a0 e1 e2 r) (i+o))
def ltT (r q:Int):Bool:=(r==0)||((q==0)||decide (r<q))
def fitT (a0:Int) (e1 e2:Bool) (o:Nat) (r1 r2 r3:Int):Bool:=fit1 a0 e1 e2 o 0 r1&&(fit1 a0 e1 e2 o (b2n (!(r1==0))) r2&&(fit1 a0 e1 e2 o (b2n (!(r1==0))+b2n (!(r2==0))) r3&&(ltT r1 r2&&(ltT r1 r3&&ltT r2 r3))))
def inT (r:Int):Bool:=(r==0)||((r==1)||((r==2)||((r==3)||(r==4))))
def chkZ (a0 a1 a2 a3:Int) (e1 e2 e3 c:Bool):Bool:=(e1&&!(a1==-1))||((e2&&!(a2==-1))||((e3&&!(a3==-1))||(avG (pT a0 true 0) (pT a1 e1 1) (pT a2 e2 2) (pT a3 e3 3) ||
 (zOK a0 e1 e2 e3 (outT a0 a1 a2 a3) (basT a0 a1 a2 a3 e1 e2 e3++runT a0 a1 a2 a3)&&(zOK a0 e1 e2 e3 (outT a0 a1 a2 a3) ((bif c then runT a0 a1 a2 a3 else [])++lfRs c (pT a0 true 0) (pT a1 e1 1) (pT a2 e2 2) (pT a3 e3 3)) &&
  (fitT a0 e1 e2 (outT a0 a1 a2 a3) (axx a0 a1 a2 a3 e1 e2 e3 1) (axx a0 a1 a2 a3 e1 e2 e3 2) (axx a0 a1 a2 a3 e1 e2 e3 3)&&(inT (axx a0 a1 a2 a3 e1 e2 e3 1)&&(inT (axx a0 a1 a2 a3 e1 e2 e3 2)&&inT (axx a0 a1 a2 a3 e1 e2 e3 3)))))))))
theorem bj9:([-1,0,1,2,3,4].all fun a0=>[-1,0,2,3,4].all fun a1=>[-1,0,3,4].all fun a2=>[-1,0,4].all fun a3=>[true,false].all fun e1=>[true,false].all fun e2=>[true,false].all fun e3=>[true,false].all fun c=>chkZ a0 a1 a2 a3 e1 e2 e3 c)=true:=by kernel_rfl
section
variable {s:St}{t:Pl}
def zB (s:St) (t:Pl):List Int:=basT (act t.m 0) (act t.m 1) (act t.m 2) (act t.m 3) (s.b1==0) (s.b2==0) (s.b3==0)
def zR (t:Pl):List Int:=runT (act t.m 0) (act t.m 1) (act t.m 2) (act t.m 3)
def zO (t:Pl):Nat:=outT (act t.m 0) (act t.m 1) (act t.m 2) (act t.m 3)
def zr (s:St) (t:Pl) (i:Int):Int:=axx (act t.m 0) (act t.m 1) (act t.m 2) (act t.m 3) (s.b1==0) (s.b2==0) (s.b3==0) i
def zOk (s:St) (t:Pl) (z:List Int):Bool:=zOK (act t.m 0) (s.b1==0) (s.b2==0) (s.b3==0) (zO t) z
theorem zfin (h:aB t.m=0) (g:fF s t) (c:Bool) :
  zOk s t (zB s t++zR t)=true∧zOk s t ((bif c then zR t else [])++lfRs c (pl s t 0) (pl s t 1) (pl s t 2) (pl s t 3))=true ∧
  fitT (act t.m 0) (s.b1==0) (s.b2==0) (zO t) (zr s t 1) (zr s t 2) (zr s t 3)=true∧inT (zr s t 1)=true∧inT (zr s t 2)=true∧inT (zr s t 3)=true:=by
 have a0:=lH h (f:=0);have a1:=lH h (f:=1);have a2:=lH h (f:=2);have a3:=lH h (f:=3);have z:∀f:Int,(f=1∨f=2∨f=3)→bzB s.b1 s.b2 s.b3 f=true→act t.m f=-1:=by
  intro f hf hz;unfold act;cases hm:mAt t.m f with
  | none=>rfl| some m=>rw [at_nz h g.four hf hm]at hz;cases hz
 have p0:pl s t 0=pT (act t.m 0) true 0:=j3 h 0 true (.inl rfl);have p1:pl s t 1=pT (act t.m 1) (s.b1==0) 1:=j3 h 1 _ (.inr rfl);have p2:pl s t 2=pT (act t.m 2) (s.b2==0) 2:=j3 h 2 _ (.inr rfl);have p3:pl s t 3=pT (act t.m 3) (s.b3==0) 3:=j3 h 3 _ (.inr rfl);have ho':avG (pl s t 0) (pl s t 1) (pl s t 2) (pl s t 3)=false:=g.order;rw [p0,p1,p2,p3]at ho' ⊢;have m0:act t.m 0∈[-1,0,1,2,3,4]:=by simp;omega
 have m1:act t.m 1∈[-1,0,2,3,4]:=by simp;omega
 have m2:act t.m 2∈[-1,0,3,4]:=by simp;omega
 have m3:act t.m 3∈[-1,0,4]:=by simp;omega
 have hb:∀b:Bool,b∈[true,false]:=by decide
 have w:=List.all_eq_true.1 (List.all_eq_true.1 (List.all_eq_true.1 (List.all_eq_true.1 (List.all_eq_true.1 (List.all_eq_true.1 (List.all_eq_true.1 (List.all_eq_true.1 bj9 _ m0) _ m1) _ m2) _ m3) (s.b1==0) (hb _)) (s.b2==0) (hb _)) (s.b3==0) (hb _)) c (hb _);have y:∀f:Int,(f=1∨f=2∨f=3)→(bzB s.b1 s.b2 s.b3 f&&!(act t.m f==-1))=false:=by
  intro f hf;cases hq:bzB s.b1 s.b2 s.b3 f with
  | true=>rw [z f hf hq];rfl| false=>rfl
 have y1:((s.b1==0)&&!(act t.m 1==-1))=false:=y 1 (by simp);have y2:((s.b2==0)&&!(act t.m 2==-1))=false:=y 2 (by simp);have y3:((s.b3==0)&&!(act t.m 3==-1))=false:=y 3 (by simp);unfold chkZ at w;rw [y1,y2,y3,ho']at w;simp only [Bool.false_or,Bool.and_eq_true]at w;obtain⟨w1,w2,w3,w4,w5,w6⟩:=w;exact⟨w1,w2,w3,w4,w5,w6⟩
theorem azC (h:aB t.m=0):t.m.countP (·.o)=zO t:=by
 unfold zO outT;have key:∀(m:Mv),mvE m=0→b2n ((if m.o then(0:Int)else m.t)==0)=(if m.o=true then 1 else 0):=by
  intro m hm;have hr:=gL hm;cases ho:m.o with
  | true=>rfl| false=>
    have:(m.t==0)=false:=by simp;omega
    simp only [b2n,Bool.false_eq_true,if_false,this,cond_false]
 have no:b2n ((-1:Int)==0)=0:=rfl;refine sh_cases h ?_ ?_ ?_ ?_ ?_ ?_ ?_ ?_ ?_ ?_ ?_ ?_ ?_ ?_ ?_ ?_<;>intros<;>(try simp only [vMv]at *)<;>simp_all [act,mAt,List.countP_cons]<;>omega
theorem runs_T (h:aB t.m=0):(t.m.filter rnM).map (·.f)=zR t:=by
 unfold zR runT;have key:∀(m:Mv),mvE m=0→(((if m.o then(0:Int)else m.t)==4)=rnM m):=by intro m hm;unfold rnM;cases ho:m.o<;>simp
 have no:((-1:Int)==4)=false:=rfl;have flt:∀(a:Mv) (l:List Mv),(List.filter rnM (a::l)).map (·.f)=(bif rnM a then [a.f]else [])++(List.filter rnM l).map (·.f):=by intro a l;rw [List.filter_cons];cases rnM a<;>simp
 refine sh_cases h ?_ ?_ ?_ ?_ ?_ ?_ ?_ ?_ ?_ ?_ ?_ ?_ ?_ ?_ ?_ ?_<;>intros<;>(try simp only [vMv]at *)<;>simp_all [act,mAt,flt]
end
end
end Go.Ev
namespace Go.Ev
open Go.RowKit Go.Proofs
set_option maxRecDepth 100000
set_option maxHeartbeats 8000000
set_option linter.unusedSimpArgs false
noncomputable section
def nb (b:Int):Int:=if b=0 then 0 else 1
structure bq1 (s:St):Prop where
 f1:s.b1≠0→0≤sinC s.b1 (batC s)∧sinC s.b1 (batC s)≤s.outs
 f2:s.b2≠0→nb s.b1≤sinC s.b2 (batC s)∧sinC s.b2 (batC s)≤nb s.b1+s.outs
 f3:s.b3≠0→nb s.b1+nb s.b2≤sinC s.b3 (batC s)∧sinC s.b3 (batC s)≤nb s.b1+nb s.b2+s.outs
 l12:s.b1≠0→s.b2≠0→sinC s.b1 (batC s)<sinC s.b2 (batC s)
 l13:s.b1≠0→s.b3≠0→sinC s.b1 (batC s)<sinC s.b3 (batC s)
 l23:s.b2≠0→s.b3≠0→sinC s.b2 (batC s)<sinC s.b3 (batC s)
abbrev okF (o lo la x:Int):Prop:=lo≤x∧x≤lo+o∧la<x
theorem avB {s:St}{slot lo la:Int}:vG s slot (some (lo,la))=if slot=0 then some (lo,la)else if lo≤sinC slot (batC s)∧sinC slot (batC s)≤lo+s.outs∧la<sinC slot (batC s)then some (lo+1,sinC slot (batC s))else none:=by
 simp only [vG];split;· rfl
 · by_cases h:lo≤sinC slot (batC s)∧sinC slot (batC s)≤lo+s.outs∧la<sinC slot (batC s);· rw [if_pos h,if_pos];simp [inB];omega
   · rw [if_neg h,if_neg];simp [inB];omega
theorem ak0 {s:St}{slot lo la:Int}:vG s slot (some (lo,la))=if slot=0∨okF s.outs lo la (sinC slot (batC s))then some (lo+nb slot,if slot=0 then la else sinC slot (batC s))else none:=by
 rw [avB];unfold nb okF;by_cases h:slot=0;· simp [h]
 · simp only [h,if_false,false_or]
theorem ak1 {s:St}{slot lo la:Int}{A:Prop} [Decidable A]:vG s slot (if A then some (lo,la)else none)=if A∧(slot=0∨okF s.outs lo la (sinC slot (batC s)))then some (lo+nb slot,if slot=0 then la else sinC slot (batC s))else none:=by
 by_cases h:A;· rw [if_pos h,ak0];simp only [h,true_and]
 · rw [if_neg h,if_neg (fun q=>h q.1)];rfl
theorem fit_iff (s:St):bjK s=true↔bq1 s:=by
 have h1:=sV s.b1 (batC s);unfold bjK;simp only [awp,bsC];rw [ak0,ak1,ak1];simp only [Option.isSome_ite];constructor
 · rintro ⟨⟨a1,a2⟩,a3⟩;simp only [okF,Int.zero_add]at a1 a2 a3;refine⟨fun z=>?_,fun z=>?_,fun z=>?_,fun z y=>?_,fun z y=>?_,fun z y=>?_⟩;· have:=a1.resolve_left z;omega
   · have:=a2.resolve_left z;omega
   · have:=a3.resolve_left z;omega
   · have:=a2.resolve_left y;rw [if_neg z]at this;omega
   · have w:=a3.resolve_left y;by_cases x:s.b2=0;· rw [if_pos x,if_neg z]at w;omega
     · have v:=a2.resolve_left x;rw [if_neg x]at w;rw [if_neg z]at v;omega
   · have w:=a3.resolve_left y;rw [if_neg z]at w;omega
 · rintro ⟨f1,f2,f3,l12,l13,l23⟩;simp only [okF,Int.zero_add];refine⟨⟨?_,?_⟩,?_⟩
   · by_cases z:s.b1=0;· exact .inl z
     · have:=f1 z;exact .inr (by omega)
   · by_cases z:s.b2=0;· exact .inl z
     · have w:=f2 z;refine .inr ⟨w.1,w.2,?_⟩;by_cases y:s.b1=0;· rw [if_pos y];have:=sV s.b2 (batC s);omega
       · rw [if_neg y];exact l12 y z
   · by_cases z:s.b3=0;· exact .inl z
     · have w:=f3 z;refine .inr ⟨w.1,w.2,?_⟩;by_cases x:s.b2=0
       · rw [if_pos x];by_cases y:s.b1=0;· rw [if_pos y];have:=sV s.b3 (batC s);omega
         · rw [if_neg y];exact l13 y z
       · rw [if_neg x];exact l23 x z
end
end Go.Ev
namespace Go.Ev
open Go.RowKit Go.Proofs
set_option maxRecDepth 100000
set_option maxHeartbeats 8000000
set_option linter.unusedSimpArgs false
noncomputable section
section
variable {s:St}{t:Pl}
def bqX (s:St) (t:Pl) (f:Int):Prop:=(f=0∧act t.m 0≠-1)∨(f=1∧s.b1≠0)∨(f=2∧s.b2≠0)∨(f=3∧s.b3≠0)
theorem awT {f:Int}(h:preT (act t.m 0) (s.b1==0) (s.b2==0) (s.b3==0) f=true):bqX s t f:=by
 unfold preT at h;unfold bqX;by_cases h0:f=0;· subst h0;simp at h;exact .inl ⟨rfl,h⟩
 · by_cases h1:f=1;· subst h1;simp at h;exact .inr (.inl ⟨rfl,h⟩)
   · by_cases h2:f=2;· subst h2;simp at h;exact .inr (.inr (.inl ⟨rfl,h⟩))
     · by_cases h3:f=3;· subst h3;simp at h;exact .inr (.inr (.inr ⟨rfl,h⟩))
       · simp [h0,h1,h2,h3]at h
theorem sl0:sl s 0=batC s:=rfl
theorem sl1:sl s 1=s.b1:=rfl
theorem sl2:sl s 2=s.b2:=rfl
theorem sl3:sl s 3=s.b3:=rfl
theorem bzI (g:Good s):1≤batC s∧batC s≤9:=by have:=g.n0;have:=g.n1;unfold batC;split<;>omega
theorem ajn (b:Int):0≤nb b∧nb b≤1:=by unfold nb;split<;>omega
theorem sl_nz (g:Good s) {f:Int}(h:bqX s t f):1≤sl s f∧sl s f≤9:=by
 have h1:=g.b1;have h2:=g.b2;have h3:=g.b3;have h0:=bzI g;rcases h with⟨rfl,_⟩ | ⟨rfl,h⟩ | ⟨rfl,h⟩ | ⟨rfl,h⟩;· rw [sl0];exact h0
 · rw [sl1];omega
 · rw [sl2];omega
 · rw [sl3];omega
theorem jD (h:aB t.m=0) (g:fF s t) {i:Int}(hi:i=1∨i=2∨i=3):fI s t i=if zr s t i=0 then 0 else sl s (zr s t i-1):=by
 obtain⟨_,_,_,i1,i2,i3⟩:=zfin h g true;have hin:inT (zr s t i)=true:=by rcases hi with rfl|rfl|rfl<;>assumption
 have p0:pl s t 0=pT (act t.m 0) true 0:=j3 h 0 true (.inl rfl);have p1:pl s t 1=pT (act t.m 1) (s.b1==0) 1:=j3 h 1 _ (.inr rfl);have p2:pl s t 2=pT (act t.m 2) (s.b2==0) 2:=j3 h 2 _ (.inr rfl);have p3:pl s t 3=pT (act t.m 3) (s.b3==0) 3:=j3 h 3 _ (.inr rfl);have q1:phi (sl s 0) s.b1 s.b2 s.b3 1=sl s 0:=rfl;have q0:phi (sl s 0) s.b1 s.b2 s.b3 0=0:=rfl;have e:phi (sl s 0) s.b1 s.b2 s.b3 (zr s t i)=fI s t i:=by unfold fI zr axx;rw [p0,p1,p2,p3,←phi_set,←phi_set,←phi_set,←phi_set,phi_tok1,phi_tok2,phi_tok3,q1,q0];rfl
 rw [←e];generalize zr s t i=r at hin;simp only [inT,Bool.or_eq_true,beq_iff_eq]at hin;rcases hin with rfl|rfl|rfl|rfl|rfl<;>rfl
theorem azJ {x:Int}:∀ {l:List Int},memI x l=true↔x∈l
 | []=>by simp [memI]
 | y::l=>by simp only [memI,Bool.or_eq_true,beq_iff_eq,azJ,List.mem_cons]
theorem azD:∀ {l:List Int},nodI l=true↔l.Nodup
 | []=>by simp [nodI]
 | y::l=>by simp only [nodI,Bool.and_eq_true,List.nodup_cons,azD,Bool.not_eq_true'];rw [←azJ (x:=y) (l:=l)];simp
theorem azi {p:Int→Bool}:∀ {l:List Int},allP p l=true↔∀x∈l,p x=true
 | []=>by simp [allP]
 | y::l=>by simp only [allP,Bool.and_eq_true,azi,List.forall_mem_cons]
structure ZOk (s:St) (t:Pl) (z:List Int):Prop where
 nod:z.Nodup
 all:∀f∈z,bqX s t f
 len:z.length+zO t=allT (act t.m 0) (s.b1==0) (s.b2==0) (s.b3==0)
theorem zW {z:List Int}(h:zOk s t z=true):ZOk s t z:=by unfold zOk zOK at h;simp only [Bool.and_eq_true,azD,azi]at h;exact⟨h.1,fun f hf=>awT (h.2.1 f hf),Nat.eq_of_beq_eq_true h.2.2⟩
theorem bases_T (h:aB t.m=0) (g:fF s t) (G:Good s):[fI s t 1,fI s t 2,fI s t 3].filter (fun b=>!(b==0))=(zB s t).map (sl s):=by
 have r1:=jD h g (i:=1) (by simp);have r2:=jD h g (i:=2) (by simp);have r3:=jD h g (i:=3) (by simp);have Z:=zW (zfin h g true).1;have pz:∀f∈zB s t,sl s f≠0:=fun f hf=>by have:=sl_nz G (Z.all f (List.mem_append_left _ hf));omega
 have ez:zB s t=wC (zr s t 1)++(wC (zr s t 2)++wC (zr s t 3)):=rfl;rw [ez]at pz ⊢;have one:∀ {r b:Int},b=(if r=0 then 0 else sl s (r-1))→(∀f∈wC r,sl s f≠0)→[b].filter (fun b=>!(b==0))=(wC r).map (sl s):=by
  intro r b hb hz;subst hb;unfold wC at hz ⊢;by_cases hr:r=0;· simp [hr]
  · have:(r==0)=false:=by simpa using hr
    rw [this]at hz ⊢;simp only [cond_false,List.mem_singleton,forall_eq]at hz;simp [hr,hz]
 have sp:[fI s t 1,fI s t 2,fI s t 3]=[fI s t 1]++([fI s t 2]++[fI s t 3]):=rfl;rw [sp,List.filter_append,List.filter_append,List.map_append,List.map_append,one r1 (fun f hf=>pz f (by simp [hf])),one r2 (fun f hf=>pz f (by simp [hf])),one r3 (fun f hf=>pz f (by simp [hf]))]
end
end
end Go.Ev
namespace Go.Ev
open Go.RowKit Go.Proofs
set_option maxRecDepth 100000
set_option maxHeartbeats 8000000
set_option linter.unusedSimpArgs false
noncomputable section
section
variable {s:St}{t:Pl}
theorem aqa (h:aB t.m=0) (g:fF s t):t.e=[]↔act t.m 0=-1:=by
 have hh:=g.has;unfold act;cases hm:mAt t.m 0 with
 | none=>rw [hm]at hh;simpa using hh.symm| some m=>
   rw [hm]at hh;have hr:=gL (pB h hm).2;have he:¬t.e=[]:=by simpa using hh
   simp only [he,false_iff];split<;>omega
theorem azd {n:Int}(h:1≤n∧n≤9):bq0 n=n % 9+1:=by unfold bq0;rw [wbeh];unfold behC;rw [Int.tmod_eq_emod_of_nonneg (by omega)]
theorem bat_mvd (G:Good s):batC (mvd s t)=if t.e=[]then batC s else batC s % 9+1:=by
 have n0:=G.n0;have n1:=G.n1;unfold batC mvd;dsimp only;by_cases he:t.e=[];· simp [he]
 · rcases G.half with hh|hh;· simp [he,hh,azd n0]
   · simp [he,hh,azd n1]
theorem xC {b:Int}:((b2n (!(b==0)):Nat):Int)=nb b:=by
 unfold b2n nb;by_cases h:b=0;· simp [h]
 · rw [show(b==0)=false by simpa using h,if_neg h];rfl
theorem sW {r b:Int}{e:List Nat}(hr:1≤r∧r≤9) (hb:1≤b∧b≤9) (h:sinC r b≤4):sinC r (if e=[]then b else b % 9+1)=sinC r b+(if e=[]then 0 else 1):=by unfold sinC at h ⊢;split<;>omega
theorem sig_bat {b:Int}(hb:1≤b∧b≤9):sinC b (b % 9+1)=0:=by unfold sinC;omega
theorem tT (h:aB t.m=0) (g:fF s t):((b2n (!(act t.m 0==-1)):Nat):Int)=if t.e=[]then 0 else 1:=by
 have:=aqa h g;unfold b2n;by_cases he:t.e=[];· rw [this.1 he];simp [he]
 · have:¬act t.m 0=-1:=fun q=>he (this.2 q);rw [show(act t.m 0==-1)=false by simpa using this,if_neg he];rfl
theorem sg (h:aB t.m=0) (g:fF s t) (G:Good s) (F:bq1 s):(act t.m 0≠-1→sinC (sl s 0) (batC (mvd s t))=0) ∧
  (s.b1≠0→sinC (sl s 1) (batC (mvd s t))=sinC s.b1 (batC s)+(if t.e=[]then 0 else 1)) ∧
  (s.b2≠0→sinC (sl s 2) (batC (mvd s t))=sinC s.b2 (batC s)+(if t.e=[]then 0 else 1)) ∧
  (s.b3≠0→sinC (sl s 3) (batC (mvd s t))=sinC s.b3 (batC s)+(if t.e=[]then 0 else 1)):=by
 have o:=G.outs;have b:=bzI G;have n1:=ajn s.b1;have n2:=ajn s.b2;have c1:=G.b1;have c2:=G.b2;have c3:=G.b3;rw [bat_mvd G];refine⟨fun z=>?_,fun z=>?_,fun z=>?_,fun z=>?_⟩;· have he:¬t.e=[]:=fun q=>z ((aqa h g).1 q);rw [if_neg he,sl0];exact sig_bat b
 · have:=F.f1 z;rw [sl1];exact sW (by omega) b (by omega)
 · have:=F.f2 z;rw [sl2];exact sW (by omega) b (by omega)
 · have:=F.f3 z;rw [sl3];exact sW (by omega) b (by omega)
theorem aj5 (h:aB t.m=0) (g:fF s t) (G:Good s) (F:bq1 s) {f:Int}(hp:bqX s t f) :
  ((bxm (act t.m 0) (s.b1==0) (s.b2==0) (f+1):Nat):Int)≤sinC (sl s f) (batC (mvd s t))∧sinC (sl s f) (batC (mvd s t))≤((bxm (act t.m 0) (s.b1==0) (s.b2==0) (f+1):Nat):Int)+s.outs:=by
 obtain⟨s0,s1,s2,s3⟩:=sg h g G F;have o:=G.outs;have e1:=xC (b:=s.b1);have e2:=xC (b:=s.b2);have eT:=tT h g;rcases hp with⟨rfl,z⟩ | ⟨rfl,z⟩ | ⟨rfl,z⟩ | ⟨rfl,z⟩;· rw [s0 z];have:bxm (act t.m 0) (s.b1==0) (s.b2==0) (0+1)=0:=rfl;rw [this];omega
 · have w:=F.f1 z;rw [s1 z];have:bxm (act t.m 0) (s.b1==0) (s.b2==0) (1+1)=b2n (!(act t.m 0==-1)):=rfl;rw [this,eT];omega
 · have w:=F.f2 z;rw [s2 z];have:bxm (act t.m 0) (s.b1==0) (s.b2==0) (2+1)=b2n (!(act t.m 0==-1))+b2n (!(s.b1==0)):=rfl;rw [this,Int.natCast_add,eT,e1];omega
 · have w:=F.f3 z;rw [s3 z];have:bxm (act t.m 0) (s.b1==0) (s.b2==0) (3+1)=b2n (!(act t.m 0==-1))+(b2n (!(s.b1==0))+b2n (!(s.b2==0))):=rfl;rw [this,Int.natCast_add,Int.natCast_add,eT,e1,e2];omega
theorem akV (h:aB t.m=0) (g:fF s t) (G:Good s) (F:bq1 s) {f f':Int}(hp:bqX s t f) (hp':bqX s t f') (hf:f<f'):sinC (sl s f) (batC (mvd s t))<sinC (sl s f') (batC (mvd s t)):=by
 obtain⟨s0,s1,s2,s3⟩:=sg h g G F;have n1:=ajn s.b1;have n2:=ajn s.b2;rcases hp with⟨rfl,z⟩ | ⟨rfl,z⟩ | ⟨rfl,z⟩ | ⟨rfl,z⟩<;>rcases hp' with⟨rfl,y⟩ | ⟨rfl,y⟩ | ⟨rfl,y⟩ | ⟨rfl,y⟩<;>first|omega|skip
 · have he:¬t.e=[]:=fun q=>z ((aqa h g).1 q);have w:=F.f1 y;rw [s0 z,s1 y,if_neg he];omega
 · have he:¬t.e=[]:=fun q=>z ((aqa h g).1 q);have w:=F.f2 y;rw [s0 z,s2 y,if_neg he];omega
 · have he:¬t.e=[]:=fun q=>z ((aqa h g).1 q);have w:=F.f3 y;rw [s0 z,s3 y,if_neg he];omega
 · have w:=F.l12 z y;rw [s1 z,s2 y];omega
 · have w:=F.l13 z y;rw [s1 z,s3 y];omega
 · have w:=F.l23 z y;rw [s2 z,s3 y];omega
theorem awU (h:aB t.m=0) (G:Good s):outsI s t=s.outs+((zO t:Nat):Int):=by have o:=G.outs;have l:=bL h;have c:t.m.countP (·.o)≤t.m.length:=List.countP_le_length;unfold outsI;rw [d7 (by omega) (by omega),azC h]
theorem fit_mvd (h:aB t.m=0) (g:fF s t) (G:Good s) (F:bq1 s):bq1 (mvd s t):=by
 have r1:=jD h g (i:=1) (by simp);have r2:=jD h g (i:=2) (by simp);have r3:=jD h g (i:=3) (by simp);have Z:=zW (zfin h g true).1;have hfit:=(zfin h g true).2.2.1;have oo:=awU h G;have pz:∀f∈zB s t,bqX s t f:=fun f hf=>Z.all f (List.mem_append_left _ hf);have ez:zB s t=wC (zr s t 1)++(wC (zr s t 2)++wC (zr s t 3)):=rfl;rw [ez]at pz;have tok:∀ {r b:Int},b=(if r=0 then 0 else sl s (r-1))→(∀f∈wC r,bqX s t f)→(b≠0↔r≠0)∧(r≠0→bqX s t (r-1)∧b=sl s (r-1)):=by
  intro r b hb hz;by_cases hr:r=0;· subst hb;simp [hr]
  · have e:wC r=[r-1]:=by unfold wC;rw [show(r==0)=false by simpa using hr];rfl
    have p:=hz (r-1) (by rw [e];simp);have:=sl_nz G p;rw [if_neg hr]at hb;refine⟨⟨fun _=>hr,fun _=>by omega⟩,fun _=>⟨p,hb⟩⟩
 obtain⟨q1,t1⟩:=tok r1 (fun f hf=>pz f (by simp [hf]));obtain⟨q2,t2⟩:=tok r2 (fun f hf=>pz f (by simp [hf]));obtain⟨q3,t3⟩:=tok r3 (fun f hf=>pz f (by simp [hf]));have nbt:∀ {r b:Int},(b≠0↔r≠0)→nb b=((b2n (!(r==0)):Nat):Int):=by
  intro r b hq;rw [xC];unfold nb;by_cases hr:r=0;· have:b=0:=Decidable.not_not.1 fun q=>hq.1 q hr;simp [hr,this]
  · simp [hr,hq.2 hr]
 have nb1:=nbt q1;have nb2:=nbt q2;simp only [fitT,fit1,ltT,Bool.and_eq_true,Bool.or_eq_true,beq_iff_eq,decide_eq_true_eq,Nat.ble_eq]at hfit;obtain⟨a1,a2,a3,m12,m13,m23⟩:=hfit;have B1:(mvd s t).b1=fI s t 1:=rfl;have B2:(mvd s t).b2=fI s t 2:=rfl;have B3:(mvd s t).b3=fI s t 3:=rfl;have OO:(mvd s t).outs=outsI s t:=rfl;refine⟨fun z=>?_,fun z=>?_,fun z=>?_,fun z y=>?_,fun z y=>?_,fun z y=>?_⟩;· rw [B1]at z ⊢;have hr:=q1.1 z;obtain⟨p,e⟩:=t1 hr;have w:=aj5 h g G F p;have v:=a1.resolve_left hr;rw [Int.sub_add_cancel]at w;rw [e,OO,oo];omega
 · rw [B2]at z ⊢;have hr:=q2.1 z;obtain⟨p,e⟩:=t2 hr;have w:=aj5 h g G F p;have v:=a2.resolve_left hr;rw [Int.sub_add_cancel]at w;rw [e,OO,oo,B1,nb1];omega
 · rw [B3]at z ⊢;have hr:=q3.1 z;obtain⟨p,e⟩:=t3 hr;have w:=aj5 h g G F p;have v:=a3.resolve_left hr;rw [Int.sub_add_cancel]at w;rw [e,OO,oo,B1,B2,nb1,nb2];omega
 · rw [B1]at z ⊢;rw [B2]at y ⊢;obtain⟨p,e⟩:=t1 (q1.1 z);obtain⟨p',e'⟩:=t2 (q2.1 y);have v:=(m12.resolve_left (q1.1 z)).resolve_left (q2.1 y);rw [e,e'];exact akV h g G F p p' (by omega)
 · rw [B1]at z ⊢;rw [B3]at y ⊢;obtain⟨p,e⟩:=t1 (q1.1 z);obtain⟨p',e'⟩:=t3 (q3.1 y);have v:=(m13.resolve_left (q1.1 z)).resolve_left (q3.1 y);rw [e,e'];exact akV h g G F p p' (by omega)
 · rw [B2]at z ⊢;rw [B3]at y ⊢;obtain⟨p,e⟩:=t2 (q2.1 z);obtain⟨p',e'⟩:=t3 (q3.1 y);have v:=(m23.resolve_left (q2.1 z)).resolve_left (q3.1 y);rw [e,e'];exact akV h g G F p p' (by omega)
end
end
end Go.Ev
namespace Go.Ev
open Go.RowKit Go.Proofs
set_option maxRecDepth 100000
set_option maxHeartbeats 8000000
set_option linter.unusedSimpArgs false
noncomputable section
theorem i9 {s:St}(h:stE s=0):akB s=0∧pG s=0∧avH s=0∧endE s=0∧awF s=0:=by
 unfold stE akQ at h;simp only [wK]at h;by_cases h1:akB s=0
 · rw [if_pos h1]at h;by_cases h2:pG s=0
   · rw [if_pos h2]at h;by_cases h3:avH s=0
     · rw [if_pos h3]at h;by_cases h4:endE s=0
       · rw [if_pos h4]at h;by_cases h5:awF s=0;· exact⟨h1,h2,h3,h4,h5⟩
         · rw [if_neg h5]at h;exact absurd h h5
       · rw [if_neg h4]at h;exact absurd h h4
     · rw [if_neg h3]at h;exact absurd h h3
   · rw [if_neg h2]at h;exact absurd h h2
 · rw [if_neg h1]at h;exact absurd h h1
theorem xT {s:St}(h1:akB s=0) (h2:pG s=0) (h3:avH s=0) (h4:endE s=0) (h5:awF s=0):stE s=0:=by unfold stE akQ;simp only [wK,h1,h2,h3,h4,h5,if_true]
structure Num (s:St):Prop where
 inn:1≤s.inn∧s.inn≤30
 half:s.half=0∨s.half=1
 outs:0≤s.outs∧s.outs≤2
 balls:0≤s.balls∧s.balls≤3
 strikes:0≤s.strikes∧s.strikes≤2
 b1:0≤s.b1∧s.b1≤9
 b2:0≤s.b2∧s.b2≤9
 b3:0≤s.b3∧s.b3≤9
 n0:1≤s.n0∧s.n0≤9
 n1:1≤s.n1∧s.n1≤9
 c0:0≤s.c0∧s.c0≤9999
 c1:0≤s.c1∧s.c1≤9999
theorem mV {s:St}:(akB s=0∧pG s=0∧avH s=0)↔Num s:=by
 have e1:akB s=0↔inB s.inn 1 30=true:=by unfold akB;split<;>simp_all
 have e2:pG s=0↔inB s.half 0 1=true:=by unfold pG;split<;>simp_all
 have e3:avH s=0↔nuB s 2=true:=by unfold avH;split<;>simp_all
 rw [e1,e2,e3];simp only [nuB,baB,cnB,inB,Bool.and_eq_true,decide_eq_true_eq];constructor;· rintro ⟨a,b,c⟩;exact⟨a,by omega,by omega,by omega,by omega,by omega,by omega,by omega,by omega,by omega,by omega,by omega⟩
 · rintro ⟨a,b,c,d,e,f,g,h,i,j,k,l⟩;exact⟨a,by omega,⟨⟨⟨⟨⟨⟨⟨⟨⟨c,d⟩,e⟩,f⟩,g⟩,h⟩,i⟩,k⟩,j⟩,l⟩⟩
theorem xX {s:St}:awF s=0↔bq1 s:=by rw [←fit_iff];unfold awF;split<;>simp_all
theorem Num.good {s:St}(n:Num s):Good s:=⟨n.half,n.outs,n.b1,n.b2,n.b3,n.n0,n.n1⟩
theorem fit0 {s:St}(h1:s.b1=0) (h2:s.b2=0) (h3:s.b3=0):bq1 s:=⟨fun h=>absurd h1 h,fun h=>absurd h2 h,fun h=>absurd h3 h,fun h=>absurd h1 h,fun h=>absurd h1 h,fun h=>absurd h2 h⟩
section
variable {s:St}{t:Pl}
theorem aje (h:aB t.m=0) (g:fF s t) (G:Good s) {i:Int}(hi:i=1∨i=2∨i=3):0≤fI s t i∧fI s t i≤9:=by
 have r:=jD h g hi;have Z:=zW (zfin h g true).1;by_cases hz:zr s t i=0;· rw [if_pos hz]at r;omega
 · rw [if_neg hz]at r;have e:wC (zr s t i)=[zr s t i-1]:=by unfold wC;rw [show(zr s t i==0)=false by simpa using hz];rfl
   have hm:zr s t i-1∈zB s t:=by have ez:zB s t=wC (zr s t 1)++(wC (zr s t 2)++wC (zr s t 3)):=rfl;rw [ez];rcases hi with rfl|rfl|rfl<;>simp [e]
   have:=sl_nz G (Z.all _ (List.mem_append_left _ hm));omega
theorem cnt_in (g:fF s t) (he:t.e=[]):0≤(jT s t).1.1∧(jT s t).1.1≤3∧0≤(jT s t).1.2.1∧(jT s t).1.2.1≤2:=by
 have hk:=ayV g.cnt;have ha:=g.asks;rw [he]at ha;have h1:(jT s t).1.1≠4:=by intro q;unfold askC at ha;rw [if_pos (show((jT s t).1.1,(jT s t).1.2.1).1=4 from q)]at ha;simp [vR]at ha
 have h2:(jT s t).1.2.1≠3:=by intro q;unfold askC at ha;rw [if_neg (show ¬((jT s t).1.1,(jT s t).1.2.1).1=4 from h1),if_pos (show((jT s t).1.1,(jT s t).1.2.1).2=3 from q)]at ha;simp [vR]at ha
 have e:jT s t=aqr s.balls s.strikes t.p:=rfl;rw [e]at h1 h2 ⊢;omega
theorem axt (h:aB t.m=0):0≤runsN s t∧runsN s t≤4:=by have l:=bL h;have:=(awD (o:=outsI s t) (b:=t.l) (l:=t.m)).1;unfold runsN;omega
structure Num3 (s:St):Prop where
 inn:1≤s.inn∧s.inn≤30
 half:s.half=0∨s.half=1
 outs:0≤s.outs∧s.outs≤3
 balls:0≤s.balls∧s.balls≤3
 strikes:0≤s.strikes∧s.strikes≤2
 b1:0≤s.b1∧s.b1≤9
 b2:0≤s.b2∧s.b2≤9
 b3:0≤s.b3∧s.b3≤9
 n0:1≤s.n0∧s.n0≤9
 n1:1≤s.n1∧s.n1≤9
 c0:0≤s.c0∧s.c0≤9999
 c1:0≤s.c1∧s.c1≤9999
theorem awZ (h:aB t.m=0) (g:fF s t) (n:Num s) (hb:akF s t=false):Num3 (mvd s t):=by
 have G:=n.good;have oo:=awU h G;have o3:=g.outs;have rn:=axt (s:=s) h;have v1:=aje h g G (i:=1) (by simp);have v2:=aje h g G (i:=2) (by simp);have v3:=aje h g G (i:=3) (by simp);have n0:=n.n0;have n1:=n.n1;have c0:=n.c0;have c1:=n.c1;have no:=n.outs;have w0:IntKind.i64.wrap (s.c0+runsN s t)=s.c0+runsN s t:=d7 (by omega) (by omega);have w1:IntKind.i64.wrap (s.c1+runsN s t)=s.c1+runsN s t:=d7 (by omega) (by omega);unfold akF at hb;rw [w0,w1]at hb;simp only [decide_eq_false_iff_not]at hb;have cn:t.e=[]→0≤(jT s t).1.1∧(jT s t).1.1≤3∧0≤(jT s t).1.2.1∧(jT s t).1.2.1≤2:=cnt_in g;refine⟨n.inn,n.half,?_,?_,?_,v1,v2,v3,?_,?_,?_,?_⟩;· show 0≤outsI s t∧outsI s t≤3;omega
 · show 0≤(if t.e=[]then(jT s t).1.1 else 0)∧(if t.e=[]then(jT s t).1.1 else 0)≤3;split;· have:=cn ‹_›;omega
   · omega
 · show 0≤(if t.e=[]then(jT s t).1.2.1 else 0)∧(if t.e=[]then(jT s t).1.2.1 else 0)≤2;split;· have:=cn ‹_›;omega
   · omega
 · show 1≤(if ¬t.e=[]∧s.half=0 then bq0 s.n0 else s.n0)∧(if ¬t.e=[]∧s.half=0 then bq0 s.n0 else s.n0)≤9;rw [azd n0];split<;>omega
 · show 1≤(if ¬t.e=[]∧s.half=1 then bq0 s.n1 else s.n1)∧(if ¬t.e=[]∧s.half=1 then bq0 s.n1 else s.n1)≤9;rw [azd n1];split<;>omega
 · show 0≤(if s.half=0 then IntKind.i64.wrap (s.c0+runsN s t)else s.c0)∧(if s.half=0 then IntKind.i64.wrap (s.c0+runsN s t)else s.c0)≤9999;rw [w0];split;· rename_i hh;rw [if_pos hh]at hb;omega
   · exact c0
 · show 0≤(if s.half=1 then IntKind.i64.wrap (s.c1+runsN s t)else s.c1)∧(if s.half=1 then IntKind.i64.wrap (s.c1+runsN s t)else s.c1)≤9999;rw [w1];split;· rename_i hh;rw [if_neg (show ¬s.half=0 by omega)]at hb;omega
   · exact c1
end
theorem nxt_ok {x:St}(n:Num3 x) (hv:x.over=false) (F:bq1 x):stE (nxt x)=0:=by
 have ee:∀(y:St),endE y=0↔(y.over&&!overB y||!y.over&&decB y)=false:=by intro y;unfold endE;cases(y.over&&!overB y||!y.over&&decB y)<;>simp
 have fin:∀(y:St),y=bjO x→(decI x=true∨lastI x=true)→stE y=0:=by
  intro y hy hc;subst hy;obtain⟨k1,k2,k3⟩:=mV.2 (⟨n.inn,n.half,⟨by show(0:Int)≤0;omega,by show(0:Int)≤2;omega⟩,⟨by show(0:Int)≤0;omega,by show(0:Int)≤3;omega⟩,⟨by show(0:Int)≤0;omega,by show(0:Int)≤2;omega⟩,
   ⟨by show(0:Int)≤0;omega,by show(0:Int)≤9;omega⟩,⟨by show(0:Int)≤0;omega,by show(0:Int)≤9;omega⟩,⟨by show(0:Int)≤0;omega,by show(0:Int)≤9;omega⟩,n.n0,n.n1,n.c0,n.c1⟩:Num (bjO x))
  refine xT k1 k2 k3 ((ee _).2 ?_) (xX.2 (fit0 rfl rfl rfl));have hl:overB (bjO x)=true:=by
   unfold overB;rw [Bool.and_eq_true];refine⟨decide_eq_true rfl,?_⟩;show(decide (9≤x.inn)&&(decide (x.c0<x.c1)||decide (x.half=1)&&(decide (x.c0≠x.c1)||decide (x.inn=30))))=true;rcases hc with hc|hc;· simp only [decI,Bool.and_eq_true,decide_eq_true_eq,beq_iff_eq]at hc;simp [hc.1,hc.2.2]
   · simp only [lastI,Bool.and_eq_true,Bool.or_eq_true,decide_eq_true_eq,beq_iff_eq,Bool.not_eq_true',decide_eq_false_iff_not,beq_eq_false_iff_ne,ne_eq]at hc;have:9≤x.inn:=by omega
     simp only [this,decide_true,Bool.true_and,Bool.or_eq_true,Bool.and_eq_true,decide_eq_true_eq];rcases hc.2 with q|⟨q,q2|q2⟩;· exact .inl q
     · exact .inr ⟨q,.inl q2⟩
     · exact .inr ⟨q,.inr q2⟩
  rw [hl];rfl
 unfold nxt;cases hd:decI x with
 | true=>exact fin _ rfl (.inl hd)| false =>
   rw [cond_false];cases ho:(x.outs==3)with
   | true =>
     rw [cond_true];cases hl:lastI x with
     | true=>exact fin _ rfl (.inr hl)| false=>
       rw [cond_false];have hi:=n.inn;have hh:=n.half;have hlf:¬(9≤x.inn∧(x.c0<x.c1∨(x.half=1∧(x.c0≠x.c1∨x.inn=30)))):=by
        rintro⟨q1,q2⟩;have:lastI x=true:=by simp only [lastI,Bool.and_eq_true,Bool.or_eq_true,decide_eq_true_eq,beq_iff_eq,Bool.not_eq_true',decide_eq_false_iff_not,beq_eq_false_iff_ne,ne_eq];exact⟨by omega,q2⟩
        rw [this]at hl;cases hl
       have e1:(oW x).inn=if x.half=1 then x.inn+1 else x.inn:=by
        show(bif x.half==1 then IntKind.i64.wrap (x.inn+1)else x.inn)=_;rcases hh with q|q;· simp [q]
        · simp only [q,beq_self_eq_true,cond_true,if_true];exact d7 (by omega) (by omega)
       have e2:(oW x).half=1-x.half:=d7 (by omega) (by omega);have i2:1≤(oW x).inn∧(oW x).inn≤30:=by
        rw [e1];split;· rename_i q;have:¬x.inn=30:=fun w=>hlf ⟨by omega,.inr ⟨q,.inr w⟩⟩;omega
        · exact hi
       obtain⟨k1,k2,k3⟩:=mV.2 (⟨i2,by rw [e2];omega,⟨by show(0:Int)≤0;omega,by show(0:Int)≤2;omega⟩,⟨by show(0:Int)≤0;omega,by show(0:Int)≤3;omega⟩,⟨by show(0:Int)≤0;omega,by show(0:Int)≤2;omega⟩,
        ⟨by show(0:Int)≤0;omega,by show(0:Int)≤9;omega⟩,⟨by show(0:Int)≤0;omega,by show(0:Int)≤9;omega⟩,⟨by show(0:Int)≤0;omega,by show(0:Int)≤9;omega⟩,n.n0,n.n1,n.c0,n.c1⟩:Num (oW x))
       refine xT k1 k2 k3 ((ee _).2 ?_) (xX.2 (fit0 rfl rfl rfl));have hov:(oW x).over=false:=hv;rw [hov];simp only [Bool.false_and,Bool.not_false,Bool.true_and,Bool.false_or];cases hb:decB (oW x)with
       | false=>rfl| true=>exfalso;simp only [decB,leadB,Bool.and_eq_true,decide_eq_true_eq]at hb;obtain⟨⟨q1,q2⟩,q3⟩:=hb;rw [e2]at q2;rw [e1,if_neg (by omega)]at q1;exact hlf ⟨q1,.inl q3⟩
   | false=>
     rw [cond_false];have ho:x.outs≠3:=by simpa using ho
     have o:=n.outs;obtain⟨k1,k2,k3⟩:=mV.2 (⟨n.inn,n.half,by omega,n.balls,n.strikes,n.b1,n.b2,n.b3,n.n0,n.n1,n.c0,n.c1⟩:Num x);refine xT k1 k2 k3 ((ee _).2 ?_) (xX.2 F);rw [hv];simp only [Bool.false_and,Bool.not_false,Bool.true_and,Bool.false_or];cases hb:decB x with
     | false=>rfl| true=>
       exfalso;simp only [decB,leadB,Bool.and_eq_true,decide_eq_true_eq]at hb;have:decI x=true:=by simp only [decI,Bool.and_eq_true,decide_eq_true_eq,beq_iff_eq];exact⟨hb.1.1,hb.1.2,hb.2⟩
       rw [this]at hd;cases hd
end
end Go.Ev
namespace Go.Ev
open Go.RowKit Go.Proofs
noncomputable def dTI:TypeInfo:={ desc:=.bool,str := "",size:=0,bytes:=0,hasPointers:=false,align:=0,fieldAlign:=0,zero:=none,comparable:=false,methods:=#[] }
theorem sz3:aG Tryz.prog 3=some 1:=by kernel_rfl
noncomputable def I3:TypeInfo:=(Tryz.prog.info? 3).getD dTI
theorem info3:Tryz.prog.info? 3=some I3:=by kernel_rfl
theorem I3s:I3.size=1:=by kernel_rfl
theorem I3b:I3.bytes=8:=by kernel_rfl
theorem zero3:cJ Tryz.prog 3=some [.int .i64 0]:=by kernel_rfl
theorem grow3 {need:Nat}:aO Tryz.prog 3 1 8 need=decide (8*need≤1000000):=bJ zero3 rfl (by decide)
theorem sz4:aG Tryz.prog 4=some 1:=by kernel_rfl
noncomputable def I4:TypeInfo:=(Tryz.prog.info? 4).getD dTI
theorem info4:Tryz.prog.info? 4=some I4:=by kernel_rfl
theorem I4s:I4.size=1:=by kernel_rfl
theorem I4b:I4.bytes=1:=by kernel_rfl
theorem zero4:cJ Tryz.prog 4=some [.bool false]:=by kernel_rfl
theorem grow4 {need:Nat}:aO Tryz.prog 4 1 1 need=decide (1*need≤1000000):=bJ zero4 rfl (by decide)
theorem sz9:aG Tryz.prog 9=some 1:=by kernel_rfl
noncomputable def I9:TypeInfo:=(Tryz.prog.info? 9).getD dTI
theorem info9:Tryz.prog.info? 9=some I9:=by kernel_rfl
theorem I9s:I9.size=1:=by kernel_rfl
theorem I9b:I9.bytes=16:=by kernel_rfl
theorem zero9:cJ Tryz.prog 9=some [.str []]:=by kernel_rfl
theorem grow9 {need:Nat}:aO Tryz.prog 9 1 16 need=decide (16*need≤1000000):=bJ zero9 rfl (by decide)
theorem sz22:aG Tryz.prog 22=some 1:=by kernel_rfl
noncomputable def I22:TypeInfo:=(Tryz.prog.info? 22).getD dTI
theorem info22:Tryz.prog.info? 22=some I22:=by kernel_rfl
theorem I22s:I22.size=1:=by kernel_rfl
theorem I22b:I22.bytes=24:=by kernel_rfl
theorem zero22:cJ Tryz.prog 22=some [.nilslice]:=by kernel_rfl
theorem grow22 {need:Nat}:aO Tryz.prog 22 1 24 need=decide (24*need≤1000000):=bJ zero22 rfl (by decide)
theorem sz25:aG Tryz.prog 25=some 1:=by kernel_rfl
noncomputable def I25:TypeInfo:=(Tryz.prog.info? 25).getD dTI
theorem info25:Tryz.prog.info? 25=some I25:=by kernel_rfl
theorem I25s:I25.size=1:=by kernel_rfl
theorem I25b:I25.bytes=24:=by kernel_rfl
theorem zero25:cJ Tryz.prog 25=some [.nilslice]:=by kernel_rfl
theorem grow25 {need:Nat}:aO Tryz.prog 25 1 24 need=decide (24*need≤1000000):=bJ zero25 rfl (by decide)
theorem sz26:aG Tryz.prog 26=some 1:=by kernel_rfl
noncomputable def I26:TypeInfo:=(Tryz.prog.info? 26).getD dTI
theorem info26:Tryz.prog.info? 26=some I26:=by kernel_rfl
theorem I26s:I26.size=1:=by kernel_rfl
theorem I26b:I26.bytes=8:=by kernel_rfl
theorem zero26:cJ Tryz.prog 26=some [.int .i64 0]:=by kernel_rfl
theorem grow26 {need:Nat}:aO Tryz.prog 26 1 8 need=decide (8*need≤1000000):=bJ zero26 rfl (by decide)
theorem sz30:aG Tryz.prog 30=some 1:=by kernel_rfl
noncomputable def I30:TypeInfo:=(Tryz.prog.info? 30).getD dTI
theorem info30:Tryz.prog.info? 30=some I30:=by kernel_rfl
theorem I30s:I30.size=1:=by kernel_rfl
theorem I30b:I30.bytes=24:=by kernel_rfl
theorem zero30:cJ Tryz.prog 30=some [.nilslice]:=by kernel_rfl
theorem grow30 {need:Nat}:aO Tryz.prog 30 1 24 need=decide (24*need≤1000000):=bJ zero30 rfl (by decide)
theorem sz33:aG Tryz.prog 33=some 1:=by kernel_rfl
noncomputable def I33:TypeInfo:=(Tryz.prog.info? 33).getD dTI
theorem info33:Tryz.prog.info? 33=some I33:=by kernel_rfl
theorem I33s:I33.size=1:=by kernel_rfl
theorem I33b:I33.bytes=24:=by kernel_rfl
theorem zero33:cJ Tryz.prog 33=some [.nilslice]:=by kernel_rfl
theorem grow33 {need:Nat}:aO Tryz.prog 33 1 24 need=decide (24*need≤1000000):=bJ zero33 rfl (by decide)
theorem sz36:aG Tryz.prog 36=some 1:=by kernel_rfl
noncomputable def I36:TypeInfo:=(Tryz.prog.info? 36).getD dTI
theorem info36:Tryz.prog.info? 36=some I36:=by kernel_rfl
theorem I36s:I36.size=1:=by kernel_rfl
theorem I36b:I36.bytes=24:=by kernel_rfl
theorem zero36:cJ Tryz.prog 36=some [.nilslice]:=by kernel_rfl
theorem grow36 {need:Nat}:aO Tryz.prog 36 1 24 need=decide (24*need≤1000000):=bJ zero36 rfl (by decide)
theorem sz40:aG Tryz.prog 40=some 8:=by kernel_rfl
noncomputable def I40:TypeInfo:=(Tryz.prog.info? 40).getD dTI
theorem info40:Tryz.prog.info? 40=some I40:=by kernel_rfl
theorem I40s:I40.size=8:=by kernel_rfl
theorem I40b:I40.bytes=64:=by kernel_rfl
theorem zero40:cJ Tryz.prog 40=some [.int .i64 0,.int .i64 0,.int .i64 0,.int .i64 0,.int .i64 0,.int .i64 0,.int .i64 0,.int .i64 0]:=by kernel_rfl
theorem grow40 {need:Nat}:aO Tryz.prog 40 8 64 need=decide (64*need≤1000000):=bJ zero40 rfl (by decide)
theorem fok40:eD Tryz.prog #[{ name := "Inning",type:=3,offset:=0,embedded:=false,tag := "",pkgPath := "",byteOffset:=0 },{ name := "Side",type:=3,offset:=1,embedded:=false,tag := "",pkgPath := "",byteOffset:=8 },{ name := "From",type:=3,offset:=2,embedded:=false,tag := "",pkgPath := "",byteOffset:=16 },{ name := "To",type:=3,offset:=3,embedded:=false,tag := "",pkgPath := "",byteOffset:=24 },{ name := "Runs",type:=3,offset:=4,embedded:=false,tag := "",pkgPath := "",byteOffset:=32 },{ name := "Turns",type:=3,offset:=5,embedded:=false,tag := "",pkgPath := "",byteOffset:=40 },{ name := "Outs",type:=3,offset:=6,embedded:=false,tag := "",pkgPath := "",byteOffset:=48 },{ name := "Left",type:=3,offset:=7,embedded:=false,tag := "",pkgPath := "",byteOffset:=56 }]=true:=by kernel_rfl
theorem sz41:aG Tryz.prog 41=some 8:=by kernel_rfl
noncomputable def I41:TypeInfo:=(Tryz.prog.info? 41).getD dTI
theorem info41:Tryz.prog.info? 41=some I41:=by kernel_rfl
theorem I41s:I41.size=8:=by kernel_rfl
theorem I41b:I41.bytes=64:=by kernel_rfl
theorem zero41:cJ Tryz.prog 41=some [.int .i64 0,.int .i64 0,.int .i64 0,.int .i64 0,.int .i64 0,.int .i64 0,.int .i64 0,.int .i64 0]:=by kernel_rfl
theorem grow41 {need:Nat}:aO Tryz.prog 41 8 64 need=decide (64*need≤1000000):=bJ zero41 rfl (by decide)
theorem fok41:eD Tryz.prog #[{ name := "Inning",type:=3,offset:=0,embedded:=false,tag := "",pkgPath := "",byteOffset:=0 },{ name := "Side",type:=3,offset:=1,embedded:=false,tag := "",pkgPath := "",byteOffset:=8 },{ name := "From",type:=3,offset:=2,embedded:=false,tag := "",pkgPath := "",byteOffset:=16 },{ name := "To",type:=3,offset:=3,embedded:=false,tag := "",pkgPath := "",byteOffset:=24 },{ name := "Runs",type:=3,offset:=4,embedded:=false,tag := "",pkgPath := "",byteOffset:=32 },{ name := "Turns",type:=3,offset:=5,embedded:=false,tag := "",pkgPath := "",byteOffset:=40 },{ name := "Outs",type:=3,offset:=6,embedded:=false,tag := "",pkgPath := "",byteOffset:=48 },{ name := "Left",type:=3,offset:=7,embedded:=false,tag := "",pkgPath := "",byteOffset:=56 }]=true:=by kernel_rfl
theorem sz46:aG Tryz.prog 46=some 1:=by kernel_rfl
noncomputable def I46:TypeInfo:=(Tryz.prog.info? 46).getD dTI
theorem info46:Tryz.prog.info? 46=some I46:=by kernel_rfl
theorem I46s:I46.size=1:=by kernel_rfl
theorem I46b:I46.bytes=24:=by kernel_rfl
theorem zero46:cJ Tryz.prog 46=some [.nilslice]:=by kernel_rfl
theorem grow46 {need:Nat}:aO Tryz.prog 46 1 24 need=decide (24*need≤1000000):=bJ zero46 rfl (by decide)
theorem sz48:aG Tryz.prog 48=some 4:=by kernel_rfl
noncomputable def I48:TypeInfo:=(Tryz.prog.info? 48).getD dTI
theorem info48:Tryz.prog.info? 48=some I48:=by kernel_rfl
theorem I48s:I48.size=4:=by kernel_rfl
theorem I48b:I48.bytes=64:=by kernel_rfl
theorem zero48:cJ Tryz.prog 48=some [.str [],.str [],.bool false,.nilslice]:=by kernel_rfl
theorem grow48 {need:Nat}:aO Tryz.prog 48 4 64 need=decide (64*need≤1000000):=bJ zero48 rfl (by decide)
theorem fok48:eD Tryz.prog #[{ name := "Pitches",type:=9,offset:=0,embedded:=false,tag := "",pkgPath := "",byteOffset:=0 },{ name := "Event",type:=9,offset:=1,embedded:=false,tag := "",pkgPath := "",byteOffset:=16 },{ name := "Late",type:=4,offset:=2,embedded:=false,tag := "",pkgPath := "",byteOffset:=32 },{ name := "Moves",type:=46,offset:=3,embedded:=false,tag := "",pkgPath := "",byteOffset:=40 }]=true:=by kernel_rfl
theorem sz51:aG Tryz.prog 51=some 3:=by kernel_rfl
noncomputable def I51:TypeInfo:=(Tryz.prog.info? 51).getD dTI
theorem info51:Tryz.prog.info? 51=some I51:=by kernel_rfl
theorem I51s:I51.size=3:=by kernel_rfl
theorem I51b:I51.bytes=24:=by kernel_rfl
theorem zero51:cJ Tryz.prog 51=some [.int .i64 0,.int .i64 0,.int .i64 0]:=by kernel_rfl
theorem grow51 {need:Nat}:aO Tryz.prog 51 3 24 need=decide (24*need≤1000000):=bJ zero51 rfl (by decide)
theorem sz52:aG Tryz.prog 52=some 2:=by kernel_rfl
noncomputable def I52:TypeInfo:=(Tryz.prog.info? 52).getD dTI
theorem info52:Tryz.prog.info? 52=some I52:=by kernel_rfl
theorem I52s:I52.size=2:=by kernel_rfl
theorem I52b:I52.bytes=16:=by kernel_rfl
theorem zero52:cJ Tryz.prog 52=some [.int .i64 0,.int .i64 0]:=by kernel_rfl
theorem grow52 {need:Nat}:aO Tryz.prog 52 2 16 need=decide (16*need≤1000000):=bJ zero52 rfl (by decide)
theorem sz54:aG Tryz.prog 54=some 13:=by kernel_rfl
noncomputable def I54:TypeInfo:=(Tryz.prog.info? 54).getD dTI
theorem info54:Tryz.prog.info? 54=some I54:=by kernel_rfl
theorem I54s:I54.size=13:=by kernel_rfl
theorem I54b:I54.bytes=104:=by kernel_rfl
theorem zero54:cJ Tryz.prog 54=some [.int .i64 0,.int .i64 0,.int .i64 0,.int .i64 0,.int .i64 0,.int .i64 0,.int .i64 0,.int .i64 0,.int .i64 0,.int .i64 0,.int .i64 0,.int .i64 0,.bool false]:=by kernel_rfl
theorem grow54 {need:Nat}:aO Tryz.prog 54 13 104 need=decide (104*need≤1000000):=bJ zero54 rfl (by decide)
theorem fok54:eD Tryz.prog #[{ name := "Inning",type:=3,offset:=0,embedded:=false,tag := "",pkgPath := "",byteOffset:=0 },{ name := "Half",type:=3,offset:=1,embedded:=false,tag := "",pkgPath := "",byteOffset:=8 },{ name := "Outs",type:=3,offset:=2,embedded:=false,tag := "",pkgPath := "",byteOffset:=16 },{ name := "Balls",type:=3,offset:=3,embedded:=false,tag := "",pkgPath := "",byteOffset:=24 },{ name := "Strikes",type:=3,offset:=4,embedded:=false,tag := "",pkgPath := "",byteOffset:=32 },{ name := "Bases",type:=51,offset:=5,embedded:=false,tag := "",pkgPath := "",byteOffset:=40 },{ name := "Next",type:=52,offset:=8,embedded:=false,tag := "",pkgPath := "",byteOffset:=64 },{ name := "Score",type:=52,offset:=10,embedded:=false,tag := "",pkgPath := "",byteOffset:=80 },{ name := "Over",type:=4,offset:=12,embedded:=false,tag := "",pkgPath := "",byteOffset:=96 }]=true:=by kernel_rfl
theorem sz60:aG Tryz.prog 60=some 1:=by kernel_rfl
noncomputable def I60:TypeInfo:=(Tryz.prog.info? 60).getD dTI
theorem info60:Tryz.prog.info? 60=some I60:=by kernel_rfl
theorem I60s:I60.size=1:=by kernel_rfl
theorem I60b:I60.bytes=24:=by kernel_rfl
theorem zero60:cJ Tryz.prog 60=some [.nilslice]:=by kernel_rfl
theorem grow60 {need:Nat}:aO Tryz.prog 60 1 24 need=decide (24*need≤1000000):=bJ zero60 rfl (by decide)
theorem sz71:aG Tryz.prog 71=some 1:=by kernel_rfl
noncomputable def I71:TypeInfo:=(Tryz.prog.info? 71).getD dTI
theorem info71:Tryz.prog.info? 71=some I71:=by kernel_rfl
theorem I71s:I71.size=1:=by kernel_rfl
theorem I71b:I71.bytes=8:=by kernel_rfl
theorem zero71:cJ Tryz.prog 71=some [.nilp]:=by kernel_rfl
theorem grow71 {need:Nat}:aO Tryz.prog 71 1 8 need=decide (8*need≤1000000):=bJ zero71 rfl (by decide)
theorem sz72:aG Tryz.prog 72=some 4:=by kernel_rfl
noncomputable def I72:TypeInfo:=(Tryz.prog.info? 72).getD dTI
theorem info72:Tryz.prog.info? 72=some I72:=by kernel_rfl
theorem I72s:I72.size=4:=by kernel_rfl
theorem I72b:I72.bytes=4:=by kernel_rfl
theorem zero72:cJ Tryz.prog 72=some [.bool false,.bool false,.bool false,.bool false]:=by kernel_rfl
theorem grow72 {need:Nat}:aO Tryz.prog 72 4 4 need=decide (4*need≤1000000):=bJ zero72 rfl (by decide)
theorem sz74:aG Tryz.prog 74=some 25:=by kernel_rfl
noncomputable def I74:TypeInfo:=(Tryz.prog.info? 74).getD dTI
theorem info74:Tryz.prog.info? 74=some I74:=by kernel_rfl
theorem I74s:I74.size=25:=by kernel_rfl
theorem fok74:eD Tryz.prog #[{ name := "state",type:=54,offset:=0,embedded:=false,tag := "",pkgPath := "dugout/rule",byteOffset:=0 },{ name := "play",type:=48,offset:=13,embedded:=false,tag := "",pkgPath := "dugout/rule",byteOffset:=104 },{ name := "count",type:=52,offset:=17,embedded:=false,tag := "",pkgPath := "dugout/rule",byteOffset:=168 },{ name := "counted",type:=4,offset:=19,embedded:=false,tag := "",pkgPath := "dugout/rule",byteOffset:=184 },{ name := "outs",type:=3,offset:=20,embedded:=false,tag := "",pkgPath := "dugout/rule",byteOffset:=192 },{ name := "forced",type:=72,offset:=21,embedded:=false,tag := "",pkgPath := "dugout/rule",byteOffset:=200 }]=true:=by kernel_rfl
theorem sz76:aG Tryz.prog 76=some 1:=by kernel_rfl
noncomputable def I76:TypeInfo:=(Tryz.prog.info? 76).getD dTI
theorem info76:Tryz.prog.info? 76=some I76:=by kernel_rfl
theorem I76s:I76.size=1:=by kernel_rfl
theorem I76b:I76.bytes=8:=by kernel_rfl
theorem zero76:cJ Tryz.prog 76=some [.nilfunc]:=by kernel_rfl
theorem grow76 {need:Nat}:aO Tryz.prog 76 1 8 need=decide (8*need≤1000000):=bJ zero76 rfl (by decide)
theorem sz78:aG Tryz.prog 78=some 13:=by kernel_rfl
noncomputable def I78:TypeInfo:=(Tryz.prog.info? 78).getD dTI
theorem info78:Tryz.prog.info? 78=some I78:=by kernel_rfl
theorem I78s:I78.size=13:=by kernel_rfl
theorem I78b:I78.bytes=104:=by kernel_rfl
theorem zero78:cJ Tryz.prog 78=some [.int .i64 0,.int .i64 0,.int .i64 0,.int .i64 0,.int .i64 0,.int .i64 0,.int .i64 0,.int .i64 0,.int .i64 0,.int .i64 0,.int .i64 0,.int .i64 0,.bool false]:=by kernel_rfl
theorem grow78 {need:Nat}:aO Tryz.prog 78 13 104 need=decide (104*need≤1000000):=bJ zero78 rfl (by decide)
theorem fok78:eD Tryz.prog #[{ name := "Inning",type:=3,offset:=0,embedded:=false,tag := "",pkgPath := "",byteOffset:=0 },{ name := "Half",type:=3,offset:=1,embedded:=false,tag := "",pkgPath := "",byteOffset:=8 },{ name := "Outs",type:=3,offset:=2,embedded:=false,tag := "",pkgPath := "",byteOffset:=16 },{ name := "Balls",type:=3,offset:=3,embedded:=false,tag := "",pkgPath := "",byteOffset:=24 },{ name := "Strikes",type:=3,offset:=4,embedded:=false,tag := "",pkgPath := "",byteOffset:=32 },{ name := "Bases",type:=51,offset:=5,embedded:=false,tag := "",pkgPath := "",byteOffset:=40 },{ name := "Next",type:=52,offset:=8,embedded:=false,tag := "",pkgPath := "",byteOffset:=64 },{ name := "Score",type:=52,offset:=10,embedded:=false,tag := "",pkgPath := "",byteOffset:=80 },{ name := "Over",type:=4,offset:=12,embedded:=false,tag := "",pkgPath := "",byteOffset:=96 }]=true:=by kernel_rfl
theorem sz87:aG Tryz.prog 87=some 5:=by kernel_rfl
noncomputable def I87:TypeInfo:=(Tryz.prog.info? 87).getD dTI
theorem info87:Tryz.prog.info? 87=some I87:=by kernel_rfl
theorem I87s:I87.size=5:=by kernel_rfl
theorem I87b:I87.bytes=64:=by kernel_rfl
theorem zero87:cJ Tryz.prog 87=some [.int .i64 0,.int .i64 0,.bool false,.str [],.nilslice]:=by kernel_rfl
theorem grow87 {need:Nat}:aO Tryz.prog 87 5 64 need=decide (64*need≤1000000):=bJ zero87 rfl (by decide)
theorem fok87:eD Tryz.prog #[{ name := "From",type:=3,offset:=0,embedded:=false,tag := "",pkgPath := "",byteOffset:=0 },{ name := "To",type:=3,offset:=1,embedded:=false,tag := "",pkgPath := "",byteOffset:=8 },{ name := "Out",type:=4,offset:=2,embedded:=false,tag := "",pkgPath := "",byteOffset:=16 },{ name := "How",type:=9,offset:=3,embedded:=false,tag := "",pkgPath := "",byteOffset:=24 },{ name := "By",type:=60,offset:=4,embedded:=false,tag := "",pkgPath := "",byteOffset:=40 }]=true:=by kernel_rfl
theorem body6:Tryz.f6.body.isNone=false:=by kernel_rfl
theorem call6 {h:H}{args:List EVal}:bP Tryz.prog h 6 args=some (.enter 6 args h):=bU Tryz.func6 body6
theorem body9:Tryz.f9.body.isNone=false:=by kernel_rfl
theorem call9 {h:H}{args:List EVal}:bP Tryz.prog h 9 args=some (.enter 9 args h):=bU Tryz.func9 body9
theorem body16:Tryz.f16.body.isNone=false:=by kernel_rfl
theorem call16 {h:H}{args:List EVal}:bP Tryz.prog h 16 args=some (.enter 16 args h):=bU Tryz.func16 body16
theorem body27:Tryz.f27.body.isNone=false:=by kernel_rfl
theorem call27 {h:H}{args:List EVal}:bP Tryz.prog h 27 args=some (.enter 27 args h):=bU Tryz.func27 body27
theorem body28:Tryz.f28.body.isNone=false:=by kernel_rfl
theorem call28 {h:H}{args:List EVal}:bP Tryz.prog h 28 args=some (.enter 28 args h):=bU Tryz.func28 body28
theorem body29:Tryz.f29.body.isNone=false:=by kernel_rfl
theorem call29 {h:H}{args:List EVal}:bP Tryz.prog h 29 args=some (.enter 29 args h):=bU Tryz.func29 body29
theorem body31:Tryz.f31.body.isNone=false:=by kernel_rfl
theorem call31 {h:H}{args:List EVal}:bP Tryz.prog h 31 args=some (.enter 31 args h):=bU Tryz.func31 body31
theorem body32:Tryz.f32.body.isNone=false:=by kernel_rfl
theorem call32 {h:H}{args:List EVal}:bP Tryz.prog h 32 args=some (.enter 32 args h):=bU Tryz.func32 body32
theorem body33:Tryz.f33.body.isNone=false:=by kernel_rfl
theorem call33 {h:H}{args:List EVal}:bP Tryz.prog h 33 args=some (.enter 33 args h):=bU Tryz.func33 body33
theorem body34:Tryz.f34.body.isNone=false:=by kernel_rfl
theorem call34 {h:H}{args:List EVal}:bP Tryz.prog h 34 args=some (.enter 34 args h):=bU Tryz.func34 body34
theorem body35:Tryz.f35.body.isNone=false:=by kernel_rfl
theorem call35 {h:H}{args:List EVal}:bP Tryz.prog h 35 args=some (.enter 35 args h):=bU Tryz.func35 body35
theorem body36:Tryz.f36.body.isNone=false:=by kernel_rfl
theorem call36 {h:H}{args:List EVal}:bP Tryz.prog h 36 args=some (.enter 36 args h):=bU Tryz.func36 body36
theorem body37:Tryz.f37.body.isNone=false:=by kernel_rfl
theorem call37 {h:H}{args:List EVal}:bP Tryz.prog h 37 args=some (.enter 37 args h):=bU Tryz.func37 body37
theorem body38:Tryz.f38.body.isNone=false:=by kernel_rfl
theorem call38 {h:H}{args:List EVal}:bP Tryz.prog h 38 args=some (.enter 38 args h):=bU Tryz.func38 body38
theorem body50:Tryz.f50.body.isNone=false:=by kernel_rfl
theorem call50 {h:H}{args:List EVal}:bP Tryz.prog h 50 args=some (.enter 50 args h):=bU Tryz.func50 body50
theorem body61:Tryz.f61.body.isNone=false:=by kernel_rfl
theorem call61 {h:H}{args:List EVal}:bP Tryz.prog h 61 args=some (.enter 61 args h):=bU Tryz.func61 body61
set_option linter.defProp false in
def TFT:=Ai (Ai (Ai (Ai (Ai (Ai (Ai (Ai (@I3b) (@I3s)) (Ai (@Tryz.underlying3) (@grow3))) (Ai (Ai (@info3) (@sz3)) (Ai (@zero3) (@I4b)))) (Ai (Ai (Ai (@I4s) (@Tryz.underlying4)) (Ai (@grow4) (@info4))) (Ai (Ai (@sz4) (@zero4)) (Ai (@I9b) (@I9s))))) (Ai (Ai (Ai (Ai (@Tryz.underlying9) (@grow9)) (Ai (@info9) (@sz9))) (Ai (Ai (@zero9) (@I22b)) (Ai (@I22s) (@Tryz.underlying22)))) (Ai (Ai (Ai (@grow22) (@info22)) (Ai (@sz22) (@zero22))) (Ai (Ai (@I25b) (@I25s)) (Ai (@Tryz.underlying25) (@grow25)))))) (Ai (Ai (Ai (Ai (Ai (@info25) (@sz25)) (Ai (@zero25) (@I26b))) (Ai (Ai (@I26s) (@Tryz.underlying26)) (Ai (@grow26) (@info26)))) (Ai (Ai (Ai (@sz26) (@zero26)) (Ai (@I30b) (@I30s))) (Ai (Ai (@Tryz.underlying30) (@grow30)) (Ai (@info30) (@sz30))))) (Ai (Ai (Ai (Ai (@zero30) (@I33b)) (Ai (@I33s) (@Tryz.underlying33))) (Ai (Ai (@grow33) (@info33)) (Ai (@sz33) (@zero33)))) (Ai (Ai (Ai (@I36b) (@I36s)) (Ai (@Tryz.underlying36) (@grow36))) (Ai (Ai (@info36) (@sz36)) (Ai (@zero36) (@I40b))))))) (Ai (Ai (Ai (Ai (Ai (Ai (@I40s) (@Tryz.underlying40)) (Ai (@fok40) (@grow40))) (Ai (Ai (@info40) (@sz40)) (Ai (@zero40) (@I41b)))) (Ai (Ai (Ai (@I41s) (@Tryz.underlying41)) (Ai (@fok41) (@grow41))) (Ai (Ai (@info41) (@sz41)) (Ai (@zero41) (@I46b))))) (Ai (Ai (Ai (Ai (@I46s) (@Tryz.underlying46)) (Ai (@grow46) (@info46))) (Ai (Ai (@sz46) (@zero46)) (Ai (@I48b) (@I48s)))) (Ai (Ai (Ai (@Tryz.underlying48) (@fok48)) (Ai (@grow48) (@info48))) (Ai (Ai (@sz48) (@zero48)) (Ai (@I51b) (@I51s)))))) (Ai (Ai (Ai (Ai (Ai (@Tryz.underlying51) (@grow51)) (Ai (@info51) (@sz51))) (Ai (Ai (@zero51) (@I52b)) (Ai (@I52s) (@Tryz.underlying52)))) (Ai (Ai (Ai (@grow52) (@info52)) (Ai (@sz52) (@zero52))) (Ai (Ai (@I54b) (@I54s)) (Ai (@Tryz.underlying54) (@fok54))))) (Ai (Ai (Ai (Ai (@grow54) (@info54)) (Ai (@sz54) (@zero54))) (Ai (Ai (@I60b) (@I60s)) (Ai (@Tryz.underlying60) (@grow60)))) (Ai (Ai (Ai (@info60) (@sz60)) (Ai (@zero60) (@I71b))) (Ai (Ai (@I71s) (@Tryz.underlying71)) (Ai (@grow71) (@info71)))))))) (Ai (Ai (Ai (Ai (Ai (Ai (@sz71) (@zero71)) (Ai (@I72b) (@I72s))) (Ai (Ai (@Tryz.underlying72) (@grow72)) (Ai (@info72) (@sz72)))) (Ai (Ai (Ai (@zero72) (@I74s)) (Ai (@Tryz.underlying74) (@fok74))) (Ai (Ai (@info74) (@sz74)) (Ai (@I76b) (@I76s))))) (Ai (Ai (Ai (Ai (@Tryz.underlying76) (@grow76)) (Ai (@info76) (@sz76))) (Ai (Ai (@zero76) (@I78b)) (Ai (@I78s) (@Tryz.underlying78)))) (Ai (Ai (Ai (@fok78) (@grow78)) (Ai (@info78) (@sz78))) (Ai (Ai (@zero78) (@I87b)) (Ai (@I87s) (@Tryz.underlying87)))))) (Ai (Ai (Ai (@fok87) (@grow87)) (Ai (@info87) (@sz87))) (@zero87)))
end Go.Ev
namespace Go.Ev
open Go.RowKit Go.Proofs
set_option maxRecDepth 100000
set_option maxHeartbeats 4000000
set_option linter.unusedVariables false
noncomputable section
def Az22:=Row.nil
def Tz22:Tr St Empty noS (Cod.agg rSt).v:=(.r (⟨1,0,0,0,0,0,0,0,1,1,0,0,false⟩:St))
def Ez22:=(Tz22).d noE
def Sz22 (x:Unit):=Ez22
def wz22:Wk (Unit) St Empty (Cod.agg rSt).v:=wk0 fun x=>Tz22
def Kz22:=aU 16 Tryz.func16 [] noZ ⟨3,noL,noL,noL⟩ 128 Az22 (Cod.agg rSt) Sz22 wz22 (fun _=>0)
def Az23:=Row.nil
def Tz23:Tr St Empty noS (Cod.agg rSt).v:=(.r (⟨1,0,0,0,0,0,0,0,1,1,0,0,false⟩:St))
def Ez23:=(Tz23).d noE
def Sz23 (x:Unit):=Ez23
def wz23:Wk (Unit) St Empty (Cod.agg rSt).v:=wk0 fun x=>Tz23
def Kz23:=aU 31 Tryz.func31 [] noZ ⟨3,noL,noL,noL⟩ 128 Az23 (Cod.agg rSt) Sz23 wz23 (fun _=>0)
def Az42:=(Row.cons (Cod.list pl0 rPl) (Row.cons cI Row.nil))
inductive Lz42 where
 | k8 (a:Int)
def uz42:Lz42→Nat
 | .k8 _=>8
def sLz42 (s:List (Pl)) (t:Int):Lz42→D
 | .k8 a=>mD [(0,(Cod.list pl0 rPl).v s),(5,.int .i64 a)] 0 [] 128 []
noncomputable def ayk (s:List (Pl)) (t:Int):(l_:Lz42)→Tr Bool Lz42 (sLz42 s t) cB.v
 | .k8 a=>(.i (decide (a<((s.length:Nat):Int))) (.i (inR a s.length) (.c Az84 Sz84 ((s.getD a.toNat pl0),()) fun b=>(.i (!b) (.r false) (.g (.k8 (w6 (a+1)))))) .n) (.r true))
noncomputable def Tz42 (s:List (Pl)) (t:Int):Tr Bool Lz42 (sLz42 s t) cB.v:=(.i (decide (t<((s.length:Nat):Int))) (.i (decide (((s.length:Nat):Int)≤256)) (.r false) (.i (decide (258<((s.length:Nat):Int))) (.r false) (.g (.k8 0)))) (.i (decide (258<((s.length:Nat):Int))) (.r false) (.g (.k8 0))))
def bqR (s:List (Pl)) (t:Int):=Tr.lp (ayk s t)
theorem bqQ {s:List (Pl)}{t:Int}{n:Nat}{l_:Lz42}:bqR s t (n+1) l_=(ayk s t l_).d (bqR s t n):=rfl
def Ez42 (n:Nat) (s:List (Pl)) (t:Int):=(Tz42 s t).d (bqR s t n)
def Sz42 (x:(List (Pl))×Int×Unit):=Ez42 (x.1.length+64) x.1 x.2.1
def wz42:Wk ((List (Pl))×Int×Unit) Bool Lz42 cB.v:=⟨fun x=>sLz42 x.1 x.2.1,uz42,fun x=>Tz42 x.1 x.2.1,fun x=>ayk x.1 x.2.1⟩
def Kz42:=aU 4 Tryz.func4 [Kz84] noZ ⟨32,(lookA [(4,⟨[0,5],[],0,[],[],[],[]⟩)]),noL,noL⟩ 128 Az42 cB Sz42 wz42 (fun x=>x.1.length+64)
def Az44:=(Row.cons (Cod.list pl0 rPl) Row.nil)
def Wz44 (r:(List (Pl))):V:=.el (r.map rPl.v)
theorem hWz44 (r:(List (Pl))):(Wz44 r).c=((Cod.list pl0 rPl).v r).c:=by first|rfl|exact aS|(show EVal.tup (V.cs _)=EVal.tup (V.cs _);simp only [V.cs_map,List.map_cons,List.map_nil,aS];rfl)
inductive Lz44 where
 | k6 (a:Int)(b:List (Pl))
def uz44:Lz44→Nat
 | .k6 _ _=>6
def akX (s:List (Pl)) (x2:Int) (x3:List (List V)):D:=mD [(0,(Cod.list pl0 rPl).v s),(3,.gl 128),(4,.int .i64 x2)] 0 [] 129 [(128,(x3,48))]
def bqg (s:List (Pl)):Lz44→D
 | .k6 a b=>akX s a (b.map rPl.v)
noncomputable def ayj (s:List (Pl)):(l_:Lz44)→Tr (List (Pl)) Lz44 (bqg s) Wz44
 | .k6 a b=>(.i (decide (a<((s.length:Nat):Int))) (.i (inR a s.length) (.c A33 S33 ((s.getD a.toNat pl0),()) fun d=>(.i (Nat.ble (64*(((b.map rPl.v)).length+1)) 1000000) (.j (.k6 (w6 (a+1)) (b++[d])) (akX s (w6 (a+1)) ((b.map rPl.v)++[(rPl.v d)])) ⟨by simp only [bqg,List.map_append,List.map_cons,List.map_nil]<;>rfl⟩) .n)) .n) (.r b))
def Tz44 (s:List (Pl)):Tr (List (Pl)) Lz44 (bqg s) Wz44:=(.g (.k6 0 []))
def bx0 (s:List (Pl)):=Tr.lp (ayj s)
theorem bqP {s:List (Pl)}{n:Nat}{l_:Lz44}:bx0 s (n+1) l_=(ayj s l_).d (bx0 s n):=rfl
def Ez44 (n:Nat) (s:List (Pl)):=(Tz44 s).d (bx0 s n)
def Sz44 (x:(List (Pl))×Unit):=Ez44 (x.1.length+64) x.1
def wz44:Wk ((List (Pl))×Unit) (List (Pl)) Lz44 Wz44:=⟨fun x=>bqg x.1,uz44,fun x=>Tz44 x.1,fun x=>ayj x.1⟩
def Kz44:=aU 7 Tryz.func7 [K33] noZ ⟨20,(lookA [(3,⟨[0,3,4],[],0,[(3,48)],[128],[],[]⟩)]),noL,noL⟩ 128 Az44 (Cod.list pl0 rPl) Sz44 wz44 (fun x=>x.1.length+64) hWz44
end
end Go.Ev
namespace Go.Ev
open Go.RowKit Go.Proofs
set_option maxRecDepth 20000
set_option maxHeartbeats 8000000
def vI (q:Pl):List EVal:=[.str q.p,.str q.e,.bool q.l,.lsl (qX q.m)]
def gI (l:List Pl):List (List EVal):=l.map vI
def gH (l:List St):List (List EVal):=l.map eSt
theorem bM (l:List Pl):(gI l).length=l.length:=by simp [gI]
theorem iK (l:List Pl) (i:Nat):(gI l)[i]? = (l[i]?).map vI:=by simp [gI]
theorem awG (l:List St) (i:Nat):(gH l)[i]? = (l[i]?).map eSt:=by simp [gH]
theorem vPls_c (l:List Pl):((Cod.list pl0 rPl).v l).c=.lsl (gI l):=by
 have h1:(V.el (l.map rPl.v)).c=((Cod.list pl0 rPl).v l).c:=aS;refine h1.symm.trans ?_;rw [V.c,V.css_map,List.map_map,gI];refine congrArg EVal.lsl (List.map_congr_left fun p _=>?_);have h:=bq7 p;have e:((Cod.agg rPl).v p).c=.agg (V.cs (rPl.v p)):=by show(V.agg (rPl.v p)).c=_;rw [V.c]
 rw [e]at h;exact EVal.agg.inj h
theorem vSts_c (l:List St):((Cod.list st0 rSt).v l).c=.lsl (gH l):=by have h1:(V.el (l.map rSt.v)).c=((Cod.list st0 rSt).v l).c:=aS;refine h1.symm.trans ?_;rw [V.c,V.css_map,List.map_map,gH];exact congrArg EVal.lsl (List.map_congr_left fun p _=>avA p)
noncomputable def brk (s:St) (t:Pl):Int:=(Sz94 (s,t,())).getD 0
noncomputable def eE (s:St) (t:Pl):Int:=bjL s t (brk s t)
noncomputable def nN (s:St) (t:Pl):Int:=numA s t (brk s t)
theorem az9 {s:St}{t:Pl}(ok:okP t):(qV s t=0→avj (dA s t,())=some (brk s t))∧(qV s t=0→Sz94 (s,t,())=some (brk s t))∧(brk s t=0→qV s t=0→fF s t):=by
 by_cases hc:qV s t=0
 · obtain ⟨e1,e2,e3⟩:=tZ hc;obtain⟨p1,p2,p3⟩:=playE_zero e2;obtain⟨k,a,b,c,_⟩:=ay3 (s:=s) p3 p2 ok.2.1 (by omega);have e:brk s t=k:=by unfold brk;rw [b];rfl
   rw [e];exact⟨fun _=>a,fun _=>b,fun h _=>c h⟩
 · exact⟨fun h=>absurd h hc,fun h=>absurd h hc,fun _ h=>absurd h hc⟩
noncomputable def eTn (x:Tn):List EVal:=V.cs (rTn.v x)
noncomputable def F85:List EVal→Option EVal:=fOf Az85 (Cod.tup (Row.cons (Cod.opt rTn) (Row.cons cI (Row.cons cI Row.nil)))) Sz85
theorem fn85:FnT 50 F85:=Kz85.ok
noncomputable def F86:List EVal→Option EVal:=fOf Az86 (Cod.agg rSt) Sz86
theorem fn86:FnT 61 F86:=Kz86.ok
noncomputable def F22:List EVal→Option EVal:=fOf Az22 (Cod.agg rSt) Sz22
theorem fn22:FnT 16 F22:=Kz22.ok
def a6:St:=⟨1,0,0,0,0,0,0,0,1,1,0,0,false⟩
theorem e22:F22 []=some (.agg (eSt a6)):=by
 have e:V.cs (Az22.v ())=[]:=by show V.cs []=_;rw [V.cs]
 have h:fOf Az22 (Cod.agg rSt) Sz22 (V.cs (Az22.v ()))=some (.agg (eSt a6)):=by unfold fOf;rw [Az22.rt,Option.bind_some];have:Sz22 ()=some a6:=rfl;rw [this];show some ((V.agg (rSt.v a6)).c)=_;rw [V.c,avA]
 rw [e]at h;exact h
section
variable {s:St}{t:Pl}
theorem a85:V.cs (Az85.v (s,t,()))=[.agg (eSt s),.agg (vI t)]:=by show V.cs [V.agg (rSt.v s),(Cod.agg rPl).v t]=_;rw [V.cs,V.cs,V.cs,bq7];simp only [V.c,avA];rfl
theorem e85 (ok:okP t):F85 [.agg (eSt s),.agg (vI t)]=some (((Cod.tup (Row.cons (Cod.opt rTn) (Row.cons cI (Row.cons cI Row.nil)))).v (accR s t (brk s t))).c):=by rw [←a85];unfold F85 fOf;rw [Az85.rt,Option.bind_some,s85 ok (az9 ok).1];rfl
theorem e85_bad (ok:okP t) (h:eE s t≠0):F85 [.agg (eSt s),.agg (vI t)]=some (.tup [.nilp,.int .i64 (nN s t),.int .i64 (eE s t)]):=by
 rw [e85 ok];rcases acc_cases s t (brk s t)with⟨_,h2⟩ | ⟨h1,_⟩;· rw [h2];show some ((V.tup [V.raw .nilp,V.int .i64 (nN s t),V.int .i64 (eE s t)]).c)=_;simp only [V.c,V.cs]
 · exact absurd h1 h
theorem bjP (ok:okP t) (h:eE s t=0):F85 [.agg (eSt s),.agg (vI t)]=some (.tup [.lptr (eTn (dA s t)) 0,.int .i64 0,.int .i64 0]):=by
 rw [e85 ok];rcases acc_cases s t (brk s t)with⟨h1,_⟩ | ⟨_,_,_,h2⟩;· exact absurd h h1
 · rw [h2];show some ((V.tup [V.lptr (rTn.v (dA s t)) 0,V.int .i64 0,V.int .i64 0]).c)=_;simp only [V.c,V.cs,eTn]
structure Acc (s:St) (t:Pl):Prop where
 st:stE s=0
 pl:playE t.p t.e t.m=0
 on:s.over=false
 mv:aB t.m=0
 ev:vEv t.e
 len:t.p.length≤24
 good:fF s t
 big:akF s t=false
theorem xG (ok:okP t) (h:eE s t=0):Acc s t:=by
 rcases acc_cases s t (brk s t)with⟨h1,_⟩ | ⟨h1,h2,h3,_⟩;· exact absurd h h1
 · obtain ⟨e1,e2,e3⟩:=tZ h2;obtain⟨p1,p2,p3⟩:=playE_zero e2;refine⟨e1,e2,e3,p3,p2,p1,(az9 ok).2.2 h3 h2,?_⟩;unfold bjL at h1;cases hx:akF s t with
   | false=>rfl| true=>simp [h2,h3,hx]at h1
theorem e86 (ok:okP t) (h:eE s t=0):F86 [.lptr (eTn (dA s t)) 0]=some (.agg (eSt (nxt (mvd s t)))):=by
 have A:=xG ok h;have e:V.cs (Az86.v (dA s t,()))=[.lptr (eTn (dA s t)) 0]:=by show V.cs [V.lptr (rTn.v (dA s t)) 0]=_;simp only [V.cs,V.c,eTn]
 rw [←e];unfold F86 fOf;rw [Az86.rt,Option.bind_some,s86 A.mv (mY A.st).half A.good];show some ((V.agg (rSt.v _)).c)=_;rw [V.c,avA]
theorem azj (A:Acc s t):stE (nxt (mvd s t))=0:=by have n:Num s:=mV.1 ⟨(i9 A.st).1,(i9 A.st).2.1,(i9 A.st).2.2.1⟩;have F:bq1 s:=xX.1 (i9 A.st).2.2.2.2;exact nxt_ok (awZ A.mv A.good n A.big) A.on (fit_mvd A.mv A.good n.good F)
end
abbrev GameR:=List St×Nat×Int×Int
noncomputable def oA:Nat→List St→St→List Pl→GameR
 | _,acc,_,[]=>(acc,0,0,0)| i,acc,s,t::L=>if eE s t≠0 then([],i,nN s t,eE s t)else oA (i+1) (acc++[nxt (mvd s t)]) (nxt (mvd s t)) L
theorem pH {i:Nat}{acc:List St}{s:St}{t:Pl}{L:List Pl}:oA i acc s (t::L)=if eE s t≠0 then([],i,nN s t,eE s t)else oA (i+1) (acc++[nxt (mvd s t)]) (nxt (mvd s t)) L:=rfl
noncomputable def game (L:List Pl):GameR:=if 256<L.length then([],0,0,5)else oA 0 [a6] a6 L
theorem axp:stE a6=0:=by decide +kernel
end Go.Ev
namespace Go.Ev
open Go.RowKit Go.Proofs
set_option maxRecDepth 20000
set_option maxHeartbeats 8000000
def d6 (l:List St):List EVal:=(gH l).flatten
theorem iU (s:St):(eSt s).length=13:=rfl
theorem lD (l:List St):(d6 l).length=l.length*13:=by
 induction l with
 | nil=>rfl| cons q l ih=>
   have e:d6 (q::l)=eSt q++d6 l:=by simp [d6,gH]
   rw [e,List.length_append,ih,iU,List.length_cons];omega
theorem av7 (l:List St) (q:St):d6 (l++[q])=d6 l++eSt q:=by simp [d6,gH]
theorem av6 (l:List St):(d6 l).take (l.length*13)=d6 l:=by rw [←lD l,List.take_length]
theorem aw8 (s:St):keepL (eSt s)=some (eSt s):=rfl
theorem ajv (l:List St):keepL (d6 l)=some (d6 l):=by
 induction l with
 | nil=>rfl| cons q l ih=>
   have e:d6 (q::l)=eSt q++d6 l:=by simp [d6,gH]
   rw [e];exact fA (aw8 q) ih
theorem axP (l:List St):chunk 13 l.length (d6 l)=gH l:=by
 induction l with
 | nil=>rfl| cons q l ih=>
   have e:d6 (q::l)=eSt q++d6 l:=by simp [d6,gH]
   rw [e];show(eSt q++d6 l).take 13::chunk 13 l.length ((eSt q++d6 l).drop 13)=_;rw [List.take_left' (iU q),List.drop_left' (iU q),ih];rfl
theorem bjc {l:List St}{k:Nat}{q:St}(h:l[k]? = some q):((d6 l).drop (k*13)).take 13=eSt q:=by
 induction l generalizing k with
 | nil=>cases h| cons x l ih=>
   have e:d6 (x::l)=eSt x++d6 l:=by simp [d6,gH]
   cases k with
   | zero=>simp only [List.getElem?_cons_zero,Oi]at h;subst h;rw [e,Nat.zero_mul,List.drop_zero,List.take_left' (iU x)]| succ k=>simp only [List.getElem?_cons_succ]at h;rw [e,show(k+1)*13=(eSt x).length+k*13 by rw [iU];omega,List.drop_append,List.drop_of_length_le (by omega),Nat.add_sub_cancel_left,List.nil_append];exact ih h
def SL (ty:TypeId) (c7:Nat) (v:EVal) (ps:List St) (N:Nat) (l:List (Nat×Option b8)):Prop:=
 (∃q,ps=[q]∧0<N∧c7≠0∧v=.slice 0 0 1 (.exact 1)∧lookG l 0=some (.row (eSt q) ty 0 0 false)) ∨
 ∃id,id≠c7∧1<id∧id<N∧v=.slice id 0 ps.length (.slack 0)∧lookG l id=some (.row (d6 ps) ty 0 0 true)
theorem SL_one {ty:TypeId}{c7:Nat}{v:EVal}{ps:List St}{N:Nat}{l:List (Nat×Option b8)}(h:SL ty c7 v ps N l):v.cells=[v]∧v.one=true∧allOne [v]=true∧v.kept=false:=by rcases h with⟨q,_,_,_,rfl,_⟩ | ⟨id,_,_,_,rfl,_⟩<;>exact⟨rfl,rfl,rfl,rfl⟩
theorem SL_new {ty:TypeId}{c7:Nat}{v:EVal}{ps:List St}{N:Nat}{l:List (Nat×Option b8)}{x y:Option b8}(h:SL ty c7 v ps N l):SL ty c7 v ps (N+1) ((N,x)::(N,y)::l):=by
 rcases h with⟨q,h1,h2,h3,h4,h5⟩ | ⟨id,h1,h2,h3,h4,h5⟩;· exact .inl ⟨q,h1,by omega,h3,h4,by rw [lookG.eq_2,if_neg (by omega),lookG.eq_2,if_neg (by omega)];exact h5⟩
 · exact .inr ⟨id,h1,h2,by omega,h4,by rw [lookG.eq_2,if_neg (by omega),lookG.eq_2,if_neg (by omega)];exact h5⟩
theorem HV.mode {P:Program}{n m m':Nat}{l:List (Nat×Option b8)}{k:List (Nat×Option (Nat×TypeId))}(hm:m % 1099511627776≤m' % 1099511627776):HV P (mkH n l m k) (mkH n l m' k):=fun B0 W0 ρ w R=>⟨R.below,R.base,R.dom,R.lo,R.inj,R.objs,R.fz,R.free,R.fz0,fun id q hid=>R.mdom id q (Nat.le_trans hm hid),R.toks,R.tnew,R.tinj⟩
end Go.Ev
namespace Go.Ev
open Go.RowKit Go.Proofs
set_option maxRecDepth 20000
set_option maxHeartbeats 8000000
def gOK (l:List Pl):Bool:=decide (l.length<1000000)&&l.all fun t=>awY t&&(bB t.p&&(bB t.e&&decide (t.p.length<9223372036854775808)))
theorem ajz {l:List Pl}(h:gOK l=true):l.length<1000000∧∀t∈l,okP t:=by simp only [gOK,Bool.and_eq_true,decide_eq_true_eq,List.all_eq_true]at h;exact⟨h.1,fun t ht=>⟨(h.2 t ht).1,(h.2 t ht).2.1,(h.2 t ht).2.2.1,(h.2 t ht).2.2.2⟩⟩
abbrev cG43:Cod (List St×Int×Int×Int×Unit):=Cod.tup (Row.cons (Cod.list st0 rSt) (Row.cons cI (Row.cons cI (Row.cons cI Row.nil))))
def Ag43:Row (List Pl×Unit):=Row.cons (Cod.list pl0 rPl) Row.nil
noncomputable def Sg43 (x:List Pl×Unit):Option (List St×Int×Int×Int×Unit):=if gOK x.1=true then some ((game x.1).1,((game x.1).2.1:Nat),(game x.1).2.2.1,(game x.1).2.2.2,())else none
theorem a43 (l:List Pl):V.cs (Ag43.v (l,()))=[.lsl (gI l)]:=by show V.cs [(Cod.list pl0 rPl).v l]=_;rw [V.cs,V.cs,vPls_c]
theorem c43 (l:List St) (a b c:Int):(cG43.v (l,a,b,c,())).c=.tup [.lsl (gH l),.int .i64 a,.int .i64 b,.int .i64 c]:=by show(V.tup [(Cod.list st0 rSt).v l,V.int .i64 a,V.int .i64 b,V.int .i64 c]).c=_;simp only [V.c,V.cs,vSts_c]
end Go.Ev
namespace Go.Ev
open Go.RowKit Go.Proofs
set_option maxRecDepth 100000
set_option maxHeartbeats 4000000
set_option linter.unusedVariables false
noncomputable section
def bx9:=(Row.cons (Cod.agg rHf) (Row.cons cI (Row.cons (Cod.ptr rTn) Row.nil)))
noncomputable def Tz103 (s:Hf) (t:Int) (u:Tn):Tr Hf Empty noS (Cod.agg rHf).v:=(.c Az89 azm (u,()) fun a=>(.c aj1 rQ (u,()) fun b=>(.i (!b) (.c Az93 Sz93 (u,()) fun d=>(.r (⟨s.inn,s.side,s.frm,(w6 (t+1)),(w6 (s.runs+((a.length:Nat):Int))),(w6 (s.turns+1)),u.outs,((d.length:Nat):Int)⟩:Hf))) (.c Az93 Sz93 (u,()) fun e=>(.r (⟨s.inn,s.side,s.frm,(w6 (t+1)),(w6 (s.runs+((a.length:Nat):Int))),s.turns,u.outs,((e.length:Nat):Int)⟩:Hf))))))
def Ez103 (s:Hf) (t:Int) (u:Tn):=(Tz103 s t u).d noE
def Sz103 (x:Hf×Int×Tn×Unit):=Ez103 x.1 x.2.1 x.2.2.1
def wz103:Wk (Hf×Int×Tn×Unit) Hf Empty (Cod.agg rHf).v:=wk0 fun x=>Tz103 x.1 x.2.1 x.2.2.1
def Kz103:=aU 29 Tryz.func29 [Kz89,Kz93,bqA] noZ ⟨34,noL,noL,noL⟩ 128 bx9 (Cod.agg rHf) Sz103 wz103 (fun _=>0)
end
end Go.Ev
namespace Go.Ev
open Go.RowKit Go.Proofs
set_option linter.defProp false
def rG:=Ai (Ai (Ai (@TFT) (@call16)) (Ai (@call50) (@call61))) (@Tryz.results27)
set_option maxRecDepth 20000
set_option maxHeartbeats 8000000
noncomputable abbrev KRx (X:oM):oM:=(50,F85)::(61,F86)::(16,F22)::X
def ownX (s:St):b8:=.row [.int .i64 s.inn,.int .i64 s.half,.int .i64 s.outs,.int .i64 s.balls,.int .i64 s.strikes,.int .i64 s.b1,.int .i64 s.b2,.int .i64 s.b3,.int .i64 s.n0,.int .i64 s.n1,.int .i64 s.c0,.int .i64 s.c1,.bool s.over] 54 0 0 false
theorem ct99x {X:oM}{L:List Pl}{fc:FuncId}{caps:List EVal}{m N0:Nat}{kk:List (Nat×Option (Nat×TypeId))}{l0:List (Nat×Option b8)}{INV:Nat→St→Nat→List (Nat×Option b8)→Prop}{k:EVal→H→Prop}
  (hfc:∀(h:H) (args:List EVal),bP Tryz.prog h fc args=some (.enter fc args h)) (hfk:∀a,aN (KRx X) fc a=none) (hlen:L.length<9223372036854775808) (hok:∀t∈L,okP t) (hN0:N0≤100)
  (hI0:∀x y,INV 0 a6 (N0+1) ((N0,x)::(N0,y)::l0)) (hI1:∀i s N l x,INV i s N l→INV i s N ((N0,x)::l))
  (hIN:∀i s N l,INV i s N l→N0<N∧N≤120+10*i)
  (hC:∀(i:Nat) (s:St) (N:Nat) (l:List (Nat×Option b8)) (t:Pl) (x y:Option b8) (k:EVal→H→Prop),INV i s N l→i<256→L[i]? = some t→okP t→eE s t=0 →
   (∀N' l',INV (i+1) (nxt (mvd s t)) N' l'→lookG l' N0=lookG l N0→k (.tup []) (mkH N' l' m kk)) →
   CallT Tryz.prog gT (aN (KRx X)) fc ([.int .i64 (i:Nat),.lptr (eTn (dA s t)) 0]++caps) (mkH (N+1) ((N,x)::(N,y)::l) m kk) k)
  (hkB:256<L.length→k (.tup [.int .i64 0,.int .i64 0,.int .i64 5]) (mkH N0 l0 m kk))
  (hkE:∀(i:Nat) (s:St) (N:Nat) (l:List (Nat×Option b8)) (t:Pl) (x y:Option b8),INV i s N l→L.length≤256→L[i]? = some t→eE s t≠0→k (.tup [.int .i64 (i:Nat),.int .i64 (nN s t),.int .i64 (eE s t)]) (mkH (N+1) ((N,x)::(N,y)::l) m kk))
  (hkO:∀s N l,INV L.length s N l→L.length≤256→k (.tup [.int .i64 0,.int .i64 0,.int .i64 0]) (mkH N l m kk)) :
  CallT Tryz.prog gT (aN (KRx X)) 27 [.lsl (gI L),.func fc caps] (mkH N0 l0 m kk) k:=by
 refine CallT.intro Tryz.func27 rfl ?_;refine Top.view (View.start (n:=43) rfl (by simp)) (aQ noNG _ _ _ _ ?_);have hN1:N0<16000:=by omega
 have hkm:∀(h:H) (args:List EVal),kcall Tryz.prog (aN (KRx X)) h fc args=none:=fun h a=>wI hfk;have h22:=e22;simp only [eSt,a6]at h22;by_cases hbig:256<L.length
 · have q1:decide ((256:Int)<(L.length:Int))=true:=by simp;omega
   (try simp only [dS,SS,rG,aC,Nat.reduceLT,Nat.reduceEqDiff,reduceCtorEq,bM,q1]);exact sK (es:=[.int .i64 0,.int .i64 0,.int .i64 5]) (.inl rfl) rfl (by simp only [SS,rG,Nat.reduceLT,Nat.reduceEqDiff,reduceCtorEq]) (hkB hbig)
 have q1:decide ((256:Int)<(L.length:Int))=false:=by simp;omega
 (try simp only [dS,SS,rG,kcall,setRange,aC,Nat.reduceLT,Nat.reduceEqDiff,Nat.reduceAdd,reduceCtorEq,bM,q1,hN1,h22]);refine kC (Top.loop (I:=fun s:{ x:Nat×St×Nat×List (Nat×Option b8) // x.1≤L.length∧INV x.1 x.2.1 x.2.2.1 x.2.2.2∧lookG x.2.2.2 N0=some (ownX x.2.1) }=>(mkF 43 [(19,.int .i64 (s.1.1:Nat)),(18,.int .i64 (L.length:Nat)),(17,.lsl (gI L)),(7,.ptr N0 0),(1,.func fc caps)],mkH s.1.2.2.1 s.1.2.2.2 m kk)) (μ:=fun s=>L.length-s.1.1) ⟨(0,a6,N0+1,_),by simp,hI0 _ _,by simp only [lookG,if_true];rfl⟩ (View.sub (by simp [look])) ?_);rintro⟨⟨i,s,N,l⟩,hi,hI,hown⟩;dsimp only at hi hI hown;refine aQ noNG _ _ _ _ ?_;dsimp only;obtain⟨hN2,hN3⟩:=hIN _ _ _ _ hI;unfold ownX at hown;by_cases hlt:i<L.length;rotate_left
 · obtain rfl:i=L.length:=by omega
   have q2:decide ((L.length:Int)<(L.length:Int))=false:=by simp
   (try simp only [SS,aC,Nat.reduceLT,Nat.reduceEqDiff,q2]);exact sK (es:=[.int .i64 0,.int .i64 0,.int .i64 0]) (.inl rfl) rfl (by simp only [SS,rG,Nat.reduceLT,Nat.reduceEqDiff]) (hkO _ _ _ hI (by omega))
 obtain⟨t,ht⟩:∃t,L[i]? = some t:=⟨L[i],List.getElem?_eq_getElem hlt⟩;have okt:=hok t (List.mem_of_getElem? ht);have q2:decide ((i:Int)<(L.length:Int))=true:=by simp;omega
 have q3:IntKind.i64.wrap ((i:Int)+1)=((i+1:Nat):Int):=by rw [d7]<;>omega
 have hNN:N<16000:=by omega
 have n0:(N=N0)=False:=by simp only [eq_iff_iff,iff_false];omega
 have n1:(N0=N)=False:=by simp only [eq_iff_iff,iff_false];omega
 have e1:vI t=[.str t.p,.str t.e,.bool t.l,.lsl (qX t.m)]:=rfl;by_cases he:eE s t=0;rotate_left
 · have h85:=e85_bad okt he;simp only [eSt,e1]at h85;have q4:(eE s t==0)=false:=by simpa using he
   (try simp only [SS,rG,kcall,setRange,aC,Nat.reduceLT,Nat.reduceEqDiff,Nat.reduceAdd,iK,ht,e1,q2,hNN,hown,hN1,n0,h85,q4]);exact sK (es:=[.int .i64 (i:Nat),.int .i64 (nN s t),.int .i64 (eE s t)]) (.inl rfl) rfl (by simp only [SS,rG,Nat.reduceLT,Nat.reduceEqDiff]) (hkE _ _ _ _ _ _ _ hI (by omega) ht he)
 have h85:=bjP okt he;simp only [eSt,e1]at h85;have h86:=e86 okt he;simp only [eSt]at h86;(try simp only [SS,rG,kcall,setRange,aC,Nat.reduceLT,Nat.reduceEqDiff,Nat.reduceAdd,iK,ht,e1,q2,hNN,hown,hN1,n0,h85,hfc,↓hkm]);refine hC i s N l t _ _ _ hI (by omega) ht okt he fun N' l' hI' hl'=>?_;rw [hown]at hl';(try simp only [SS,rG,kcall,setRange,aC,Nat.reduceLT,Nat.reduceEqDiff,Nat.reduceAdd,hN1,hl',h86,q3]);exact⟨⟨(i+1,nxt (mvd s t),N',_),hlt,hI1 _ _ _ _ _ hI',by simp only [lookG,if_true];rfl⟩,by show L.length-(i+1)<L.length-i;omega,View.sub (by simp [look])⟩
end Go.Ev
namespace Go.Ev
open Go.RowKit Go.Proofs
set_option linter.defProp false
def ayp:=Ai (Ai (@TFT) (@call29)) (@Tryz.results28)
set_option maxRecDepth 20000
set_option maxHeartbeats 8000000
def eHf (h:Hf):List EVal:=[.int .i64 h.inn,.int .i64 h.side,.int .i64 h.frm,.int .i64 h.to,.int .i64 h.runs,.int .i64 h.turns,.int .i64 h.outs,.int .i64 h.left]
def dO (l:List Hf):List (List EVal):=l.map eHf
def cP (l:List Hf):List EVal:=(dO l).flatten
theorem kK (l:List Hf):(dO l).length=l.length:=by simp [dO]
theorem dW (h:Hf):(eHf h).length=8:=rfl
theorem vHf_c (h:Hf):V.cs (rHf.v h)=eHf h:=by show V.cs [V.int .i64 h.inn,V.int .i64 h.side,V.int .i64 h.frm,V.int .i64 h.to,V.int .i64 h.runs,V.int .i64 h.turns,V.int .i64 h.outs,V.int .i64 h.left]=_;simp only [V.cs,V.c,eHf]
theorem akR (l:List Hf):((Cod.list hf0 rHf).v l).c=.lsl (dO l):=by have h1:(V.el (l.map rHf.v)).c=((Cod.list hf0 rHf).v l).c:=aS;refine h1.symm.trans ?_;rw [V.c,V.css_map,List.map_map,dO];exact congrArg EVal.lsl (List.map_congr_left fun p _=>vHf_c p)
theorem eX (q:Hf) (l:List Hf):cP (q::l)=eHf q++cP l:=by simp [cP,dO]
theorem bA (l:List Hf):(cP l).length=l.length*8:=by
 induction l with
 | nil=>rfl| cons q l ih=>rw [eX,List.length_append,ih,dW,List.length_cons];omega
theorem wY (l:List Hf) (q:Hf):cP (l++[q])=cP l++eHf q:=by simp [cP,dO]
theorem wX (l:List Hf):(cP l).take (l.length*8)=cP l:=by rw [←bA l,List.take_length]
theorem tL (l:List Hf):keepL (cP l)=some (cP l):=by
 induction l with
 | nil=>rfl| cons q l ih=>rw [eX];exact fA (rfl:keepL (eHf q)=some (eHf q)) ih
theorem uG (l:List Hf):chunk 8 l.length (cP l)=dO l:=by
 induction l with
 | nil=>rfl| cons q l ih=>rw [eX];show(eHf q++cP l).take 8::chunk 8 l.length ((eHf q++cP l).drop 8)=_;rw [List.take_left' (dW q),List.drop_left' (dW q),ih];rfl
theorem zG {l:List Hf}{k:Nat}{q:Hf}(h:l[k]? = some q):((cP l).drop (k*8)).take 8=eHf q:=by
 induction l generalizing k with
 | nil=>cases h| cons x l ih=>
   rw [eX];cases k with
   | zero=>simp only [List.getElem?_cons_zero,Oi]at h;subst h;rw [Nat.zero_mul,List.drop_zero,List.take_left' (dW x)]| succ k=>simp only [List.getElem?_cons_succ]at h;rw [show(k+1)*8=(eHf x).length+k*8 by rw [dW];omega,List.drop_append,List.drop_of_length_le (by omega),Nat.add_sub_cancel_left,List.nil_append];exact ih h
theorem aqu {l:List Hf}{k:Nat}{q:Hf}(h:l[k]? = some q) {j:Nat}(hj:j<8):(cP l)[k*8+j]? = (eHf q)[j]? := by have:=zG h;rw [←this,List.getElem?_take_of_lt hj,List.getElem?_drop]
theorem aqt {l:List Hf}{k:Nat}{q:Hf}(hk:k<l.length):setRange (cP l) (k*8) (eHf q)=cP (l.set k q):=by
 unfold setRange;induction l generalizing k with
 | nil=>simp at hk| cons x l ih=>
   rw [eX];cases k with
   | zero=>rw [List.set_cons_zero,eX,Nat.zero_mul,List.take_zero,List.nil_append,dW,Nat.zero_add,List.drop_left' (dW x)]| succ k=>
     rw [List.set_cons_succ,eX,←ih (by simpa using hk)];have e:(k+1)*8=(eHf x).length+k*8:=by rw [dW];omega
     rw [e,Nat.add_assoc,List.take_length_add_append,List.drop_length_add_append,List.append_assoc,List.append_assoc,List.append_assoc]
def HL (c7:Nat) (v:EVal) (ps:List Hf) (N:Nat) (l:List (Nat×Option b8)):Prop:=(v=.nilslice∧ps=[])∨∃id,c7<id∧id<N∧v=.slice id 0 ps.length (.slack 0)∧lookG l id=some (.row (cP ps) 40 0 0 true)
theorem bzP {c7:Nat}{v:EVal}{ps:List Hf}{N:Nat}{l:List (Nat×Option b8)}(h:HL c7 v ps N l):v.cells=[v]∧v.one=true∧allOne [v]=true∧v.kept=false∧∀h,eLen Tryz.prog h 25 v=some (.int .i64 (ps.length:Nat)):=by rcases h with⟨rfl,rfl⟩ | ⟨id,_,_,rfl,_⟩<;>exact⟨rfl,rfl,rfl,rfl,fun h=>by simp only [SS,ayp]⟩
theorem HL_put {c7 j:Nat}{v:EVal}{ps:List Hf}{N:Nat}{l:List (Nat×Option b8)}{x:Option b8}(hj:j≤c7) (h:HL c7 v ps N l):HL c7 v ps N ((j,x)::l):=by
 rcases h with h|⟨id,h1,h2,h3,h4⟩;· exact .inl h
 · exact .inr ⟨id,h1,h2,h3,by rw [lookG.eq_2,if_neg (by omega)];exact h4⟩
theorem HL_new {c7:Nat}{v:EVal}{ps:List Hf}{N:Nat}{l:List (Nat×Option b8)}{x y:Option b8}(h:HL c7 v ps N l):HL c7 v ps (N+1) ((N,x)::(N,y)::l):=by
 rcases h with h|⟨id,h1,h2,h3,h4⟩;· exact .inl h
 · exact .inr ⟨id,h1,by omega,h3,by rw [lookG.eq_2,if_neg (by omega),lookG.eq_2,if_neg (by omega)];exact h4⟩
theorem avX {c7:Nat}{v:EVal}{ps:List Hf}{q:Hf}{N m:Nat}{l:List (Nat×Option b8)}{kk:List (Nat×Option (Nat×TypeId))}(h:HL c7 v ps N l) (hc:c7<N) (hN:N<16000) (hlen:ps.length≤1000) :
  ∃v2 l2,eAppend Tryz.prog (mkH N l m kk) 25 v (.lsl [[.int .i64 q.inn,.int .i64 q.side,.int .i64 q.frm,.int .i64 q.to,.int .i64 q.runs,.int .i64 q.turns,.int .i64 q.outs,.int .i64 q.left]])=some (v2,mkH (N+1) l2 m kk)∧v2=.slice N 0 (ps.length+1) (.slack 0)∧lookG l2 N=some (.row (cP (ps++[q])) 40 0 0 true)∧∀i,i≤c7→lookG l2 i=lookG l i:=by
 have g2:a8 8 [[EVal.int .i64 q.inn,EVal.int .i64 q.side,EVal.int .i64 q.frm,EVal.int .i64 q.to,EVal.int .i64 q.runs,EVal.int .i64 q.turns,EVal.int .i64 q.outs,EVal.int .i64 q.left]]=true:=rfl;rcases h with⟨rfl,rfl⟩ | ⟨id,hlo2,hid,rfl,hl⟩
 · have g1:decide (64*1≤1000000)=true:=by decide
   refine⟨.slice N 0 1 (.slack 0),(N,some (.row (eHf q) 40 0 0 true))::l,?_,rfl,by simp [lookG,cP,dO],?_⟩;· simp only [SS,ayp,Nat.reduceLeDiff,reduceCtorEq,g2];rfl
   · intro i hi;rw [lookG.eq_2,if_neg (by omega)]
 · have hid0:id<16000:=by omega
   have g1:decide (64*(ps.length+1)≤1000000)=true:=by simp;omega
   have g3:((ps.length+1)*8≤ps.length*8)=False:=by simp only [eq_iff_iff,iff_false];omega
   refine⟨.slice N 0 (ps.length+1) (.slack 0),(N,some (.row (cP ps++eHf q) 40 0 0 true))::(id,none)::l,?_,rfl,by rw [wY];simp [lookG],?_⟩;· simp only [SS,ayp,setRange,Nat.reduceAdd,reduceCtorEq,hid0,hl,g1,g2,g3,bA,wX];rfl
   · intro i hi;rw [lookG.eq_2,if_neg (by omega),lookG.eq_2,if_neg (by omega)]
noncomputable def longS (h:Hf) (i:Nat) (s:St) (t:Pl):Hf:=⟨h.inn,h.side,h.frm,IntKind.i64.wrap ((i:Int)+1),IntKind.i64.wrap (h.runs+runsN s t),if t.e=[]then h.turns else IntKind.i64.wrap (h.turns+1),outsI s t,((jI s t).length:Nat)⟩
def mU (l:List Hf) (s:St):Bool:=match l.getLast? with
 | none=>true| some h=>!(h.inn==s.inn)||!(h.side==s.half)
def withH (l:List Hf) (i:Nat) (s:St):List Hf:=if mU l s=true then l++[⟨s.inn,s.half,(i:Nat),0,0,0,0,0⟩]else l
noncomputable def sQ (l:List Hf) (i:Nat) (s:St) (t:Pl):List Hf:=(withH l i s).set ((withH l i s).length-1) (longS ((withH l i s).getLastD hf0) i s t)
noncomputable def F103:List EVal→Option EVal:=fOf bx9 (Cod.agg rHf) Sz103
theorem fn103:FnT 29 F103:=Kz103.ok
theorem s103 {s:St}{t:Pl}(A:Acc s t) (h:Hf) (i:Nat):Sz103 (h,(i:Int),dA s t,())=some (longS h i s t):=by
 have e89:azm (dA s t,())=some (fU (outsI s t) t.l t.m):=s89 (s:=dA s t) A.mv;have e93:=s93 A.mv (mY A.st).half A.good;have e145:rQ (dA s t,())=some (decide (t.e=[])):=rfl;show Ez103 h (i:Int) (dA s t)=_;unfold Ez103 Tz103;simp only [TS,w6];rw [e89,obind_some,e145,obind_some];unfold longS runsN;by_cases he:t.e=[];· simp only [he,decide_true,Bool.not_true,cond_false,e93,obind_some,if_true];rfl
 · simp only [he,decide_false,Bool.not_false,cond_true,e93,obind_some,if_false];rfl
theorem e103 {s:St}{t:Pl}(A:Acc s t) (h:Hf) (i:Nat):F103 [.agg (eHf h),.int .i64 (i:Nat),.lptr (eTn (dA s t)) 0]=some (.agg (eHf (longS h i s t))):=by
 have e:V.cs (bx9.v (h,(i:Int),dA s t,()))=[.agg (eHf h),.int .i64 (i:Nat),.lptr (eTn (dA s t)) 0]:=by show V.cs [V.agg (rHf.v h),V.int .i64 (i:Int),V.lptr (rTn.v (dA s t)) 0]=_;simp only [V.cs,V.c,eTn,vHf_c]
 rw [←e];unfold F103 fOf;rw [bx9.rt,Option.bind_some,s103 A h i];show some ((V.agg (rHf.v _)).c)=_;rw [V.c,vHf_c]
theorem eTn0 {s:St}{t:Pl}:(eTn (dA s t))[0]? = some (.int .i64 s.inn):=by show(V.cs (V.int .i64 s.inn::_))[0]? = _;rw [V.cs,V.c];rfl
theorem eTn1 {s:St}{t:Pl}:(eTn (dA s t))[1]? = some (.int .i64 s.half):=by show(V.cs (V.int .i64 s.inn::V.int .i64 s.half::_))[1]? = _;rw [V.cs,V.cs,V.c,V.c];rfl
end Go.Ev
namespace Go.Ev
open Go.RowKit Go.Proofs
set_option linter.defProp false
def j5:=Ai (Ai (@TFT) (@call29)) (@Tryz.results28)
set_option maxRecDepth 20000
set_option maxHeartbeats 8000000
theorem Top.join {A:Option Nat}{P:Program}{g:G}{K:aW}{x y:Code}{f:EFr}{h:H}{Q:fM}{σ:Type}(hng:mH P) (F2:σ→EFr) (H2:σ→H)
  (H1:∀R:fM,(∀s f1 h1,View A P f1 h1 (F2 s) (H2 s)→R .normal f1 h1)→wp A P g K x f h R) (H3:∀s,Top A P g K y (F2 s) (H2 s) Q):Top A P g K (.seq x y) f h Q:=
 Top.seq (aQ hng _ _ _ _ (H1 _ fun s _ _ v=>Top.view v (H3 s)))
theorem zZ (l:List Hf) (i:Nat) (s:St):0<(withH l i s).length:=by
 unfold withH;split;· simp
 · rename_i h;cases l with
   | nil=>exact absurd rfl h| cons a l=>simp
theorem azz (l:List Hf) (i:Nat) (s:St):(withH l i s)[(withH l i s).length-1]? = some ((withH l i s).getLastD hf0):=by have:=zZ l i s;rw [List.getLastD_eq_getLast?,List.getLast?_eq_getElem?,List.getElem?_eq_getElem (by omega)];rfl
theorem ct102 {i:Nat}{s:St}{t:Pl}{ps:List Hf}{v:EVal}{N:Nat}{l:List (Nat×Option b8)}{kk:List (Nat×Option (Nat×TypeId))}{k:EVal→H→Prop}
  (A:Acc s t) (hS:HL 1 v ps N l) (hN:N<15000) (h1N:1<N) (hlen:ps.length≤900) (hb:lookG l 0=some (.row [v] 25 0 0 false))
  (hk:∀v2 N2 l2,N≤N2→N2≤N+1→HL 1 v2 (sQ ps i s t) N2 l2→lookG l2 0=some (.row [v2] 25 0 0 false)→lookG l2 1=lookG l 1→k (.tup []) (mkH N2 l2 128 kk)) :
  CallT Tryz.prog gT (aN (KRx [(29,F103)])) 28 [.int .i64 (i:Nat),.lptr (eTn (dA s t)) 0,.ptr 0 0] (mkH N l 128 kk) k:=by
 refine CallT.intro Tryz.func28 rfl ?_;refine Top.view (View.start (n:=64) rfl (by simp)) ?_;obtain⟨o1,o2,o3,o4,oL⟩:=bzP hS;have hN0:N<16000:=by omega
 refine Top.join (σ:=Unit) noNG (fun _=>mkF 64 [(5,.int .i64 (IntKind.i64.wrap ((ps.length:Int)-1))),(2,.ptr 0 0),(1,.lptr (eTn (dA s t)) 0),(0,.int .i64 (i:Nat))]) (fun _=>mkH N l 128 kk) ?_ ?_;· intro R hR;(try simp only [dS,SS,j5,aC,Nat.reduceLT,Nat.reduceEqDiff,Nat.reduceAdd,reduceCtorEq,hb,oL]);exact hR () _ _ (View.sub (by simp [look]))
 rintro⟨⟩;refine Top.join (σ:={ x:Nat×Nat×List (Nat×Option b8) // 1<x.1∧x.1<x.2.1∧N≤x.2.1∧x.2.1≤N+1∧lookG x.2.2 x.1=some (.row (cP (withH ps i s)) 40 0 0 true)∧lookG x.2.2 0=some (.row [.slice x.1 0 (withH ps i s).length (.slack 0)] 25 0 0 false)∧lookG x.2.2 1=lookG l 1 }) noNG
  (fun _=>mkF 64 [(5,.int .i64 (((withH ps i s).length-1:Nat):Int)),(2,.ptr 0 0),(1,.lptr (eTn (dA s t)) 0),(0,.int .i64 (i:Nat))]) (fun x=>mkH x.1.2.1 x.1.2.2 128 kk) ?_ ?_
 · intro R hR;have b0:=eTn0 (s:=s) (t:=t);have b1:=eTn1 (s:=s) (t:=t);obtain⟨v2,l2,hap,hv2,hl2,F2⟩:=avX (q:=⟨s.inn,s.half,(i:Nat),0,0,0,0,0⟩) (m:=128) (kk:=kk) hS h1N hN0 (by omega);dsimp only at hap;have hb2:lookG l2 0=some (.row [v] 25 0 0 false):=(F2 0 (by omega)).trans hb;have p1:v2.cells=[v2]:=by rw [hv2];rfl
   have p2:v2.one=true:=by rw [hv2];rfl
   have p3:allOne [v2]=true:=by rw [hv2];rfl
   have p4:v2.kept=false:=by rw [hv2];rfl
   have w2:IntKind.i64.wrap (IntKind.i64.wrap ((ps.length:Int)-1)+1)=((ps.length:Nat):Int):=by
    by_cases h0:ps.length=0;· rw [h0];decide
    · rw [bD (n:=(ps.length:Int)-1) (by omega) (by omega),bD (by omega) (by omega)];omega
   have fin:∀fl,mU ps s=true→look fl 5=some (.int .i64 ((ps.length:Nat):Int))→look fl 2=some (.ptr 0 0)→look fl 1=some (.lptr (eTn (dA s t)) 0)→look fl 0=some (.int .i64 (i:Nat))→R .normal (mkF 64 fl) (mkH (N+1) ((0,some (.row [v2] 25 0 0 false))::l2) 128 kk):=by
    intro fl ho e5 e2 e1 e0;have hw:withH ps i s=ps++[⟨s.inn,s.half,(i:Nat),0,0,0,0,0⟩]:=by unfold withH;rw [if_pos ho]
    have hwl:(withH ps i s).length=ps.length+1:=by rw [hw];simp
    refine hR ⟨(N,N+1,(0,some (.row [v2] 25 0 0 false))::l2),h1N,by show N<N+1;omega,by show N≤N+1;omega,Nat.le_refl _,?_,?_,?_⟩ _ _ (View.sub ?_);· rw [lookG.eq_2,if_neg (by omega),hl2,hw]
    · simp only [lookG,if_true];rw [hv2,hwl]
    · rw [lookG.eq_2,if_neg (by omega)];exact F2 1 (by omega)
    · rw [hwl,Nat.add_sub_cancel];intro p hp;simp only [List.mem_cons,List.not_mem_nil,or_false]at hp;rcases hp with rfl|rfl|rfl|rfl;· exact⟨by simp,e5⟩
      · exact⟨by simp,e2⟩
      · exact⟨by simp,e1⟩
      · exact⟨by simp,e0⟩
   by_cases h0:ps.length=0
   · have hop:mU ps s=true:=by rw [List.length_eq_zero_iff.1 h0];rfl
     have e5:IntKind.i64.wrap ((ps.length:Int)-1)=-1:=by rw [h0];decide
     have e6:IntKind.i64.wrap (-1+1)=((ps.length:Nat):Int):=by rw [h0];decide
     have q0:decide ((-1:Int)<0)=true:=by decide
     rw [e5];(try simp only [SS]);refine aM (Top.draw mixed noNG (by kernel_rfl) ?_);(try simp only [SS,Nat.reduceLT,Nat.reduceEqDiff,reduceCtorEq,q0]);refine⟨by kernel_rfl,?_⟩;(try simp only [dS,SS,j5,kcall,setRange,jC,aC,aZ,fC,cG,bI,aD,Nat.reduceLT,Nat.reduceEqDiff,Nat.reduceAdd,Nat.reduceMul,Nat.reduceSub,Nat.reduceLeDiff,Nat.reduceBEq,reduceCtorEq]);refine aM (Top.draw mixed noNG (by kernel_rfl) ?_);(try simp only [SS,j5,setRange,jC,aC,bI,aD,Nat.reduceLT,Nat.reduceEqDiff,Nat.reduceAdd,Nat.reduceMul,Nat.reduceLeDiff,reduceCtorEq,hb,b0,b1,p1,p3,p4,↓hap,hb2]);refine⟨by kernel_rfl,?_⟩;(try simp only [e6]);exact fin _ hop (by simp [look]) (by simp [look]) (by simp [look]) (by simp [look])
   obtain⟨k,hk1⟩:∃k,ps.length=k+1:=⟨ps.length-1,by omega⟩;rcases hS with⟨_,rfl⟩ | ⟨id,i1,i2,rfl,i4⟩;· exact absurd rfl h0
   obtain⟨h,hh⟩:∃h,ps[k]? = some h:=⟨ps[k],List.getElem?_eq_getElem (by omega)⟩;have hlast:ps.getLast? = some h:=by rw [List.getLast?_eq_getElem?,hk1];exact hh
   have hopen:mU ps s=(!(h.inn==s.inn)||!(h.side==s.half)):=by unfold mU;rw [hlast]
   have c0:=aqu hh (j:=0) (by omega);have c1:=aqu hh (j:=1) (by omega);have e5:IntKind.i64.wrap ((ps.length:Int)-1)=(k:Int):=by rw [bD (by omega) (by omega)];omega
   have e6:IntKind.i64.wrap ((k:Int)+1)=((ps.length:Nat):Int):=by rw [bD (by omega) (by omega)];omega
   have q0:decide ((k:Int)<0)=false:=by simp
   have b2:((k:Int)<((ps.length:Nat):Int))=True:=by simp only [eq_iff_iff,iff_true];omega
   have hid0:id<16000:=by omega
   have d0:(eHf h)[0]? = some (.int .i64 h.inn):=rfl;have d1:(eHf h)[1]? = some (.int .i64 h.side):=rfl;rw [d0]at c0;rw [d1]at c1;rw [e5];cases hq1:(h.inn==s.inn)with
   | false=>
     have hop:mU ps s=true:=by rw [hopen,hq1];rfl
     (try simp only [SS]);refine aM (Top.draw mixed noNG (by kernel_rfl) ?_);(try simp only [SS,j5,Nat.reduceLT,Nat.reduceEqDiff,reduceCtorEq,hb,b0,q0,b2,hid0,i4,c0,hq1]);refine⟨by kernel_rfl,?_⟩;(try simp only [dS,SS,j5,kcall,setRange,jC,aC,aZ,fC,cG,bI,aD,Nat.reduceLT,Nat.reduceEqDiff,Nat.reduceAdd,Nat.reduceMul,Nat.reduceSub,Nat.reduceLeDiff,Nat.reduceBEq,reduceCtorEq]);refine aM (Top.draw mixed noNG (by kernel_rfl) ?_);(try simp only [SS,j5,setRange,jC,aC,bI,aD,Nat.reduceLT,Nat.reduceEqDiff,Nat.reduceAdd,Nat.reduceMul,Nat.reduceLeDiff,reduceCtorEq,hb,b0,b1,p1,p3,p4,↓hap,hb2]);refine⟨by kernel_rfl,?_⟩;(try simp only [e6]);exact fin _ hop (by simp [look]) (by simp [look]) (by simp [look]) (by simp [look])
   | true=>
   cases hq2:(h.side==s.half)with
   | false=>
     have hop:mU ps s=true:=by rw [hopen,hq1,hq2];rfl
     (try simp only [SS]);refine aM (Top.draw mixed noNG (by kernel_rfl) ?_);(try simp only [SS,j5,Nat.reduceLT,Nat.reduceEqDiff,reduceCtorEq,hb,b0,b1,q0,b2,hid0,i4,c0,c1,hq1,hq2]);refine⟨by kernel_rfl,?_⟩;(try simp only [dS,SS,j5,kcall,setRange,jC,aC,aZ,fC,cG,bI,aD,Nat.reduceLT,Nat.reduceEqDiff,Nat.reduceAdd,Nat.reduceMul,Nat.reduceSub,Nat.reduceLeDiff,Nat.reduceBEq,reduceCtorEq]);refine aM (Top.draw mixed noNG (by kernel_rfl) ?_);(try simp only [SS,j5,setRange,jC,aC,bI,aD,Nat.reduceLT,Nat.reduceEqDiff,Nat.reduceAdd,Nat.reduceMul,Nat.reduceLeDiff,reduceCtorEq,hb,b0,b1,p1,p3,p4,↓hap,hb2]);refine⟨by kernel_rfl,?_⟩;(try simp only [e6]);exact fin _ hop (by simp [look]) (by simp [look]) (by simp [look]) (by simp [look])
   | true=>
     have hop:mU ps s=false:=by rw [hopen,hq1,hq2];rfl
     (try simp only [SS]);refine aM (Top.draw mixed noNG (by kernel_rfl) ?_);(try simp only [SS,j5,Nat.reduceLT,Nat.reduceEqDiff,reduceCtorEq,hb,b0,b1,q0,b2,hid0,i4,c0,c1,hq1,hq2]);refine⟨by kernel_rfl,?_⟩;(try simp only [dS,SS,j5,kcall,setRange,jC,aC,aZ,fC,cG,bI,aD,Nat.reduceLT,Nat.reduceEqDiff,Nat.reduceAdd,Nat.reduceMul,Nat.reduceSub,Nat.reduceLeDiff,Nat.reduceBEq,reduceCtorEq]);have hw:withH ps i s=ps:=by unfold withH;rw [if_neg (by rw [hop];simp)]
     refine hR ⟨(id,N,l),i1,i2,Nat.le_refl _,Nat.le_succ _,?_,?_,rfl⟩ _ _ (View.sub ?_);· rw [hw];exact i4
     · rw [hw];exact hb
     · rw [hw,hk1,Nat.add_sub_cancel];simp [look]
 · rintro ⟨⟨id,N',l'⟩,i1,i2,i3,i4,i5,i6,i7⟩;dsimp only at i1 i2 i3 i4 i5 i6 i7;have hp:=zZ ps i s;have hl:=azz ps i s;have hL:(withH ps i s).length≤ps.length+1:=by unfold withH;split<;>simp
   generalize hW:withH ps i s=W at *
   generalize hG:W.getLastD hf0=G at *
   obtain⟨k,hk1⟩:∃k,W.length=k+1:=⟨W.length-1,by omega⟩;have hk2:W.length-1=k:=by omega
   rw [hk2]at hl;have h103:=e103 A G i;simp only [eHf]at h103;have tk:=zG hl;simp only [eHf]at tk;have hset:=aqt (l:=W) (k:=k) (q:=longS G i s t) (by omega);simp only [eHf]at hset;have b2:((k:Int)<((W.length:Nat):Int))=True:=by simp only [eq_iff_iff,iff_true];omega
   have b3:(k*8+8≤W.length*8)=True:=by simp only [eq_iff_iff,iff_true];omega
   have hid0:id<16000:=by omega
   refine aQ noNG _ _ _ _ ?_;refine aM (Top.draw mixed noNG (by kernel_rfl) ?_);(try simp only [SS,j5,kcall,Nat.reduceLT,Nat.reduceEqDiff,Nat.reduceAdd,reduceCtorEq,hk2,i6,i5,hid0,b2,b3,tk,h103,bA,↓hset]);refine⟨by kernel_rfl,?_⟩;have hst:sQ ps i s t=W.set k (longS G i s t):=by unfold sQ;rw [hW,hG,hk2]
   refine sK (es:=[]) (.inr rfl) rfl rfl (hk (.slice id 0 W.length (.slack 0)) N' _ i3 i4 (.inr ⟨id,i1,i2,by rw [hst,List.length_set],by rw [hst];simp only [lookG,if_true]⟩) ?_ ?_);· rw [lookG.eq_2,if_neg (by omega)];exact i6
   · rw [lookG.eq_2,if_neg (by omega)];exact i7
end Go.Ev
namespace Go.Ev
open Go.RowKit Go.Proofs
set_option linter.defProp false
def avg:=Ai (Ai (@TFT) (@call27)) (@Tryz.results6)
set_option maxRecDepth 20000
set_option maxHeartbeats 8000000
noncomputable def pF:Nat→List Hf→St→List Pl→List Hf×Int
 | _,acc,_,[]=>(acc,0)| i,acc,s,t::L=>if eE s t≠0 then([],eE s t)else pF (i+1) (sQ acc i s t) (nxt (mvd s t)) L
theorem iR {i:Nat}{acc:List Hf}{s:St}{t:Pl}{L:List Pl}:pF i acc s (t::L)=if eE s t≠0 then([],eE s t)else pF (i+1) (sQ acc i s t) (nxt (mvd s t)) L:=rfl
noncomputable def halv (L:List Pl):List Hf×Int:=if 256<L.length then([],5)else pF 0 [] a6 L
theorem ak2 (l:List Hf) (i:Nat) (s:St) (t:Pl):(sQ l i s t).length≤l.length+1:=by unfold sQ withH;rw [List.length_set];split<;>simp
abbrev cG48:Cod (List Hf×Int×Unit):=Cod.tup (Row.cons (Cod.list hf0 rHf) (Row.cons cI Row.nil))
def Ag48:Row (List Pl×Unit):=Row.cons (Cod.list pl0 rPl) Row.nil
noncomputable def bxN (x:List Pl×Unit):Option (List Hf×Int×Unit):=if gOK x.1=true then some ((halv x.1).1,(halv x.1).2,())else none
theorem c48 (l:List Hf) (a:Int):(cG48.v (l,a,())).c=.tup [.lsl (dO l),.int .i64 a]:=by show(V.tup [(Cod.list hf0 rHf).v l,V.int .i64 a]).c=_;simp only [V.c,V.cs,akR]
structure HInv (L:List Pl) (i:Nat) (s:St) (N:Nat) (l:List (Nat×Option b8)):Prop where
 hN:N≤5+3*i
 hN2:1<N
 dat:∃acc v,(L.length≤256→halv L=pF i acc s (L.drop i))∧acc.length≤i∧HL 1 v acc N l∧lookG l 0=some (.row [v] 25 0 0 false)
theorem fn48:FnT 6 (fOf Ag48 cG48 bxN):=by
 refine Fn.intro mixed noNG Tryz.func6 rfl (KRx [(29,F103)]) (by simp only [KRx,List.forall_mem_cons];exact⟨fn85,fn86,fn22,fn103,fun _ h=>by cases h⟩) ?_;intro args v hF;obtain⟨⟨L,⟨⟩⟩,r,rfl,hs,rfl⟩:=jN hF;unfold bxN at hs;split at hs;rotate_left;· cases hs
 rename_i hg;cases hs;obtain⟨hlen,hok⟩:=ajz hg;dsimp only at hlen hok;have a48:V.cs (Ag48.v (L,()))=[.lsl (gI L)]:=a43 L;rw [a48,c48];intro Q hV;have hQ:=Viewed.of hV;clear hF hg;refine Top.view (View.start (n:=19) rfl (by simp)) (aQ noNG _ _ _ _ ?_);have hkm:∀(h:H) (args:List EVal),kcall Tryz.prog (aN (KRx [(29,F103)])) h 27 args=none:=fun h a=>wI fun a=>rfl;have e1:∀(h:H) (cs:List EVal),cU h 28 #[] (some []) (some cs)=some (.val (.func 28 cs) h):=fun _ _=>rfl;(try simp only [dS,SS,avg,aC,Nat.reduceLT,Nat.reduceEqDiff,reduceCtorEq,e1,↓hkm]);refine CallT.inn (HV.mode (m':=128) (by decide)) ?_;refine ct99x (N0:=1) (INV:=HInv L) (fun h a=>call28) (fun a=>rfl) (by omega) hok (by omega) ?_ ?_ ?_ ?_ ?_ ?_ ?_;· intro x y;refine⟨by omega,by omega,[],.nilslice,?_,by simp,.inl ⟨rfl,rfl⟩,by simp [lookG]⟩;intro h;unfold halv;rw [if_neg (by omega)];rfl
 · rintro i s N l x ⟨h1,h2,acc,v,h4,h5,h6,h7⟩;exact⟨h1,h2,acc,v,h4,h5,HL_put (by omega) h6,by rw [lookG.eq_2,if_neg (by omega)];exact h7⟩
 · rintro i s N l ⟨h1,h2,-⟩;omega
 · rintro i s N l t x y k ⟨h1,h2,acc,v,h4,h5,h6,h7⟩ hi ht okt he hk;refine ct102 (ps:=acc) (v:=v) (xG okt he) (HL_new h6) (by omega) (by omega) (by omega) ?_ ?_;· rw [lookG.eq_2,if_neg (by omega),lookG.eq_2,if_neg (by omega)];exact h7
   intro v2 N2 l2 n1 n2 S2 b2 f2;refine hk _ _ ⟨by omega,by omega,sQ acc i s t,v2,?_,by have:=ak2 acc i s t;omega,S2,b2⟩ ?_;· intro hL;rw [h4 hL,aT ht,iR,if_neg (by simp [he])]
   · rw [f2,lookG.eq_2,if_neg (by omega),lookG.eq_2,if_neg (by omega)]
 · intro hbig;have hgm:halv L=([],5):=by unfold halv;rw [if_pos hbig]
   rw [hgm]at hQ;have z5:((5:Int)==0)=false:=rfl;(try simp only [SS,aC,Nat.reduceLT,Nat.reduceEqDiff,reduceCtorEq,z5]);(refine hQ _ _ _ (dQ (by first|exact .inl rfl|exact .inr rfl) ?_);simp only [SS,avg,Nat.reduceLT,Nat.reduceEqDiff,reduceCtorEq]);rfl
 · rintro i s N l t x y ⟨h1,h2,acc,v,h4,h5,h6,h7⟩ hL ht he;have hgm:halv L=([],eE s t):=by rw [h4 hL,aT ht,iR,if_pos he]
   rw [hgm]at hQ;have z5:(eE s t==0)=false:=by simpa using he
   (try simp only [SS,aC,Nat.reduceLT,Nat.reduceEqDiff,reduceCtorEq,z5]);(refine hQ _ _ _ (dQ (by first|exact .inl rfl|exact .inr rfl) ?_);simp only [SS,avg,Nat.reduceLT,Nat.reduceEqDiff,reduceCtorEq]);rfl
 · rintro s N l ⟨h1,h2,acc,v,h4,h5,h6,h7⟩ hL;have hgm:halv L=(acc,0):=by rw [h4 hL,List.drop_length];rfl
   rw [hgm]at hV;have z5:((0:Int)==0)=true:=rfl;obtain⟨o1,o2,o3,o4,o5⟩:=bzP h6;(try simp only [SS,avg,aC,Nat.reduceLT,Nat.reduceEqDiff,reduceCtorEq,h7]);rcases h6 with⟨rfl,rfl⟩ | ⟨id,_,h9,rfl,h8⟩;· refine Viewed.of hV _ _ _ ?_;refine dQ (.inl rfl) ?_;simp only [SS,avg,Nat.reduceLT,Nat.reduceEqDiff,reduceCtorEq];rfl
   · have hend:bx4 Tryz.prog gT Tryz.f6 (.tup [.lsl (dO acc),.int .i64 0]) .ret (mkF 19 [(3,.int .i64 0),(2,.lsl (dO acc))]) (mkH N [] 128 []):=by refine dQ (.inl rfl) ?_;simp only [SS,avg,Nat.reduceLT,Nat.reduceEqDiff]
     refine hV _ _ _ ⟨_,_,View.fz (sz:=8) (len:=acc.length) (fl2:=[(3,.int .i64 0),(2,.lsl (dO acc))]) (l2:=[]) (k2:=[]) id (by omega) h8 (tL _) (bA _) ?_ (by simp) (by simp),hend⟩;rw [uG];intro p hp;simp only [List.mem_cons,List.not_mem_nil,or_false]at hp;rcases hp with rfl|rfl;· exact⟨by simp,_,rfl,.inl rfl⟩
     · exact⟨by simp,_,rfl,.inr ⟨.slack 0,rfl,rfl,rfl⟩⟩
noncomputable def Kg48:Con Tryz.prog gT:=Con.of 6 Ag48 cG48 bxN fn48
end Go.Ev
namespace Go.Ev
open Go.RowKit Go.Proofs
set_option linter.defProp false
def uU:=Ai (Ai (@TFT) (@call6)) (@Tryz.results8)
set_option maxRecDepth 20000
set_option maxHeartbeats 8000000
structure P2 where
 a:Int
 b:Int
def p20:P2:=⟨0,0⟩
def rP2:Row P2:=Row.iso (Row.cons cI (Row.cons cI Row.nil)) (fun x=>⟨x.1,x.2.1⟩) (fun y=>(y.a,y.b,())) (fun _=>rfl) (fun _=>rfl)
def eP2 (h:P2):List EVal:=[.int .i64 h.a,.int .i64 h.b]
def nQ (l:List P2):List (List EVal):=l.map eP2
def eM (l:List P2):List EVal:=(nQ l).flatten
theorem vP2_c (h:P2):V.cs (rP2.v h)=eP2 h:=by show V.cs [V.int .i64 h.a,V.int .i64 h.b]=_;simp only [V.cs,V.c,eP2]
theorem bxc (l:List P2):((Cod.list p20 rP2).v l).c=.lsl (nQ l):=by have h1:(V.el (l.map rP2.v)).c=((Cod.list p20 rP2).v l).c:=aS;refine h1.symm.trans ?_;rw [V.c,V.css_map,List.map_map,nQ];exact congrArg EVal.lsl (List.map_congr_left fun p _=>vP2_c p)
theorem bK (q:P2) (l:List P2):eM (q::l)=eP2 q++eM l:=by simp [eM,nQ]
theorem cC (l:List P2):(eM l).length=l.length*2:=by
 induction l with
 | nil=>rfl| cons q l ih=>rw [bK,List.length_append,ih,List.length_cons];show 2+_=_;omega
theorem tK (l:List P2):keepL (eM l)=some (eM l):=by
 induction l with
 | nil=>rfl| cons q l ih=>rw [bK];exact fA (rfl:keepL (eP2 q)=some (eP2 q)) ih
theorem uF (l:List P2):chunk 2 l.length (eM l)=nQ l:=by
 induction l with
 | nil=>rfl| cons q l ih=>rw [bK];show(eP2 q++eM l).take 2::chunk 2 l.length ((eP2 q++eM l).drop 2)=_;rw [List.take_left' (l₁:=eP2 q) (i:=2) rfl,List.drop_left' (l₁:=eP2 q) (i:=2) rfl,ih];rfl
theorem ayX (n:Nat):jC [EVal.int .i64 0,.int .i64 0] n=eM (List.replicate n p20):=by
 induction n with
 | zero=>rfl| succ n ih=>rw [List.replicate_succ,bK,←ih];rfl
theorem ayZ {l:List P2}{k:Nat}{q:P2}(h:l[k]? = some q) (x:Int):setRange (eM l) (k*2) [.int .i64 x]=eM (l.set k ⟨x,q.b⟩):=by
 unfold setRange;induction l generalizing k with
 | nil=>cases h| cons y l ih=>
   cases k with
   | zero=>simp only [List.getElem?_cons_zero,Oi]at h;subst h;rw [List.set_cons_zero,bK,bK];rfl| succ k=>
     simp only [List.getElem?_cons_succ]at h;rw [List.set_cons_succ,bK,bK,←ih h];have e:(k+1)*2=(eP2 y).length+k*2:=by show _=2+_;omega
     rw [e,Nat.add_assoc,List.take_length_add_append,List.drop_length_add_append,List.append_assoc,List.append_assoc,List.append_assoc]
theorem ayY {l:List P2}{k:Nat}{q:P2}(h:l[k]? = some q) (x:Int):setRange (eM l) (k*2+1) [.int .i64 x]=eM (l.set k ⟨q.a,x⟩):=by
 unfold setRange;induction l generalizing k with
 | nil=>cases h| cons y l ih=>
   cases k with
   | zero=>simp only [List.getElem?_cons_zero,Oi]at h;subst h;rw [List.set_cons_zero,bK,bK];rfl| succ k=>
     simp only [List.getElem?_cons_succ]at h;rw [List.set_cons_succ,bK,bK,←ih h];have e:(k+1)*2+1=(eP2 y).length+(k*2+1):=by show _=2+_;omega
     rw [e,Nat.add_assoc,List.take_length_add_append,List.drop_length_add_append,List.append_assoc,List.append_assoc,List.append_assoc]
def putQ (c:List P2) (h:Hf):List P2:=c.set (h.inn-1).toNat (if h.side=0 then⟨h.runs,(c.getD (h.inn-1).toNat p20).b⟩else⟨(c.getD (h.inn-1).toNat p20).a,h.runs⟩)
theorem gJ (c:List P2) (h:Hf):(putQ c h).length=c.length:=by unfold putQ;rw [List.length_set]
theorem hZ (W:List Hf) (c:List P2):(W.foldl putQ c).length=c.length:=by
 induction W generalizing c with
 | nil=>rfl| cons h W ih=>rw [List.foldl_cons,ih,gJ]
def lineQ (l:List Hf):List P2:=l.foldl putQ (List.replicate (l.getLastD hf0).inn.toNat p20)
def okH (l:List Hf):Bool:=decide ((l.getLastD hf0).inn≤1000)&&(decide (l.length≤1000)&&l.all fun h=>decide (1≤h.inn)&&(decide (h.inn≤(l.getLastD hf0).inn)&&(h.side==0||h.side==1)))
noncomputable def lin (L:List Pl):List P2×Int:=if(halv L).2=0 then(lineQ (halv L).1,0)else([],(halv L).2)
abbrev cG49:Cod (List P2×Int×Unit):=Cod.tup (Row.cons (Cod.list p20 rP2) (Row.cons cI Row.nil))
def Ag49:Row (List Pl×Unit):=Row.cons (Cod.list pl0 rPl) Row.nil
noncomputable def bzO (x:List Pl×Unit):Option (List P2×Int×Unit):=if gOK x.1=true∧okH (halv x.1).1=true then some ((lin x.1).1,(lin x.1).2,())else none
theorem c49 (l:List P2) (a:Int):(cG49.v (l,a,())).c=.tup [.lsl (nQ l),.int .i64 a]:=by show(V.tup [(Cod.list p20 rP2).v l,V.int .i64 a]).c=_;simp only [V.c,V.cs,bxc]
noncomputable def F48:List EVal→Option EVal:=fOf Ag48 cG48 bxN
theorem e48 {L:List Pl}(hg:gOK L=true):F48 [.lsl (gI L)]=some (.tup [.lsl (dO (halv L).1),.int .i64 (halv L).2]):=by
 have e:V.cs (Ag48.v (L,()))=[.lsl (gI L)]:=a43 L;rw [←e];unfold F48 fOf;rw [Ag48.rt,Option.bind_some];have:bxN (L,())=some ((halv L).1,(halv L).2,()):=by unfold bxN;rw [if_pos hg]
 rw [this];show some ((cG48.v ((halv L).1,(halv L).2,())).c)=_;rw [c48]
theorem fn49:FnT 8 (fOf Ag49 cG49 bzO):=by
 refine Fn.intro mixed noNG Tryz.func8 rfl [(6,F48)] (by simp only [List.forall_mem_cons];exact⟨fn48,fun _ h=>by cases h⟩) ?_;intro args v hF;obtain⟨⟨L,⟨⟩⟩,r,rfl,hs,rfl⟩:=jN hF;unfold bzO at hs;split at hs;rotate_left;· cases hs
 rename_i hg;cases hs;obtain⟨hg,hh⟩:=hg;dsimp only at hg hh;have h48:=e48 hg;have a49:V.cs (Ag49.v (L,()))=[.lsl (gI L)]:=a43 L;rw [a49,c49];intro Q hV;have hQ:=Viewed.of hV;clear hF;refine Top.view (View.start (n:=48) rfl (by simp)) (aQ noNG _ _ _ _ ?_);unfold lin at hQ hV;generalize (halv L).1=hs at *
 generalize (halv L).2=e at *
 by_cases he:e=0;rotate_left
 · have z5:(e==0)=false:=by simpa using he
   rw [if_neg he]at hQ;(try simp only [dS,SS,uU,kcall,aC,Nat.reduceLT,Nat.reduceEqDiff,reduceCtorEq,h48,z5]);(refine hQ _ _ _ (dQ (by first|exact .inl rfl|exact .inr rfl) ?_);simp only [SS,uU,Nat.reduceLT,Nat.reduceEqDiff,reduceCtorEq]);rfl
 subst he;have z5:((0:Int)==0)=true:=rfl;rw [if_pos rfl]at hQ hV;rcases List.eq_nil_or_concat hs with rfl|⟨hi,q,rfl⟩;· have z6:(((dO []).length:Int)==0)=true:=rfl;(try simp only [dS,SS,uU,kcall,aC,Nat.reduceLT,Nat.reduceEqDiff,reduceCtorEq,h48,z6]);(refine hQ _ _ _ (dQ (by first|exact .inl rfl|exact .inr rfl) ?_);simp only [SS,uU,Nat.reduceLT,Nat.reduceEqDiff,reduceCtorEq]);rfl
 rw [List.concat_eq_append]at *
 have hl:(hi++[q]).getLastD hf0=q:=by simp
 have hq:(hi++[q])[hi.length]? = some q:=by simp
 unfold okH at hh;rw [hl]at hh;simp only [Bool.and_eq_true,decide_eq_true_eq,List.all_eq_true,Bool.or_eq_true,beq_iff_eq]at hh;obtain⟨b1,b2,b3⟩:=hh;obtain⟨q1,q2,q3⟩:=b3 q (by simp);obtain⟨n,hn⟩:∃n:Nat,q.inn=n:=⟨q.inn.toNat,by omega⟩;have hlq:lineQ (hi++[q])=(hi++[q]).foldl putQ (List.replicate n p20):=by unfold lineQ;rw [hl,hn];rfl
 rw [hlq]at hQ hV;generalize hW:hi++[q]=W at *
 have hWl:W.length=hi.length+1:=by rw [←hW];simp
 have z6:((W.length:Int)==0)=false:=beq_eq_false_iff_ne.2 (by omega);have z7:IntKind.i64.wrap ((W.length:Int)-1)=(hi.length:Int):=by rw [bD (by omega) (by omega)];omega
 have b4:((hi.length:Int)<(W.length:Int))=True:=by simp only [eq_iff_iff,iff_true];omega
 have c0:(dO W)[hi.length]? = some (eHf q):=by simp only [dO,List.getElem?_map,hq,Option.map_some]
 have mk0:(0≤(n:Int))=True:=by simp
 have mk1:((n:Int)<100000)=True:=by simp only [eq_iff_iff,iff_true];omega
 have mk2:(Tryz.prog.bytesOf 52<1000)=True:=by rw [show Tryz.prog.bytesOf 52=16 by kernel_rfl];simp
 have e2:eHf q=[.int .i64 q.inn,.int .i64 q.side,.int .i64 q.frm,.int .i64 q.to,.int .i64 q.runs,.int .i64 q.turns,.int .i64 q.outs,.int .i64 q.left]:=rfl;(try simp only [dS,SS,uU,kcall,aC,Nat.reduceLT,Nat.reduceEqDiff,Nat.reduceAdd,reduceCtorEq,h48,z6,z7,c0,e2,hn,mk1,mk2,kK]);refine kC (Top.loop (I:=fun s:{ x:Nat×Nat×List (Nat×Option b8) // x.1≤W.length∧1≤x.2.1∧x.2.1≤1+x.1∧lookG x.2.2 0=some (.row (eM ((W.take x.1).foldl putQ (List.replicate n p20))) 52 0 0 false) }=>(mkF 48 [(32,.int .i64 (s.1.1:Nat)),(31,.int .i64 (W.length:Nat)),(30,.lsl (dO W)),(6,.slice 0 0 n (.exact n))],mkH s.1.2.1 s.1.2.2 0 [])) (μ:=fun s=>W.length-s.1.1) ⟨(0,1,_),by simp,by simp,by simp,by simp only [lookG,if_true];rw [ayX];rfl⟩ (View.sub (by simp [look])) ?_);rintro⟨⟨i,N,l⟩,hi,n1,n2,hown⟩;dsimp only at hi n1 n2 hown;refine aQ noNG _ _ _ _ ?_;dsimp only;by_cases hlt:i<W.length;rotate_left
 · obtain rfl:i=W.length:=by omega
   rw [List.take_length]at hown;have q2:decide ((W.length:Int)<(W.length:Int))=false:=by simp
   (try simp only [SS,aC,Nat.reduceLT,Nat.reduceEqDiff,q2]);generalize hG:W.foldl putQ (List.replicate n p20)=G at *
   have hGl:G.length=n:=by rw [←hG,hZ,List.length_replicate]
   have hend:bx4 Tryz.prog gT Tryz.f8 (.tup [.lsl (nQ G),.int .i64 0]) .ret (mkF 48 [(3,.int .i64 0),(2,.lsl (nQ G))]) (mkH N [] 0 []):=by refine dQ (.inl rfl) ?_;simp only [SS,uU,Nat.reduceLT,Nat.reduceEqDiff]
   refine hV _ _ _ ⟨_,_,View.fz (sz:=2) (len:=n) (fl2:=[(3,.int .i64 0),(2,.lsl (nQ G))]) (l2:=[]) (k2:=[]) 0 (by omega) hown (tK _) (by rw [cC,hGl]) ?_ (by simp) (by simp),hend⟩;rw [←hGl,uF];intro p hp;simp only [List.mem_cons,List.not_mem_nil,or_false]at hp;rcases hp with rfl|rfl;· exact⟨by simp,_,rfl,.inl rfl⟩
   · exact⟨by simp,_,rfl,.inr ⟨.exact _,rfl,by simp [capOK],rfl⟩⟩
 obtain⟨t,ht⟩:∃t,W[i]? = some t:=⟨W[i],List.getElem?_eq_getElem hlt⟩;obtain⟨t1,t2,t3⟩:=b3 t (List.mem_of_getElem? ht);have q2:decide ((i:Int)<(W.length:Int))=true:=by simp;omega
 have q3:IntKind.i64.wrap ((i:Int)+1)=((i+1:Nat):Int):=by rw [d7]<;>omega
 have hN0:N<16000:=by omega
 have r0:(dO W)[i]? = some (eHf t):=by simp only [dO,List.getElem?_map,ht,Option.map_some]
 have r1:eHf t=[.int .i64 t.inn,.int .i64 t.side,.int .i64 t.frm,.int .i64 t.to,.int .i64 t.runs,.int .i64 t.turns,.int .i64 t.outs,.int .i64 t.left]:=rfl;obtain⟨j,hj⟩:∃j:Nat,t.inn=j+1:=⟨(t.inn-1).toNat,by omega⟩;have q4:IntKind.i64.wrap (((j:Int)+1)-1)=(j:Int):=by rw [bD (by omega) (by omega)];omega
 have jn:j<n:=by omega
 have b5:((j:Int)<(n:Int))=True:=by simp only [eq_iff_iff,iff_true];omega
 have n0:(N=0)=False:=by simp only [eq_iff_iff,iff_false];omega
 have n3:(0=N)=False:=by simp only [eq_iff_iff,iff_false];omega
 have htk:W.take (i+1)=W.take i++[t]:=by rw [List.take_add_one,ht];rfl
 have hfold:(W.take (i+1)).foldl putQ (List.replicate n p20)=putQ ((W.take i).foldl putQ (List.replicate n p20)) t:=by rw [htk,List.foldl_append];rfl
 have hGl:((W.take i).foldl putQ (List.replicate n p20)).length=n:=by rw [hZ,List.length_replicate]
 obtain⟨G,hG⟩:∃G,G=(W.take i).foldl putQ (List.replicate n p20):=⟨_,rfl⟩;rw [←hG]at hown hfold hGl;obtain⟨g,hg2⟩:∃g,G[j]? = some g:=⟨G[j]'(by omega),List.getElem?_eq_getElem (by omega)⟩;have hj2:(t.inn-1).toNat=j:=by omega
 have hgd:G.getD j p20=g:=by rw [List.getD_eq_getElem?_getD,hg2];rfl
 have sa:=ayZ hg2 t.runs;have sb:=ayY hg2 t.runs;have d0:((0:Int)<((2:Nat):Int))=True:=by simp
 have d1:((1:Int)<((2:Nat):Int))=True:=by simp
 have d2:((0:Int)≤1)=True:=by simp
 have d3:Int.toNat 1=1:=rfl;have b6:(j*2+0+1≤n*2)=True:=by simp only [eq_iff_iff,iff_true];omega
 have b7:(j*2+1+1≤n*2)=True:=by simp only [eq_iff_iff,iff_true];omega
 have sa':setRange (eM G) (j*2+0) [.int .i64 t.runs]=eM (G.set j ⟨t.runs,g.b⟩):=sa;(try simp only [SS,uU,setRange,aC,Nat.reduceLT,Nat.reduceEqDiff,Nat.reduceAdd,r0,q2,hN0,r1]);refine aM (Top.draw mixed noNG (by kernel_rfl) ?_);rcases t3 with t3|t3
 · have hp:putQ G t=G.set j ⟨t.runs,g.b⟩:=by unfold putQ;rw [if_pos t3,hj2,hgd]
   rw [hp]at hfold;rw [t3,hj];(try simp only [SS,uU,aC,Nat.reduceLT,Nat.reduceEqDiff,reduceCtorEq,hN0,n0,hown,q4,b5,cC,hGl,↓sa',q3,d0,b6]);refine⟨by kernel_rfl,?_⟩;(try simp only [dS,SS,uU,kcall,setRange,jC,aC,aZ,fC,cG,bI,aD,Nat.reduceLT,Nat.reduceEqDiff,Nat.reduceAdd,Nat.reduceMul,Nat.reduceSub,Nat.reduceLeDiff,Nat.reduceBEq,reduceCtorEq,q3]);exact⟨⟨(i+1,N+1,_),hlt,by show 1≤N+1;omega,by show N+1≤1+(i+1);omega,by simp only [lookG,if_true];rw [hfold]⟩,by show W.length-(i+1)<W.length-i;omega,View.sub (by simp [look])⟩
 · have hp:putQ G t=G.set j ⟨g.a,t.runs⟩:=by unfold putQ;rw [if_neg (by omega),hj2,hgd]
   rw [hp]at hfold;rw [t3,hj];(try simp only [SS,uU,aC,Nat.reduceLT,Nat.reduceEqDiff,reduceCtorEq,hN0,n0,hown,q4,b5,cC,hGl,↓sb,q3,d1,d2,d3,b7]);refine⟨by kernel_rfl,?_⟩;(try simp only [dS,SS,uU,kcall,setRange,jC,aC,aZ,fC,cG,bI,aD,Nat.reduceLT,Nat.reduceEqDiff,Nat.reduceAdd,Nat.reduceMul,Nat.reduceSub,Nat.reduceLeDiff,Nat.reduceBEq,reduceCtorEq,q3]);exact⟨⟨(i+1,N+1,_),hlt,by show 1≤N+1;omega,by show N+1≤1+(i+1);omega,by simp only [lookG,if_true];rw [hfold]⟩,by show W.length-(i+1)<W.length-i;omega,View.sub (by simp [look])⟩
noncomputable def Kg49:Con Tryz.prog gT:=Con.of 8 Ag49 cG49 bzO fn49
end Go.Ev
namespace Go.Ev
open Go.RowKit Go.Proofs
set_option linter.defProp false
def pY:=Ai (Ai (Ai (@TFT) (@call31)) (Ai (@call32) (@call33))) (@Tryz.results9)
set_option maxRecDepth 20000
set_option maxHeartbeats 8000000
theorem avU {c7:Nat}{v:EVal}{ps:List St}{q:St}{N m:Nat}{l:List (Nat×Option b8)}{kk:List (Nat×Option (Nat×TypeId))}(h:SL 78 c7 v ps N l) (hc:N≠c7) (h1:1<N) (hN:N<16000) (hlen:ps.length≤1000) :
  ∃v2 l2,eAppend Tryz.prog (mkH N l m kk) 33 v (.lsl [[.int .i64 q.inn,.int .i64 q.half,.int .i64 q.outs,.int .i64 q.balls,.int .i64 q.strikes,.int .i64 q.b1,.int .i64 q.b2,.int .i64 q.b3,.int .i64 q.n0,.int .i64 q.n1,.int .i64 q.c0,.int .i64 q.c1,.bool q.over]])=some (v2,mkH (N+1) l2 m kk)∧SL 78 c7 v2 (ps++[q]) (N+1) l2∧∀i,N<i→lookG l2 i=lookG l i:=by
 have g2:a8 13 [[EVal.int .i64 q.inn,.int .i64 q.half,.int .i64 q.outs,.int .i64 q.balls,.int .i64 q.strikes,.int .i64 q.b1,.int .i64 q.b2,.int .i64 q.b3,.int .i64 q.n0,.int .i64 q.n1,.int .i64 q.c0,.int .i64 q.c1,.bool q.over]]=true:=rfl;rcases h with⟨q0,rfl,_,hc0,rfl,hl⟩ | ⟨id,hid1,hid2,hid,rfl,hl⟩
 · have g1:decide (104*(1+1)≤1000000)=true:=by decide
   simp only [eSt]at hl;refine⟨.slice N 0 2 (.slack 0),(N,some (.row (eSt q0++eSt q) 78 0 0 true))::l,?_,.inr ⟨N,by omega,h1,by omega,rfl,by simp [lookG,d6,gH]⟩,?_⟩;· simp only [SS,pY,setRange,Nat.reduceLT,Nat.reduceAdd,Nat.reduceMul,Nat.reduceLeDiff,hl,g2];rfl
   · intro i hi;rw [lookG.eq_2,if_neg (by omega)]
 · have hid0:id<16000:=by omega
   have g1:decide (104*(ps.length+1)≤1000000)=true:=by simp;omega
   have g3:((ps.length+1)*13≤ps.length*13)=False:=by simp only [eq_iff_iff,iff_false];omega
   refine⟨.slice N 0 (ps.length+1) (.slack 0),(N,some (.row (d6 ps++eSt q) 78 0 0 true))::(id,none)::l,?_,.inr ⟨N,by omega,h1,by omega,by simp,by rw [av7];simp [lookG]⟩,?_⟩;· simp only [SS,pY,setRange,Nat.reduceAdd,reduceCtorEq,hid0,hl,g1,g2,g3,lD,av6];rfl
   · intro i hi;rw [lookG.eq_2,if_neg (by omega),lookG.eq_2,if_neg (by omega)]
theorem SL_row {ty:TypeId}{c7:Nat}{v:EVal}{ps:List St}{N:Nat}{l:List (Nat×Option b8)}(h:SL ty c7 v ps N l):∃id cap b,id<N∧v=.slice id 0 ps.length cap∧lookG l id=some (.row (d6 ps) ty 0 0 b)∧capOK ps.length cap=true:=by
 rcases h with⟨q,rfl,h2,h3,rfl,h5⟩ | ⟨id,h1,h2,h3,rfl,h5⟩;· exact⟨0,.exact 1,false,h2,rfl,by rw [h5];simp [d6,gH],rfl⟩
 · exact⟨id,.slack 0,true,h3,rfl,h5,rfl⟩
noncomputable def F38:List EVal→Option EVal:=fOf Az38 (Cod.tup (Row.cons (Cod.agg rSt) (Row.cons cI (Row.cons cI Row.nil)))) Sz38
theorem fn38:FnT 33 F38:=Kz38.ok
noncomputable def F58:List EVal→Option EVal:=fOf A58 cI S58
theorem fn58:FnT 32 F58:=K58.ok
noncomputable def F23:List EVal→Option EVal:=fOf Az23 (Cod.agg rSt) Sz23
theorem fn23:FnT 31 F23:=Kz23.ok
theorem e23:F23 []=some (.agg (eSt a6)):=e22
theorem e58 {t:Pl}(ok:okP t):F58 [.agg (vI t)]=some (.int .i64 (playE t.p t.e t.m)):=by
 have a:V.cs (A58.v (t,()))=[.agg (vI t)]:=by show V.cs [(Cod.agg rPl).v t]=_;rw [V.cs,V.cs,bq7];rfl
 rw [←a];unfold F58 fOf;rw [A58.rt,Option.bind_some];have:S58 (t,())=some (playE t.p t.e t.m):=by unfold S58;rw [if_pos ok.1]
 rw [this];show some ((V.int .i64 _).c)=_;rw [V.c]
noncomputable def nxR (s:St) (t:Pl):St:=if eE s t=0 then nxt (mvd s t)else st0
theorem s38R {s:St}{t:Pl}(ok:okP t) (hs:stE s=0) (hp:playE t.p t.e t.m=0):Sz38 (s,t,())=some (nxR s t,nN s t,eE s t,()):=by
 obtain⟨p1,p2,p3⟩:=playE_zero hp;cases ho:s.over with
 | true=>
   have e:qV s t=20:=by unfold qV;simp [hs,hp,ho]
   have e1:eE s t=20:=by unfold eE bjL;simp [e]
   have e2:nN s t=0:=by unfold nN numA;simp [e]
   rw [e2];unfold nxR;rw [e1];show Ez38 s t=_;unfold Ez38 Tz38;simp only [TS,w6,ho];rfl
 | false=>
   have e:qV s t=0:=by unfold qV;simp [hs,hp,ho]
   have hk:=(az9 (s:=s) ok).2.1 e;rw [s38 p3 (mY hs).half ho (c_ok hs) (by omega) hk (fun h=>(az9 ok).2.2 h e)];unfold nxR eE nN numA bjL;simp only [e,ne_eq,not_true_eq_false,if_false];by_cases hb:brk s t=0;· cases hx:akF s t<;>simp [hb,zSt,st0]
   · simp [hb,zSt,st0]
theorem e38 {s:St}{t:Pl}(ok:okP t) (hs:stE s=0) (hp:playE t.p t.e t.m=0):F38 [.agg (eSt s),.agg (vI t)]=some (.tup [.agg (eSt (nxR s t)),.int .i64 (nN s t),.int .i64 (eE s t)]):=by have a:V.cs (Az38.v (s,t,()))=[.agg (eSt s),.agg (vI t)]:=a85;rw [←a];unfold F38 fOf;rw [Az38.rt,Option.bind_some,s38R ok hs hp];show some ((V.tup [V.agg (rSt.v (nxR s t)),V.int .i64 (nN s t),V.int .i64 (eE s t)]).c)=_;simp only [V.c,V.cs,avA]
theorem eE_form {s:St}{t:Pl}(hs:stE s=0) (hp:playE t.p t.e t.m≠0):eE s t=playE t.p t.e t.m∧nN s t=0:=by
 have e:qV s t=playE t.p t.e t.m:=by unfold qV;simp [hs,hp]
 constructor;· unfold eE bjL;rw [e,if_pos hp]
 · unfold nN numA;rw [e,if_pos hp]
noncomputable abbrev KRf:oM:=[(33,F38),(32,F58),(31,F23)]
def Ag46:Row (List Pl×Unit):=Row.cons (Cod.list pl0 rPl) Row.nil
structure QInv (L:List Pl) (i:Nat) (s:St) (v:EVal) (N:Nat) (l:List (Nat×Option b8)):Prop where
 hN:N≤1+2*i
 hN2:0<N
 hi:i≤L.length
 st:stE s=0
 no:∀j,N≤j→lookG l j=none
 dat:∃acc,game L=oA i acc s (L.drop i)∧acc.length=i+1∧acc[i]? = some s∧SL 78 1000000 v acc N l
theorem fn46:FnT 9 (fOf Ag46 cG43 Sg43):=by
 refine Fn.intro mixed noNG Tryz.func9 rfl KRf (by simp only [KRf,List.forall_mem_cons];exact⟨fn38,fn58,fn23,fun _ h=>by cases h⟩) ?_;intro args v hF;obtain⟨⟨L,⟨⟩⟩,r,rfl,hs,rfl⟩:=jN hF;unfold Sg43 at hs;split at hs;rotate_left;· cases hs
 rename_i hg;cases hs;obtain⟨hlen,hok⟩:=ajz hg;dsimp only at hlen hok;have a46:V.cs (Ag46.v (L,()))=[.lsl (gI L)]:=a43 L;rw [a46,c43];intro Q hV;have hQ:=Viewed.of hV;clear hF hg;refine Top.view (View.start (n:=54) rfl (by simp)) (aQ noNG _ _ _ _ ?_);have h23:=e23;simp only [eSt,a6]at h23;have m0:decide (128≤0 % 1024)=false:=by decide
 by_cases hbig:256<L.length
 · have hgm:game L=([],0,0,5):=by unfold game;rw [if_pos hbig]
   rw [hgm]at hQ;have q1:decide ((256:Int)<(L.length:Int))=true:=by simp;omega
   (try simp only [dS,SS,pY,aC,Nat.reduceLT,Nat.reduceEqDiff,reduceCtorEq,bM,q1]);(refine hQ _ _ _ (dQ (by first|exact .inl rfl|exact .inr rfl) ?_);simp only [SS,pY,Nat.reduceLT,Nat.reduceEqDiff,reduceCtorEq]);rfl
 have q1:decide ((256:Int)<(L.length:Int))=false:=by simp;omega
 (try simp only [dS,SS,pY,kcall,setRange,jC,aC,aD,Nat.reduceLT,Nat.reduceEqDiff,Nat.reduceAdd,Nat.reduceMul,Nat.reduceLeDiff,reduceCtorEq,bM,q1,h23,m0]);refine kC (Top.loop (I:=fun s:{ x:Nat×St×EVal×Nat×List (Nat×Option b8) // QInv L x.1 x.2.1 x.2.2.1 x.2.2.2.1 x.2.2.2.2 }=>(mkF 54 [(7,.int .i64 (s.1.1:Nat)),(6,s.1.2.2.1),(0,.lsl (gI L))],mkH s.1.2.2.2.1 s.1.2.2.2.2 128 [])) (μ:=fun s=>L.length-s.1.1) ⟨(0,a6,.slice 0 0 1 (.exact 1),1,_),?_⟩ (View.trans (View.mode 128 (by decide)) (View.sub (by simp [look]))) ?_)
 · show QInv L 0 a6 (.slice 0 0 1 (.exact 1)) 1 _;refine⟨by omega,by omega,by omega,axp,fun j hj=>?_,[a6],?_,rfl,rfl,.inl ⟨a6,rfl,by omega,by omega,rfl,by simp only [lookG,if_true];rfl⟩⟩;· rw [lookG.eq_2,if_neg (by omega)];rfl
   · unfold game;rw [if_neg (by omega)];rfl
 rintro⟨⟨i,s,v,N,l⟩,h1,h2,h3,h4,h5,acc,h6,h7,h8,h9⟩;dsimp only at h1 h2 h3 h4 h5 h6 h7 h8 h9;refine aQ noNG _ _ _ _ ?_;dsimp only;obtain⟨id,cap,b,g1,rfl,g2,g3⟩:=SL_row h9;by_cases hlt:i<L.length;rotate_left
 · obtain rfl:i=L.length:=by omega
   have q2:decide ((L.length:Int)<(L.length:Int))=false:=by simp
   have hgm:game L=(acc,0,0,0):=by rw [h6,List.drop_length];rfl
   rw [hgm]at hV;(try simp only [SS,pY,aC,Nat.reduceLT,Nat.reduceEqDiff,reduceCtorEq,bM,q2]);have hend:bx4 Tryz.prog gT Tryz.f9 (.tup [.lsl (gH acc),.int .i64 ((0:Nat):Int),.int .i64 0,.int .i64 0]) .ret (mkF 54 [(5,.int .i64 0),(4,.int .i64 0),(3,.int .i64 0),(2,.lsl (gH acc))]) (mkH N [] 128 []):=by refine dQ (.inl rfl) ?_;simp only [SS,pY,Nat.reduceLT,Nat.reduceEqDiff]
   refine hV _ _ _ ⟨_,_,View.fz (sz:=13) (len:=acc.length) (fl2:=[(5,.int .i64 0),(4,.int .i64 0),(3,.int .i64 0),(2,.lsl (gH acc))]) (l2:=[]) (k2:=[]) id (by omega) g2 (ajv _) (lD _) ?_ (by simp) (by simp),hend⟩;rw [axP];intro p hp;simp only [List.mem_cons,List.not_mem_nil,or_false]at hp;rcases hp with rfl|rfl|rfl|rfl;· exact⟨by simp,_,rfl,.inl rfl⟩
   · exact⟨by simp,_,rfl,.inl rfl⟩
   · exact⟨by simp,_,rfl,.inl rfl⟩
   · exact⟨by simp,_,rfl,.inr ⟨cap,rfl,g3,rfl⟩⟩
 obtain⟨t,ht⟩:∃t,L[i]? = some t:=⟨L[i],List.getElem?_eq_getElem hlt⟩;have okt:=hok t (List.mem_of_getElem? ht);rw [aT ht,pH]at h6;have q2:decide ((i:Int)<(L.length:Int))=true:=by simp;omega
 have q3:IntKind.i64.wrap ((i:Int)+1)=((i+1:Nat):Int):=by rw [d7]<;>omega
 have hNN:N<16000:=by omega
 have e1:vI t=[.str t.p,.str t.e,.bool t.l,.lsl (qX t.m)]:=rfl;have h58:=e58 okt;simp only [e1]at h58;by_cases hp:playE t.p t.e t.m=0;rotate_left
 · obtain ⟨k1,k2⟩:=eE_form (s:=s) h4 hp;rw [if_pos (by rw [k1];exact hp),k1,k2]at h6;rw [h6]at hQ;have q4:(playE t.p t.e t.m==0)=false:=by simpa using hp
   (try simp only [SS,pY,kcall,aC,Nat.reduceLT,Nat.reduceEqDiff,Nat.reduceAdd,reduceCtorEq,bM,iK,ht,e1,q2,h58,q4]);(refine hQ _ _ _ (dQ (by first|exact .inl rfl|exact .inr rfl) ?_);simp only [SS,pY,Nat.reduceLT,Nat.reduceEqDiff,reduceCtorEq]);rfl
 have q4:(playE t.p t.e t.m==0)=true:=by simpa using hp
 have h38:=e38 okt h4 hp;simp only [eSt,e1]at h38;have hzN:=h5 N (Nat.le_refl _);have hid0:id<16000:=by omega
 have nid:(N=id)=False:=by simp only [eq_iff_iff,iff_false];omega
 have hia:i<acc.length:=by omega
 have b1:((i:Int)<((acc.length:Nat):Int))=True:=by simp only [eq_iff_iff,iff_true];omega
 have tk:List.take 13 (List.drop (i*13) (d6 acc))=[.int .i64 s.inn,.int .i64 s.half,.int .i64 s.outs,.int .i64 s.balls,.int .i64 s.strikes,.int .i64 s.b1,.int .i64 s.b2,.int .i64 s.b3,.int .i64 s.n0,.int .i64 s.n1,.int .i64 s.c0,.int .i64 s.c1,.bool s.over]:=bjc h8;(try simp only [SS,pY,kcall,aC,Nat.reduceLT,Nat.reduceEqDiff,Nat.reduceAdd,reduceCtorEq,bM,iK,ht,e1,q2,h58,q4]);refine aM (Top.drawF mixed noNG (by kernel_rfl) ?_);(try simp only [SS,pY,kcall,setRange,aC,Nat.reduceLT,Nat.reduceEqDiff,Nat.reduceAdd,reduceCtorEq,WF,mO,iK,ht,e1,h38,hNN,hid0,g2,b1,tk,hzN]);refine⟨by kernel_rfl,?_⟩;by_cases he:eE s t=0;rotate_left
 · rw [if_pos he]at h6;rw [h6]at hQ;have q5:(eE s t==0)=false:=by simpa using he
   (try simp only [SS,aC,Nat.reduceLT,Nat.reduceEqDiff,reduceCtorEq,q5]);(refine hQ _ _ _ (dQ (by first|exact .inl rfl|exact .inr rfl) ?_);simp only [SS,pY,Nat.reduceLT,Nat.reduceEqDiff,reduceCtorEq]);rfl
 rw [if_neg (by simp [he])]at h6;have q5:(eE s t==0)=true:=by simpa using he
 have hnx:nxR s t=nxt (mvd s t):=by unfold nxR;rw [if_pos he]
 rw [hnx];generalize hs2:nxt (mvd s t)=s2 at h6;have hs2':stE s2=0:=by rw [←hs2];exact azj (xG okt he)
 obtain⟨v2,l2,hap,S2,F2⟩:=avU (q:=s2) (m:=128) (kk:=[]) (l:=(N,some (.row [.int .i64 s2.inn,.int .i64 s2.half,.int .i64 s2.outs,.int .i64 s2.balls,.int .i64 s2.strikes,.int .i64 s2.b1,.int .i64 s2.b2,.int .i64 s2.b3,.int .i64 s2.n0,.int .i64 s2.n1,.int .i64 s2.c0,.int .i64 s2.c1,.bool s2.over] 78 0 0 false))::(N,some (.row [.int .i64 0,.int .i64 0,.int .i64 0,.int .i64 0,.int .i64 0,.int .i64 0,.int .i64 0,.int .i64 0,.int .i64 0,.int .i64 0,.int .i64 0,.int .i64 0,.bool false] 78 0 0 false))::l) (SL_new h9) (by omega) (by omega) (by omega) (by omega);obtain⟨p1,p2,p3,p4⟩:=SL_one S2;(try simp only [SS,pY,setRange,jC,aC,aD,Nat.reduceLT,Nat.reduceEqDiff,Nat.reduceAdd,Nat.reduceMul,Nat.reduceLeDiff,reduceCtorEq,q5,hNN,q3,↓hap]);refine⟨⟨(i+1,s2,v2,N+2,l2),?_⟩,by show L.length-(i+1)<L.length-i;omega,View.sub (by simp [look])⟩;show QInv L (i+1) s2 v2 (N+2) l2;refine⟨by omega,by omega,hlt,hs2',fun j hj=>?_,acc++[s2],h6,by simp [h7],by rw [List.getElem?_append_right (by omega),h7];simp,S2⟩;rw [F2 j (by omega),lookG.eq_2,if_neg (by omega),lookG.eq_2,if_neg (by omega)];exact h5 j (by omega)
noncomputable def Sg46 (x:List Pl×Unit):Option (List St×Int×Int×Int×Unit):=Sg43 x
noncomputable def Kg46:Con Tryz.prog gT:=Con.of 9 Ag46 cG43 Sg46 fn46
end Go.Ev
namespace Go.Ev
open Go.RowKit Go.Proofs
set_option maxRecDepth 100000
set_option maxHeartbeats 4000000
set_option linter.unusedVariables false
noncomputable section
def Az24:=(Row.cons (Cod.agg rSt) Row.nil)
def Wz24 (r:(List (Int))):V:=.el (r.map a7.v)
theorem hWz24 (r:(List (Int))):(Wz24 r).c=((Cod.list 0 a7).v r).c:=by first|rfl|exact aS|(show EVal.tup (V.cs _)=EVal.tup (V.cs _);simp only [V.cs_map,List.map_cons,List.map_nil,aS];rfl)
inductive Lz24 where
 | k6 (a:Int)(b:List (Int))
def uz24:Lz24→Nat
 | .k6 _ _=>6
def iD (s:St) (x1:Int) (x2:List (List V)):D:=mD [(1,.ptr 0 0),(3,.gl 128),(4,.int .i64 x1)] 1 [(0,.row ⟨(rSt.v s),78,false⟩)] 129 [(128,(x2,3))]
def rI (s:St):Lz24→D
 | .k6 a b=>iD s a (b.map a7.v)
noncomputable def bjm (s:St):(l_:Lz24)→Tr (List (Int)) Lz24 (rI s) Wz24
 | .k6 a b=>(.i (decide (0≤a)) (.i (a==0) (.i (!(s.b1==0)) (.i (a==0) (.i (Nat.ble (8*(((b.map a7.v)).length+1)) 1000000) (.j (.k6 (w6 (a-1)) (b++[s.b1])) (iD s (w6 (a-1)) ((b.map a7.v)++[[.int .i64 s.b1]])) ⟨by simp only [rI,List.map_append,List.map_cons,List.map_nil]<;>rfl⟩) .n) (.i (a==1) (.i (Nat.ble (8*(((b.map a7.v)).length+1)) 1000000) (.j (.k6 (w6 (a-1)) (b++[s.b2])) (iD s (w6 (a-1)) ((b.map a7.v)++[[.int .i64 s.b2]])) ⟨by simp only [rI,List.map_append,List.map_cons,List.map_nil]<;>rfl⟩) .n) (.i (a==2) (.i (Nat.ble (8*(((b.map a7.v)).length+1)) 1000000) (.j (.k6 (w6 (a-1)) (b++[s.b3])) (iD s (w6 (a-1)) ((b.map a7.v)++[[.int .i64 s.b3]])) ⟨by simp only [rI,List.map_append,List.map_cons,List.map_nil]<;>rfl⟩) .n) .n))) (.g (.k6 (w6 (a-1)) b))) (.i (a==1) (.i (!(s.b2==0)) (.i (a==0) (.i (Nat.ble (8*(((b.map a7.v)).length+1)) 1000000) (.j (.k6 (w6 (a-1)) (b++[s.b1])) (iD s (w6 (a-1)) ((b.map a7.v)++[[.int .i64 s.b1]])) ⟨by simp only [rI,List.map_append,List.map_cons,List.map_nil]<;>rfl⟩) .n) (.i (a==1) (.i (Nat.ble (8*(((b.map a7.v)).length+1)) 1000000) (.j (.k6 (w6 (a-1)) (b++[s.b2])) (iD s (w6 (a-1)) ((b.map a7.v)++[[.int .i64 s.b2]])) ⟨by simp only [rI,List.map_append,List.map_cons,List.map_nil]<;>rfl⟩) .n) (.i (a==2) (.i (Nat.ble (8*(((b.map a7.v)).length+1)) 1000000) (.j (.k6 (w6 (a-1)) (b++[s.b3])) (iD s (w6 (a-1)) ((b.map a7.v)++[[.int .i64 s.b3]])) ⟨by simp only [rI,List.map_append,List.map_cons,List.map_nil]<;>rfl⟩) .n) .n))) (.g (.k6 (w6 (a-1)) b))) (.i (a==2) (.i (!(s.b3==0)) (.i (a==0) (.i (Nat.ble (8*(((b.map a7.v)).length+1)) 1000000) (.j (.k6 (w6 (a-1)) (b++[s.b1])) (iD s (w6 (a-1)) ((b.map a7.v)++[[.int .i64 s.b1]])) ⟨by simp only [rI,List.map_append,List.map_cons,List.map_nil]<;>rfl⟩) .n) (.i (a==1) (.i (Nat.ble (8*(((b.map a7.v)).length+1)) 1000000) (.j (.k6 (w6 (a-1)) (b++[s.b2])) (iD s (w6 (a-1)) ((b.map a7.v)++[[.int .i64 s.b2]])) ⟨by simp only [rI,List.map_append,List.map_cons,List.map_nil]<;>rfl⟩) .n) (.i (a==2) (.i (Nat.ble (8*(((b.map a7.v)).length+1)) 1000000) (.j (.k6 (w6 (a-1)) (b++[s.b3])) (iD s (w6 (a-1)) ((b.map a7.v)++[[.int .i64 s.b3]])) ⟨by simp only [rI,List.map_append,List.map_cons,List.map_nil]<;>rfl⟩) .n) .n))) (.g (.k6 (w6 (a-1)) b))) .n))) (.r b))
def Tz24 (s:St):Tr (List (Int)) Lz24 (rI s) Wz24:=(.g (.k6 2 []))
def bx3 (s:St):=Tr.lp (bjm s)
theorem Ez24J_s {s:St}{n:Nat}{l_:Lz24}:bx3 s (n+1) l_=(bjm s l_).d (bx3 s n):=rfl
def Ez24 (n:Nat) (s:St):=(Tz24 s).d (bx3 s n)
def Sz24 (x:St×Unit):=Ez24 64 x.1
def wz24:Wk (St×Unit) (List (Int)) Lz24 Wz24:=⟨fun x=>rI x.1,uz24,fun x=>Tz24 x.1,fun x=>bjm x.1⟩
def Kz24:=aU 37 Tryz.func37 [] noZ ⟨22,(lookA [(3,⟨[1,3,4],[0],1,[(3,3)],[128],[],[]⟩)]),noL,noL⟩ 128 Az24 (Cod.list 0 a7) Sz24 wz24 (fun x=>64) hWz24
def Az52:=(Row.cons (Cod.list hf0 rHf) (Row.cons (Cod.list hf0 rHf) Row.nil))
inductive Lz52 where
 | k8 (a:Int)
def uz52:Lz52→Nat
 | .k8 _=>8
def sLz52 (s:List (Hf)) (t:List (Hf)):Lz52→D
 | .k8 a=>mD [(0,(Cod.list hf0 rHf).v s),(1,(Cod.list hf0 rHf).v t),(5,.int .i64 a)] 0 [] 128 []
noncomputable def ayi (s:List (Hf)) (t:List (Hf)):(l_:Lz52)→Tr Bool Lz52 (sLz52 s t) cB.v
 | .k8 a=>(.i (decide (a<((s.length:Nat):Int))) (.i (inR a s.length) (.i (inR a t.length) (.i (!(((s.getD a.toNat hf0).inn==(t.getD a.toNat hf0).inn)&&(((s.getD a.toNat hf0).side==(t.getD a.toNat hf0).side)&&(((s.getD a.toNat hf0).frm==(t.getD a.toNat hf0).frm)&&(((s.getD a.toNat hf0).to==(t.getD a.toNat hf0).to)&&(((s.getD a.toNat hf0).runs==(t.getD a.toNat hf0).runs)&&(((s.getD a.toNat hf0).turns==(t.getD a.toNat hf0).turns)&&(((s.getD a.toNat hf0).outs==(t.getD a.toNat hf0).outs)&&(((s.getD a.toNat hf0).left==(t.getD a.toNat hf0).left)&&true))))))))) (.r false) (.g (.k8 (w6 (a+1))))) .n) .n) (.r true))
def Tz52 (s:List (Hf)) (t:List (Hf)):Tr Bool Lz52 (sLz52 s t) cB.v:=(.i (!(((s.length:Nat):Int)==((t.length:Nat):Int))) (.r false) (.g (.k8 0)))
def bqO (s:List (Hf)) (t:List (Hf)):=Tr.lp (ayi s t)
theorem bqN {s:List (Hf)}{t:List (Hf)}{n:Nat}{l_:Lz52}:bqO s t (n+1) l_=(ayi s t l_).d (bqO s t n):=rfl
def Ez52 (n:Nat) (s:List (Hf)) (t:List (Hf)):=(Tz52 s t).d (bqO s t n)
def Sz52 (x:(List (Hf))×(List (Hf))×Unit):=Ez52 (x.1.length+x.2.1.length+64) x.1 x.2.1
def wz52:Wk ((List (Hf))×(List (Hf))×Unit) Bool Lz52 cB.v:=⟨fun x=>sLz52 x.1 x.2.1,uz52,fun x=>Tz52 x.1 x.2.1,fun x=>ayi x.1 x.2.1⟩
def Kz52:=aU 12 Tryz.func12 [] noZ ⟨26,(lookA [(4,⟨[0,1,5],[],0,[],[],[],[]⟩)]),noL,noL⟩ 128 Az52 cB Sz52 wz52 (fun x=>x.1.length+x.2.1.length+64)
def Az53:=(Row.cons (Cod.list p20 rP2) (Row.cons (Cod.list p20 rP2) Row.nil))
inductive Lz53 where
 | k8 (a:Int)
def uz53:Lz53→Nat
 | .k8 _=>8
def sLz53 (s:List (P2)) (t:List (P2)):Lz53→D
 | .k8 a=>mD [(0,(Cod.list p20 rP2).v s),(1,(Cod.list p20 rP2).v t),(5,.int .i64 a)] 0 [] 128 []
noncomputable def ayh (s:List (P2)) (t:List (P2)):(l_:Lz53)→Tr Bool Lz53 (sLz53 s t) cB.v
 | .k8 c=>(.i (decide (c<((s.length:Nat):Int))) (.i (inR c s.length) (.i (inR c t.length) (.i (!(((s.getD c.toNat p20).a==(t.getD c.toNat p20).a)&&(((s.getD c.toNat p20).b==(t.getD c.toNat p20).b)&&true))) (.r false) (.g (.k8 (w6 (c+1))))) .n) .n) (.r true))
def Tz53 (s:List (P2)) (t:List (P2)):Tr Bool Lz53 (sLz53 s t) cB.v:=(.i (!(((s.length:Nat):Int)==((t.length:Nat):Int))) (.r false) (.g (.k8 0)))
def bqM (s:List (P2)) (t:List (P2)):=Tr.lp (ayh s t)
theorem bqL {s:List (P2)}{t:List (P2)}{n:Nat}{l_:Lz53}:bqM s t (n+1) l_=(ayh s t l_).d (bqM s t n):=rfl
def Ez53 (n:Nat) (s:List (P2)) (t:List (P2)):=(Tz53 s t).d (bqM s t n)
def Sz53 (x:(List (P2))×(List (P2))×Unit):=Ez53 (x.1.length+x.2.1.length+64) x.1 x.2.1
def wz53:Wk ((List (P2))×(List (P2))×Unit) Bool Lz53 cB.v:=⟨fun x=>sLz53 x.1 x.2.1,uz53,fun x=>Tz53 x.1 x.2.1,fun x=>ayh x.1 x.2.1⟩
def Kz53:=aU 13 Tryz.func13 [] noZ ⟨26,(lookA [(4,⟨[0,1,5],[],0,[],[],[],[]⟩)]),noL,noL⟩ 128 Az53 cB Sz53 wz53 (fun x=>x.1.length+x.2.1.length+64)
end
end Go.Ev
namespace Go.Ev
open Go.RowKit Go.Proofs
set_option linter.defProp false
def ayq:=Ai (Ai (Ai (@TFT) (@call9)) (Ai (@call34) (@call35))) (Ai (Ai (@call36) (@call37)) (Ai (@call38) (@Tryz.results10)))
set_option maxRecDepth 20000
set_option maxHeartbeats 8000000
noncomputable def F46:List EVal→Option EVal:=fOf Ag46 cG43 Sg43
noncomputable def F41:List EVal→Option EVal:=fOf Az41 cI Sz41
theorem fn41:FnT 34 F41:=Kz41.ok
noncomputable def F39:List EVal→Option EVal:=fOf Az39 (Cod.list 0 a7) bzN
theorem fn39:FnT 35 F39:=Kz39.ok
noncomputable def F40:List EVal→Option EVal:=fOf Az40 (Cod.list 0 a7) Sz40
theorem fn40:FnT 38 F40:=Kz40.ok
noncomputable def F24:List EVal→Option EVal:=fOf Az24 (Cod.list 0 a7) Sz24
theorem fn24:FnT 37 F24:=Kz24.ok
noncomputable def F59:List EVal→Option EVal:=fOf bqU cI ajQ
theorem fn59:FnT 36 F59:=Kz59.ok
def eIs (l:List Int):List (List EVal):=l.map fun x=>[.int .i64 x]
theorem l8 (l:List Int):(eIs l).length=l.length:=by simp [eIs]
theorem vIs_c (l:List Int):((Cod.list 0 a7).v l).c=.lsl (eIs l):=by have h1:(V.el (l.map a7.v)).c=((Cod.list 0 a7).v l).c:=aS;refine h1.symm.trans ?_;rw [V.c,V.css_map,List.map_map,eIs];refine congrArg EVal.lsl (List.map_congr_left fun p _=>?_);show V.cs [V.int .i64 p]=_;simp only [V.cs,V.c]
theorem aSP (s:St) (t:Pl):V.cs (Az41.v (s,t,()))=[.agg (eSt s),.agg (vI t)]:=a85 (s:=s) (t:=t)
section
variable {s:St}{t:Pl}
theorem e41 (A:Acc s t):F41 [.agg (eSt s),.agg (vI t)]=some (.int .i64 (eP (mvd s t))):=by have len:=A.len;rw [←aSP];unfold F41 fOf;rw [Az41.rt,Option.bind_some,s41 A.mv (mY A.st).half (by omega) A.good];show some ((V.int .i64 (eP (mvd s t))).c)=_;rw [V.c]
theorem e39 (A:Acc s t):F39 [.agg (eSt s),.agg (vI t)]=some (.lsl (eIs ((fU (outsI s t) t.l t.m).map (bqe s)))):=by rw [←aSP];show fOf Az39 _ bzN (V.cs (Az39.v (s,t,())))=_;unfold fOf;rw [Az39.rt,Option.bind_some,s39 A.mv (mY A.st).half];show some (((Cod.list 0 a7).v _).c)=_;rw [vIs_c]
theorem e40 (A:Acc s t):F40 [.agg (eSt s),.agg (vI t)]=some (.lsl (eIs (if eP (mvd s t)=0 then []else jI s t))):=by have len:=A.len;rw [←aSP];show fOf Az40 _ Sz40 (V.cs (Az40.v (s,t,())))=_;unfold fOf;rw [Az40.rt,Option.bind_some,s40 A.mv (mY A.st).half (by omega) A.good];show some (((Cod.list 0 a7).v _).c)=_;rw [vIs_c]
theorem e59 (A:Acc s t):F59 [.agg (vI t)]=some (.int .i64 ((t.m.countP (·.o):Nat):Int)):=by
 have e:V.cs (bqU.v (t,()))=[.agg (vI t)]:=by show V.cs [(Cod.agg rPl).v t]=_;rw [V.cs,V.cs,bq7];rfl
 have e59:ajQ (t,())=some ((t.m.countP (·.o):Nat):Int):=by have h:=A.mv;obtain⟨p,e,b,l⟩:=t;exact azB (bL h)
 rw [←e];unfold F59 fOf;rw [bqU.rt,Option.bind_some,e59];show some ((V.int .i64 _).c)=_;rw [V.c]
def akH (s:St):List Int:=(if s.b3=0 then []else [s.b3])++((if s.b2=0 then []else [s.b2])++(if s.b1=0 then []else [s.b1]))
theorem cnd0 {α:Type}(b:Int) (x y:α):(bif b==0 then x else y)=if b=0 then x else y:=by
 by_cases h:b=0;· rw [if_pos h,h];rfl
 · have e:(b==0)=false:=by simpa using h
   rw [if_neg h,e];rfl
theorem s24 (s:St):Sz24 (s,())=some (akH s):=by
 have q:∀n,bx3 s (n+4) (.k6 2 [])=some (akH s):=by
  intro n;unfold akH;have w2:IntKind.i64.wrap 1=1:=by decide
  have w1:IntKind.i64.wrap 0=0:=by decide
  have w0:IntKind.i64.wrap (-1)=-1:=by decide
  have m1:Nat.ble 8 1000000=true:=rfl;have m2:Nat.ble 16 1000000=true:=rfl;have m3:Nat.ble 24 1000000=true:=rfl;by_cases a:s.b3=0<;>by_cases b:s.b2=0<;>by_cases c:s.b1=0<;>simp [Ez24J_s,bjm,TS,w6,a,b,c,w0,w1,w2,cnd0,m1,m2,m3]
 show Ez24 64 s=_;unfold Ez24 Tz24;simp only [TS];exact q 60
theorem e24 (s:St):F24 [.agg (eSt s)]=some (.lsl (eIs (akH s))):=by
 have e:V.cs (Az24.v (s,()))=[.agg (eSt s)]:=by show V.cs [V.agg (rSt.v s)]=_;simp only [V.cs,V.c,avA]
 rw [←e];unfold F24 fOf;rw [Az24.rt,Option.bind_some,s24];show some (((Cod.list 0 a7).v _).c)=_;rw [vIs_c]
end
def HR (v:EVal) (ps:List Hf) (M:Nat) (l:List (Nat×Option b8)):Prop:=(v=.nilslice∧ps=[])∨∃id,id<M∧v=.slice id 0 ps.length (.slack 0)∧lookG l id=some (.row (cP ps) 41 0 0 true)
theorem HR_one {v:EVal}{ps:List Hf}{N:Nat}{l:List (Nat×Option b8)}(h:HR v ps N l):v.cells=[v]∧v.one=true∧allOne [v]=true∧v.kept=false∧∀h,eLen Tryz.prog h 36 v=some (.int .i64 (ps.length:Nat)):=by rcases h with⟨rfl,rfl⟩ | ⟨id,_,rfl,_⟩<;>exact⟨rfl,rfl,rfl,rfl,fun h=>by simp only [SS,ayq]⟩
theorem avW {v:EVal}{ps:List Hf}{q:Hf}{M N m:Nat}{l:List (Nat×Option b8)}{kk:List (Nat×Option (Nat×TypeId))}(h:HR v ps M l) (hc:M≤N) (hN:N<16000) (hlen:ps.length≤1000) :
  ∃l2,eAppend Tryz.prog (mkH N l m kk) 36 v (.lsl [[.int .i64 q.inn,.int .i64 q.side,.int .i64 q.frm,.int .i64 q.to,.int .i64 q.runs,.int .i64 q.turns,.int .i64 q.outs,.int .i64 q.left]])=some (.slice N 0 (ps.length+1) (.slack 0),mkH (N+1) l2 m kk)∧lookG l2 N=some (.row (cP (ps++[q])) 41 0 0 true)∧∀i,M≤i→i<N→lookG l2 i=lookG l i:=by
 have g2:a8 8 [[EVal.int .i64 q.inn,EVal.int .i64 q.side,EVal.int .i64 q.frm,EVal.int .i64 q.to,EVal.int .i64 q.runs,EVal.int .i64 q.turns,EVal.int .i64 q.outs,EVal.int .i64 q.left]]=true:=rfl;rcases h with⟨rfl,rfl⟩ | ⟨id,hid,rfl,hl⟩
 · have g1:decide (64*1≤1000000)=true:=by decide
   refine⟨(N,some (.row (eHf q) 41 0 0 true))::l,?_,by simp [lookG,cP,dO],?_⟩;· simp only [SS,ayq,Nat.reduceLeDiff,reduceCtorEq,g2];rfl
   · intro i hi hi2;rw [lookG.eq_2,if_neg (by omega)]
 · have hid0:id<16000:=by omega
   have g1:decide (64*(ps.length+1)≤1000000)=true:=by simp;omega
   have g3:((ps.length+1)*8≤ps.length*8)=False:=by simp only [eq_iff_iff,iff_false];omega
   refine⟨(N,some (.row (cP ps++eHf q) 41 0 0 true))::(id,none)::l,?_,by rw [wY];simp [lookG],?_⟩;· simp only [SS,ayq,setRange,Nat.reduceAdd,reduceCtorEq,hid0,hl,g1,g2,g3,bA,wX];rfl
   · intro i hi hi2;rw [lookG.eq_2,if_neg (by omega),lookG.eq_2,if_neg (by omega)]
end Go.Ev
namespace Go.Ev
open Go.RowKit Go.Proofs
set_option linter.defProp false
def bC:=Ai (Ai (Ai (@TFT) (@call9)) (Ai (@call34) (@call35))) (Ai (Ai (@call36) (@call37)) (Ai (@call38) (@Tryz.results10)))
set_option maxRecDepth 20000
set_option maxHeartbeats 8000000
noncomputable def longR (h:Hf) (i:Nat) (s:St) (t:Pl):Hf:=⟨h.inn,h.side,h.frm,IntKind.i64.wrap ((i:Int)+1),IntKind.i64.wrap (h.runs+runsN s t),if t.e=[]then h.turns else IntKind.i64.wrap (h.turns+1),IntKind.i64.wrap (h.outs+((t.m.countP (·.o):Nat):Int)),if eP (mvd s t)=0 then((akH (nxt (mvd s t))).length:Nat)else((jI s t).length:Nat)⟩
noncomputable def openR (p:Option (St×Pl)):Bool:=match p with
 | none=>true| some x=>eP (mvd x.1 x.2)==1
noncomputable def withR (l:List Hf) (i:Nat) (p:Option (St×Pl)) (s:St):List Hf:=if openR p=true then l++[⟨s.inn,s.half,(i:Nat),0,0,0,0,0⟩]else l
noncomputable def sP (l:List Hf) (i:Nat) (p:Option (St×Pl)) (s:St) (t:Pl):List Hf:=(withR l i p s).set ((withR l i p s).length-1) (longR ((withR l i p s).getLastD hf0) i s t)
noncomputable def bql:Nat→List Hf→Option (St×Pl)→St→List Pl→List Hf
 | _,acc,_,_,[]=>acc| i,acc,p,s,t::L=>bql (i+1) (sP acc i p s t) (some (s,t)) (nxt (mvd s t)) L
theorem bxq:∀(L:List Pl) (i:Nat) (acc:List St) (s:St),(∀t∈L,okP t)→(oA i acc s L).2.2.2=0→acc.getLast? = some s →
  ∃R,(oA i acc s L).1=acc++R∧R.length=L.length∧∀k t,L[k]? = some t→∃x,(acc++R)[acc.length-1+k]? = some x∧Acc x t∧(acc++R)[acc.length+k]? = some (nxt (mvd x t))
 | [],i,acc,s,hok,he,hl=>⟨[],by simp [oA],rfl,fun k t h=>by cases h⟩| t :: L, i,acc,s,hok,he,hl=>by
   rw [pH]at he ⊢;by_cases hE:eE s t=0
   · rw [if_neg (by simp [hE])]at he ⊢;have A:=xG (hok t (by simp)) hE;obtain⟨R,h1,h2,h3⟩:=bxq L (i+1) (acc++[nxt (mvd s t)]) (nxt (mvd s t)) (fun t ht=>hok t (List.mem_cons_of_mem _ ht)) he (by simp);have hpos:0<acc.length:=by
      cases acc with
      | nil=>cases hl| cons a l=>simp
     refine⟨nxt (mvd s t)::R,by rw [h1];simp,by simp [h2],fun k y hk=>?_⟩;cases k with
     | zero=>
       simp only [List.getElem?_cons_zero,Oi]at hk;subst hk;refine⟨s,?_,A,?_⟩;· rw [Nat.add_zero,List.getElem?_append_left (by omega),←List.getLast?_eq_getElem?,hl]
       · rw [Nat.add_zero,List.getElem?_append_right (by omega),Nat.sub_self];rfl
     | succ k=>
       simp only [List.getElem?_cons_succ]at hk;obtain⟨x,x1,x2,x3⟩:=h3 k y hk;refine⟨x,?_,x2,?_⟩;· rw [List.append_assoc]at x1;rw [←x1];congr 1;simp;omega
       · rw [List.append_assoc]at x3;rw [←x3];congr 1;simp;omega
   · rw [if_pos hE]at he;exact absurd he hE
noncomputable abbrev KQ:oM:=[(9,F46),(34,F41),(35,F39),(36,F59),(37,F24),(38,F40)]
theorem e46 {L:List Pl}(hg:gOK L=true):F46 [.lsl (gI L)]=some (.tup [.lsl (gH (game L).1),.int .i64 ((game L).2.1:Nat),.int .i64 (game L).2.2.1,.int .i64 (game L).2.2.2]):=by
 have e:V.cs (Ag46.v (L,()))=[.lsl (gI L)]:=a43 L;rw [←e];unfold F46 fOf;rw [Ag46.rt,Option.bind_some];have:Sg43 (L,())=some ((game L).1,(((game L).2.1:Nat):Int),(game L).2.2.1,(game L).2.2.2,()):=by unfold Sg43;rw [if_pos hg]
 rw [this];show some ((cG43.v _).c)=_;rw [c43]
def Ag50:Row (List Pl×Unit):=Row.cons (Cod.list pl0 rPl) Row.nil
noncomputable def Sg50 (x:List Pl×Unit):Option (List Hf):=if gOK x.1=true∧(game x.1).2.2.2=0∧x.1.length≤256 then some (bql 0 [] none a6 x.1)else none
theorem fn50:FnT 10 (fOf Ag50 (Cod.list hf0 rHf) Sg50):=by
 refine Fn.intro mixed noNG Tryz.func10 rfl KQ (by simp only [KQ,List.forall_mem_cons];exact⟨fn46,fn41,fn39,fn59,fn24,fn40,fun _ h=>by cases h⟩) ?_;intro args v hF;obtain⟨⟨L,⟨⟩⟩,r,rfl,hs,rfl⟩:=jN hF;unfold Sg50 at hs;split at hs;rotate_left;· cases hs
 rename_i hg;cases hs;obtain⟨hg,he,hlen⟩:=hg;dsimp only at hg he hlen;obtain⟨-,hok⟩:=ajz hg;have h46:=e46 hg;have a50:V.cs (Ag50.v (L,()))=[.lsl (gI L)]:=a43 L;rw [a50,akR];intro Q hV;have hQ:=Viewed.of hV;clear hF;have eG:game L=oA 0 [a6] a6 L:=by unfold game;rw [if_neg (by omega)]
 obtain⟨R,g1,g2,g3⟩:=bxq L 0 [a6] a6 hok (by rw [←eG];exact he) rfl;rw [←eG]at g1;generalize (game L).1=S at *
 generalize (game L).2.1=m1 at *
 generalize (game L).2.2.1=m2 at *
 rw [he]at h46;rw [←g1]at g3;have hS:∀k t,L[k]? = some t→∃x,S[k]? = some x∧Acc x t∧S[k+1]? = some (nxt (mvd x t)):=by
  intro k t hk;obtain⟨x,x1,x2,x3⟩:=g3 k t hk;refine⟨x,?_,x2,?_⟩;· rw [show [a6].length-1+k=k by simp]at x1;exact x1
  · rw [show [a6].length+k=k+1 by simp;omega]at x3;exact x3
 have h0:S[0]? = some a6:=by rw [g1];rfl
 refine Top.view (View.start (n:=122) rfl (by simp)) (aQ noNG _ _ _ _ ?_);(try simp only [dS,SS,bC,kcall,aC,Nat.reduceLT,Nat.reduceEqDiff,reduceCtorEq,h46]);refine kC (Top.loop (I:=fun s:{ x:Nat×List Hf×Option (St×Pl)×St×EVal×Nat×List (Nat×Option b8) // x.1≤L.length∧bql 0 [] none a6 L=bql x.1 x.2.1 x.2.2.1 x.2.2.2.1 (L.drop x.1)∧S[x.1]? = some x.2.2.2.1∧x.2.1.length≤x.1∧(x.1=0∧x.2.2.1=none∨0<x.2.1.length∧∃k y t,x.1=k+1∧x.2.2.1=some (y,t)∧S[k]? = some y∧L[k]? = some t∧Acc y t)∧HR x.2.2.2.2.1 x.2.1 x.2.2.2.2.2.1 x.2.2.2.2.2.2∧x.2.2.2.2.2.1≤3*x.1 }=>(mkF 122 [(8,.int .i64 (s.1.1:Nat)),(7,s.1.2.2.2.2.1),(3,.lsl (gH S)),(0,.lsl (gI L))],mkH s.1.2.2.2.2.2.1 s.1.2.2.2.2.2.2 128 [])) (μ:=fun s=>L.length-s.1.1) ⟨(0,[],none,a6,.nilslice,0,[]),by simp,rfl,h0,by simp,.inl ⟨rfl,rfl⟩,.inl ⟨rfl,rfl⟩,by simp⟩ (View.trans (View.sub (by simp [look])) (View.mode 128 (by decide))) ?_);rintro⟨⟨i,acc,p,s,v,N,l⟩,hi,hR,hs,hl,hp,hH,hN⟩;dsimp only at hi hR hs hl hp hH hN;dsimp only;obtain⟨o1,o2,o3,o4,oL⟩:=HR_one hH;by_cases hlt:i<L.length;rotate_left
 · refine aQ noNG _ _ _ _ ?_;obtain rfl:i=L.length:=by omega
   rw [List.drop_length]at hR;have q2:decide ((L.length:Int)<(L.length:Int))=false:=by simp
   rw [hR]at hV hQ;(try simp only [SS,bC,aC,Nat.reduceLT,Nat.reduceEqDiff,reduceCtorEq,q2,bM]);rcases hH with⟨rfl,rfl⟩ | ⟨id,h9,rfl,h8⟩;· refine Viewed.of hV _ _ _ ?_;refine dQ (.inl rfl) ?_;simp only [SS,bC,Nat.reduceLT,Nat.reduceEqDiff,reduceCtorEq];rfl
   · have hend:bx4 Tryz.prog gT Tryz.f10 (.lsl (dO acc)) .ret (mkF 122 [(2,.lsl (dO acc))]) (mkH N [] 128 []):=by refine dQ (.inl rfl) ?_;simp only [SS,bC,Nat.reduceLT]
     refine hV _ _ _ ⟨_,_,View.fz (sz:=8) (len:=acc.length) (fl2:=[(2,.lsl (dO acc))]) (l2:=[]) (k2:=[]) id (by omega) h8 (tL _) (bA _) ?_ (by simp) (by simp),hend⟩;rw [uG];intro p hp;simp only [List.mem_cons,List.not_mem_nil,or_false]at hp;subst hp;exact⟨by simp,_,rfl,.inr ⟨.slack 0,rfl,rfl,rfl⟩⟩
 obtain⟨t,ht⟩:∃t,L[i]? = some t:=⟨L[i],List.getElem?_eq_getElem hlt⟩;obtain⟨s',hs',A,hn⟩:=hS i t ht;rw [hs]at hs';cases hs';have q2:decide ((i:Int)<(L.length:Int))=true:=by simp;omega
 have q3:IntKind.i64.wrap ((i:Int)+1)=((i+1:Nat):Int):=by rw [d7]<;>omega
 have hN0:N<16000:=by omega
 have hN1:N+1<16000:=by omega
 have rS:∀ {k:Nat} {y:St},S[k]? = some y→(gH S)[k]? = some (eSt y):=fun h=>by rw [awG,h];rfl
 have r0:=rS hs;have r1:=rS hn;have rP:∀ {k:Nat} {y:Pl},L[k]? = some y→(gI L)[k]? = some (vI y):=fun h=>by rw [iK,h];rfl
 have r2:=rP ht;refine Top.join (σ:=Unit) noNG (fun _=>mkF 122 [(21,.bool true),(8,.int .i64 (i:Nat)),(7,v),(3,.lsl (gH S)),(0,.lsl (gI L))]) (fun _=>mkH N l 128 []) ?_ ?_;· intro R hR;(try simp only [SS,bC,aC,Nat.reduceLT,Nat.reduceEqDiff,reduceCtorEq,q2,bM]);exact hR () _ _ (View.sub (by simp [look]))
 rintro⟨⟩;refine Top.seq (Top.block ?_);have e1:eSt s=[.int .i64 s.inn,.int .i64 s.half,.int .i64 s.outs,.int .i64 s.balls,.int .i64 s.strikes,.int .i64 s.b1,.int .i64 s.b2,.int .i64 s.b3,.int .i64 s.n0,.int .i64 s.n1,.int .i64 s.c0,.int .i64 s.c1,.bool s.over]:=rfl;have b1:((i:Int)<(S.length:Int))=True:=by obtain⟨h,_⟩:=List.getElem?_eq_some_iff.1 hs;simp only [eq_iff_iff,iff_true];omega
 refine Top.join (σ:=Unit) noNG (fun _=>mkF 122 [(9,.ptr N 0),(8,.int .i64 (i:Nat)),(7,v),(3,.lsl (gH S)),(0,.lsl (gI L))]) (fun _=>mkH (N+1) ((N,some (.row (eSt s) 78 0 0 false))::(N,some (.row [.int .i64 0,.int .i64 0,.int .i64 0,.int .i64 0,.int .i64 0,.int .i64 0,.int .i64 0,.int .i64 0,.int .i64 0,.int .i64 0,.int .i64 0,.int .i64 0,.bool false] 78 0 0 false))::l) 128 []) ?_ ?_;· intro R hR;rw [e1]at hR;(try simp only [SS,bC,setRange,aC,Nat.reduceLT,Nat.reduceEqDiff,Nat.reduceAdd,reduceCtorEq,r0,e1,hN0]);refine hR () _ _ (View.sub (by simp [look]))
 rintro⟨⟩;generalize hLL:((N,some (b8.row (eSt s) 78 0 0 false))::(N,some (b8.row [.int .i64 0,.int .i64 0,.int .i64 0,.int .i64 0,.int .i64 0,.int .i64 0,.int .i64 0,.int .i64 0,.int .i64 0,.int .i64 0,.int .i64 0,.int .i64 0,.bool false] 78 0 0 false))::l)=l1 at *
 have hl1:lookG l1 N=some (.row (eSt s) 78 0 0 false):=by rw [←hLL];simp only [lookG,if_true]
 have H1:HR v acc N l1:=by
  rcases hH with h|⟨id,h1,h3,h4⟩;· exact .inl h
  · exact .inr ⟨id,h1,h3,by rw [←hLL,lookG.eq_2,if_neg (by omega),lookG.eq_2,if_neg (by omega)];exact h4⟩
 refine Top.join (σ:={ x:Nat×Nat×List (Nat×Option b8) // x.1<x.2.1∧x.1≠N∧N<x.2.1∧x.2.1≤N+2∧lookG x.2.2 x.1=some (.row (cP (withR acc i p s)) 41 0 0 true)∧lookG x.2.2 N=some (.row (eSt s) 78 0 0 false) }) noNG (fun x=>mkF 122 [(9,.ptr N 0),(8,.int .i64 (i:Nat)),(7,.slice x.1.1 0 (withR acc i p s).length (.slack 0)),(3,.lsl (gH S)),(0,.lsl (gI L))]) (fun x=>mkH x.1.2.1 x.1.2.2 128 []) ?_ ?_
 · intro R hR;obtain⟨l2,hap,hl2,F2⟩:=avW (q:=⟨s.inn,s.half,(i:Nat),0,0,0,0,0⟩) (N:=N+1) (m:=128) (kk:=[]) H1 (by omega) (by omega) (by omega);dsimp only at hap;have hF:=F2 N (Nat.le_refl _) (Nat.lt_succ_self _);rw [e1]at hl1;rcases hp with⟨rfl,rfl⟩ | ⟨hpos,k,y,t',rfl,rfl,hy,ht',A'⟩;· have z0:(((0:Nat):Int)==0)=true:=rfl;rw [show((0:Nat):Int)=0 from rfl]at hap;(try simp only [SS]);refine aM (Top.draw mixed noNG (by kernel_rfl) ?_);(try simp only [SS,bC,aC,Nat.reduceLT,Nat.reduceEqDiff,reduceCtorEq]);refine⟨by kernel_rfl,?_⟩;(try simp only [SS,bC,setRange,jC,aC,bI,aD,Nat.reduceLT,Nat.reduceEqDiff,Nat.reduceAdd,Nat.reduceMul,Nat.reduceLeDiff,reduceCtorEq,hl1,hN0,↓hap]);have hw:withR acc 0 none s=acc++[⟨s.inn,s.half,((0:Nat):Int),0,0,0,0,0⟩]:=rfl;refine hR ⟨(N+1,N+2,l2),by show N+1<N+2;omega,by show N+1≠N;omega,by show N<N+2;omega,by show N+2≤N+2;omega,by rw [hw];exact hl2,by rw [hF,hl1,e1]⟩ _ _ (View.sub (by simp [look,hw]))
   · have z0:(((k+1:Nat):Int)==0)=false:=by rw [beq_eq_false_iff_ne];omega
     have w1:IntKind.i64.wrap (((k+1:Nat):Int)-1)=((k:Nat):Int):=by rw [bD (by omega) (by omega)];omega
     have ry:=rS hy;have rt:=rP ht';have h41:=e41 A';have ey:eSt y=[.int .i64 y.inn,.int .i64 y.half,.int .i64 y.outs,.int .i64 y.balls,.int .i64 y.strikes,.int .i64 y.b1,.int .i64 y.b2,.int .i64 y.b3,.int .i64 y.n0,.int .i64 y.n1,.int .i64 y.c0,.int .i64 y.c1,.bool y.over]:=rfl;have er:vI t'=[.str t'.p,.str t'.e,.bool t'.l,.lsl (qX t'.m)]:=rfl;rw [ey,er]at h41;cases hq:(eP (mvd y t')==1)with
     | true=>
       have hw:withR acc (k+1) (some (y,t')) s=acc++[⟨s.inn,s.half,((k+1:Nat):Int),0,0,0,0,0⟩]:=by unfold withR;rw [if_pos];exact hq
       (try simp only [SS]);refine aM (Top.draw mixed noNG (by kernel_rfl) ?_);(try simp only [SS,bC,kcall,aC,Nat.reduceLT,Nat.reduceEqDiff,Nat.reduceAdd,reduceCtorEq,z0,w1,ry,rt,ey,er,h41,hq]);refine⟨by kernel_rfl,?_⟩;(try simp only [SS,bC,setRange,jC,aC,bI,aD,Nat.reduceLT,Nat.reduceEqDiff,Nat.reduceAdd,Nat.reduceMul,Nat.reduceLeDiff,reduceCtorEq,hl1,hN0,↓hap]);refine hR ⟨(N+1,N+2,l2),by show N+1<N+2;omega,by show N+1≠N;omega,by show N<N+2;omega,by show N+2≤N+2;omega,by rw [hw];exact hl2,by rw [hF,hl1,e1]⟩ _ _ (View.sub (by simp [look,hw]))
     | false=>
       have hw:withR acc (k+1) (some (y,t')) s=acc:=by unfold withR;rw [if_neg];show ¬((eP (mvd y t')==1)=true);rw [hq];simp
       rcases H1 with⟨rfl,rfl⟩ | ⟨id,h1,rfl,h4⟩;· exact absurd hpos (by simp)
       (try simp only [SS]);refine aM (Top.draw mixed noNG (by kernel_rfl) ?_);(try simp only [SS,bC,kcall,Nat.reduceLT,Nat.reduceEqDiff,Nat.reduceAdd,reduceCtorEq,z0,w1,ry,rt,ey,er,h41,hq]);refine⟨by kernel_rfl,?_⟩;(try simp only [dS,SS,bC,kcall,setRange,jC,aC,aZ,fC,cG,bI,aD,Nat.reduceLT,Nat.reduceEqDiff,Nat.reduceAdd,Nat.reduceMul,Nat.reduceSub,Nat.reduceLeDiff,Nat.reduceBEq,reduceCtorEq]);refine hR ⟨(id,N+1,l1),by show id<N+1;omega,by show id≠N;omega,by show N<N+1;omega,by show N+1≤N+2;omega,by rw [hw];exact h4,by rw [hl1,e1]⟩ _ _ (View.sub (by simp [look,hw]))
 rintro⟨⟨id,N',l'⟩,i1,i2,i3,i4,i5,i6⟩;dsimp only at i1 i2 i3 i4 i5 i6;have hWp:0<(withR acc i p s).length:=by
  unfold withR;split;· simp
  · rename_i h;rcases hp with⟨rfl,rfl⟩ | ⟨h,_⟩;· exact absurd rfl h
    · exact h
 have hWl:(withR acc i p s).length≤i+1:=by
  unfold withR;split;· simp;exact hl
  · omega
 have hG:(withR acc i p s)[(withR acc i p s).length-1]? = some ((withR acc i p s).getLastD hf0):=by rw [List.getLastD_eq_getLast?,List.getLast?_eq_getElem?,List.getElem?_eq_getElem (by omega)];rfl
 have hst:sP acc i p s t=(withR acc i p s).set ((withR acc i p s).length-1) (longR ((withR acc i p s).getLastD hf0) i s t):=rfl;generalize withR acc i p s=W at *
 generalize W.getLastD hf0=G at *
 obtain⟨k,hk1⟩:∃k,W.length=k+1:=⟨W.length-1,by omega⟩;have hk2:W.length-1=k:=by omega
 rw [hk2]at hG hst;have w1:IntKind.i64.wrap ((W.length:Int)-1)=((k:Nat):Int):=by rw [bD (by omega) (by omega)];omega
 have h39:=e39 A;have h59:=e59 A;have h41:=e41 A;have h40:=e40 A;have h24:=e24 (nxt (mvd s t));have er:vI t=[.str t.p,.str t.e,.bool t.l,.lsl (qX t.m)]:=rfl;have en:eSt (nxt (mvd s t))=[.int .i64 (nxt (mvd s t)).inn,.int .i64 (nxt (mvd s t)).half,.int .i64 (nxt (mvd s t)).outs,.int .i64 (nxt (mvd s t)).balls,.int .i64 (nxt (mvd s t)).strikes,.int .i64 (nxt (mvd s t)).b1,.int .i64 (nxt (mvd s t)).b2,.int .i64 (nxt (mvd s t)).b3,.int .i64 (nxt (mvd s t)).n0,.int .i64 (nxt (mvd s t)).n1,.int .i64 (nxt (mvd s t)).c0,.int .i64 (nxt (mvd s t)).c1,.bool (nxt (mvd s t)).over]:=rfl;rw [e1,er]at h39 h41 h40;rw [er]at h59;rw [en]at h24 r1;rw [e1]at i6;have tk:=zG hG;have hset:=aqt (l:=W) (k:=k) (q:=longR G i s t) (by omega);simp only [eHf]at tk hset;have b2:((k:Int)<((W.length:Nat):Int))=True:=by simp only [eq_iff_iff,iff_true];omega
 have b3:(k*8+8≤W.length*8)=True:=by simp only [eq_iff_iff,iff_true];omega
 have hid:id<16000:=by omega
 have hN2:N'<16000:=by omega
 have n1:(N'=id)=False:=by simp only [eq_iff_iff,iff_false];omega
 have n2:(id=N')=False:=by simp only [eq_iff_iff,iff_false];omega
 have n3:(N'=N)=False:=by simp only [eq_iff_iff,iff_false];omega
 have n4:(N=N')=False:=by simp only [eq_iff_iff,iff_false];omega
 have hR2:bql 0 [] none a6 L=bql (i+1) (sP acc i p s t) (some (s,t)) (nxt (mvd s t)) (L.drop (i+1)):=by rw [hR,aT ht];rfl
 have sl:(sP acc i p s t).length=W.length:=by rw [hst,List.length_set]
 refine aQ noNG _ _ _ _ ?_;have lR:((eIs ((fU (outsI s t) t.l t.m).map (bqe s))).length:Int)=runsN s t:=by rw [l8,List.length_map];rfl
 have lB:((eIs (akH (nxt (mvd s t)))).length:Int)=(akH (nxt (mvd s t))).length:=by rw [l8]
 (try simp only [SS,bC,setRange,aC,Nat.reduceLT,Nat.reduceEqDiff,Nat.reduceAdd,Nat.reduceLeDiff,reduceCtorEq,w1,i5,hid,b2,tk,hN2,q3]);refine aM (Top.draw mixed noNG (by kernel_rfl) ?_);(try simp only [SS,bC,kcall,setRange,Nat.reduceLT,Nat.reduceEqDiff,Nat.reduceAdd,Nat.reduceLeDiff,reduceCtorEq,hN0,hN2,n3,i6,r2,er,h39,lR]);refine⟨by kernel_rfl,?_⟩;(try simp only [dS,SS,bC,kcall,setRange,jC,aC,aZ,fC,cG,bI,aD,Nat.reduceLT,Nat.reduceEqDiff,Nat.reduceAdd,Nat.reduceMul,Nat.reduceSub,Nat.reduceLeDiff,Nat.reduceBEq,reduceCtorEq,hN2]);refine aM (Top.draw mixed noNG (by kernel_rfl) ?_);(try simp only [SS,bC,kcall,setRange,aC,Nat.reduceLT,Nat.reduceEqDiff,Nat.reduceAdd,Nat.reduceLeDiff,reduceCtorEq,hN2,r2,er,h59]);refine⟨by kernel_rfl,?_⟩;cases hd:decide (t.e=[])with
 | true=>
   cases hz:(eP (mvd s t)==0)with
   | true=>
     have hset2:setRange (cP W) (k*8) [.int .i64 G.inn,.int .i64 G.side,.int .i64 G.frm,.int .i64 ((i+1:Nat):Int),.int .i64 (IntKind.i64.wrap (G.runs+runsN s t)),.int .i64 G.turns,.int .i64 (IntKind.i64.wrap (G.outs+((t.m.countP (·.o):Nat):Int))),.int .i64 (((akH (nxt (mvd s t))).length:Nat):Int)]=cP (W.set k (longR G i s t)):=by rw [←hset];unfold longR;dsimp only;rw [if_pos (of_decide_eq_true hd),if_pos (eq_of_beq hz),q3]
     (try simp only [SS,bC,kcall,setRange,aC,Nat.reduceLT,Nat.reduceEqDiff,Nat.reduceAdd,reduceCtorEq,hN2,q3,r1,h24,lB]);refine aM (Top.draw mixed noNG (by kernel_rfl) ?_);(try simp only [SS,bC,kcall,aC,Nat.reduceLT,Nat.reduceEqDiff,Nat.reduceAdd,reduceCtorEq,hN0,hN2,n3,i6,r2,er,h41,hz]);refine⟨by kernel_rfl,?_⟩;(try simp only [SS,bC,aC,Nat.reduceLT,Nat.reduceEqDiff,Nat.reduceAdd,reduceCtorEq,↓hset2,w1,i5,hid,n1,b2,b3,bA]);refine aQ noNG _ _ _ _ ?_;(try simp only [SS,aC,Nat.reduceLT,Nat.reduceEqDiff,reduceCtorEq,q3]);exact⟨⟨(i+1,sP acc i p s t,some (s,t),nxt (mvd s t),.slice id 0 W.length (.slack 0),N'+1,_),hlt,hR2,hn,by rw [sl];exact hWl,.inr ⟨by rw [sl];exact hWp,i,s,t,rfl,rfl,hs,ht,A⟩,.inr ⟨id,by show id<N'+1;omega,by rw [sl],by simp only [lookG,if_true];rw [hst]⟩,by show N'+1≤3*(i+1);omega⟩,by show L.length-(i+1)<L.length-i;omega,View.sub (by simp [look])⟩
   | false=>
     have hz2:¬eP (mvd s t)=0:=by simpa using hz
     rw [if_neg hz2]at h40;have lL:((eIs (jI s t)).length:Int)=(jI s t).length:=by rw [l8]
     have hset2:setRange (cP W) (k*8) [.int .i64 G.inn,.int .i64 G.side,.int .i64 G.frm,.int .i64 ((i+1:Nat):Int),.int .i64 (IntKind.i64.wrap (G.runs+runsN s t)),.int .i64 G.turns,.int .i64 (IntKind.i64.wrap (G.outs+((t.m.countP (·.o):Nat):Int))),.int .i64 (((jI s t).length:Nat):Int)]=cP (W.set k (longR G i s t)):=by rw [←hset];unfold longR;dsimp only;rw [if_pos (of_decide_eq_true hd),if_neg hz2,q3]
     (try simp only [SS,bC,kcall,setRange,aC,Nat.reduceLT,Nat.reduceEqDiff,Nat.reduceAdd,reduceCtorEq,hN2,q3,r1,h24,lB]);refine aM (Top.draw mixed noNG (by kernel_rfl) ?_);(try simp only [SS,bC,kcall,Nat.reduceLT,Nat.reduceEqDiff,Nat.reduceAdd,reduceCtorEq,hN0,n3,i6,r2,er,h41,hz]);refine⟨by kernel_rfl,?_⟩;(try simp only [dS,SS,bC,kcall,setRange,jC,aC,aZ,fC,cG,bI,aD,Nat.reduceLT,Nat.reduceEqDiff,Nat.reduceAdd,Nat.reduceMul,Nat.reduceSub,Nat.reduceLeDiff,Nat.reduceBEq,reduceCtorEq]);refine aM (Top.draw mixed noNG (by kernel_rfl) ?_);(try simp only [SS,bC,kcall,setRange,aC,Nat.reduceLT,Nat.reduceEqDiff,Nat.reduceAdd,reduceCtorEq,hN0,hN2,n3,i6,r2,er,h40,lL]);refine⟨by kernel_rfl,?_⟩;(try simp only [SS,bC,aC,Nat.reduceLT,Nat.reduceEqDiff,Nat.reduceAdd,reduceCtorEq,↓hset2,w1,i5,hid,n1,b2,b3,bA]);refine aQ noNG _ _ _ _ ?_;(try simp only [SS,aC,Nat.reduceLT,Nat.reduceEqDiff,reduceCtorEq,q3]);exact⟨⟨(i+1,sP acc i p s t,some (s,t),nxt (mvd s t),.slice id 0 W.length (.slack 0),N'+1,_),hlt,hR2,hn,by rw [sl];exact hWl,.inr ⟨by rw [sl];exact hWp,i,s,t,rfl,rfl,hs,ht,A⟩,.inr ⟨id,by show id<N'+1;omega,by rw [sl],by simp only [lookG,if_true];rw [hst]⟩,by show N'+1≤3*(i+1);omega⟩,by show L.length-(i+1)<L.length-i;omega,View.sub (by simp [look])⟩
 | false=>
   cases hz:(eP (mvd s t)==0)with
   | true=>
     have hset2:setRange (cP W) (k*8) [.int .i64 G.inn,.int .i64 G.side,.int .i64 G.frm,.int .i64 ((i+1:Nat):Int),.int .i64 (IntKind.i64.wrap (G.runs+runsN s t)),.int .i64 (IntKind.i64.wrap (G.turns+1)),.int .i64 (IntKind.i64.wrap (G.outs+((t.m.countP (·.o):Nat):Int))),.int .i64 (((akH (nxt (mvd s t))).length:Nat):Int)]=cP (W.set k (longR G i s t)):=by rw [←hset];unfold longR;dsimp only;rw [if_neg (of_decide_eq_false hd),if_pos (eq_of_beq hz),q3]
     (try simp only [SS,bC,kcall,setRange,aC,Nat.reduceLT,Nat.reduceEqDiff,Nat.reduceAdd,Nat.reduceLeDiff,reduceCtorEq,hN2,q3,r1,h24,lB]);refine aM (Top.draw mixed noNG (by kernel_rfl) ?_);(try simp only [SS,bC,kcall,aC,Nat.reduceLT,Nat.reduceEqDiff,Nat.reduceAdd,reduceCtorEq,hN0,hN2,n3,i6,r2,er,h41,hz]);refine⟨by kernel_rfl,?_⟩;(try simp only [SS,bC,aC,Nat.reduceLT,Nat.reduceEqDiff,Nat.reduceAdd,reduceCtorEq,↓hset2,w1,i5,hid,n1,b2,b3,bA]);refine aQ noNG _ _ _ _ ?_;(try simp only [SS,aC,Nat.reduceLT,Nat.reduceEqDiff,reduceCtorEq,q3]);exact⟨⟨(i+1,sP acc i p s t,some (s,t),nxt (mvd s t),.slice id 0 W.length (.slack 0),N'+1,_),hlt,hR2,hn,by rw [sl];exact hWl,.inr ⟨by rw [sl];exact hWp,i,s,t,rfl,rfl,hs,ht,A⟩,.inr ⟨id,by show id<N'+1;omega,by rw [sl],by simp only [lookG,if_true];rw [hst]⟩,by show N'+1≤3*(i+1);omega⟩,by show L.length-(i+1)<L.length-i;omega,View.sub (by simp [look])⟩
   | false=>
     have hz2:¬eP (mvd s t)=0:=by simpa using hz
     rw [if_neg hz2]at h40;have lL:((eIs (jI s t)).length:Int)=(jI s t).length:=by rw [l8]
     have hset2:setRange (cP W) (k*8) [.int .i64 G.inn,.int .i64 G.side,.int .i64 G.frm,.int .i64 ((i+1:Nat):Int),.int .i64 (IntKind.i64.wrap (G.runs+runsN s t)),.int .i64 (IntKind.i64.wrap (G.turns+1)),.int .i64 (IntKind.i64.wrap (G.outs+((t.m.countP (·.o):Nat):Int))),.int .i64 (((jI s t).length:Nat):Int)]=cP (W.set k (longR G i s t)):=by rw [←hset];unfold longR;dsimp only;rw [if_neg (of_decide_eq_false hd),if_neg hz2,q3]
     (try simp only [SS,bC,kcall,setRange,aC,Nat.reduceLT,Nat.reduceEqDiff,Nat.reduceAdd,Nat.reduceLeDiff,reduceCtorEq,hN2,q3,r1,h24,lB]);refine aM (Top.draw mixed noNG (by kernel_rfl) ?_);(try simp only [SS,bC,kcall,Nat.reduceLT,Nat.reduceEqDiff,Nat.reduceAdd,reduceCtorEq,hN0,n3,i6,r2,er,h41,hz]);refine⟨by kernel_rfl,?_⟩;(try simp only [dS,SS,bC,kcall,setRange,jC,aC,aZ,fC,cG,bI,aD,Nat.reduceLT,Nat.reduceEqDiff,Nat.reduceAdd,Nat.reduceMul,Nat.reduceSub,Nat.reduceLeDiff,Nat.reduceBEq,reduceCtorEq]);refine aM (Top.draw mixed noNG (by kernel_rfl) ?_);(try simp only [SS,bC,kcall,setRange,aC,Nat.reduceLT,Nat.reduceEqDiff,Nat.reduceAdd,reduceCtorEq,hN0,hN2,n3,i6,r2,er,h40,lL]);refine⟨by kernel_rfl,?_⟩;(try simp only [SS,bC,aC,Nat.reduceLT,Nat.reduceEqDiff,Nat.reduceAdd,reduceCtorEq,↓hset2,w1,i5,hid,n1,b2,b3,bA]);refine aQ noNG _ _ _ _ ?_;(try simp only [SS,aC,Nat.reduceLT,Nat.reduceEqDiff,reduceCtorEq,q3]);exact⟨⟨(i+1,sP acc i p s t,some (s,t),nxt (mvd s t),.slice id 0 W.length (.slack 0),N'+1,_),hlt,hR2,hn,by rw [sl];exact hWl,.inr ⟨by rw [sl];exact hWp,i,s,t,rfl,rfl,hs,ht,A⟩,.inr ⟨id,by show id<N'+1;omega,by rw [sl],by simp only [lookG,if_true];rw [hst]⟩,by show N'+1≤3*(i+1);omega⟩,by show L.length-(i+1)<L.length-i;omega,View.sub (by simp [look])⟩
end Go.Ev
namespace Go.Ev
open Go.RowKit Go.Proofs
set_option linter.defProp false
def iC:=Ai (@TFT) (@Tryz.results11)
set_option maxRecDepth 20000
set_option maxHeartbeats 8000000
noncomputable def Kg50:Con Tryz.prog gT:=Con.of 10 Ag50 (Cod.list hf0 rHf) Sg50 fn50
def growQ (c:List P2) (h:Hf):List P2:=if(c.length:Int)<h.inn then c++[p20]else c
def vJ:List P2→List Hf→List P2
 | c,[]=>c| c,h::l=>vJ (putQ (growQ c h) h) l
def okR:List P2→List Hf→Bool
 | _,[]=>true| c,h::l=>decide (1≤h.inn)&&(decide (h.inn≤(c.length:Int)+1)&&(decide (c.length≤900)&&((h.side==0||h.side==1)&&okR (putQ (growQ c h) h) l)))
def Ag51:Row (List Hf×Unit):=Row.cons (Cod.list hf0 rHf) Row.nil
def Sg51 (x:List Hf×Unit):Option (List P2):=if okR [] x.1=true∧x.1.length≤900 then some (vJ [] x.1)else none
def QR (v:EVal) (ps:List P2) (M:Nat) (l:List (Nat×Option b8)):Prop:=(v=.nilslice∧ps=[])∨∃id,id<M∧v=.slice id 0 ps.length (.slack 0)∧lookG l id=some (.row (eM ps) 52 0 0 true)
theorem QR_one {v:EVal}{ps:List P2}{N:Nat}{l:List (Nat×Option b8)}(h:QR v ps N l):v.cells=[v]∧v.one=true∧allOne [v]=true∧v.kept=false∧∀h,eLen Tryz.prog h 30 v=some (.int .i64 (ps.length:Nat)):=by rcases h with⟨rfl,rfl⟩ | ⟨id,_,rfl,_⟩<;>exact⟨rfl,rfl,rfl,rfl,fun h=>by simp only [SS,iC]⟩
theorem av9 (l:List P2) (q:P2):eM (l++[q])=eM l++eP2 q:=by simp [eM,nQ]
theorem av8 (l:List P2):(eM l).take (l.length*2)=eM l:=by rw [←cC l,List.take_length]
theorem avV {v:EVal}{ps:List P2}{M N m:Nat}{l:List (Nat×Option b8)}{kk:List (Nat×Option (Nat×TypeId))}(h:QR v ps M l) (hc:M≤N) (hN:N<16000) (hlen:ps.length≤1000) :
  ∃l2,eAppend Tryz.prog (mkH N l m kk) 30 v (.lsl [[.int .i64 0,.int .i64 0]])=some (.slice N 0 (ps.length+1) (.slack 0),mkH (N+1) l2 m kk)∧lookG l2 N=some (.row (eM (ps++[p20])) 52 0 0 true)∧∀i,M≤i→i<N→lookG l2 i=lookG l i:=by
 have g2:a8 2 [[EVal.int .i64 0,EVal.int .i64 0]]=true:=rfl;rcases h with⟨rfl,rfl⟩ | ⟨id,hid,rfl,hl⟩
 · have g1:decide (16*1≤1000000)=true:=by decide
   refine⟨(N,some (.row (eP2 p20) 52 0 0 true))::l,?_,by simp [lookG,eM,nQ],?_⟩;· simp only [SS,iC,Nat.reduceLeDiff,reduceCtorEq,g2];rfl
   · intro i hi hi2;rw [lookG.eq_2,if_neg (by omega)]
 · have hid0:id<16000:=by omega
   have g1:decide (16*(ps.length+1)≤1000000)=true:=by simp;omega
   have g3:((ps.length+1)*2≤ps.length*2)=False:=by simp only [eq_iff_iff,iff_false];omega
   refine⟨(N,some (.row (eM ps++eP2 p20) 52 0 0 true))::(id,none)::l,?_,by rw [av9];simp [lookG],?_⟩;· simp only [SS,iC,setRange,Nat.reduceAdd,reduceCtorEq,hid0,hl,g1,g2,g3,cC,av8];rfl
   · intro i hi hi2;rw [lookG.eq_2,if_neg (by omega),lookG.eq_2,if_neg (by omega)]
theorem awQ (c:List P2) (h:Hf):(putQ (growQ c h) h).length≤c.length+1:=by rw [gJ];unfold growQ;split<;>simp
theorem fn51:FnT 11 (fOf Ag51 (Cod.list p20 rP2) Sg51):=by
 refine Fn.intro mixed noNG Tryz.func11 rfl [] (fun _ h=>by cases h) ?_;intro args v hF;obtain⟨⟨W,⟨⟩⟩,r,rfl,hs,rfl⟩:=jN hF;unfold Sg51 at hs;split at hs;rotate_left;· cases hs
 rename_i hg;cases hs;obtain⟨hg,hlen⟩:=hg;dsimp only at hg hlen;have a51:V.cs (Ag51.v (W,()))=[.lsl (dO W)]:=by show V.cs [(Cod.list hf0 rHf).v W]=_;rw [V.cs,V.cs,akR]
 rw [a51,bxc];intro Q hV;have hQ:=Viewed.of hV;clear hF;refine Top.view (View.start (n:=36) rfl (by simp)) (aQ noNG _ _ _ _ ?_);(try simp only [dS,SS,aC,Nat.reduceLT]);refine kC (Top.loop (I:=fun s:{ x:Nat×List P2×EVal×Nat×List (Nat×Option b8) // x.1≤W.length∧vJ [] W=vJ x.2.1 (W.drop x.1)∧okR x.2.1 (W.drop x.1)=true∧x.2.1.length≤x.1∧QR x.2.2.1 x.2.1 x.2.2.2.1 x.2.2.2.2∧x.2.2.2.1≤2*x.1 }=>(mkF 36 [(4,.int .i64 (s.1.1:Nat)),(3,s.1.2.2.1),(0,.lsl (dO W))],mkH s.1.2.2.2.1 s.1.2.2.2.2 128 [])) (μ:=fun s=>W.length-s.1.1) ⟨(0,[],.nilslice,0,[]),by simp,rfl,hg,by simp,.inl ⟨rfl,rfl⟩,by simp⟩ (View.trans (View.sub (by simp [look])) (View.mode 128 (by decide))) ?_);rintro⟨⟨i,c,v,N,l⟩,hi,hR,hok,hl,hH,hN⟩;dsimp only at hi hR hok hl hH hN;dsimp only;obtain⟨o1,o2,o3,o4,oL⟩:=QR_one hH;by_cases hlt:i<W.length;rotate_left
 · refine aQ noNG _ _ _ _ ?_;obtain rfl:i=W.length:=by omega
   rw [List.drop_length]at hR;have q2:decide ((W.length:Int)<(W.length:Int))=false:=by simp
   rw [hR]at hV hQ;(try simp only [SS,iC,aC,Nat.reduceLT,Nat.reduceEqDiff,reduceCtorEq,q2,kK]);rcases hH with⟨rfl,rfl⟩ | ⟨id,h9,rfl,h8⟩;· refine Viewed.of hV _ _ _ ?_;refine dQ (.inl rfl) ?_;simp only [SS,iC,Nat.reduceLT,Nat.reduceEqDiff,reduceCtorEq];rfl
   · have hend:bx4 Tryz.prog gT Tryz.f11 (.lsl (nQ c)) .ret (mkF 36 [(2,.lsl (nQ c))]) (mkH N [] 128 []):=by refine dQ (.inl rfl) ?_;simp only [SS,iC,Nat.reduceLT]
     refine hV _ _ _ ⟨_,_,View.fz (sz:=2) (len:=c.length) (fl2:=[(2,.lsl (nQ c))]) (l2:=[]) (k2:=[]) id (by omega) h8 (tK _) (cC _) ?_ (by simp) (by simp),hend⟩;rw [uF];intro p hp;simp only [List.mem_cons,List.not_mem_nil,or_false]at hp;subst hp;exact⟨by simp,_,rfl,.inr ⟨.slack 0,rfl,rfl,rfl⟩⟩
 obtain⟨t,ht⟩:∃t,W[i]? = some t:=⟨W[i],List.getElem?_eq_getElem hlt⟩;rw [aT ht]at hok;simp only [okR,Bool.and_eq_true,decide_eq_true_eq,Bool.or_eq_true,beq_iff_eq]at hok;obtain⟨k1,k2,k3,k4,k5⟩:=hok;have hR2:vJ [] W=vJ (putQ (growQ c t) t) (W.drop (i+1)):=by rw [hR,aT ht];rfl
 have hl2:(putQ (growQ c t) t).length≤i+1:=by have:=awQ c t;omega
 have q2:decide ((i:Int)<(W.length:Int))=true:=by simp;omega
 have q3:IntKind.i64.wrap ((i:Int)+1)=((i+1:Nat):Int):=by rw [d7]<;>omega
 have hN0:N<16000:=by omega
 have r0:(dO W)[i]? = some (eHf t):=by simp only [dO,List.getElem?_map,ht,Option.map_some]
 have r1:eHf t=[.int .i64 t.inn,.int .i64 t.side,.int .i64 t.frm,.int .i64 t.to,.int .i64 t.runs,.int .i64 t.turns,.int .i64 t.outs,.int .i64 t.left]:=rfl;refine Top.join (σ:=Unit) noNG (fun _=>mkF 36 [(4,.int .i64 (i:Nat)),(3,v),(0,.lsl (dO W))]) (fun _=>mkH N l 128 []) ?_ ?_;· intro R hR;(try simp only [SS,iC,aC,Nat.reduceLT,Nat.reduceEqDiff,reduceCtorEq,q2,kK]);exact hR () _ _ (View.sub (by simp [look]))
 rintro⟨⟩;refine Top.seq (Top.block ?_);refine Top.join (σ:=Unit) noNG (fun _=>mkF 36 [(5,.ptr N 0),(4,.int .i64 (i:Nat)),(3,v),(0,.lsl (dO W))]) (fun _=>mkH (N+1) ((N,some (.row (eHf t) 41 0 0 false))::(N,some (.row [.int .i64 0,.int .i64 0,.int .i64 0,.int .i64 0,.int .i64 0,.int .i64 0,.int .i64 0,.int .i64 0] 41 0 0 false))::l) 128 []) ?_ ?_;· intro R hR;rw [r1]at hR;(try simp only [SS,iC,setRange,aC,Nat.reduceLT,Nat.reduceEqDiff,Nat.reduceAdd,reduceCtorEq,r0,r1,hN0]);refine hR () _ _ (View.sub (by simp [look]))
 rintro⟨⟩;generalize hLL:((N,some (b8.row (eHf t) 41 0 0 false))::(N,some (b8.row [.int .i64 0,.int .i64 0,.int .i64 0,.int .i64 0,.int .i64 0,.int .i64 0,.int .i64 0,.int .i64 0] 41 0 0 false))::l)=l1 at *
 have hl1:lookG l1 N=some (.row (eHf t) 41 0 0 false):=by rw [←hLL];simp only [lookG,if_true]
 have H1:QR v c N l1:=by
  rcases hH with h|⟨id,h1,h3,h4⟩;· exact .inl h
  · exact .inr ⟨id,h1,h3,by rw [←hLL,lookG.eq_2,if_neg (by omega),lookG.eq_2,if_neg (by omega)];exact h4⟩
 refine Top.join (σ:={ x:Nat×Nat×List (Nat×Option b8) // x.1<x.2.1∧x.1≠N∧N<x.2.1∧x.2.1≤N+2∧lookG x.2.2 x.1=some (.row (eM (growQ c t)) 52 0 0 true)∧lookG x.2.2 N=some (.row (eHf t) 41 0 0 false) }) noNG (fun x=>mkF 36 [(5,.ptr N 0),(4,.int .i64 (i:Nat)),(3,.slice x.1.1 0 (growQ c t).length (.slack 0)),(0,.lsl (dO W))]) (fun x=>mkH x.1.2.1 x.1.2.2 128 []) ?_ ?_
 · intro R hR;rw [r1]at hl1;by_cases hgr:(c.length:Int)<t.inn;· obtain ⟨l2,hap,hl2,F2⟩:=avV (N:=N+1) (m:=128) (kk:=[]) H1 (by omega) (by omega) (by omega);have hF:=F2 N (Nat.le_refl _) (Nat.lt_succ_self _);have hw:growQ c t=c++[p20]:=if_pos hgr;have d0:decide ((c.length:Int)<t.inn)=true:=decide_eq_true hgr;(try simp only [SS,iC,setRange,jC,aC,bI,aD,Nat.reduceLT,Nat.reduceEqDiff,Nat.reduceAdd,Nat.reduceMul,Nat.reduceLeDiff,reduceCtorEq,hl1,hN0,oL,d0,↓hap]);refine hR ⟨(N+1,N+2,l2),by show N+1<N+2;omega,by show N+1≠N;omega,by show N<N+2;omega,by show N+2≤N+2;omega,by rw [hw];exact hl2,by rw [hF,hl1,r1]⟩ _ _ (View.sub (by simp [look,hw]))
   · have hw:growQ c t=c:=if_neg hgr;have d0:decide ((c.length:Int)<t.inn)=false:=decide_eq_false hgr;rcases H1 with⟨rfl,rfl⟩ | ⟨id,h1,rfl,h4⟩;· exact absurd k1 (by simp at hgr;omega)
     (try simp only [SS,iC,aC,Nat.reduceLT,Nat.reduceEqDiff,reduceCtorEq,hl1,hN0,d0]);refine hR ⟨(id,N+1,l1),by show id<N+1;omega,by show id≠N;omega,by show N<N+1;omega,by show N+1≤N+2;omega,by rw [hw];exact h4,by rw [hl1,r1]⟩ _ _ (View.sub (by simp [look,hw]))
 rintro⟨⟨id,N',l'⟩,i1,i2,i3,i4,i5,i6⟩;dsimp only at i1 i2 i3 i4 i5 i6;rw [r1]at i6;have gl:t.inn≤(growQ c t).length∧(growQ c t).length≤1000:=by
  unfold growQ;split;· rw [List.length_append,List.length_singleton];omega
  · omega
 have hpl:(putQ (growQ c t) t).length=(growQ c t).length:=gJ _ _;have hput:putQ (growQ c t) t=(growQ c t).set (t.inn-1).toNat (if t.side=0 then⟨t.runs,((growQ c t).getD (t.inn-1).toNat p20).b⟩else⟨((growQ c t).getD (t.inn-1).toNat p20).a,t.runs⟩):=rfl;generalize putQ (growQ c t) t=G2 at *
 generalize growQ c t=G at *
 obtain⟨j,hj⟩:∃j:Nat,t.inn=j+1:=⟨(t.inn-1).toNat,by omega⟩;have q4:IntKind.i64.wrap (((j:Int)+1)-1)=(j:Int):=by rw [bD (by omega) (by omega)];omega
 have b5:((j:Int)<(G.length:Int))=True:=by simp only [eq_iff_iff,iff_true];omega
 obtain⟨g,hg2⟩:∃g,G[j]? = some g:=⟨G[j]'(by omega),List.getElem?_eq_getElem (by omega)⟩;have hj2:(t.inn-1).toNat=j:=by omega
 have hgd:G.getD j p20=g:=by rw [List.getD_eq_getElem?_getD,hg2];rfl
 rw [hj2,hgd]at hput;have sb:=ayY hg2 t.runs;have sa':setRange (eM G) (j*2+0) [.int .i64 t.runs]=eM (G.set j ⟨t.runs,g.b⟩):=ayZ hg2 t.runs;have d0:((0:Int)<((2:Nat):Int))=True:=by simp
 have d1:((1:Int)<((2:Nat):Int))=True:=by simp
 have d2:((0:Int)≤1)=True:=by simp
 have d3:Int.toNat 1=1:=rfl;have b6:(j*2+0+1≤G.length*2)=True:=by simp only [eq_iff_iff,iff_true];omega
 have b7:(j*2+1+1≤G.length*2)=True:=by simp only [eq_iff_iff,iff_true];omega
 have hid:id<16000:=by omega
 have hN3:N<16000:=hN0;rw [hj]at i6;refine aQ noNG _ _ _ _ ?_;refine aM (Top.draw mixed noNG (by kernel_rfl) ?_);rcases k4 with k4|k4;· rw [k4]at i6;rw [if_pos k4]at hput;(try simp only [SS,iC,Nat.reduceLT,Nat.reduceEqDiff,reduceCtorEq,hN0,hid,i6,i5,q4,b5,cC,↓sa',d0,b6]);refine⟨by kernel_rfl,?_⟩;(try simp only [dS,SS,iC,kcall,setRange,jC,aC,aZ,fC,cG,bI,aD,Nat.reduceLT,Nat.reduceEqDiff,Nat.reduceAdd,Nat.reduceMul,Nat.reduceSub,Nat.reduceLeDiff,Nat.reduceBEq,reduceCtorEq,q3]);refine aQ noNG _ _ _ _ ?_;(try simp only [SS,aC,Nat.reduceLT,Nat.reduceEqDiff,reduceCtorEq,q3]);exact⟨⟨(i+1,G2,.slice id 0 G.length (.slack 0),N',_),hlt,hR2,k5,hl2,.inr ⟨id,i1,by rw [hpl],by simp only [lookG,if_true];rw [hput]⟩,by show N'≤2*(i+1);omega⟩,by show W.length-(i+1)<W.length-i;omega,View.sub (by simp [look])⟩
 · rw [k4]at i6;rw [if_neg (by omega)]at hput;(try simp only [SS,iC,Nat.reduceLT,Nat.reduceEqDiff,reduceCtorEq,hN0,hid,i6,i5,q4,b5,cC,↓sb,d1,d2,d3,b7]);refine⟨by kernel_rfl,?_⟩;(try simp only [dS,SS,iC,kcall,setRange,jC,aC,aZ,fC,cG,bI,aD,Nat.reduceLT,Nat.reduceEqDiff,Nat.reduceAdd,Nat.reduceMul,Nat.reduceSub,Nat.reduceLeDiff,Nat.reduceBEq,reduceCtorEq,q3]);refine aQ noNG _ _ _ _ ?_;(try simp only [SS,aC,Nat.reduceLT,Nat.reduceEqDiff,reduceCtorEq,q3]);exact⟨⟨(i+1,G2,.slice id 0 G.length (.slack 0),N',_),hlt,hR2,k5,hl2,.inr ⟨id,i1,by rw [hpl],by simp only [lookG,if_true];rw [hput]⟩,by show N'≤2*(i+1);omega⟩,by show W.length-(i+1)<W.length-i;omega,View.sub (by simp [look])⟩
noncomputable def Kg51:Con Tryz.prog gT:=Con.of 11 Ag51 (Cod.list p20 rP2) Sg51 fn51
end Go.Ev
namespace Go.Ev
open Go.RowKit Go.Proofs
set_option maxRecDepth 20000
set_option maxHeartbeats 8000000
set_option linter.unusedVariables false
noncomputable section
section
variable {s:St}{t:Pl}
theorem awC (h:aB t.m=0):(fU (outsI s t) t.l t.m).map (bqe s)=(bif cntsB s t then zR t else []).map (sl s):=by
 have e:(t.m.filter rnM).map (bqe s)=(zR t).map (sl s):=by rw [←runs_T h,List.map_map];rfl
 unfold fU cntsB;by_cases ho:outsI s t=3;· cases t.l<;>cases hc:t.m.any clM<;>simp [ho,e]
 · have this:(outsI s t==3)=false:=by simpa using ho
   rw [if_neg (fun q=>ho q.1),this,e];rfl
theorem len3b (a b c:Int):((([a,b,c].filter (fun b=>!(b==0))).length:Nat):Int)=nb a+(nb b+nb c):=by unfold nb;by_cases h1:a=0<;>by_cases h2:b=0<;>by_cases h3:c=0<;>simp [h1,h2,h3]
theorem ayb (h:aB t.m=0) (g:fF s t):((allT (act t.m 0) (s.b1==0) (s.b2==0) (s.b3==0):Nat):Int)=nb s.b1+(nb s.b2+nb s.b3)+(if t.e=[]then 0 else 1):=by have e1:=xC (b:=s.b1);have e2:=xC (b:=s.b2);have e3:=xC (b:=s.b3);have eT:=tT h g;unfold allT;rw [Int.natCast_add,Int.natCast_add,Int.natCast_add,e1,e2,e3,eT];omega
theorem bal_0 (h:aB t.m=0) (g:fF s t) (G:Good s) (ho:¬outsI s t=3) :
  nb s.b1+(nb s.b2+nb s.b3)+(if t.e=[]then 0 else 1)=nb (mvd s t).b1+(nb (mvd s t).b2+nb (mvd s t).b3)+runsN s t+((t.m.countP (·.o):Nat):Int):=by
 have hc:cntsB s t=true:=by unfold cntsB;simp [ho]
 have eR:=awC (s:=s) h;rw [hc,cond_true]at eR;have Z:=zW (zfin h g true).1;have hlen:=Z.len;have la:=ayb h g;have l3:=len3b (fI s t 1) (fI s t 2) (fI s t 3);rw [bases_T h g G,List.length_map]at l3;have lR:=congrArg List.length eR;rw [List.length_map,List.length_map]at lR;rw [List.length_append]at hlen;have ho':=azC h;show _=nb (fI s t 1)+(nb (fI s t 2)+nb (fI s t 3))+((fU (outsI s t) t.l t.m).length:Nat)+_;rw [lR,ho',←l3,←la,←hlen];simp only [Int.natCast_add]
theorem bal_1 (h:aB t.m=0) (g:fF s t) :
  nb s.b1+(nb s.b2+nb s.b3)+(if t.e=[]then 0 else 1)=runsN s t+((t.m.countP (·.o):Nat):Int)+(((jI s t).length:Nat):Int):=by
 have eR:=awC (s:=s) h;have Z:=zW (zfin h g (cntsB s t)).2.1;have hlen:=Z.len;have la:=ayb h g;have lR:=congrArg List.length eR;rw [List.length_map,List.length_map]at lR;rw [List.length_append]at hlen;have ho':=azC h;have lL:(jI s t).length=(lfRs (cntsB s t) (pl s t 0) (pl s t 1) (pl s t 2) (pl s t 3)).length:=by unfold jI;rw [List.length_map]
 show _=(((fU (outsI s t) t.l t.m).length:Nat):Int)+_+_;rw [lR,ho',lL,←la,←hlen];simp only [Int.natCast_add];omega
end
def tsR (L:List Pl) (a:Nat):Nat→Int
 | 0=>0| n+1=>tsR L a n+(if(L.getD (a+n) pl0).e=[]then 0 else 1)
def osR (L:List Pl) (a:Nat):Nat→Int
 | 0=>0| n+1=>osR L a n+(((L.getD (a+n) pl0).m.countP (·.o):Nat):Int)
theorem bxd (L:List Pl) (a:Nat):∀n,0≤tsR L a n∧tsR L a n≤n
 | 0=>by simp [tsR]
 | n+1=>by have:=bxd L a n;unfold tsR;split<;>omega
structure Cur (L:List Pl) (k:Nat) (h:Hf) (a i:Nat):Prop where
 le:a≤i
 side:h.side=((k % 2:Nat):Int)
 inn:h.inn=((k / 2+1:Nat):Int)
 frm:h.frm=(a:Int)
 turns:h.turns=tsR L a (i-a)
 outs:h.outs=osR L a (i-a)
 runs:0≤h.runs∧h.runs≤4*((i-a:Nat):Int)
structure Fin1 (L:List Pl) (k:Nat) (h:Hf) (a b:Nat):Prop where
 cur:Cur L k h a b
 lt:a<b
 to:h.to=(b:Int)
 sum:h.turns=h.runs+h.outs+h.left
 o3:0≤h.outs∧h.outs≤3
 l4:0≤h.left∧h.left≤4
def Ch (L:List Pl):Nat→Nat→List Hf→Nat→Prop
 | _,a,[],e=>a=e| k,a,h::l,e=>∃b,Fin1 L k h a b∧Ch L (k+1) b l e
theorem uJ {L:List Pl}:∀ {l:List Hf}{k a e:Nat}{h:Hf},Ch L k a (l++[h]) e↔∃m,Ch L k a l m∧Fin1 L (k+l.length) h m e
 | [], k,a,e,h=>by
   constructor;· rintro ⟨b,F,rfl⟩;exact⟨a,rfl,F⟩
   · rintro ⟨m,rfl,F⟩;exact⟨e,F,rfl⟩
 | x :: l,k,a,e,h=>by
   have ih:=fun b=>uJ (L:=L) (l:=l) (k:=k+1) (a:=b) (e:=e) (h:=h);constructor;· rintro ⟨b,F,hb⟩;obtain⟨m,h1,h2⟩:=(ih b).1 hb;exact⟨m,⟨b,F,h1⟩,by rw [List.length_cons,show k+(l.length+1)=k+1+l.length by omega];exact h2⟩
   · rintro ⟨m,⟨b,F,h1⟩,h2⟩;rw [List.length_cons,show k+(l.length+1)=k+1+l.length by omega]at h2;exact⟨b,F,(ih b).2 ⟨m,h1,h2⟩⟩
theorem ch_le {L:List Pl}:∀ {l:List Hf}{k a e:Nat},Ch L k a l e→a+l.length≤e
 | [],_,_,_,h=>by cases h;simp
 | x::l,k,a,e,⟨b,F,h⟩=>by have:=ch_le h;have:=F.lt;rw [List.length_cons];omega
def bqV (q:Int):List Hf→Int
 | []=>0| h::l=>(if h.side=q then h.runs else 0)+bqV q l
theorem kG {q:Int}:∀ {l:List Hf}{h:Hf},bqV q (l++[h])=bqV q l+(if h.side=q then h.runs else 0)
 | [],h=>by simp [bqV]
 | x::l,h=>by show _+bqV q (l++[h])=_+bqV q l+_;rw [kG];omega
structure BI (L:List Pl) (i:Nat) (acc:List Hf) (x:St):Prop where
 ok:stE x=0
 ch:Ch L 0 0 acc i
 three:∀h∈acc.dropLast,h.outs=3
 c0:x.c0=bqV 0 acc
 c1:x.c1=bqV 1 acc
 now:x.over=true∨(x.half=((acc.length % 2:Nat):Int)∧x.inn=((acc.length / 2+1:Nat):Int)∧x.outs=0∧x.b1=0∧x.b2=0∧x.b3=0∧∀h,acc.getLast? = some h→h.outs=3) ∨
  ∃pre h,acc=pre++[h]∧x.half=h.side∧x.inn=h.inn∧h.outs=x.outs∧h.turns=h.runs+h.outs+(nb x.b1+(nb x.b2+nb x.b3))
structure PU (L:List Pl) (i:Nat) (pre:List Hf) (h:Hf) (x:St):Prop where
 ok:stE x=0
 ch:∃a,Ch L 0 0 pre a∧Cur L pre.length h a i
 three:∀y∈pre,y.outs=3
 half:x.half=h.side
 inn:x.inn=h.inn
 outs:h.outs=x.outs
 bal:h.turns=h.runs+h.outs+(nb x.b1+(nb x.b2+nb x.b3))
 c0:x.c0=bqV 0 pre+(if h.side=0 then h.runs else 0)
 c1:x.c1=bqV 1 pre+(if h.side=1 then h.runs else 0)
theorem azb (L:List Pl):BI L 0 [] a6:=⟨axp,rfl,fun _ h=>(by cases h),rfl,rfl,.inr (.inl ⟨rfl,rfl,rfl,rfl,rfl,rfl,fun _ h=>by cases h⟩)⟩
theorem pu_of {L:List Pl}{i:Nat}{acc:List Hf}{x:St}(B:BI L i acc x) (hv:x.over=false):∃pre h,withH acc i x=pre++[h]∧PU L i pre h x:=by
 rcases B.now with h|⟨n1,n2,n3,n4,n5,n6,n7⟩ | ⟨pre,h,rfl,n2,n3,n4,n5⟩;· rw [hv]at h;cases h
 · have z0:nb 0=0:=rfl;have ho:mU acc x=true:=by
    unfold mU;cases hl:acc.getLast? with
    | none=>rfl| some h=>
      obtain⟨pre,rfl⟩:∃pre,acc=pre++[h]:=by obtain⟨ys,e⟩:=List.getLast?_eq_some_iff.1 hl;exact⟨ys,e⟩
      obtain⟨m,_,F⟩:=uJ.1 B.ch;have s1:=F.cur.side;rw [List.length_append,List.length_singleton]at n1;have:(h.side==x.half)=false:=by rw [beq_eq_false_iff_ne];omega
      show(!(h.inn==x.inn)||!(h.side==x.half))=true;rw [this];simp
   refine⟨acc,⟨x.inn,x.half,(i:Nat),0,0,0,0,0⟩,by unfold withH;rw [if_pos ho],B.ok,⟨i,B.ch,?_⟩,?_,rfl,rfl,n3.symm,?_,?_,?_⟩;· exact⟨Nat.le_refl _,n1,n2,rfl,by rw [Nat.sub_self];rfl,by rw [Nat.sub_self];rfl,by simp⟩
   · intro y hy;rcases List.eq_nil_or_concat acc with rfl|⟨pre,h,rfl⟩;· cases hy
     · rw [List.concat_eq_append]at hy;have t3:=B.three;rw [List.concat_eq_append,List.dropLast_concat]at t3;rcases List.mem_append.1 hy with hy|hy;· exact t3 y hy
       · rw [List.mem_singleton.1 hy];exact n7 h (by simp)
   · rw [n4,n5,n6,z0];rfl
   · rw [B.c0];simp
   · rw [B.c1];simp
 · obtain ⟨m,h1,F⟩:=uJ.1 B.ch;rw [Nat.zero_add]at F;have ho:mU (pre++[h]) x=false:=by unfold mU;rw [List.getLast?_concat];show(!(h.inn==x.inn)||!(h.side==x.half))=false;rw [n2,n3];simp
   have t3:=B.three;rw [List.dropLast_concat]at t3;exact⟨pre,h,by unfold withH;rw [if_neg (by rw [ho];simp)],B.ok,⟨m,h1,F.cur⟩,t3,n2,n3,n4,n5,by rw [B.c0,kG],by rw [B.c1,kG]⟩
theorem xS {acc pre:List Hf}{h:Hf}{i:Nat}{s:St}{t:Pl}(e:withH acc i s=pre++[h]):sQ acc i s t=pre++[longS h i s t]:=by unfold sQ;rw [e];simp
end
end Go.Ev
namespace Go.Ev
open Go.RowKit Go.Proofs
set_option maxRecDepth 100000
set_option maxHeartbeats 8000000
set_option linter.unusedSimpArgs false
set_option linter.unusedVariables false
noncomputable section
def shM (m:Mv):Bool:=decide (m.h.length≤20)&&decide (m.b.length≤40)
def shP (t:Pl):Bool:=decide (t.p.length≤26)&&(decide (t.e.length≤20)&&(decide (t.m.length≤6)&&t.m.all shM))
theorem lp84 (t:Pl) (hl:t.m.length≤6):∀(j k n:Nat),t.m.length=k+j→bqH t (n+j+1) (.k8 (k:Int))=some ((t.m.drop k).all shM)
 | 0,k,n,hk=>by
   have c1:decide ((k:Int)<((t.m.length:Nat):Int))=false:=by simp;omega
   rw [List.drop_eq_nil_of_le (by omega)];simp only [bqG,ayg,TS,w6,c1,cond_false,List.all_nil]
 | j+1,k,n,hlk=>by
   have hk:k<t.m.length:=by omega
   obtain⟨m,hm⟩:∃m,t.m[k]? = some m:=⟨t.m[k],List.getElem?_eq_getElem hk⟩;have ih:=lp84 t hl j (k+1) n (by omega);have c1:decide ((k:Int)<((t.m.length:Nat):Int))=true:=by simp;omega
   have c2:inR (k:Int) t.m.length=true:=gN (by omega) (by omega);have w4:IntKind.i64.wrap ((k:Int)+1)=((k+1:Nat):Int):=by rw [bD]<;>omega
   have a1:decide ((20:Int)<((m.h.length:Nat):Int))=!decide (m.h.length≤20):=by rw [Bool.eq_iff_iff];simp;omega
   have a2:decide ((40:Int)<((m.b.length:Nat):Int))=!decide (m.b.length≤40):=by rw [Bool.eq_iff_iff];simp;omega
   rw [aT hm,show n+(j+1)+1=(n+j+1)+1 from rfl];generalize n+j+1=N at ih ⊢;simp only [bqG,ayg,TS,w6,c1,c2,cond_true,Int.toNat_natCast,aV hm,w4,ih,List.all_cons,shM,a1,a2];cases decide (m.h.length≤20)<;>cases decide (m.b.length≤40)<;>rfl
theorem sp84 (t:Pl):Sz84 (t,())=some (shP t):=by
 show Ez84 (t.m.length+64) t=_;unfold Ez84 Tz84 shP;simp only [TS,w6];have a1:decide ((26:Int)<((t.p.length:Nat):Int))=!decide (t.p.length≤26):=by rw [Bool.eq_iff_iff];simp;omega
 have a2:decide ((20:Int)<((t.e.length:Nat):Int))=!decide (t.e.length≤20):=by rw [Bool.eq_iff_iff];simp;omega
 have a3:decide ((6:Int)<((t.m.length:Nat):Int))=!decide (t.m.length≤6):=by rw [Bool.eq_iff_iff];simp;omega
 rw [a1,a2,a3];by_cases h:t.m.length≤6;· have e:=lp84 t h t.m.length 0 63 (by omega);rw [←mQ,List.drop_zero]at e;have e':bqH t (t.m.length+64) (.k8 0)=some (t.m.all shM):=e;rw [e'];cases decide (t.p.length≤26)<;>cases decide (t.e.length≤20)<;>simp [h]
 · cases decide (t.p.length≤26)<;>cases decide (t.e.length≤20)<;>simp [h]
def shL (s:List Pl):Bool:=(decide (s.length≤14)||(decide (256<s.length)&&decide (s.length≤258)))&&s.all shP
theorem lp42 (s:List Pl) (u:Int) (hl:s.length≤258):∀(j k n:Nat),s.length=k+j→bqR s u (n+j+1) (.k8 (k:Int))=some ((s.drop k).all shP)
 | 0,k,n,hk=>by
   have c1:decide ((k:Int)<((s.length:Nat):Int))=false:=by simp;omega
   rw [List.drop_eq_nil_of_le (by omega)];simp only [bqQ,ayk,TS,w6,c1,cond_false,List.all_nil]
 | j+1,k,n,hlk=>by
   have hk:k<s.length:=by omega
   obtain⟨m,hm⟩:∃m,s[k]? = some m:=⟨s[k],List.getElem?_eq_getElem hk⟩;have ih:=lp42 s u hl j (k+1) n (by omega);have c1:decide ((k:Int)<((s.length:Nat):Int))=true:=by simp;omega
   have c2:inR (k:Int) s.length=true:=gN (by omega) (by omega);have w4:IntKind.i64.wrap ((k:Int)+1)=((k+1:Nat):Int):=by rw [bD]<;>omega
   rw [aT hm,show n+(j+1)+1=(n+j+1)+1 from rfl];generalize n+j+1=N at ih ⊢;simp only [bqQ,ayk,TS,w6,c1,c2,cond_true,Int.toNat_natCast,aV hm,w4,ih,List.all_cons,sp84,obind_some];cases shP m<;>rfl
theorem s42 (s:List Pl):Sz42 (s,14,())=some (shL s):=by
 show Ez42 (s.length+64) s 14=_;unfold Ez42 Tz42 shL;simp only [TS,w6];have a1:decide ((14:Int)<((s.length:Nat):Int))=!decide (s.length≤14):=by rw [Bool.eq_iff_iff];simp;omega
 have a2:decide (((s.length:Nat):Int)≤256)=!decide (256<s.length):=by rw [Bool.eq_iff_iff];simp;omega
 have a3:decide ((258:Int)<((s.length:Nat):Int))=!decide (s.length≤258):=by rw [Bool.eq_iff_iff];simp;omega
 rw [a1,a2,a3];by_cases h:s.length≤258;· have e:=lp42 s 14 h s.length 0 63 (by omega);rw [List.drop_zero,show 63+s.length+1=s.length+64 by omega]at e;have e':bqR s 14 (s.length+64) (.k8 0)=some (s.all shP):=e;rw [e'];cases decide (s.length≤14)<;>cases decide (256<s.length)<;>simp [h]
 · have h14:decide (s.length≤14)=false:=by simp;omega
   rw [h14];cases decide (256<s.length)<;>simp [h]
theorem lpc44 (s:List Pl) (hl:s.length≤300) (hok:∀t∈s,awY t=true∧lC t.m=true):∀(j k n:Nat) (x:List Pl),s.length=k+j→x.length=k→bx0 s (n+j+1) (.k6 (k:Int) x)=some (x++s.drop k)
 | 0,k,n,x,hk,hx=>by
   have c1:decide ((k:Int)<((s.length:Nat):Int))=false:=by simp;omega
   rw [List.drop_eq_nil_of_le (by omega),List.append_nil];simp only [bqP,ayj,TS,w6,c1,cond_false]
 | j+1,k,n,x,hlk,hx=>by
   have hk:k<s.length:=by omega
   obtain⟨m,hm⟩:∃m,s[k]? = some m:=⟨s[k],List.getElem?_eq_getElem hk⟩;have ih:=lpc44 s hl hok j (k+1) n (x++[m]) (by omega) (by simp [hx]);have c1:decide ((k:Int)<((s.length:Nat):Int))=true:=by simp;omega
   have c2:inR (k:Int) s.length=true:=gN (by omega) (by omega);have w4:IntKind.i64.wrap ((k:Int)+1)=((k+1:Nat):Int):=by rw [bD]<;>omega
   have c3:Nat.ble (64*(x.length+1)) 1000000=true:=by rw [Nat.ble_eq];omega
   have h33:S33 (m,())=some m:=by unfold S33;rw [if_pos (hok m (List.mem_of_getElem? hm))]
   rw [aT hm,show n+(j+1)+1=(n+j+1)+1 from rfl];generalize n+j+1=N at ih ⊢;simp only [bqP,ayj,TS,w6,c1,c2,c3,cond_true,Int.toNat_natCast,aV hm,w4,List.length_map,h33,obind_some];rw [ih,List.append_assoc];rfl
theorem s44 (s:List Pl) (hl:s.length≤300) (hok:∀t∈s,awY t=true∧lC t.m=true):Sz44 (s,())=some s:=by show Ez44 (s.length+64) s=_;unfold Ez44 Tz44;simp only [TS,w6];have e:=lpc44 s hl hok s.length 0 63 [] (by omega) rfl;rw [List.drop_zero,List.nil_append,show 63+s.length+1=s.length+64 by omega]at e;exact e
section
variable {x8 x9 x10 x11 x12 x13:Int}{x14:List St}{x15 x16 x17:Int}{x18:List St}{x19 x20 x21 x22 x23 x24 x25 x26 x27 x28 x29 x30 x31:Int}{x32:Bool}{s:List Pl}
end
theorem el_ok {α:Type}{d:α}{A:Row α}{hk:A.kb=true} (l:List α):(Cod.list d A hk).ok (.el (l.map A.v))=true:=by show(l.map A.v).all A.ok=true;simp [List.all_eq_true,A.okv]
theorem el_dec {α:Type}{d:α}{A:Row α}{hk:A.kb=true} (l:List α):(Cod.list d A hk).dec (.el (l.map A.v))=l:=by
 show(l.map A.v).map A.dec=l;rw [List.map_map]
 conv=>rhs;rw [←List.map_id l]
 exact List.map_congr_left fun x _=>A.dv x
theorem bxe {t:Pl}(h:shP t=true) (hp:bB t.p=true) (he:bB t.e=true):okP t∧awY t=true∧lC t.m=true:=by
 simp only [shP,Bool.and_eq_true,decide_eq_true_eq,List.all_eq_true]at h;obtain⟨h1,h2,h3,h4⟩:=h;have hb:∀m∈t.m,m.b.length≤40:=fun m hm=>by have:=h4 m hm;simp only [shM,Bool.and_eq_true,decide_eq_true_eq]at this;exact this.2
 have okp:awY t=true:=by simp only [awY,Bool.and_eq_true,decide_eq_true_eq,List.all_eq_true];exact⟨by omega,fun m hm=>by have:=hb m hm;omega⟩
 have okc:lC t.m=true:=by simp only [lC,Bool.and_eq_true,decide_eq_true_eq,List.all_eq_true];exact⟨by omega,fun m hm=>by have:=hb m hm;omega⟩
 exact⟨⟨okp,hp,he,by omega⟩,okp,okc⟩
theorem gOK_of {s:List Pl}(hl:s.length≤300) (h:∀t∈s,okP t):gOK s=true:=by simp only [gOK,Bool.and_eq_true,decide_eq_true_eq,List.all_eq_true];exact⟨by omega,fun t ht=>⟨(h t ht).1,(h t ht).2.1,(h t ht).2.2.1,(h t ht).2.2.2⟩⟩
end
end Go.Ev
namespace Go.Ev
open Go.RowKit Go.Proofs
set_option maxRecDepth 20000
set_option maxHeartbeats 8000000
set_option linter.unusedVariables false
noncomputable section
theorem tsR_s {L:List Pl}{a i:Nat}{t:Pl}(h:a≤i) (ht:L[i]? = some t):tsR L a (i+1-a)=tsR L a (i-a)+(if t.e=[]then 0 else 1):=by rw [show i+1-a=(i-a)+1 by omega,tsR,show a+(i-a)=i by omega,aV ht]
theorem osR_s {L:List Pl}{a i:Nat}{t:Pl}(h:a≤i) (ht:L[i]? = some t):osR L a (i+1-a)=osR L a (i-a)+((t.m.countP (·.o):Nat):Int):=by rw [show i+1-a=(i-a)+1 by omega,osR,show a+(i-a)=i by omega,aV ht]
theorem nxt_c {y:St}:(nxt y).c0=y.c0∧(nxt y).c1=y.c1:=by
 unfold nxt;cases decI y
 · cases (y.outs==3);· exact⟨rfl,rfl⟩
   · cases lastI y;· exact⟨rfl,rfl⟩
     · exact⟨rfl,rfl⟩
 · exact⟨rfl,rfl⟩
theorem bi_of {L:List Pl}{i:Nat}{pre:List Hf}{h:Hf}{x:St}{t:Pl}(P:PU L i pre h x) (A:Acc x t) (ht:L[i]? = some t) (hi:i<300):BI L (i+1) (pre++[longS h i x t]) (nxt (mvd x t)):=by
 obtain⟨i1,i2,i3,i4,i5⟩:=i9 P.ok;have n:=mV.1 ⟨i1,i2,i3⟩;have G:=n.good;have N3:=awZ A.mv A.good n A.big;obtain⟨a,ca,C⟩:=P.ch;have rn:=axt (s:=x) A.mv;have rc:=C.runs;have cle:=C.le;have b1:=bal_1 (s:=x) A.mv A.good;have P1:=P.outs;have oo:=awU A.mv G;rw [←azC A.mv]at oo;have o3:=A.good.outs;have no:=n.outs;have nn:=n.inn;have z1:=ajn x.b1;have z2:=ajn x.b2;have z3:=ajn x.b3;have ti:=bxd L a (i-a);have ct:=C.turns;have e1:(if t.e=[]then(0:Int)else 1)=0∨(if t.e=[]then(0:Int)else 1)=1:=by split<;>simp
 have f1:(longS h i x t).to=((i+1:Nat):Int):=by show IntKind.i64.wrap ((i:Int)+1)=_;rw [bD (by omega) (by omega)];omega
 have f2:(longS h i x t).runs=h.runs+runsN x t:=by show IntKind.i64.wrap _=_;rw [bD (by omega) (by omega)]
 have f3:(longS h i x t).turns=h.turns+(if t.e=[]then 0 else 1):=by
  show(if t.e=[]then h.turns else IntKind.i64.wrap (h.turns+1))=_;split;· omega
  · rw [bD (by omega) (by omega)]
 have f4:(longS h i x t).outs=h.outs+((t.m.countP (·.o):Nat):Int):=by show outsI x t=_;rw [oo,P1]
 have f5:(longS h i x t).left=(((jI x t).length:Nat):Int):=rfl;have f6:(longS h i x t).side=h.side:=rfl;have f7:(longS h i x t).inn=h.inn:=rfl;have f8:(longS h i x t).outs=outsI x t:=rfl;have pb:=P.bal;have F:Fin1 L pre.length (longS h i x t) a (i+1):=by
  refine⟨⟨by omega,C.side,C.inn,C.frm,?_,?_,by rw [f2];omega,by rw [f2];omega⟩,by omega,f1,?_,?_,?_⟩;· rw [f3,tsR_s cle ht,ct]
  · rw [f4,osR_s cle ht,C.outs]
  · rw [f2,f3,f4,f5];omega
  · rw [f8];omega
  · rw [f5];omega
 have hh:=P.half;have hin:=P.inn;have cs:=C.side;have ci:=C.inn;have nh:=n.half;have nc0:=n.c0;have nc1:=n.c1;refine⟨azj A,uJ.2 ⟨a,ca,by rw [Nat.zero_add];exact F⟩,?_,?_,?_,?_⟩;· rw [List.dropLast_concat];exact P.three
 · rw [nxt_c.1,kG,f6,f2];show(if x.half=0 then IntKind.i64.wrap (x.c0+runsN x t)else x.c0)=_;have:=P.c0;rw [hh]at *
   by_cases q:h.side=0;· rw [if_pos q]at this ⊢;rw [if_pos q,bD (by omega) (by omega)];omega
   · rw [if_neg q]at this ⊢;rw [if_neg q];omega
 · rw [nxt_c.2,kG,f6,f2];show(if x.half=1 then IntKind.i64.wrap (x.c1+runsN x t)else x.c1)=_;have:=P.c1;rw [hh]at *
   by_cases q:h.side=1;· rw [if_pos q]at this ⊢;rw [if_pos q,bD (by omega) (by omega)];omega
   · rw [if_neg q]at this ⊢;rw [if_neg q];omega
 · unfold nxt;cases hd:decI (mvd x t)with
   | true=>exact .inl rfl| false =>
     rw [cond_false];cases ho:((mvd x t).outs==3)with
     | true =>
       rw [cond_true];cases hl:lastI (mvd x t)with
       | true=>exact .inl rfl| false=>
         rw [cond_false];refine .inr (.inl ⟨?_,?_,rfl,rfl,rfl,rfl,?_⟩);· show IntKind.i64.wrap (1-x.half)=_;rw [List.length_append,List.length_singleton,bD (by omega) (by omega)];omega
         · show (bif x.half==1 then IntKind.i64.wrap (x.inn+1)else x.inn)=_;rw [List.length_append,List.length_singleton];rcases nh with q|q
           · have:(x.half==1)=false:=by rw [q];rfl
             rw [this,cond_false];omega
           · have:(x.half==1)=true:=by rw [q];rfl
             rw [this,cond_true,bD (by omega) (by omega)];omega
         · intro y hy;rw [List.getLast?_concat]at hy;cases hy;exact eq_of_beq ho
     | false=>
       rw [cond_false];have ho':¬outsI x t=3:=by have:(mvd x t).outs=outsI x t:=rfl;rw [this]at ho;simpa using ho
       have b0:=bal_0 (s:=x) A.mv A.good G ho';refine .inr (.inr ⟨pre,_,rfl,hh.trans f6.symm,hin.trans f7.symm,rfl,?_⟩);rw [f2,f3,f4];omega
theorem awg (L:List Pl) (hL:L.length<300):∀(l:List Pl) (i:Nat) (acc:List Hf) (accS:List St) (s:St),L.drop i=l→i≤L.length→BI L i acc s→(∀t∈l,okP t)→accS.getLastD st0=s →
  (pF i acc s l).2=(oA i accS s l).2.2.2∧((pF i acc s l).2=0→(oA i accS s l).2.1=0∧(oA i accS s l).2.2.1=0∧BI L L.length (pF i acc s l).1 ((oA i accS s l).1.getLastD st0)∧∀t∈l,t.m.length≤4)
 | [],i,acc,accS,s,hd,hiL,B,hok,hl=>by refine⟨rfl,fun _=>⟨rfl,rfl,?_,fun _ h=>by cases h⟩⟩;show BI L L.length acc (accS.getLastD st0);rw [hl];have hle:L.length≤i:=List.drop_eq_nil_iff.1 hd;have q:i=L.length:=Nat.le_antisymm hiL hle;rw [←q];exact B
 | t :: l,i,acc,accS,s,hd,hiL,B,hok,hl=>by
   have hi:i<L.length:=by
    rcases Nat.lt_or_ge i L.length with q|q;· exact q
    · rw [List.drop_eq_nil_of_le q]at hd;cases hd
   have ht:L[i]? = some t:=by have:=List.getElem?_drop (xs:=L) (i:=i) (j:=0);rw [hd]at this;simpa using this.symm
   have hd2:L.drop (i+1)=l:=by have:=aT ht;rw [hd]at this;exact(List.cons.inj this).2.symm
   rw [iR,pH];by_cases he:eE s t=0
   · rw [if_neg (by simp [he]),if_neg (by simp [he])];have A:=xG (hok t (by simp)) he;obtain⟨pre,h,e,P⟩:=pu_of B A.on;rw [xS e];obtain⟨h1,h2⟩:=awg L hL l (i+1) (pre++[longS h i s t]) (accS++[nxt (mvd s t)]) (nxt (mvd s t)) hd2 hi (bi_of P A ht (by omega)) (fun t ht=>hok t (List.mem_cons_of_mem _ ht)) (by simp);refine⟨h1,fun q=>?_⟩;obtain⟨g1,g2,g3,g4⟩:=h2 q;refine⟨g1,g2,g3,fun y hy=>?_⟩;rcases List.mem_cons.1 hy with rfl|hy;· exact bL A.mv
     · exact g4 y hy
   · rw [if_pos he,if_pos he];exact⟨rfl,fun q=>absurd q he⟩
end
end Go.Ev
namespace Go.Ev
open Go.RowKit Go.Proofs
set_option maxRecDepth 100000
set_option maxHeartbeats 4000000
set_option linter.unusedVariables false
noncomputable section
def Az7:=(Row.cons (Cod.list pl0 rPl) Row.nil)
inductive Lz7 where
 | k26_0 (a:Int)(b:List (P2))(c d:Int)(e:List (Hf))(f:List (P2))(g:List (Hf))(h i:Int)(j:List (Hf))
 | k26_1 (a:Int)(b:List (P2))(c d:Int)(e:List (Hf))(f g:Int)(h:List (Hf))
def uz7:Lz7→Nat
 | .k26_0 _ _ _ _ _ _ _ _ _ _=>26| .k26_1 _ _ _ _ _ _ _ _=>26
noncomputable def aqE (x10:Int) (x11:List (P2)) (x12:Int) (x13:Int) (x14:List (Hf)) (x15:List (P2)) (x16:List (Hf)) (x17:Int) (x24:Int) (x25:List (List V)):D:=mD [(4,.int .i64 x10),(5,(Cod.list p20 rP2).v x11),(6,.int .i64 x12),(10,.int .i64 x13),(11,(Cod.list hf0 rHf).v x14),(12,(Cod.list p20 rP2).v x15),(13,.gl 128),(45,(Cod.list hf0 rHf).v x16),(46,.int .i64 x17),(47,.int .i64 x24)] 0 [] 129 [(128,(x25,41))]
noncomputable def aqD (x18:Int) (x19:List (P2)) (x20:Int) (x21:Int) (x22:List (Hf)) (x23:Int) (x29:Int) (x30:List (List V)):D:=mD [(4,.int .i64 x18),(5,(Cod.list p20 rP2).v x19),(6,.int .i64 x20),(10,.int .i64 x21),(11,.nils),(12,.nils),(13,.gl 128),(45,(Cod.list hf0 rHf).v x22),(46,.int .i64 x23),(47,.int .i64 x29)] 0 [] 129 [(128,(x30,41))]
def sLz7 (s:List (Pl)):Lz7→D
 | .k26_0 a b c d e f g h i j=>aqE a b c d e f g h i (j.map rHf.v)| .k26_1 a b c d e f g h=>aqD a b c d e f g (h.map rHf.v)
noncomputable def Tz7J (s:List (Pl)):(l_:Lz7)→Tr Bool Lz7 (sLz7 s) cB.v
 | .k26_0 a b d e f g h k l m=>(.i (decide (l<k)) (.i (inR l h.length) (.i (Nat.ble (64*(((m.map rHf.v)).length+1)) 1000000) (.j (.k26_0 a b d e f g h k (w6 (l+1)) (m++[(h.getD l.toNat hf0)])) (aqE a b d e f g h k (w6 (l+1)) ((m.map rHf.v)++[[.int .i64 (h.getD l.toNat hf0).inn,.int .i64 (h.getD l.toNat hf0).side,.int .i64 (h.getD l.toNat hf0).frm,.int .i64 (h.getD l.toNat hf0).to,.int .i64 (h.getD l.toNat hf0).runs,.int .i64 (h.getD l.toNat hf0).turns,.int .i64 (h.getD l.toNat hf0).outs,.int .i64 (h.getD l.toNat hf0).left]])) ⟨by simp only [sLz7,List.map_append,List.map_cons,List.map_nil]<;>rfl⟩) .n) .n) (.v Az52 Sz52 [.el (m.map rHf.v),(Cod.list hf0 rHf).v f] fun o=>(.i o (.i (a==e) (.c Az53 Sz53 (b,g,()) fun p=>(.i p (.i (d==e) (.c Aw27 Sw27 (()) fun q=>(.r q)) (.r false)) (.r false))) (.r false)) (.r false))))| .k26_1 a b d e f g h k=>(.i (decide (h<g)) (.i (inR h f.length) (.i (Nat.ble (64*(((k.map rHf.v)).length+1)) 1000000) (.j (.k26_1 a b d e f g (w6 (h+1)) (k++[(f.getD h.toNat hf0)])) (aqD a b d e f g (w6 (h+1)) ((k.map rHf.v)++[[.int .i64 (f.getD h.toNat hf0).inn,.int .i64 (f.getD h.toNat hf0).side,.int .i64 (f.getD h.toNat hf0).frm,.int .i64 (f.getD h.toNat hf0).to,.int .i64 (f.getD h.toNat hf0).runs,.int .i64 (f.getD h.toNat hf0).turns,.int .i64 (f.getD h.toNat hf0).outs,.int .i64 (f.getD h.toNat hf0).left]])) ⟨by simp only [sLz7,List.map_append,List.map_cons,List.map_nil]<;>rfl⟩) .n) .n) (.v Az52 Sz52 [.el (k.map rHf.v),.el []] fun l=>(.i l (.i (a==e) (.c Az53 Sz53 (b,[],()) fun m=>(.i m (.i (d==e) (.c Aw27 Sw27 (()) fun o=>(.r o)) (.r false)) (.r false))) (.r false)) (.r false))))
noncomputable def Tz7 (s:List (Pl)):Tr Bool Lz7 (sLz7 s) cB.v:=(.c Az42 Sz42 (s,14,()) fun a=>(.i (!a) (.c Aw27 Sw27 (()) fun b=>(.r b)) (.c Az44 Sz44 (s,()) fun d=>(.c Ag48 bxN (d,()) fun e=>(.c Az44 Sz44 (s,()) fun f=>(.c Ag49 bzO (f,()) fun h=>(.c Ag46 Sg46 (s,()) fun j=>(.i (j.2.2.2.1==0) (.c Ag50 Sg50 (s,()) fun k=>(.c Ag51 Sg51 (k,()) fun l=>(.g (.k26_0 e.2.1 h.1 h.2.1 j.2.2.2.1 k l e.1 ((e.1.length:Nat):Int) 0 [])))) (.g (.k26_1 e.2.1 h.1 h.2.1 j.2.2.2.1 e.1 ((e.1.length:Nat):Int) 0 []))))))))))
def Ez7J (s:List (Pl)):=Tr.lp (Tz7J s)
theorem bqJ {s:List (Pl)}{n:Nat}{l_:Lz7}:Ez7J s (n+1) l_=(Tz7J s l_).d (Ez7J s n):=rfl
def Ez7 (n:Nat) (s:List (Pl)):=(Tz7 s).d (Ez7J s n)
def Sz7 (x:(List (Pl))×Unit):=Ez7 (x.1.length+64) x.1
def wz7:Wk ((List (Pl))×Unit) Bool Lz7 cB.v:=⟨fun x=>sLz7 x.1,uz7,fun x=>Tz7 x.1,fun x=>Tz7J x.1⟩
def Kz7:=aU 3 Tryz.func3 [Kw27,Kz42,Kz44,Kg46,Kg48,Kg49,Kg50,Kg51,Kz52,Kz53] noZ ⟨77,(lookA [(13,⟨[4,5,6,10,11,12,13,45,46,47],[],0,[(13,41)],[128],[],[]⟩)]),noL,noL⟩ 128 Az7 cB Sz7 wz7 (fun x=>x.1.length+64)
end
end Go.Ev
namespace Go.Ev
open Go.RowKit Go.Proofs
set_option maxRecDepth 20000
set_option maxHeartbeats 8000000
set_option linter.unusedVariables false
set_option linter.unusedSimpArgs false
noncomputable section
section
variable {s:List Pl}{H:List Hf}{W:List P2}{F:St}
end
theorem bzD {L:List Pl}:∀ {l:List Hf}{k a e:Nat},Ch L k a l e→∀j y,l[j]? = some y→∃a b,Fin1 L (k+j) y a b
 | [],_,_,_,_,j,y,h=>by cases h
 | x::l,k,a,e,⟨b,F,h⟩,0,y,hy=>by simp only [List.getElem?_cons_zero,Oi]at hy;subst hy;exact⟨a,b,F⟩
 | x::l,k,a,e,⟨b,F,h⟩,j+1,y,hy=>by simp only [List.getElem?_cons_succ]at hy;obtain⟨a2,b2,F2⟩:=bzD h j y hy;exact⟨a2,b2,by rw [show k+(j+1)=k+1+j by omega];exact F2⟩
theorem bxp {L:List Pl}{H:List Hf}{e:Nat}(h:Ch L 0 0 H e) (hl:H.length≤300):okH H=true∧(lineQ H).length=(H.length+1) / 2:=by
 rcases List.eq_nil_or_concat H with rfl|⟨pre,q,rfl⟩;· exact⟨rfl,rfl⟩
 rw [List.concat_eq_append]at *
 obtain⟨m,_,F⟩:=uJ.1 h;have e1:(pre++[q]).getLastD hf0=q:=by simp
 have e2:=F.cur.inn;have e3:(pre++[q]).length=pre.length+1:=by simp
 refine⟨?_,?_⟩;· unfold okH;rw [e1];simp only [Bool.and_eq_true,decide_eq_true_eq,List.all_eq_true,Bool.or_eq_true,beq_iff_eq];refine⟨by omega,by omega,fun y hy=>?_⟩;obtain⟨j,hj⟩:=List.mem_iff_getElem?.1 hy;obtain⟨a2,b2,F2⟩:=bzD h j y hj;have i2:=F2.cur.inn;have s2:=F2.cur.side;obtain⟨hj2,_⟩:=List.getElem?_eq_some_iff.1 hj;exact⟨by omega,by omega,by omega⟩
 · unfold lineQ;rw [hZ,List.length_replicate,e1];omega
end
end Go.Ev
namespace Go.Ev
open Go.RowKit Go.Proofs
set_option maxRecDepth 20000
set_option maxHeartbeats 8000000
set_option linter.unusedVariables false
noncomputable section
theorem bas_len (x:St):(((akH x).length:Nat):Int)=nb x.b1+(nb x.b2+nb x.b3):=by unfold akH nb;by_cases a:x.b3=0<;>by_cases b:x.b2=0<;>by_cases c:x.b1=0<;>simp [a,b,c]
theorem ends_0 {x:St}(h:eP x=0):nxt x=x∧(x.outs==3)=false:=by
 unfold eP at h;unfold nxt;cases hd:decI x with
 | true=>rw [hd,cond_true]at h;cases h| false=>
   rw [hd,cond_false]at h;cases ho:(x.outs==3)with
   | true=>rw [ho,cond_true]at h;cases hl:lastI x<;>rw [hl]at h<;>cases h
   | false=>exact⟨rfl,rfl⟩
theorem long_eq {h:Hf}{i:Nat}{s:St}{t:Pl}(A:Acc s t) (ho:h.outs=s.outs):longR h i s t=longS h i s t:=by
 obtain⟨i1,i2,i3,i4,i5⟩:=i9 A.st;have n:=mV.1 ⟨i1,i2,i3⟩;have b1:=bal_1 (s:=s) A.mv A.good;have e:(if eP (mvd s t)=0 then(((akH (nxt (mvd s t))).length:Nat):Int)else(((jI s t).length:Nat):Int))=(((jI s t).length:Nat):Int):=by
  split
  · rename_i he;obtain⟨q1,q2⟩:=ends_0 he;have ho':¬outsI s t=3:=by have:(mvd s t).outs=outsI s t:=rfl;rw [this]at q2;simpa using q2
    have b0:=bal_0 (s:=s) A.mv A.good n.good ho';rw [q1,bas_len];omega
  · rfl
 unfold longR longS;rw [e,ho];rfl
theorem open_eq {pre:List Hf}{h:Hf}{i:Nat}{s:St}{t:Pl}(A:Acc s t) (h1:s.half=h.side) (h2:s.inn=h.inn) (hv:(nxt (mvd s t)).over=false):openR (some (s,t))=mU (pre++[longS h i s t]) (nxt (mvd s t)):=by
 obtain⟨i1,i2,i3,i4,i5⟩:=i9 A.st;have n:=mV.1 ⟨i1,i2,i3⟩;unfold mU;rw [List.getLast?_concat];show(eP (mvd s t)==1)=(!(h.inn==(nxt (mvd s t)).inn)||!(h.side==(nxt (mvd s t)).half));rw [←h1,←h2];unfold eP;unfold nxt at hv ⊢;cases hd:decI (mvd s t)with
 | true=>rw [hd,cond_true]at hv;cases hv| false =>
   rw [hd,cond_false]at hv;rw [cond_false,cond_false];cases ho:((mvd s t).outs==3)with
   | true=>
     rw [ho,cond_true]at hv;rw [cond_true,cond_true];cases hl:lastI (mvd s t)with
     | true=>rw [hl,cond_true]at hv;cases hv| false=>
       rw [cond_false,cond_false];have:(s.half==(oW (mvd s t)).half)=false:=by rw [beq_eq_false_iff_ne];show s.half≠IntKind.i64.wrap (1-s.half);rcases n.half with q|q<;>rw [q]<;>decide
       rw [this];simp
   | false=>rw [cond_false,cond_false];show((0:Int)==1)=(!(s.inn==s.inn)||!(s.half==s.half));simp
theorem bxh (L:List Pl) (hL:L.length<300):∀(l:List Pl) (i:Nat) (acc:List Hf) (p:Option (St×Pl)) (s:St),L.drop i=l→i≤L.length→BI L i acc s→(s.over=false→openR p=mU acc s)→(∀t∈l,okP t)→(pF i acc s l).2=0 →
  bql i acc p s l=(pF i acc s l).1
 | [],i,acc,p,s,hd,hi,B,hp,hok,he=>rfl| t :: l,i,acc,p,s,hd,hiL,B,hp,hok,he=>by
   have hi:i<L.length:=by
    rcases Nat.lt_or_ge i L.length with q|q;· exact q
    · rw [List.drop_eq_nil_of_le q]at hd;cases hd
   have ht:L[i]? = some t:=by have:=List.getElem?_drop (xs:=L) (i:=i) (j:=0);rw [hd]at this;simpa using this.symm
   have hd2:L.drop (i+1)=l:=by have:=aT ht;rw [hd]at this;exact(List.cons.inj this).2.symm
   rw [iR]at he ⊢;by_cases hE:eE s t=0
   · rw [if_neg (by simp [hE])]at he ⊢;have A:=xG (hok t (by simp)) hE;obtain⟨pre,h,e,P⟩:=pu_of B A.on;have ew:withR acc i p s=withH acc i s:=by unfold withR withH;rw [hp A.on]
     have es:sP acc i p s t=sQ acc i s t:=by rw [xS e];unfold sP;rw [ew,e];have:=long_eq (i:=i) (h:=h) A P.outs;simp [this]
     show bql (i+1) (sP acc i p s t) (some (s,t)) (nxt (mvd s t)) l=_;rw [es];rw [xS e]at he ⊢;exact bxh L hL l (i+1) _ _ _ hd2 hi (bi_of P A ht (by omega)) (fun hv=>open_eq A P.half P.inn hv) (fun t ht=>hok t (List.mem_cons_of_mem _ ht)) he
   · rw [if_pos hE]at he;exact absurd he hE
end
end Go.Ev
