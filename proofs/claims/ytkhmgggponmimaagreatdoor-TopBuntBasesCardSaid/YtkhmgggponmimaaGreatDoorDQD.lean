import Derived.Test.YtkhmgggponmimaaGreatDoorDQC
set_option linter.unusedSimpArgs false
set_option linter.unusedVariables false
namespace Go.Ev
open Go.RowKit Go.Proofs
set_option maxRecDepth 100000
set_option maxHeartbeats 8000000
set_option linter.unusedSimpArgs false
noncomputable section
section
variable {s:Tn}
def bqL (i:Int) (m:Mv):Bool:=!m.o&&(m.f==i)
def wtB (l:List Mv) (i:Int) (f:Bool):Bool:=f&&!(l.any (bqL i))
theorem lp131 (h:aC s.p_m=0):∀(j k n:Nat) (x3 x2 x1 x0:Bool),s.p_m.length=k+j→zT s (n+j+1) (.k10 (k:Int) x3 x2 x1 x0)=some (wtB (s.p_m.drop k) 0 x0||(wtB (s.p_m.drop k) 1 x1||(wtB (s.p_m.drop k) 2 x2||wtB (s.p_m.drop k) 3 x3)))
 | 0,k,n,x3,x2,x1,x0,hl=>by
   have c1:decide ((k:Int)<((s.p_m.length:Nat):Int))=false:=by simp;omega
   rw [List.drop_eq_nil_of_le (by omega)]
   simp only [axM,zG,TS,w6,c1,cond_false,wtB,List.any_nil]
   cases x0<;>cases x1<;>cases x2<;>cases x3<;>rfl
 | j+1,k,n,x3,x2,x1,x0,hl=>by
   have hlen:=dI h
   have hk:k<s.p_m.length:=by omega
   obtain⟨m,hm⟩:∃m,s.p_m[k]? = some m:=⟨s.p_m[k],List.getElem?_eq_getElem hk⟩
   have ih:=fun x3 x2 x1 x0=>lp131 h j (k+1) n x3 x2 x1 x0 (by omega)
   have hr:=fQ (sQ h m (List.mem_of_getElem? hm))
   have c1:decide ((k:Int)<((s.p_m.length:Nat):Int))=true:=by simp;omega
   have c2:inR (k:Int) s.p_m.length=true:=gP (by omega) (by omega)
   have w4:IntKind.i64.wrap ((k:Int)+1)=((k+1:Nat):Int):=by rw [b7]<;>omega
   rw [aO hm,show n+(j+1)+1=(n+j+1)+1 from rfl]
   generalize n+j+1=N at ih ⊢
   simp only [axM,zG,TS,w6,c1,c2,cond_true,Int.toNat_natCast,a7 hm,w4,ih]
   have h4:m.f=0∨m.f=1∨m.f=2∨m.f=3:=by omega
   rcases h4 with h4|h4|h4|h4<;>cases ho:m.o<;>simp [h4,ho,wtB,bqL]
theorem r10_p (h:aC s.p_m=0) (hv:vEv s.p_e):akt (s,())=some (evIn s.p_e [87,72,73]&&(wtB s.p_m 0 s.f0||(wtB s.p_m 1 s.f1||(wtB s.p_m 2 s.f2||wtB s.p_m 3 s.f3)))):=by
 have e:=lp131 h s.p_m.length 0 63 s.f3 s.f2 s.f1 s.f0 (by omega)
 rw [←mB,List.drop_zero]at e
 show Ez131 (s.p_m.length+64) s=_
 unfold Ez131 Tz131
 simp only [TS,w6]
 rw [azK hv (by simp [CL]),obind_some]
 have e':zT s (s.p_m.length+64) (.k10 0 s.f3 s.f2 s.f1 s.f0)=_:=e
 rw [e']
 cases evIn s.p_e [87,72,73]<;>rfl
def upd (i:Int) (p:Int) (m:Mv):Int:=if m.f=i then(if m.o then 0 else m.t)else p
theorem lp152 (h:aC s.p_m=0):∀(j k n:Nat) (p1 p0 p2 p3:Int),s.p_m.length=k+j→uL s (n+j+1) (.k18 p1 p0 p2 p3 (k:Int))=some ((s.p_m.drop k).foldl (upd 0) p0,(s.p_m.drop k).foldl (upd 1) p1,(s.p_m.drop k).foldl (upd 2) p2,(s.p_m.drop k).foldl (upd 3) p3,())
 | 0,k,n,p1,p0,p2,p3,hl=>by
   have c1:decide ((k:Int)<((s.p_m.length:Nat):Int))=false:=by simp;omega
   rw [List.drop_eq_nil_of_le (by omega)]
   simp only [wV,uJ,TS,w6,c1,cond_false,List.foldl_nil]
 | j+1,k,n,p1,p0,p2,p3,hl=>by
   have hlen:=dI h
   have hk:k<s.p_m.length:=by omega
   obtain⟨m,hm⟩:∃m,s.p_m[k]? = some m:=⟨s.p_m[k],List.getElem?_eq_getElem hk⟩
   have ih:=fun p1 p0 p2 p3=>lp152 h j (k+1) n p1 p0 p2 p3 (by omega)
   have hr:=fQ (sQ h m (List.mem_of_getElem? hm))
   have c1:decide ((k:Int)<((s.p_m.length:Nat):Int))=true:=by simp;omega
   have c2:inR (k:Int) s.p_m.length=true:=gP (by omega) (by omega)
   have w4:IntKind.i64.wrap ((k:Int)+1)=((k+1:Nat):Int):=by rw [b7]<;>omega
   rw [aO hm,show n+(j+1)+1=(n+j+1)+1 from rfl]
   generalize n+j+1=N at ih ⊢
   simp only [wV,uJ,TS,w6,c1,c2,cond_true,Int.toNat_natCast,a7 hm,w4,ih,List.foldl_cons]
   have h4:m.f=0∨m.f=1∨m.f=2∨m.f=3:=by omega
   rcases h4 with h4|h4|h4|h4<;>cases ho:m.o<;>simp [h4,ho,upd]
theorem ajK {l:List Mv}(h:aC l=0) {i p:Int}:l.foldl (upd i) p=match mAt l i with
  | some m=>if m.o then 0 else m.t
  | none=>p:=by
 have one:∀(r:List Mv) (q:Int),(∀m∈r,¬m.f=i)→r.foldl (upd i) q=q:=by
  intro r
  induction r with
  | nil=>intro q _;rfl
  | cons a r ih=>
    intro q hq
    rw [List.foldl_cons,ih _ fun m hm=>hq m (List.mem_cons_of_mem _ hm)]
    unfold upd
    rw [if_neg (hq a List.mem_cons_self)]
 have core:∀(r:List Mv) (q:Int) (pr:Option Int),azL pr r=0→r.foldl (upd i) q=match mAt r i with
  | some m=>if m.o then 0 else m.t
  | none=>q:=by
  intro r
  induction r with
  | nil=>intro q _ _;rfl
  | cons a r ih=>
    intro q pr hg
    obtain⟨h1,h2,h3⟩:=gO hg
    rw [List.foldl_cons]
    unfold mAt
    by_cases hf:a.f=i
    · have e:(a.f==i)=true:=by simpa using hf
      rw [List.find?_cons,e]
      have lt:∀(r:List Mv) (pr:Int),azL (some pr) r=0→∀m∈r,m.f<pr:=by
       intro r
       induction r with
       | nil=>intro _ _ m hm;cases hm
       | cons b r ih=>
         intro pr hg m hm
         obtain⟨g1,g2,g3⟩:=gO hg
         have g4:=g2 pr rfl
         rcases List.mem_cons.1 hm with rfl|hm
         · exact g4
         · have:=ih b.f g3 m hm;omega
      rw [one r _ fun m hm=>by have:=lt r a.f h3 m hm;omega]
      simp only [upd,if_pos hf]
    · have e:(a.f==i)=false:=by simpa using hf
      rw [List.find?_cons,e,ih _ _ h3]
      simp only [upd,if_neg hf]
      rfl
 unfold aC at h
 split at h
 · cases h
 · exact core l p none h
theorem s152 (h:aC s.p_m=0):Sz152 (s,())=some (placeB s.p_m s.s_b1 s.s_b2 s.s_b3 0,placeB s.p_m s.s_b1 s.s_b2 s.s_b3 1,placeB s.p_m s.s_b1 s.s_b2 s.s_b3 2,placeB s.p_m s.s_b1 s.s_b2 s.s_b3 3,()):=by
 have hl:=dI h
 have e1:∀n,uL s (n+4) (.k6 0 0 0 0 0)=uL s n (.k18 (if bzB s.s_b1 s.s_b2 s.s_b3 1 then 0 else 1) 0 (if bzB s.s_b1 s.s_b2 s.s_b3 2 then 0 else 2) (if bzB s.s_b1 s.s_b2 s.s_b3 3 then 0 else 3) 0):=by
  intro n
  cases h1:(s.s_b1==0)<;>cases h2:(s.s_b2==0)<;>cases h3:(s.s_b3==0)<;>simp [wV,uJ,TS,w6,bzB,h1,h2,h3,wr0,wr1,wr2,wr3]
 show Ez152 (s.p_m.length+64) s=_
 unfold Ez152 Tz152
 simp only [TS,w6]
 rw [show s.p_m.length+64=(59+s.p_m.length+1)+4 by omega,e1]
 have e2:=lp152 h s.p_m.length 0 59 (if bzB s.s_b1 s.s_b2 s.s_b3 1 then 0 else 1) 0 (if bzB s.s_b1 s.s_b2 s.s_b3 2 then 0 else 2) (if bzB s.s_b1 s.s_b2 s.s_b3 3 then 0 else 3) (by omega)
 rw [List.drop_zero]at e2
 refine e2.trans ?_
 rw [ajK h,ajK h,ajK h,ajK h]
 unfold placeB
 cases mAt s.p_m 0<;>cases mAt s.p_m 1<;>cases mAt s.p_m 2<;>cases mAt s.p_m 3<;>simp
def badQ (x y:Int):Bool:=!(x==0)&&(!(y==0)&&(decide (y≤x)&&!((x==4)&&(y==4))))
theorem uD {d c:Int}{A:Option Bool}:(cond (!(d==(0:Int))) (cond (!(c==(0:Int))) (cond (decide (c≤d)) (cond (!(d==(4:Int))) (some true) (cond (!(c==(4:Int))) (some true) A)) A) A) A)=cond (badQ d c) (some true) A:=by
 unfold badQ
 cases(d==0)<;>cases(c==0)<;>cases decide (c≤d)<;>cases(d==4)<;>cases(c==4)<;>rfl
theorem axu {x y:Int}(hx:0≤x) (hy:0≤y):badQ x y=badP x y:=by
 unfold badQ badP
 have e1:(!(x==0))=decide (0<x):=by rw [Bool.eq_iff_iff];simp;omega
 have e2:(!(y==0))=decide (0<y):=by rw [Bool.eq_iff_iff];simp;omega
 rw [e1,e2]
theorem ez132 (n:Nat) (a b c d p q r t:Int):cP s (n+15) (.k6_0 a b c d p q r t)=some (badQ p b||(badQ p c||(badQ q c||(badQ p d||(badQ q d||badQ r d))))):=by
 have u1:∀m,cP s (m+1) (.k12_1 b a b c d p q r t)=cond (badQ p b) (some true) (cP s m (.k12_2 b a b c d p q r t)):=fun m=>(show _=_ from rfl).trans uD
 have u2:∀m,cP s (m+1) (.k12_3 c a b c d p q r t)=cond (badQ p c) (some true) (cP s m (.k12_4 c a b c d p q r t)):=fun m=>(show _=_ from rfl).trans uD
 have u3:∀m,cP s (m+1) (.k12_4 c a b c d p q r t)=cond (badQ q c) (some true) (cP s m (.k12_5 c a b c d p q r t)):=fun m=>(show _=_ from rfl).trans uD
 have u4:∀m,cP s (m+1) (.k12_6 d a b c d p q r t)=cond (badQ p d) (some true) (cP s m (.k12_7 d a b c d p q r t)):=fun m=>(show _=_ from rfl).trans uD
 have u5:∀m,cP s (m+1) (.k12_7 d a b c d p q r t)=cond (badQ q d) (some true) (cP s m (.k12_8 d a b c d p q r t)):=fun m=>(show _=_ from rfl).trans uD
 have u6:∀m,cP s (m+1) (.k12_8 d a b c d p q r t)=cond (badQ r d) (some true) (cP s m (.k12_9 d a b c d p q r t)):=fun m=>(show _=_ from rfl).trans uD
 have v1:∀m,cP s (m+3) (.k6_0 a b c d p q r t)=cP s m (.k12_1 b a b c d p q r t):=fun _=>rfl
 have v2:∀m,cP s (m+2) (.k12_2 b a b c d p q r t)=cP s m (.k12_3 c a b c d p q r t):=fun _=>rfl
 have v3:∀m,cP s (m+2) (.k12_5 c a b c d p q r t)=cP s m (.k12_6 d a b c d p q r t):=fun _=>rfl
 have v4:∀m,cP s (m+2) (.k12_9 d a b c d p q r t)=some false:=fun _=>rfl
 rw [show n+15=(n+12)+3 from rfl,v1,show n+12=(n+11)+1 from rfl,u1,show n+11=(n+9)+2 from rfl,v2,show n+9=(n+8)+1 from rfl,u2,show n+8=(n+7)+1 from rfl,u3,show n+7=(n+5)+2 from rfl,v3,show n+5=(n+4)+1 from rfl,u4,show n+4=(n+3)+1 from rfl,u5,show n+3=(n+2)+1 from rfl,u6,v4]
 cases badQ p b<;>cases badQ p c<;>cases badQ q c<;>cases badQ p d<;>cases badQ q d<;>cases badQ r d<;>rfl
theorem l4 {l:List Mv}(h:aC l=0) {b1 b2 b3 i:Int}(hi:0≤i):0≤placeB l b1 b2 b3 i:=by
 unfold placeB
 split
 · rename_i m hm
   have:=fQ (xT h hm).2
   split<;>omega
 · split
   · omega
   · split<;>omega
theorem r11_p (h:aC s.p_m=0):aks (s,())=some (awW (placeB s.p_m s.s_b1 s.s_b2 s.s_b3 0) (placeB s.p_m s.s_b1 s.s_b2 s.s_b3 1) (placeB s.p_m s.s_b1 s.s_b2 s.s_b3 2) (placeB s.p_m s.s_b1 s.s_b2 s.s_b3 3)):=by
 show Ez132 (s.p_m.length+64) s=_
 unfold Ez132 Tz132
 simp only [TS,w6]
 rw [s152 h,obind_some]
 have n0:=l4 h (b1:=s.s_b1) (b2:=s.s_b2) (b3:=s.s_b3) (i:=0) (by omega)
 have n1:=l4 h (b1:=s.s_b1) (b2:=s.s_b2) (b3:=s.s_b3) (i:=1) (by omega)
 have n2:=l4 h (b1:=s.s_b1) (b2:=s.s_b2) (b3:=s.s_b3) (i:=2) (by omega)
 have n3:=l4 h (b1:=s.s_b1) (b2:=s.s_b2) (b3:=s.s_b3) (i:=3) (by omega)
 generalize placeB s.p_m s.s_b1 s.s_b2 s.s_b3 0=p0 at *
 generalize placeB s.p_m s.s_b1 s.s_b2 s.s_b3 1=p1 at *
 generalize placeB s.p_m s.s_b1 s.s_b2 s.s_b3 2=p2 at *
 generalize placeB s.p_m s.s_b1 s.s_b2 s.s_b3 3=p3 at *
 rw [show s.p_m.length+64=(s.p_m.length+49)+15 from rfl,ez132]
 rw [axu n0 n1,axu n0 n2,axu n1 n2,axu n0 n3,axu n1 n3,axu n2 n3]
 unfold awW
 cases badP p0 p1<;>cases badP p0 p2<;>cases badP p1 p2<;>cases badP p0 p3<;>cases badP p1 p3<;>cases badP p2 p3<;>rfl
end
end
end Go.Ev
