import Derived.Test.YtkhmgggponmimaaGreatDoorDQ7
set_option linter.unusedSimpArgs false
set_option linter.unusedVariables false
namespace Go.Ev
open Go.RowKit Go.Proofs
set_option maxRecDepth 100000
set_option maxHeartbeats 8000000
set_option linter.unusedSimpArgs false
noncomputable section
theorem sQ {l:List Mv}(h:aC l=0):∀m∈l,mvE m=0:=by
 refine sh_cases h ?_ ?_ ?_ ?_ ?_ ?_ ?_ ?_ ?_ ?_ ?_ ?_ ?_ ?_ ?_ ?_<;>intros<;>simp only [vMv,List.mem_cons,List.not_mem_nil,or_false]at *<;>rename_i hx<;>(try exact hx.elim)<;>(try (rcases hx with rfl|rfl|rfl|rfl))<;>(try (rcases hx with rfl|rfl|rfl))<;>(try (rcases hx with rfl|rfl))<;>(try subst hx)<;>simp_all
def bzB (b1 b2 b3:Int) (f:Int):Bool:=if f=1 then b1==0 else if f=2 then b2==0 else b3==0
section
variable {s:St}{t:Pl}{u:Int}
end
end
end Go.Ev
namespace Go.Ev
open Go.RowKit Go.Proofs
set_option maxRecDepth 100000
set_option maxHeartbeats 8000000
set_option linter.unusedSimpArgs false
noncomputable section
def placeB (l:List Mv) (b1 b2 b3:Int) (f:Int):Int:=match mAt l f with
 | some m=>if m.o then 0 else m.t
 | none=>if f=0 then 0 else if bzB b1 b2 b3 f then 0 else f
def badP (x y:Int):Bool:=decide (0<x)&&(decide (0<y)&&(decide (y≤x)&&!((x==4)&&(y==4))))
def awW (p0 p1 p2 p3:Int):Bool:=badP p0 p1||(badP p0 p2||(badP p0 p3||(badP p1 p2||(badP p1 p3||badP p2 p3))))
section
variable {s:St}{t:Pl}{u:Int}
end
end
end Go.Ev
namespace Go.Ev
open Go.RowKit Go.Proofs
set_option maxRecDepth 100000
set_option maxHeartbeats 8000000
set_option linter.unusedSimpArgs false
noncomputable section
section
variable {s:Tn}
theorem aO {α:Type}{l:List α}{k:Nat}{m:α}(hm:l[k]? = some m):l.drop k=m::l.drop (k+1):=by
 obtain⟨h1,h2⟩:=List.getElem?_eq_some_iff.1 hm
 rw [List.drop_eq_getElem_cons h1,h2]
def c4 (b1 b2 b3:Int) (m:Mv):Bool:=decide (0<m.f)&&bzB b1 b2 b3 m.f
theorem lp125 (h:aC s.p_m=0):∀(j k n:Nat),s.p_m.length=k+j→axS s (n+j+1) (.k200002 (k:Int))=some ((s.p_m.drop k).any (c4 s.s_b1 s.s_b2 s.s_b3))
 | 0,k,n,hl=>by
   have c1:decide ((k:Int)<((s.p_m.length:Nat):Int))=false:=by simp;omega
   rw [List.drop_eq_nil_of_le (by omega)]
   simp only [axR,zJ,TS,w6,c1,cond_false,List.any_nil]
 | j+1,k,n,hl=>by
   have hlen:=dI h
   have hk:k<s.p_m.length:=by omega
   obtain⟨m,hm⟩:∃m,s.p_m[k]? = some m:=⟨s.p_m[k],List.getElem?_eq_getElem hk⟩
   have ih:=lp125 h j (k+1) n (by omega)
   have hr:=fQ (sQ h m (List.mem_of_getElem? hm))
   have c1:decide ((k:Int)<((s.p_m.length:Nat):Int))=true:=by simp;omega
   have c2:inR (k:Int) s.p_m.length=true:=gP (by omega) (by omega)
   have w4:IntKind.i64.wrap ((k:Int)+1)=((k+1:Nat):Int):=by rw [b7]<;>omega
   rw [aO hm,show n+(j+1)+1=(n+j+1)+1 from rfl]
   generalize n+j+1=N at ih ⊢
   simp only [axR,zJ,TS,w6,c1,c2,cond_true,Int.toNat_natCast,a7 hm,w4,ih,List.any_cons]
   have h4:m.f=0∨m.f=1∨m.f=2∨m.f=3:=by omega
   rcases h4 with h4|h4|h4|h4<;>simp [h4,c4,bzB,wr0,wr1,wr2]<;>(try (cases(s.s_b1==0)<;>rfl))<;>(try (cases(s.s_b2==0)<;>rfl))<;>(try (cases(s.s_b3==0)<;>rfl))
theorem mB {l:List Mv}:l.length+64=63+l.length+1:=by omega
theorem r4_p (h:aC s.p_m=0):akz (s,())=some (s.p_m.any (c4 s.s_b1 s.s_b2 s.s_b3)):=by
 show Ez125 (s.p_m.length+64) s=_
 unfold Ez125 Tz125
 simp only [TS,w6]
 rw [mB]
 exact lp125 h s.p_m.length 0 63 (by omega)
def c8 (s:Tn) (m:Mv):Bool:=decide (0<m.f)&&!wayB s.p_e s.p_p (fcdB s.f1 s.f2 s.f3 m.f) (batIn s.p_m [99]) (batIn s.p_m [99,107]) m
theorem lp129 (h:aC s.p_m=0) (hv:vEv s.p_e):∀(j k n:Nat),s.p_m.length=k+j→axQ s (n+j+1) (.k200002 (k:Int))=some ((s.p_m.drop k).any (c8 s))
 | 0,k,n,hl=>by
   have c1:decide ((k:Int)<((s.p_m.length:Nat):Int))=false:=by simp;omega
   rw [List.drop_eq_nil_of_le (by omega)]
   simp only [axP,zI,TS,w6,c1,cond_false,List.any_nil]
 | j + 1,k,n,hl=>by
   have hlen:=dI h
   have hk:k<s.p_m.length:=by omega
   obtain⟨m,hm⟩:∃m,s.p_m[k]? = some m:=⟨s.p_m[k],List.getElem?_eq_getElem hk⟩
   have ih:=lp129 h hv j (k+1) n (by omega)
   have hmv:=sQ h m (List.mem_of_getElem? hm)
   have hr:=fQ hmv
   have c1:decide ((k:Int)<((s.p_m.length:Nat):Int))=true:=by simp;omega
   have c2:inR (k:Int) s.p_m.length=true:=gP (by omega) (by omega)
   have w4:IntKind.i64.wrap ((k:Int)+1)=((k+1:Nat):Int):=by rw [b7]<;>omega
   rw [aO hm,show n+(j+1)+1=(n+j+1)+1 from rfl]
   generalize n+j+1=N at ih ⊢
   simp only [axP,zI,TS,w6,c1,c2,cond_true,Int.toNat_natCast,a7 hm,w4,ih,List.any_cons,c8]
   by_cases hf:m.f=0
   · have c0:decide (0<m.f)=false:=by simp;omega
     simp only [c0,cond_false,Bool.false_and,Bool.false_or]
   · have c0:decide (0<m.f)=true:=by simp;omega
     simp only [c0,cond_true,Bool.true_and]
     cases ho:m.o with
     | true=>
       simp only [cond_true,Bool.not_true,cond_false]
       rw [s183 h hv hmv hf ho,obind_some]
       cases wayB s.p_e s.p_p (fcdB s.f1 s.f2 s.f3 m.f) (batIn s.p_m [99]) (batIn s.p_m [99,107]) m<;>rfl
     | false=>
       simp only [cond_false,Bool.not_false,cond_true]
       rw [s184 hv hmv hf ho (batIn s.p_m [99]) (batIn s.p_m [99,107]),obind_some]
       cases wayB s.p_e s.p_p (fcdB s.f1 s.f2 s.f3 m.f) (batIn s.p_m [99]) (batIn s.p_m [99,107]) m<;>rfl
theorem r8_p (h:aC s.p_m=0) (hv:vEv s.p_e):akv (s,())=some (s.p_m.any (c8 s)):=by
 show Ez129 (s.p_m.length+64) s=_
 unfold Ez129 Tz129
 simp only [TS,w6]
 rw [mB]
 exact lp129 h hv s.p_m.length 0 63 (by omega)
def bk9 (m:Mv):Bool:=decide (0<m.f)&&decide (m.h=[107])
def st9 (m:Mv):Bool:=decide (0<m.f)&&(decide (m.h=[107])&&(m.t==IntKind.i64.wrap (m.f+1)))
def nz (b:Int):Nat:=bif b==0 then 0 else 1
theorem s185 (b1 b2 b3:Int):sF ([b1,b2,b3],(),())=some (((nz b1+(nz b2+nz b3):Nat)):Int):=by
 have j:∀n,kD [b1,b2,b3] () (n+4) (.k6 0 0)=some (((nz b1+(nz b2+nz b3):Nat)):Int):=by
  intro n
  have e:∀b:Int,Sz186 (b,())=some (!(b==0)):=fun _=>rfl
  cases h1:(b1==0)<;>cases h2:(b2==0)<;>cases h3:(b3==0)<;>simp [zS,kC,TS,w6,inR,e,obind_some,h1,h2,h3,nz,wr0,wr1,wr2,wr3]
 show sJ (3+64) [b1,b2,b3] ()=_
 unfold sJ sC
 simp only [TS,w6]
 exact j 63
theorem awn (h:aC s.p_m=0):∀(j k n:Nat) (x:Bool) (c:Nat),s.p_m.length=k+j→c≤k→axO s (n+j+1) (.k200002 (k:Int) x (c:Int))=some ((x||(s.p_m.drop k).any bk9)&&decide (((c+(s.p_m.drop k).countP st9:Nat):Int)<((nz s.s_b1+(nz s.s_b2+nz s.s_b3):Nat):Int)))
 | 0,k,n,x,c,hl,hc=>by
   have c1:decide ((k:Int)<((s.p_m.length:Nat):Int))=false:=by simp;omega
   rw [List.drop_eq_nil_of_le (by omega)]
   simp only [axN,zH,TS,w6,c1,cond_false,List.any_nil,s185,obind_some,List.countP_nil,Bool.or_false,Nat.add_zero]
   cases x<;>rfl
 | j+1,k,n,x,c,hl,hc=>by
   have hlen:=dI h
   have hk:k<s.p_m.length:=by omega
   obtain⟨m,hm⟩:∃m,s.p_m[k]? = some m:=⟨s.p_m[k],List.getElem?_eq_getElem hk⟩
   have c1:decide ((k:Int)<((s.p_m.length:Nat):Int))=true:=by simp;omega
   have c2:inR (k:Int) s.p_m.length=true:=gP (by omega) (by omega)
   have w4:IntKind.i64.wrap ((k:Int)+1)=((k+1:Nat):Int):=by rw [b7]<;>omega
   have w5:IntKind.i64.wrap ((c:Int)+1)=((c+1:Nat):Int):=by rw [b7]<;>omega
   have ih1:=awn h j (k+1) n true (c+1) (by omega) (by omega)
   have ih2:=awn h j (k+1) n true c (by omega) (by omega)
   have ih3:=awn h j (k+1) n x c (by omega) (by omega)
   rw [aO hm,show n+(j+1)+1=(n+j+1)+1 from rfl]
   generalize n+j+1=N at ih1 ih2 ih3 ⊢
   simp only [axN,zH,TS,w6,c1,c2,cond_true,Int.toNat_natCast,a7 hm,w4,w5,ih1,ih2,ih3,List.any_cons,List.countP_cons,bk9,st9]
   have h3:(m.t==IntKind.i64.wrap (m.f+1))=true∨(m.t==IntKind.i64.wrap (m.f+1))=false:=by cases(m.t==IntKind.i64.wrap (m.f+1))<;>simp
   rcases h3 with h3|h3<;>by_cases h1:0<m.f<;>by_cases h2:m.h=[107]<;>simp [h1,h2,h3,Nat.add_assoc,Nat.add_comm 1]
theorem r9_p (h:aC s.p_m=0):aku (s,())=some (s.p_m.any bk9&&decide (((s.p_m.countP st9:Nat):Int)<((nz s.s_b1+(nz s.s_b2+nz s.s_b3):Nat):Int))):=by
 show Ez130 (s.p_m.length+64) s=_
 unfold Ez130 Tz130
 simp only [TS,w6]
 rw [mB]
 have:=awn h s.p_m.length 0 63 false 0 (by omega) (by omega)
 simpa using this
end
end
end Go.Ev
