import Derived.Test.YtkhmgggponmimaaGreatDoorDQE
set_option linter.unusedSimpArgs false
set_option linter.unusedVariables false
namespace Go.Ev
open Go.RowKit Go.Proofs
set_option maxRecDepth 100000
set_option maxHeartbeats 8000000
set_option linter.unusedSimpArgs false
noncomputable section
section
variable {s:St}{t:Pl}
def b2n (b:Bool):Nat:=bif b then 1 else 0
theorem at_nz {l:List Mv}{b1 b2 b3:Int}(h:aC l=0) (h4:l.any (c4 b1 b2 b3)=false) {i:Int}(hi:i=1∨i=2∨i=3) {m:Mv}(hm:mAt l i=some m):bzB b1 b2 b3 i=false:=by
 have hf:=(xT h hm).1
 have h2:=List.mem_of_find?_eq_some hm
 rw [List.any_eq_false]at h4
 have h5:=h4 m h2
 unfold c4 at h5
 rw [hf]at h5
 have hp:decide (0<i)=true:=by simp;omega
 rw [hp]at h5
 simpa using h5
end
end
end Go.Ev
namespace Go.Ev
open Go.RowKit Go.Proofs
set_option maxRecDepth 100000
set_option maxHeartbeats 8000000
set_option linter.unusedSimpArgs false
noncomputable section
structure gH (s:St) (t:Pl):Prop where
 cnt:(eR s t).2.2.1=0
 has:(mAt t.m 0).isSome=!decide (t.e=[])
 four:t.m.any (c4 s.b1 s.b2 s.b3)=false
 fits:∀m,mAt t.m 0=some m→batFits t.e m=true
 order:awW (placeB t.m s.b1 s.b2 s.b3 0) (placeB t.m s.b1 s.b2 s.b3 1) (placeB t.m s.b1 s.b2 s.b3 2) (placeB t.m s.b1 s.b2 s.b3 3)=false
 outs:outsI s t≤3
 late:(t.l&&(decide (outsI s t<3)||(((t.m.countP rnM:Nat):Int)==0)))=false
 asks:aqn (askC ((eR s t).1.1,(eR s t).1.2.1) t.p) t.e=true
end
end Go.Ev
namespace Go.Ev
open Go.RowKit Go.Proofs
set_option maxRecDepth 100000
set_option maxHeartbeats 8000000
set_option linter.unusedSimpArgs false
noncomputable section
def clM (m:Mv):Bool:=m.o&&(evIn m.h [102]||((m.f==0)&&(evIn m.h [99,107,121,110]||(evIn m.h [103]&&(m.t==1)))))
theorem evPerm {h:List Nat}:evIn h [99,107,110,121]=evIn h [99,107,121,110]:=by
 rw [Bool.eq_iff_iff,vU,vU]
 constructor<;>· rintro⟨x,rfl,hx⟩;refine⟨x,rfl,?_⟩;simp at hx ⊢;omega
section
variable {s:Tn}
theorem lp150 (h:aC s.p_m=0):∀(j k n:Nat),s.p_m.length=k+j→axJ s (n+j+1) (.k4 (k:Int))=some ((s.p_m.drop k).any clM)
 | 0,k,n,hl=>by
   have c1:decide ((k:Int)<((s.p_m.length:Nat):Int))=false:=by simp;omega
   rw [List.drop_eq_nil_of_le (by omega)]
   simp only [axI,zE,TS,w6,c1,cond_false,List.any_nil]
 | j+1,k,n,hl=>by
   have hlen:=dI h
   have hk:k<s.p_m.length:=by omega
   obtain⟨m,hm⟩:∃m,s.p_m[k]? = some m:=⟨s.p_m[k],List.getElem?_eq_getElem hk⟩
   have ih:=lp150 h j (k+1) n (by omega)
   have hmv:=sQ h m (List.mem_of_getElem? hm)
   have c1:decide ((k:Int)<((s.p_m.length:Nat):Int))=true:=by simp;omega
   have c2:inR (k:Int) s.p_m.length=true:=gP (by omega) (by omega)
   have w4:IntKind.i64.wrap ((k:Int)+1)=((k+1:Nat):Int):=by rw [b7]<;>omega
   rw [aO hm,show n+(j+1)+1=(n+j+1)+1 from rfl]
   generalize n+j+1=N at ih ⊢
   simp only [axI,zE,TS,w6,c1,c2,cond_true,Int.toNat_natCast,a7 hm,w4,ih,List.any_cons,s181 (c:=[99,107,110,121]) (by simp [CL]) (azZ hmv),obind_some,clM,←evPerm,evIn1]
   cases m.o<;>cases decide (m.h=[102])<;>cases(m.f==0)<;>cases evIn m.h [99,107,110,121]<;>cases decide (m.h=[103])<;>cases(m.t==1)<;>rfl
theorem s150 (h:aC s.p_m=0):Sz150 (s,())=some (s.p_m.any clM):=by
 show Ez150 (s.p_m.length+64) s=_
 unfold Ez150 Tz150
 simp only [TS,w6]
 rw [mB]
 exact lp150 h s.p_m.length 0 63 (by omega)
theorem lp89 (h:aC s.p_m=0):∀(j k n:Nat) (x:List Mv),s.p_m.length=k+j→x.length≤k→awK s (n+j+1) (.k10 (k:Int) x)=some (x++(s.p_m.drop k).filter rnM)
 | 0,k,n,x,hl,hx=>by
   have c1:decide ((k:Int)<((s.p_m.length:Nat):Int))=false:=by simp;omega
   rw [List.drop_eq_nil_of_le (by omega)]
   simp only [awJ,akh,TS,w6,c1,cond_false,List.filter_nil,List.append_nil]
 | j+1,k,n,x,hl,hx=>by
   have hlen:=dI h
   have hk:k<s.p_m.length:=by omega
   obtain⟨m,hm⟩:∃m,s.p_m[k]? = some m:=⟨s.p_m[k],List.getElem?_eq_getElem hk⟩
   have ih1:=lp89 h j (k+1) n (x++[m]) (by omega) (by simp;omega)
   have ih2:=lp89 h j (k+1) n x (by omega) (by omega)
   have c1:decide ((k:Int)<((s.p_m.length:Nat):Int))=true:=by simp;omega
   have c2:inR (k:Int) s.p_m.length=true:=gP (by omega) (by omega)
   have c3:Nat.ble (64*(x.length+1)) 1000000=true:=by rw [Nat.ble_eq];omega
   have w4:IntKind.i64.wrap ((k:Int)+1)=((k+1:Nat):Int):=by rw [b7]<;>omega
   rw [aO hm,show n+(j+1)+1=(n+j+1)+1 from rfl]
   generalize n+j+1=N at ih1 ih2 ⊢
   simp only [awJ,akh,TS,w6,List.length_map,c1,c2,c3,cond_true,Int.toNat_natCast,a7 hm,w4,ih1,ih2,s151,obind_some,List.filter_cons]
   cases rnM m<;>simp
def f7 (outs:Int) (late:Bool) (l:List Mv):List Mv:=if outs=3∧(late=true∨l.any clM=true)then []else l.filter rnM
theorem s89 (h:aC s.p_m=0):axH (s,())=some (f7 s.outs s.p_l s.p_m):=by
 have e:=lp89 h s.p_m.length 0 63 [] (by omega) (by simp)
 rw [←mB,List.drop_zero,List.nil_append]at e
 have e':awK s (s.p_m.length+64) (.k10 0 [])=some (s.p_m.filter rnM):=e
 show Ez89 (s.p_m.length+64) s=_
 unfold Ez89 Tz89 f7
 simp only [TS,w6]
 rw [s150 h,obind_some,e']
 cases ho:(s.outs==3)with
 | false=>
   have ho:¬s.outs=3:=by simpa using ho
   simp [ho]
 | true=>
   have ho:s.outs=3:=by simpa using ho
   cases s.p_l<;>cases s.p_m.any clM<;>simp [ho]
end
section
variable {s:St}{t:Pl}
def azk (half n0 n1 b1 b2 b3 f:Int):Int:=if f=0 then(if half=0 then n0 else n1)else if f=1 then b1 else if f=2 then b2 else b3
theorem s91 {s:Tn}{i:Int}(hs:s.s_half=0∨s.s_half=1) (hi:i=0∨i=1∨i=2∨i=3):bqe (s,i,())=some (azk s.s_half s.s_n0 s.s_n1 s.s_b1 s.s_b2 s.s_b3 i):=by
 show Ez91 s i=_
 have e:∀x:St,Sz62 (x,())=Ez62 x:=fun _=>rfl
 unfold Ez91 Tz91 azk
 simp only [TS,w6]
 rw [e]
 unfold Ez62 Tz62
 simp only [TS,w6]
 rcases hs with hs|hs<;>rcases hi with rfl|rfl|rfl|rfl<;>simp [hs,wr0,wr1,wr2,obind_some]
def bqJ (s:St) (m:Mv):Int:=azk s.half s.n0 s.n1 s.b1 s.b2 s.b3 m.f
end
end
end Go.Ev
