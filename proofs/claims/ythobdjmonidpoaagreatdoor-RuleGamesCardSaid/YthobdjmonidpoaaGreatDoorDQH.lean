import Derived.Test.YthobdjmonidpoaaGreatDoorDQG
set_option linter.unusedSimpArgs false
set_option linter.unusedVariables false
namespace Go.Ev
open Go.RowKit Go.Proofs
set_option maxRecDepth 100000
set_option maxHeartbeats 8000000
set_option linter.unusedSimpArgs false
noncomputable section
def clM (m:Mv):Bool:=m.o&&(evIn m.h [102]||((m.f==0)&&(evIn m.h [99,107,121,110]||(evIn m.h [103]&&(m.t==1)))))
theorem evPerm {h:List Nat}:evIn h [99,107,110,121]=evIn h [99,107,121,110]:=by
 rw [Bool.eq_iff_iff,pM,pM]
 constructor<;>· rintro⟨x,rfl,hx⟩;refine⟨x,rfl,?_⟩;simp at hx ⊢;omega
theorem s156 {m:Mv}(hm:mvE m=0):Sz156 (m,())=some (clM m):=by
 show Ez156 m=_
 unfold Ez156 Tz156 clM
 simp only [TS,w6]
 rw [ajg (by simp) hm,obind_some,ajg (by simp) hm,obind_some,ajg (by simp) hm,obind_some]
 have e1:∀b:Bool,(b==true)=b:=by decide
 simp only [e1]
 cases m.o<;>cases evIn m.h [102]<;>cases(m.f==0)<;>cases evIn m.h [99,107,121,110]<;>cases evIn m.h [103]<;>cases(m.t==1)<;>rfl
section
variable {s:Tn}
theorem lp150 (h:aB s.p_m=0):∀(j k n:Nat),s.p_m.length=k+j→axP s (n+j+1) (.k4 (k:Int))=some ((s.p_m.drop k).any clM)
 | 0,k,n,hl=>by
   have c1:decide ((k:Int)<((s.p_m.length:Nat):Int))=false:=by simp;omega
   rw [List.drop_eq_nil_of_le (by omega)]
   simp only [axO,zF,TS,w6,c1,cond_false,List.any_nil]
 | j+1,k,n,hl=>by
   have hlen:=bF h
   have hk:k<s.p_m.length:=by omega
   obtain⟨m,hm⟩:∃m,s.p_m[k]? = some m:=⟨s.p_m[k],List.getElem?_eq_getElem hk⟩
   have ih:=lp150 h j (k+1) n (by omega)
   have hmv:=qM h m (List.mem_of_getElem? hm)
   have c1:decide ((k:Int)<((s.p_m.length:Nat):Int))=true:=by simp;omega
   have c2:inR (k:Int) s.p_m.length=true:=fE (by omega) (by omega)
   have w4:IntKind.i64.wrap ((k:Int)+1)=((k+1:Nat):Int):=by rw [cL]<;>omega
   rw [aY hm,show n+(j+1)+1=(n+j+1)+1 from rfl]
   generalize n+j+1=N at ih ⊢
   simp only [axO,zF,TS,w6,c1,c2,cond_true,Int.toNat_natCast,aW hm,w4,ih,List.any_cons,s181 (c:=[99,107,110,121]) (by simp [CL]) (ajN hmv),obind_some,clM,←evPerm,evIn1]
   cases m.o<;>cases decide (m.h=[102])<;>cases(m.f==0)<;>cases evIn m.h [99,107,110,121]<;>cases decide (m.h=[103])<;>cases(m.t==1)<;>rfl
theorem s150 (h:aB s.p_m=0):Sz150 (s,())=some (s.p_m.any clM):=by
 show Ez150 (s.p_m.length+64) s=_
 unfold Ez150 Tz150
 simp only [TS,w6]
 rw [kQ]
 exact lp150 h s.p_m.length 0 63 (by omega)
theorem lp89 (h:aB s.p_m=0):∀(j k n:Nat) (x:List Mv),s.p_m.length=k+j→x.length≤k→awJ s (n+j+1) (.k10 (k:Int) x)=some (x++(s.p_m.drop k).filter rnM)
 | 0,k,n,x,hl,hx=>by
   have c1:decide ((k:Int)<((s.p_m.length:Nat):Int))=false:=by simp;omega
   rw [List.drop_eq_nil_of_le (by omega)]
   simp only [awI,ako,TS,w6,c1,cond_false,List.filter_nil,List.append_nil]
 | j+1,k,n,x,hl,hx=>by
   have hlen:=bF h
   have hk:k<s.p_m.length:=by omega
   obtain⟨m,hm⟩:∃m,s.p_m[k]? = some m:=⟨s.p_m[k],List.getElem?_eq_getElem hk⟩
   have ih1:=lp89 h j (k+1) n (x++[m]) (by omega) (by simp;omega)
   have ih2:=lp89 h j (k+1) n x (by omega) (by omega)
   have c1:decide ((k:Int)<((s.p_m.length:Nat):Int))=true:=by simp;omega
   have c2:inR (k:Int) s.p_m.length=true:=fE (by omega) (by omega)
   have c3:Nat.ble (64*(x.length+1)) 1000000=true:=by rw [Nat.ble_eq];omega
   have w4:IntKind.i64.wrap ((k:Int)+1)=((k+1:Nat):Int):=by rw [cL]<;>omega
   rw [aY hm,show n+(j+1)+1=(n+j+1)+1 from rfl]
   generalize n+j+1=N at ih1 ih2 ⊢
   simp only [awI,ako,TS,w6,List.length_map,c1,c2,c3,cond_true,Int.toNat_natCast,aW hm,w4,ih1,ih2,s151,obind_some,List.filter_cons]
   cases rnM m<;>simp
def oS (outs:Int) (late:Bool) (l:List Mv):List Mv:=if outs=3∧(late=true∨l.any clM=true)then []else l.filter rnM
theorem s89 (h:aB s.p_m=0):aw1 (s,())=some (oS s.outs s.p_l s.p_m):=by
 have e:=lp89 h s.p_m.length 0 63 [] (by omega) (by simp)
 rw [←kQ,List.drop_zero,List.nil_append]at e
 have e':awJ s (s.p_m.length+64) (.k10 0 [])=some (s.p_m.filter rnM):=e
 show Ez89 (s.p_m.length+64) s=_
 unfold Ez89 Tz89 oS
 simp only [TS,w6]
 rw [s150 h,obind_some,e']
 cases ho:(s.outs==3)with
 | false=>
   have ho:¬s.outs=3:=by simpa using ho
   simp [ho]
 | true=>
   have ho:s.outs=3:=by simpa using ho
   cases s.p_l<;>cases s.p_m.any clM<;>simp [ho]
end
section
variable {s:St}{t:Pl}
theorem lp96 (h:aB t.m=0):∀(j k n:Nat),t.m.length=k+j→awG s t (n+j+1) (.k8 (k:Int))=some (!(t.m.drop k).any clM&&!t.l)
 | 0,k,n,hl=>by
   have c1:decide ((k:Int)<((t.m.length:Nat):Int))=false:=by simp;omega
   rw [List.drop_eq_nil_of_le (by omega)]
   simp only [awF,akn,TS,w6,c1,cond_false,List.any_nil,Bool.not_false,Bool.true_and]
 | j+1,k,n,hl=>by
   have hlen:=bF h
   have hk:k<t.m.length:=by omega
   obtain⟨m,hm⟩:∃m,t.m[k]? = some m:=⟨t.m[k],List.getElem?_eq_getElem hk⟩
   have ih:=lp96 h j (k+1) n (by omega)
   have hmv:=qM h m (List.mem_of_getElem? hm)
   have c1:decide ((k:Int)<((t.m.length:Nat):Int))=true:=by simp;omega
   have c2:inR (k:Int) t.m.length=true:=fE (by omega) (by omega)
   have w4:IntKind.i64.wrap ((k:Int)+1)=((k+1:Nat):Int):=by rw [cL]<;>omega
   rw [aY hm,show n+(j+1)+1=(n+j+1)+1 from rfl]
   generalize n+j+1=N at ih ⊢
   simp only [awF,akn,TS,w6,c1,c2,cond_true,Int.toNat_natCast,aW hm,w4,ih,List.any_cons,s156 hmv,obind_some]
   cases clM m<;>rfl
def ak4 (s:St) (t:Pl):Bool:=!(outsI s t==3)||(!t.m.any clM&&!t.l)
theorem s96 (h:aB t.m=0):Sz96 (s,t,())=some (ak4 s t):=by
 have e:=lp96 (s:=s) h t.m.length 0 63 (by omega)
 rw [←kQ,List.drop_zero]at e
 have e':awG s t (t.m.length+64) (.k8 0)=some (!t.m.any clM&&!t.l):=e
 show Ez96 (t.m.length+64) s t=_
 unfold Ez96 Tz96 ak4
 simp only [TS,w6]
 rw [s155 h,obind_some,e']
 show cond (!(outsI s t==3)) _ _=_
 cases(outsI s t==3)<;>rfl
def slotI (half n0 n1 b1 b2 b3 f:Int):Int:=if f=0 then(if half=0 then n0 else n1)else if f=1 then b1 else if f=2 then b2 else b3
theorem s97 {i:Int}(hs:s.half=0∨s.half=1) (hi:i=0∨i=1∨i=2∨i=3):Sz97 (s,i,())=some (slotI s.half s.n0 s.n1 s.b1 s.b2 s.b3 i):=by
 show Ez97 s i=_
 unfold Ez97 Tz97 slotI
 simp only [TS,w6]
 rcases hs with hs|hs<;>rcases hi with rfl|rfl|rfl|rfl<;>simp [hs,wr0,wr1,wr2]
theorem s91 {s:Tn}{i:Int}(hs:s.s_half=0∨s.s_half=1) (hi:i=0∨i=1∨i=2∨i=3):Sz91 (s,i,())=some (slotI s.s_half s.s_n0 s.s_n1 s.s_b1 s.s_b2 s.s_b3 i):=by
 show Ez91 s i=_
 have e:∀x:St,Sz62 (x,())=Ez62 x:=fun _=>rfl
 unfold Ez91 Tz91 slotI
 simp only [TS,w6]
 rw [e]
 unfold Ez62 Tz62
 simp only [TS,w6]
 rcases hs with hs|hs<;>rcases hi with rfl|rfl|rfl|rfl<;>simp [hs,wr0,wr1,wr2,obind_some]
def sltM (s:St) (m:Mv):Int:=slotI s.half s.n0 s.n1 s.b1 s.b2 s.b3 m.f
theorem lp39 (h:aB t.m=0) (hs:s.half=0∨s.half=1):∀(j k n:Nat) (x:List Int),t.m.length=k+j→x.length≤k→bqR s t (n+j+1) (.k6 (k:Int) x)=some (x++(if ak4 s t=true then((t.m.drop k).filter rnM).map (sltM s)else []))
 | 0,k,n,x,hl,hx=>by
   have c1:decide ((k:Int)<((t.m.length:Nat):Int))=false:=by simp;omega
   rw [List.drop_eq_nil_of_le (by omega)]
   simp only [awT,akt,TS,w6,c1,cond_false,List.filter_nil,List.map_nil,ite_self,List.append_nil]
 | j + 1,k,n,x,hl,hx=>by
   have hlen:=bF h
   have hk:k<t.m.length:=by omega
   obtain⟨m,hm⟩:∃m,t.m[k]? = some m:=⟨t.m[k],List.getElem?_eq_getElem hk⟩
   have hr:=fR (qM h m (List.mem_of_getElem? hm))
   have ih1:=lp39 h hs j (k+1) n (x++[sltM s m]) (by omega) (by simp;omega)
   have ih2:=lp39 h hs j (k+1) n x (by omega) (by omega)
   have q:Sz97 (s,m.f,())=some (sltM s m):=s97 hs (by omega)
   have c1:decide ((k:Int)<((t.m.length:Nat):Int))=true:=by simp;omega
   have c2:inR (k:Int) t.m.length=true:=fE (by omega) (by omega)
   have c3:Nat.ble (8*(x.length+1)) 1000000=true:=by rw [Nat.ble_eq];omega
   have w4:IntKind.i64.wrap ((k:Int)+1)=((k+1:Nat):Int):=by rw [cL]<;>omega
   rw [aY hm,show n+(j+1)+1=(n+j+1)+1 from rfl]
   generalize n+j+1=N at ih1 ih2 ⊢
   simp only [awT,akt,TS,w6,List.length_map,c1,c2,c3,cond_true,Int.toNat_natCast,aW hm,w4,ih1,ih2,s96 h,q,obind_some,List.filter_cons]
   cases hc:ak4 s t with
   | false=>simp
   | true=>
     unfold rnM
     cases m.o<;>cases(m.t==4)<;>simp
theorem s39 (h:aB t.m=0) (hs:s.half=0∨s.half=1):Sz39 (s,t,())=some ((oS (outsI s t) t.l t.m).map (sltM s)):=by
 have e:=lp39 h hs t.m.length 0 63 [] (by omega) (by simp)
 rw [←kQ,List.drop_zero,List.nil_append]at e
 show Ez39 (t.m.length+64) s t=_
 unfold Ez39 Tz39
 simp only [TS,w6]
 refine e.trans ?_
 unfold ak4 oS
 by_cases ho:outsI s t=3<;>cases t.l<;>cases t.m.any clM<;>simp [ho]
end
end
end Go.Ev
