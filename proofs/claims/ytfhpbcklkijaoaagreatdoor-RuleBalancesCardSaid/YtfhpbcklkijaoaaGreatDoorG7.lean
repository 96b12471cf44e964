import Derived.Test.YtfhpbcklkijaoaaGreatDoorG5
set_option linter.unusedSimpArgs false
set_option linter.unusedVariables false

namespace Go.Ev
open Go.RowKit Go.Proofs
set_option maxRecDepth 100000
set_option maxHeartbeats 8000000
set_option linter.unusedSimpArgs false
set_option linter.unusedVariables false
noncomputable section
def shM (m:Mv):Bool:=decide (m.h.length≤20)&&decide (m.b.length≤40)
def shP (t:Pl):Bool:=decide (t.p.length≤26)&&(decide (t.e.length≤20)&&(decide (t.m.length≤6)&&t.m.all shM))
theorem lp84 (t:Pl) (hl:t.m.length≤6):∀(j k n:Nat),t.m.length=k+j→awX t (n+j+1) (.k8 (k:Int))=some ((t.m.drop k).all shM)
 | 0,k,n,hk=>by
   have c1:decide ((k:Int)<((t.m.length:Nat):Int))=false:=by simp;omega
   rw [List.drop_eq_nil_of_le (by omega)]
   simp only [awW,akr,TS,w6,c1,cond_false,List.all_nil]
 | j+1,k,n,hlk=>by
   have hk:k<t.m.length:=by omega
   obtain⟨m,hm⟩:∃m,t.m[k]? = some m:=⟨t.m[k],List.getElem?_eq_getElem hk⟩
   have ih:=lp84 t hl j (k+1) n (by omega)
   have c1:decide ((k:Int)<((t.m.length:Nat):Int))=true:=by simp;omega
   have c2:inR (k:Int) t.m.length=true:=lF (by omega) (by omega)
   have w4:IntKind.i64.wrap ((k:Int)+1)=((k+1:Nat):Int):=by rw [aS]<;>omega
   have a1:decide ((20:Int)<((m.h.length:Nat):Int))=!decide (m.h.length≤20):=by rw [Bool.eq_iff_iff];simp;omega
   have a2:decide ((40:Int)<((m.b.length:Nat):Int))=!decide (m.b.length≤40):=by rw [Bool.eq_iff_iff];simp;omega
   rw [aQ hm,show n+(j+1)+1=(n+j+1)+1 from rfl]
   generalize n+j+1=N at ih ⊢
   simp only [awW,akr,TS,w6,c1,c2,cond_true,Int.toNat_natCast,aP hm,w4,ih,List.all_cons,shM,a1,a2]
   cases decide (m.h.length≤20)<;>cases decide (m.b.length≤40)<;>rfl
theorem sp84 (t:Pl):Sz84 (t,())=some (shP t):=by
 show Ez84 (t.m.length+64) t=_
 unfold Ez84 Tz84 shP
 simp only [TS,w6]
 have a1:decide ((26:Int)<((t.p.length:Nat):Int))=!decide (t.p.length≤26):=by rw [Bool.eq_iff_iff];simp;omega
 have a2:decide ((20:Int)<((t.e.length:Nat):Int))=!decide (t.e.length≤20):=by rw [Bool.eq_iff_iff];simp;omega
 have a3:decide ((6:Int)<((t.m.length:Nat):Int))=!decide (t.m.length≤6):=by rw [Bool.eq_iff_iff];simp;omega
 rw [a1,a2,a3]
 by_cases h:t.m.length≤6
 · have e:=lp84 t h t.m.length 0 63 (by omega)
   rw [←oS,List.drop_zero]at e
   have e':awX t (t.m.length+64) (.k8 0)=some (t.m.all shM):=e
   rw [e']
   cases decide (t.p.length≤26)<;>cases decide (t.e.length≤20)<;>simp [h]
 · cases decide (t.p.length≤26)<;>cases decide (t.e.length≤20)<;>simp [h]
def shL (s:List Pl):Bool:=(decide (s.length≤14)||(decide (256<s.length)&&decide (s.length≤258)))&&s.all shP
theorem lp42 (s:List Pl) (u:Int) (hl:s.length≤258):∀(j k n:Nat),s.length=k+j→aw1 s u (n+j+1) (.k8 (k:Int))=some ((s.drop k).all shP)
 | 0,k,n,hk=>by
   have c1:decide ((k:Int)<((s.length:Nat):Int))=false:=by simp;omega
   rw [List.drop_eq_nil_of_le (by omega)]
   simp only [aw0,akt,TS,w6,c1,cond_false,List.all_nil]
 | j+1,k,n,hlk=>by
   have hk:k<s.length:=by omega
   obtain⟨m,hm⟩:∃m,s[k]? = some m:=⟨s[k],List.getElem?_eq_getElem hk⟩
   have ih:=lp42 s u hl j (k+1) n (by omega)
   have c1:decide ((k:Int)<((s.length:Nat):Int))=true:=by simp;omega
   have c2:inR (k:Int) s.length=true:=lF (by omega) (by omega)
   have w4:IntKind.i64.wrap ((k:Int)+1)=((k+1:Nat):Int):=by rw [aS]<;>omega
   rw [aQ hm,show n+(j+1)+1=(n+j+1)+1 from rfl]
   generalize n+j+1=N at ih ⊢
   simp only [aw0,akt,TS,w6,c1,c2,cond_true,Int.toNat_natCast,aP hm,w4,ih,List.all_cons,sp84,obind_some]
   cases shP m<;>rfl
theorem s42 (s:List Pl):Sz42 (s,14,())=some (shL s):=by
 show Ez42 (s.length+64) s 14=_
 unfold Ez42 Tz42 shL
 simp only [TS,w6]
 have a1:decide ((14:Int)<((s.length:Nat):Int))=!decide (s.length≤14):=by rw [Bool.eq_iff_iff];simp;omega
 have a2:decide (((s.length:Nat):Int)≤256)=!decide (256<s.length):=by rw [Bool.eq_iff_iff];simp;omega
 have a3:decide ((258:Int)<((s.length:Nat):Int))=!decide (s.length≤258):=by rw [Bool.eq_iff_iff];simp;omega
 rw [a1,a2,a3]
 by_cases h:s.length≤258
 · have e:=lp42 s 14 h s.length 0 63 (by omega)
   rw [List.drop_zero,show 63+s.length+1=s.length+64 by omega]at e
   have e':aw1 s 14 (s.length+64) (.k8 0)=some (s.all shP):=e
   rw [e']
   cases decide (s.length≤14)<;>cases decide (256<s.length)<;>simp [h]
 · have h14:decide (s.length≤14)=false:=by simp;omega
   rw [h14]
   cases decide (256<s.length)<;>simp [h]
theorem lpc44 (s:List Pl) (hl:s.length≤300) (hok:∀t∈s,aw6 t=true∧jQ t.m=true):∀(j k n:Nat) (x:List Pl),s.length=k+j→x.length=k→bqI s (n+j+1) (.k6 (k:Int) x)=some (x++s.drop k)
 | 0,k,n,x,hk,hx=>by
   have c1:decide ((k:Int)<((s.length:Nat):Int))=false:=by simp;omega
   rw [List.drop_eq_nil_of_le (by omega),List.append_nil]
   simp only [awZ,aks,TS,w6,c1,cond_false]
 | j+1,k,n,x,hlk,hx=>by
   have hk:k<s.length:=by omega
   obtain⟨m,hm⟩:∃m,s[k]? = some m:=⟨s[k],List.getElem?_eq_getElem hk⟩
   have ih:=lpc44 s hl hok j (k+1) n (x++[m]) (by omega) (by simp [hx])
   have c1:decide ((k:Int)<((s.length:Nat):Int))=true:=by simp;omega
   have c2:inR (k:Int) s.length=true:=lF (by omega) (by omega)
   have w4:IntKind.i64.wrap ((k:Int)+1)=((k+1:Nat):Int):=by rw [aS]<;>omega
   have c3:Nat.ble (64*(x.length+1)) 1000000=true:=by rw [Nat.ble_eq];omega
   have h33:S33 (m,())=some m:=by unfold S33;rw [if_pos (hok m (List.mem_of_getElem? hm))]
   rw [aQ hm,show n+(j+1)+1=(n+j+1)+1 from rfl]
   generalize n+j+1=N at ih ⊢
   simp only [awZ,aks,TS,w6,c1,c2,c3,cond_true,Int.toNat_natCast,aP hm,w4,List.length_map,h33,obind_some]
   rw [ih,List.append_assoc];rfl
theorem s44 (s:List Pl) (hl:s.length≤300) (hok:∀t∈s,aw6 t=true∧jQ t.m=true):Sz44 (s,())=some s:=by
 show Ez44 (s.length+64) s=_
 unfold Ez44 Tz44
 simp only [TS,w6]
 have e:=lpc44 s hl hok s.length 0 63 [] (by omega) rfl
 rw [List.drop_zero,List.nil_append,show 63+s.length+1=s.length+64 by omega]at e
 exact e
section
variable {x8 x9 x10 x11 x12 x13:Int}{x14:List St}{x15 x16 x17:Int}{x18:List St}{x19 x20 x21 x22 x23 x24 x25 x26 x27 x28 x29 x30 x31:Int}{x32:Bool}{s:List Pl}
end
theorem el_ok {α:Type}{d:α}{A:Row α}{hk:A.kb=true} (l:List α):(Cod.list d A hk).ok (.el (l.map A.v))=true:=by
 show(l.map A.v).all A.ok=true
 simp [List.all_eq_true,A.okv]
theorem bqP {t:Pl}(h:shP t=true) (hp:aV t.p=true) (he:aV t.e=true):okP t∧aw6 t=true∧jQ t.m=true:=by
 simp only [shP,Bool.and_eq_true,decide_eq_true_eq,List.all_eq_true]at h
 obtain⟨h1,h2,h3,h4⟩:=h
 have hb:∀m∈t.m,m.b.length≤40:=fun m hm=>by
  have:=h4 m hm
  simp only [shM,Bool.and_eq_true,decide_eq_true_eq]at this
  exact this.2
 have okp:aw6 t=true:=by
  simp only [aw6,Bool.and_eq_true,decide_eq_true_eq,List.all_eq_true]
  exact⟨by omega,fun m hm=>by have:=hb m hm;omega⟩
 have okc:jQ t.m=true:=by
  simp only [jQ,Bool.and_eq_true,decide_eq_true_eq,List.all_eq_true]
  exact⟨by omega,fun m hm=>by have:=hb m hm;omega⟩
 exact⟨⟨okp,hp,he,by omega⟩,okp,okc⟩
theorem gOK_of {s:List Pl}(hl:s.length≤300) (h:∀t∈s,okP t):gOK s=true:=by
 simp only [gOK,Bool.and_eq_true,decide_eq_true_eq,List.all_eq_true]
 exact⟨by omega,fun t ht=>⟨(h t ht).1,(h t ht).2.1,(h t ht).2.2.1,(h t ht).2.2.2⟩⟩
end
end Go.Ev
