import Derived.Test.YthobdjmonidpoaaGreatDoorDGL1
set_option linter.unusedSimpArgs false
set_option linter.unusedVariables false
namespace Go.Ev
open Go.RowKit Go.Proofs
set_option maxRecDepth 100000
set_option maxHeartbeats 8000000
set_option linter.unusedSimpArgs false
set_option linter.unusedVariables false
noncomputable section
def shM (m:Mv):Bool:=decide (m.h.length≤20)&&decide (m.b.length≤40)
def shP (t:Pl):Bool:=decide (t.p.length≤26)&&(decide (t.e.length≤20)&&(decide (t.m.length≤6)&&t.m.all shM))
theorem lp84 (t:Pl) (hl:t.m.length≤6):∀(j k n:Nat),t.m.length=k+j→awL t (n+j+1) (.k8 (k:Int))=some ((t.m.drop k).all shM)
 | 0,k,n,hk=>by
   have c1:decide ((k:Int)<((t.m.length:Nat):Int))=false:=by simp;omega
   rw [List.drop_eq_nil_of_le (by omega)]
   simp only [awK,akp,TS,w6,c1,cond_false,List.all_nil]
 | j+1,k,n,hlk=>by
   have hk:k<t.m.length:=by omega
   obtain⟨m,hm⟩:∃m,t.m[k]? = some m:=⟨t.m[k],List.getElem?_eq_getElem hk⟩
   have ih:=lp84 t hl j (k+1) n (by omega)
   have c1:decide ((k:Int)<((t.m.length:Nat):Int))=true:=by simp;omega
   have c2:inR (k:Int) t.m.length=true:=fE (by omega) (by omega)
   have w4:IntKind.i64.wrap ((k:Int)+1)=((k+1:Nat):Int):=by rw [cL]<;>omega
   have a1:decide ((20:Int)<((m.h.length:Nat):Int))=!decide (m.h.length≤20):=by rw [Bool.eq_iff_iff];simp;omega
   have a2:decide ((40:Int)<((m.b.length:Nat):Int))=!decide (m.b.length≤40):=by rw [Bool.eq_iff_iff];simp;omega
   rw [aY hm,show n+(j+1)+1=(n+j+1)+1 from rfl]
   generalize n+j+1=N at ih ⊢
   simp only [awK,akp,TS,w6,c1,c2,cond_true,Int.toNat_natCast,aW hm,w4,ih,List.all_cons,shM,a1,a2]
   cases decide (m.h.length≤20)<;>cases decide (m.b.length≤40)<;>rfl
theorem sp84 (t:Pl):Sz84 (t,())=some (shP t):=by
 show Ez84 (t.m.length+64) t=_
 unfold Ez84 Tz84 shP
 simp only [TS,w6]
 have a1:decide ((26:Int)<((t.p.length:Nat):Int))=!decide (t.p.length≤26):=by rw [Bool.eq_iff_iff];simp;omega
 have a2:decide ((20:Int)<((t.e.length:Nat):Int))=!decide (t.e.length≤20):=by rw [Bool.eq_iff_iff];simp;omega
 have a3:decide ((6:Int)<((t.m.length:Nat):Int))=!decide (t.m.length≤6):=by rw [Bool.eq_iff_iff];simp;omega
 rw [a1,a2,a3]
 by_cases h:t.m.length≤6
 · have e:=lp84 t h t.m.length 0 63 (by omega)
   rw [←kQ,List.drop_zero]at e
   have e':awL t (t.m.length+64) (.k8 0)=some (t.m.all shM):=e
   rw [e']
   cases decide (t.p.length≤26)<;>cases decide (t.e.length≤20)<;>simp [h]
 · cases decide (t.p.length≤26)<;>cases decide (t.e.length≤20)<;>simp [h]
def shL (s:List Pl):Bool:=(decide (s.length≤14)||(decide (256<s.length)&&decide (s.length≤258)))&&s.all shP
theorem lp42 (s:List Pl) (u:Int) (hl:s.length≤258):∀(j k n:Nat),s.length=k+j→awS s u (n+j+1) (.k8 (k:Int))=some ((s.drop k).all shP)
 | 0,k,n,hk=>by
   have c1:decide ((k:Int)<((s.length:Nat):Int))=false:=by simp;omega
   rw [List.drop_eq_nil_of_le (by omega)]
   simp only [awR,aks,TS,w6,c1,cond_false,List.all_nil]
 | j+1,k,n,hlk=>by
   have hk:k<s.length:=by omega
   obtain⟨m,hm⟩:∃m,s[k]? = some m:=⟨s[k],List.getElem?_eq_getElem hk⟩
   have ih:=lp42 s u hl j (k+1) n (by omega)
   have c1:decide ((k:Int)<((s.length:Nat):Int))=true:=by simp;omega
   have c2:inR (k:Int) s.length=true:=fE (by omega) (by omega)
   have w4:IntKind.i64.wrap ((k:Int)+1)=((k+1:Nat):Int):=by rw [cL]<;>omega
   rw [aY hm,show n+(j+1)+1=(n+j+1)+1 from rfl]
   generalize n+j+1=N at ih ⊢
   simp only [awR,aks,TS,w6,c1,c2,cond_true,Int.toNat_natCast,aW hm,w4,ih,List.all_cons,sp84,obind_some]
   cases shP m<;>rfl
theorem s42 (s:List Pl):Sz42 (s,14,())=some (shL s):=by
 show Ez42 (s.length+64) s 14=_
 unfold Ez42 Tz42 shL
 simp only [TS,w6]
 have a1:decide ((14:Int)<((s.length:Nat):Int))=!decide (s.length≤14):=by rw [Bool.eq_iff_iff];simp;omega
 have a2:decide (((s.length:Nat):Int)≤256)=!decide (256<s.length):=by rw [Bool.eq_iff_iff];simp;omega
 have a3:decide ((258:Int)<((s.length:Nat):Int))=!decide (s.length≤258):=by rw [Bool.eq_iff_iff];simp;omega
 rw [a1,a2,a3]
 by_cases h:s.length≤258
 · have e:=lp42 s 14 h s.length 0 63 (by omega)
   rw [List.drop_zero,show 63+s.length+1=s.length+64 by omega]at e
   have e':awS s 14 (s.length+64) (.k8 0)=some (s.all shP):=e
   rw [e']
   cases decide (s.length≤14)<;>cases decide (256<s.length)<;>simp [h]
 · have h14:decide (s.length≤14)=false:=by simp;omega
   rw [h14]
   cases decide (256<s.length)<;>simp [h]
theorem lpc44 (s:List Pl) (hl:s.length≤300) (hok:∀t∈s,avb t=true∧jM t.m=true):∀(j k n:Nat) (x:List Pl),s.length=k+j→x.length=k→bqQ s (n+j+1) (.k6 (k:Int) x)=some (x++s.drop k)
 | 0,k,n,x,hk,hx=>by
   have c1:decide ((k:Int)<((s.length:Nat):Int))=false:=by simp;omega
   rw [List.drop_eq_nil_of_le (by omega),List.append_nil]
   simp only [awQ,akr,TS,w6,c1,cond_false]
 | j+1,k,n,x,hlk,hx=>by
   have hk:k<s.length:=by omega
   obtain⟨m,hm⟩:∃m,s[k]? = some m:=⟨s[k],List.getElem?_eq_getElem hk⟩
   have ih:=lpc44 s hl hok j (k+1) n (x++[m]) (by omega) (by simp [hx])
   have c1:decide ((k:Int)<((s.length:Nat):Int))=true:=by simp;omega
   have c2:inR (k:Int) s.length=true:=fE (by omega) (by omega)
   have w4:IntKind.i64.wrap ((k:Int)+1)=((k+1:Nat):Int):=by rw [cL]<;>omega
   have c3:Nat.ble (64*(x.length+1)) 1000000=true:=by rw [Nat.ble_eq];omega
   have h33:S33 (m,())=some m:=by unfold S33;rw [if_pos (hok m (List.mem_of_getElem? hm))]
   rw [aY hm,show n+(j+1)+1=(n+j+1)+1 from rfl]
   generalize n+j+1=N at ih ⊢
   simp only [awQ,akr,TS,w6,c1,c2,c3,cond_true,Int.toNat_natCast,aW hm,w4,List.length_map,h33,obind_some]
   rw [ih,List.append_assoc];rfl
theorem s44 (s:List Pl) (hl:s.length≤300) (hok:∀t∈s,avb t=true∧jM t.m=true):Sz44 (s,())=some s:=by
 show Ez44 (s.length+64) s=_
 unfold Ez44 Tz44
 simp only [TS,w6]
 have e:=lpc44 s hl hok s.length 0 63 [] (by omega) rfl
 rw [List.drop_zero,List.nil_append,show 63+s.length+1=s.length+64 by omega]at e
 exact e
theorem lp47 (a:List St) (hl:a.length≤300):∀(j k n:Nat),a.length=k+j→awP a a (n+j+1) (.k8 (k:Int))=some true
 | 0,k,n,hk=>by
   have c1:decide ((k:Int)<((a.length:Nat):Int))=false:=by simp;omega
   simp only [awO,akq,TS,w6,c1,cond_false]
 | j+1,k,n,hlk=>by
   have ih:=lp47 a hl j (k+1) n (by omega)
   have c1:decide ((k:Int)<((a.length:Nat):Int))=true:=by simp;omega
   have c2:inR (k:Int) a.length=true:=fE (by omega) (by omega)
   have w4:IntKind.i64.wrap ((k:Int)+1)=((k+1:Nat):Int):=by rw [cL]<;>omega
   rw [show n+(j+1)+1=(n+j+1)+1 from rfl]
   generalize n+j+1=N at ih ⊢
   simp only [awO,akq,TS,w6,c1,c2,cond_true,w4,ih,beq_self_eq_true,Bool.and_self,Bool.not_true,cond_false]
theorem s47 (a:List St) (hl:a.length≤300):Sz47 (a,a,())=some true:=by
 show Ez47 (a.length+a.length+64) a a=_
 unfold Ez47 Tz47
 simp only [TS,w6]
 rw [show a.length+a.length+64=(a.length+63)+a.length+1 by omega]
 have e:=lp47 a hl a.length 0 (a.length+63) (by omega)
 have e':awP a a (a.length+63+a.length+1) (.k8 0)=some true:=e
 rw [e']
 simp
section
variable {x8 x9 x10 x11 x12 x13:Int}{x14:List St}{x15 x16 x17:Int}{x18:List St}{x19 x20 x21 x22 x23 x24 x25 x26 x27 x28 x29 x30 x31:Int}{x32:Bool}{s:List Pl}
theorem lp6 (hl:x18.length≤300) (hx:x19=((x18.length:Nat):Int)):∀(j k n:Nat) (x:List St),x18.length=k+j→x.length=k→Ez6J s (n+j+1) (.k16 x8 x9 x10 x11 x12 x13 x14 x15 x16 x17 x18 x19 x20 x21 x22 x23 x24 x25 x26 x27 x28 x29 x30 x31 x32 (k:Int) x)=Ez6J s (n+1) (.k16 x8 x9 x10 x11 x12 x13 x14 x15 x16 x17 x18 x19 x20 x21 x22 x23 x24 x25 x26 x27 x28 x29 x30 x31 x32 ((x18.length:Nat):Int) (x++x18.drop k))
 | 0,k,n,x,hk,hx2=>by
   obtain rfl:k=x18.length:=by omega
   rw [List.drop_length,List.append_nil]
 | j+1,k,n,x,hlk,hx2=>by
   have hk:k<x18.length:=by omega
   obtain⟨m,hm⟩:∃m,x18[k]? = some m:=⟨x18[k],List.getElem?_eq_getElem hk⟩
   have ih:=lp6 hl hx j (k+1) n (x++[m]) (by omega) (by simp [hx2])
   have c1:decide ((k:Int)<x19)=true:=by rw [hx];simp;omega
   have c2:inR (k:Int) x18.length=true:=fE (by omega) (by omega)
   have w4:IntKind.i64.wrap ((k:Int)+1)=((k+1:Nat):Int):=by rw [cL]<;>omega
   have c3:Nat.ble (104*(x.length+1)) 1000000=true:=by rw [Nat.ble_eq];omega
   rw [aY hm,show n+(j+1)+1=(n+j+1)+1 from rfl,bqw]
   simp only [Tz6J,TS,w6,c1,c2,c3,cond_true,Int.toNat_natCast,aW hm,w4,List.length_map]
   rw [ih,List.append_assoc];rfl
end
theorem el_ok {α:Type}{d:α}{A:Row α}{hk:A.kb=true} (l:List α):(Cod.list d A hk).ok (.el (l.map A.v))=true:=by
 show(l.map A.v).all A.ok=true
 simp [List.all_eq_true,A.okv]
theorem el_dec {α:Type}{d:α}{A:Row α}{hk:A.kb=true} (l:List α):(Cod.list d A hk).dec (.el (l.map A.v))=l:=by
 show(l.map A.v).map A.dec=l
 rw [List.map_map]
 conv=>rhs;rw [←List.map_id l]
 exact List.map_congr_left fun x _=>A.dv x
theorem v47 (S:List St):Az47.ok [V.el (S.map rSt.v),(Cod.list st0 rSt).v S]=true∧Az47.dec [V.el (S.map rSt.v),(Cod.list st0 rSt).v S]=(S,S,()):=by
 constructor
 · exact(Bool.and_eq_true_iff (x:=(Cod.list st0 rSt).ok (.el (S.map rSt.v)))).2 ⟨el_ok (d:=st0) (hk:=rfl) S,Bool.and_eq_true_iff.2 ⟨Cod.okv _ S,rfl⟩⟩
 · exact Prod.ext (el_dec (d:=st0) (hk:=rfl) S) (Prod.ext ((Cod.list st0 rSt).dv S) rfl)
theorem ajj:∀(L:List Pl) (i:Nat) (acc:List St) (s:St),acc≠[]→((m7 i acc s L).2.2.2=0∧(m7 i acc s L).1≠[]∨(m7 i acc s L).2.2.2≠0∧(m7 i acc s L).1=[])∧(m7 i acc s L).1.length≤acc.length+L.length
 | [],i,acc,s,h=>⟨.inl ⟨rfl,h⟩,by simp [m7]⟩
 | t :: L,i,acc,s,h=>by
   rw [eX]
   by_cases he:eE s t=0
   · rw [if_neg (by simp [he])]
     obtain⟨h1,h2⟩:=ajj L (i+1) (acc++[nxt (mvd s t)]) (nxt (mvd s t)) (by simp)
     exact⟨h1,by simp only [List.length_append,List.length_cons,List.length_nil]at h2 ⊢;omega⟩
   · rw [if_pos he]
     exact⟨.inr ⟨he,rfl⟩,by simp⟩
theorem game_ok (L:List Pl):((game L).2.2.2=0∧(game L).1≠[]∨(game L).2.2.2≠0∧(game L).1=[])∧(game L).1.length≤1+L.length:=by
 unfold game
 split
 · exact⟨.inr ⟨by decide,rfl⟩,by simp⟩
 · exact ajj L 0 [bR] bR (by simp)
theorem bq0 {t:Pl}(h:shP t=true) (hp:a7 t.p=true) (he:a7 t.e=true):okP t∧avb t=true∧jM t.m=true:=by
 simp only [shP,Bool.and_eq_true,decide_eq_true_eq,List.all_eq_true]at h
 obtain⟨h1,h2,h3,h4⟩:=h
 have hb:∀m∈t.m,m.b.length≤40:=fun m hm=>by
  have:=h4 m hm
  simp only [shM,Bool.and_eq_true,decide_eq_true_eq]at this
  exact this.2
 have okp:avb t=true:=by
  simp only [avb,Bool.and_eq_true,decide_eq_true_eq,List.all_eq_true]
  exact⟨by omega,fun m hm=>by have:=hb m hm;omega⟩
 have okc:jM t.m=true:=by
  simp only [jM,Bool.and_eq_true,decide_eq_true_eq,List.all_eq_true]
  exact⟨by omega,fun m hm=>by have:=hb m hm;omega⟩
 exact⟨⟨okp,hp,he,by omega⟩,okp,okc⟩
theorem gOK_of {s:List Pl}(hl:s.length≤300) (h:∀t∈s,okP t):gOK s=true:=by
 simp only [gOK,Bool.and_eq_true,decide_eq_true_eq,List.all_eq_true]
 exact⟨by omega,fun t ht=>⟨(h t ht).1,(h t ht).2.1,(h t ht).2.2.1,(h t ht).2.2.2⟩⟩
theorem law6 (s:List Pl) (hb:∀t∈s,a7 t.p=true∧a7 t.e=true):Sz6 (s,())=some true:=by
 show Ez6 (s.length+64) s=_
 have sw:Sw27 ()=some true:=rfl
 unfold Ez6 Tz6
 simp only [TS,w6]
 rw [s42,obind_some]
 cases hs:shL s with
 | false=>rw [sw];rfl
 | true=>
 simp only [shL,Bool.and_eq_true,Bool.or_eq_true,decide_eq_true_eq,List.all_eq_true]at hs
 obtain⟨h1,h2⟩:=hs
 have hl:s.length≤258:=by omega
 have hc:∀t∈s,avb t=true∧jM t.m=true:=fun t ht=>(bq0 (h2 t ht) (hb t ht).1 (hb t ht).2).2
 have hg:gOK s=true:=gOK_of (by omega) fun t ht=>(bq0 (h2 t ht) (hb t ht).1 (hb t ht).2).1
 have g43:bqC (s,())=some ((game s).1,(((game s).2.1:Nat):Int),(game s).2.2.1,(game s).2.2.2,()):=by unfold bqC;rw [if_pos hg]
 have g45:Sg45 (s,())=some ((game s).1.getLastD st0,(((game s).2.1:Nat):Int),(game s).2.2.1,(game s).2.2.2,()):=by unfold Sg45;rw [if_pos hg]
 have g46:Sg46 (s,())=some ((game s).1,(((game s).2.1:Nat):Int),(game s).2.2.1,(game s).2.2.2,()):=g43
 rw [Bool.not_true,cond_false,s44 s (by omega) hc,obind_some,g43,obind_some,obind_some,g45,obind_some,g46,obind_some]
 obtain⟨hE,hL⟩:=game_ok s
 dsimp only
 generalize (game s).1=S at *
 generalize (game s).2.1=a at *
 generalize (game s).2.2.1=b at *
 generalize (game s).2.2.2=e at *
 have f1:s.length+64=(s.length+63-S.length)+S.length+1:=by omega
 have lp:=lp6 (s:=s) (x8:=(a:Int)) (x9:=b) (x10:=e) (x11:=(a:Int)) (x12:=b) (x13:=e) (x14:=S) (x15:=(a:Int)) (x16:=b) (x17:=e) (x18:=S) (x20:=(S.getLastD st0).inn) (x21:=(S.getLastD st0).half) (x22:=(S.getLastD st0).outs) (x23:=(S.getLastD st0).balls) (x24:=(S.getLastD st0).strikes) (x25:=(S.getLastD st0).b1) (x26:=(S.getLastD st0).b2) (x27:=(S.getLastD st0).b3) (x28:=(S.getLastD st0).n0) (x29:=(S.getLastD st0).n1) (x30:=(S.getLastD st0).c0) (x31:=(S.getLastD st0).c1) (x32:=(S.getLastD st0).over) (by omega) rfl S.length 0 (s.length+63-S.length) [] (by omega) rfl
 rw [←f1,List.drop_zero,List.nil_append]at lp
 refine lp.trans ?_
 rw [bqw]
 have c1:decide (((S.length:Nat):Int)<((S.length:Nat):Int))=false:=by simp
 rcases hE with⟨rfl,hS⟩ | ⟨he,rfl⟩
 · have hpos:0<S.length:=List.length_pos_iff.2 hS
   have w1:IntKind.i64.wrap (((S.length:Nat):Int)-1)=((S.length-1:Nat):Int):=by rw [cL]<;>omega
   have c2:inR ((S.length-1:Nat):Int) S.length=true:=fE (by omega) (by omega)
   have gl:S.getD (S.length-1) st0=S.getLastD st0:=by
    rw [List.getD_eq_getElem?_getD,List.getLastD_eq_getLast?,List.getLast?_eq_getElem?]
   simp only [Tz6J,TS,Tr.d_v,(v47 S).1,(v47 S).2,w6,c1,cond_false,beq_self_eq_true,cond_true,w1,c2,Int.toNat_natCast,gl,s47 S (by omega),obind_some,Bool.and_self,sw]
 · have c2:(e==0)=false:=by simpa using he
   simp only [Tz6J,TS,Tr.d_v,(v47 []).1,(v47 []).2,w6,c1,c2,cond_false,beq_self_eq_true,cond_true,s47 [] (by simp),obind_some,Bool.and_self,sw,List.getLastD_nil]
   rfl
end
end Go.Ev
