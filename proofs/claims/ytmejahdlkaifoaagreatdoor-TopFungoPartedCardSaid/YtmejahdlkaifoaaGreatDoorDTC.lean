import Derived.Test.YtmejahdlkaifoaaGreatDoorDTB
set_option linter.unusedSimpArgs false
set_option linter.unusedVariables false
namespace Go.Ev
open Go.RowKit Go.Proofs
set_option maxRecDepth 100000
set_option maxHeartbeats 8000000
set_option linter.unusedSimpArgs false
set_option linter.unusedVariables false
noncomputable section
def shM (m:Mv):Bool:=decide (m.h.length≤20)&&decide (m.b.length≤40)
def shP (t:Pl):Bool:=decide (t.p.length≤26)&&(decide (t.e.length≤20)&&(decide (t.m.length≤6)&&t.m.all shM))
theorem lp84 (t:Pl) (hl:t.m.length≤6):∀(j k n:Nat),t.m.length=k+j→aww t (n+j+1) (.k8 (k:Int))=some ((t.m.drop k).all shM)
 | 0,k,n,hk=>by
   have c1:decide ((k:Int)<((t.m.length:Nat):Int))=false:=by simp;omega
   rw [List.drop_eq_nil_of_le (by omega)]
   simp only [awv,awd,TS,w6,c1,cond_false,List.all_nil]
 | j+1,k,n,hlk=>by
   have hk:k<t.m.length:=by omega
   obtain⟨m,hm⟩:∃m,t.m[k]? = some m:=⟨t.m[k],List.getElem?_eq_getElem hk⟩
   have ih:=lp84 t hl j (k+1) n (by omega)
   have c1:decide ((k:Int)<((t.m.length:Nat):Int))=true:=by simp;omega
   have c2:inR (k:Int) t.m.length=true:=iL (by omega) (by omega)
   have w4:IntKind.i64.wrap ((k:Int)+1)=((k+1:Nat):Int):=by rw [cG]<;>omega
   have a1:decide ((20:Int)<((m.h.length:Nat):Int))=!decide (m.h.length≤20):=by rw [Bool.eq_iff_iff];simp;omega
   have a2:decide ((40:Int)<((m.b.length:Nat):Int))=!decide (m.b.length≤40):=by rw [Bool.eq_iff_iff];simp;omega
   rw [bZ hm,show n+(j+1)+1=(n+j+1)+1 from rfl]
   generalize n+j+1=N at ih ⊢
   simp only [awv,awd,TS,w6,c1,c2,cond_true,Int.toNat_natCast,aR hm,w4,ih,List.all_cons,shM,a1,a2]
   cases decide (m.h.length≤20)<;>cases decide (m.b.length≤40)<;>rfl
theorem sp84 (t:Pl):Sz84 (t,())=some (shP t):=by
 show Ez84 (t.m.length+64) t=_
 unfold Ez84 Tz84 shP
 simp only [TS,w6]
 have a1:decide ((26:Int)<((t.p.length:Nat):Int))=!decide (t.p.length≤26):=by rw [Bool.eq_iff_iff];simp;omega
 have a2:decide ((20:Int)<((t.e.length:Nat):Int))=!decide (t.e.length≤20):=by rw [Bool.eq_iff_iff];simp;omega
 have a3:decide ((6:Int)<((t.m.length:Nat):Int))=!decide (t.m.length≤6):=by rw [Bool.eq_iff_iff];simp;omega
 rw [a1,a2,a3]
 by_cases h:t.m.length≤6
 · have e:=lp84 t h t.m.length 0 63 (by omega)
   rw [←kU,List.drop_zero]at e
   have e':aww t (t.m.length+64) (.k8 0)=some (t.m.all shM):=e
   rw [e']
   cases decide (t.p.length≤26)<;>cases decide (t.e.length≤20)<;>simp [h]
 · cases decide (t.p.length≤26)<;>cases decide (t.e.length≤20)<;>simp [h]
theorem sp25 {s:St}(h:stE s=0) (ho:s.over=false):lT (s,(((),()),((),()),()),())=some 0:=by
 have e18:S18 (s,())=some 0:=congrArg some h
 have e61:Sz61 (s,())=some 0:=by
  show Ez61 s=_
  unfold Ez61 Tz61
  simp only [TS,w6,ho];rfl
 have j:∀n,fX s (((),()),((),()),()) (n+3) (.k4 0)=some 0:=by
  intro n
  simp [tS,fW,TS,w6,e18,e61,obind_some,wr0,wr1,wr2]
 show lW 64 s _=_
 unfold lW lS
 simp only [TS,w6]
 exact j 61
theorem sp81 {b s:Int}{l:List Nat}(h:aW l=true):S81 (b,s,l,())=some (oB b s l):=by unfold S81;rw [if_pos h]
theorem sp10 {s:St}{l:List Nat}{k0 k1:Int}(h:stE s=0) (ho:s.over=false) (hb:aW l=true) (hl:l.length<9223372036854775808) (hc:oB s.balls s.strikes l=((k0,k1,()),0,0,())):bji (s,l,())=some ((k0,k1,()),askC (k0,k1) l,0,()):=by
 have hk:=ajX (b:=s.balls) (s:=s.strikes) (l:=l) (by rw [hc])
 rw [hc]at hk
 show Ep10 s l=_
 unfold Ep10 Tp10
 simp only [TS,w6]
 rw [sp25 h ho,obind_some,sp81 hb,hc,obind_some]
 simp only [beq_self_eq_true,Bool.not_true,cond_false]
 rw [s82 hl hk,obind_some]
theorem cutN {n:Nat}{u:Int}(hn:2≤n) (h24:n≤26) (hu:0≤u∧u<256):∃k:Nat,1≤k∧k<n∧IntKind.i64.wrap (1+((IntKind.i64.wrap u).tmod (IntKind.i64.wrap (((n:Nat):Int)-1))))=(k:Int)∧decide (IntKind.i64.wrap (((n:Nat):Int)-1)=0)=false:=by
 have w1:IntKind.i64.wrap u=u:=by rw [cG]<;>omega
 have w2:IntKind.i64.wrap (((n:Nat):Int)-1)=((n:Nat):Int)-1:=by rw [cG]<;>omega
 have r1:=Int.emod_nonneg u (b:=((n:Nat):Int)-1) (by omega)
 have r2:=Int.emod_lt_of_pos u (b:=((n:Nat):Int)-1) (by omega)
 rw [w1,w2,Int.tmod_eq_emod_of_nonneg (by omega)]
 refine⟨(1+u % (((n:Nat):Int)-1)).toNat,by omega,by omega,?_,by simp;omega⟩
 rw [cG]<;>omega
theorem law3 (s:St) (t:Pl) (u:Int) (hp:aW t.p=true) (he:aW t.e=true) (hu:0≤u∧u<256):Sp3 (s,t,u,())=some true:=by
 show Ep3 s t u=_
 have sw:Sw27 ()=some true:=rfl
 unfold Ep3 Tp3
 simp only [TS,w6]
 rw [sw,obind_some,Bool.not_true,cond_false,sp84,obind_some]
 cases hs:shP t with
 | false=>rfl
 | true=>
 simp only [shP,Bool.and_eq_true,decide_eq_true_eq,List.all_eq_true]at hs
 obtain⟨h1,h2,h3,h4⟩:=hs
 have hb:∀m∈t.m,m.b.length≤40:=fun m hm=>by
  have:=h4 m hm
  simp only [shM,Bool.and_eq_true,decide_eq_true_eq]at this
  exact this.2
 have okp:okPl t=true:=by
  simp only [okPl,Bool.and_eq_true,decide_eq_true_eq,List.all_eq_true]
  exact⟨by omega,fun m hm=>by have:=hb m hm;omega⟩
 have okc:sH t.m=true:=by
  simp only [sH,Bool.and_eq_true,decide_eq_true_eq,List.all_eq_true]
  exact⟨by omega,fun m hm=>by have:=hb m hm;omega⟩
 have ok:okP t:=⟨okp,hp,he,by omega⟩
 have e58:S58 (t,())=some (playE t.p t.e t.m):=by unfold S58;rw [if_pos okp]
 have e33:S33 (t,())=some t:=by unfold S33;rw [if_pos ⟨okp,okc⟩]
 rw [Bool.not_true,cond_false,e58,obind_some]
 by_cases hpe:playE t.p t.e t.m=0
 rotate_left
 · have c:(!(playE t.p t.e t.m==0))=true:=by simpa using hpe
   rw [c];rfl
 rw [show(!(playE t.p t.e t.m==0))=false by simp [hpe],cond_false]
 by_cases h2l:t.p.length<2
 · rw [show decide (((t.p.length:Nat):Int)<2)=true by simp;omega];rfl
 rw [show decide (((t.p.length:Nat):Int)<2)=false by simp;omega,cond_false]
 obtain⟨k,hk1,hk2,hg⟩:∃k,(iM s t=0→m7 (cC s t,())=some k)∧(iM s t=0→Sz94 (s,t,())=some k)∧(k=0→iM s t=0→pW s t):=by
  by_cases hc:iM s t=0
  · obtain ⟨e1,e2,e3⟩:=mS hc
    obtain⟨p1,p2,p3⟩:=playE_zero e2
    obtain⟨k,a,b,c,_⟩:=awZ (s:=s) p3 p2 hp (by omega)
    exact⟨k,fun _=>a,fun _=>b,fun h _=>c h⟩
  · exact⟨0,fun h=>absurd h hc,fun h=>absurd h hc,fun _ h=>absurd h hc⟩
 rw [s37 ok hk2 hg,obind_some]
 by_cases ha:rR s t k=0
 rotate_left
 · have c:(!(rR s t k==0))=true:=by simpa using ha
   show cond (!(rR s t k==0)) _ _=_
   rw [c];rfl
 show cond (!(rR s t k==0)) _ _=_
 rw [show(!(rR s t k==0))=false by simp [ha],cond_false]
 obtain⟨hc,hk0⟩:iM s t=0∧k=0:=by
  rcases acc_cases s t k with⟨x,_⟩ | ⟨_,x,y,_⟩
  · exact absurd ha x
  · exact⟨x,y⟩
 subst hk0
 have hbig:axh s t=false:=by
  unfold rR at ha
  cases hx:axh s t with
  | false=>rfl
  | true=>simp [hc,hx]at ha
 obtain⟨e1,e2,e3⟩:=mS hc
 obtain⟨p1,p2,p3⟩:=playE_zero e2
 obtain⟨q1,q2,q3⟩:=playE_parts e2
 have g:=hg rfl hc
 have G:=wB e1
 have sc:=scores e1
 obtain⟨n,n1,n2,hn,hz⟩:=cutN (n:=t.p.length) (u:=u) (by omega) (by omega) hu
 have i1:decide ((0:Int)≤(n:Int))=true:=by simp
 have i2:decide ((n:Int)≤((t.p.length:Nat):Int))=true:=by simp;omega
 simp only [hz,hn,i1,i2,cond_false,Bool.and_self,cond_true,Int.toNat_natCast,List.drop_zero,List.take_length]
 have hsplit:t.p=t.p.take n++t.p.drop n:=(List.take_append_drop n t.p).symm
 have hA:t.p.take n≠[]:=by intro q;have:=congrArg List.length q;rw [List.length_take,List.length_nil]at this;omega
 have hB:t.p.drop n≠[]:=by intro q;have:=congrArg List.length q;rw [List.length_drop,List.length_nil]at this;omega
 have hA24:(t.p.take n).length≤24:=by rw [List.length_take];omega
 have hB24:(t.p.drop n).length≤24:=by rw [List.length_drop];omega
 have hbs:aW (t.p.take n)=true∧aW (t.p.drop n)=true:=awX (by rw [←hsplit];exact hp)
 have hps:dP (t.p.take n)=0∧dP (t.p.drop n)=0:=azL (by rw [←hsplit];exact q1)
 obtain⟨c1,c2,P⟩:=part_of (s:=s) (a:=t.p.take n) (b:=t.p.drop n) hB (by rw [←hsplit];exact g.cnt)
 have hall:oB s.balls s.strikes t.p=((c2.1,c2.2,()),0,0,()):=by have:=P.all;rwa [←hsplit]at this
 generalize t.p.take n=a at *
 generalize t.p.drop n=b at *
 have okA:okP (b6 a):=⟨rfl,hbs.1,rfl,by show a.length<_;omega⟩
 have cA:iM s (b6 a)=0:=by
  unfold iM
  have:playE (b6 a).p (b6 a).e (b6 a).m=0:=playE_whole hps.1 rfl rfl
  rw [this,e1,e3];rfl
 have bA:axh s (b6 a)=false:=by
  have rn:runsN s (b6 a)=((0:Nat):Int):=congrArg (fun n:Nat=>(n:Int)) runs0
  unfold axh
  rw [rn,ayJ ⟨sc.1,sc.2.1⟩,ayJ ⟨sc.2.2.1,sc.2.2.2⟩]
  simp only [decide_eq_false_iff_not]
  split<;>omega
 have eA:rR s (b6 a) 0=0:=by unfold rR;simp [cA,bA]
 have sA:ayH (s,b6 a,())=some (stW s c1,0,0,()):=by
  rw [s32 okA (fun _=>aki P hA (by omega) G) (fun _ _=>azV P hA G),if_neg (by simp [eA]),akj P G sc,akh G (dec_of e1 e3)]
 have W1:=stE_W (c1:=c1) e1 e3 P.in1
 have Wo:(stW s c1).over=false:=e3
 have okB:okP (plW t b):=⟨okp,hbs.2,he,by show b.length<_;omega⟩
 have cB:iM (stW s c1) (plW t b)=0:=by
  unfold iM
  have:playE (plW t b).p (plW t b).e (plW t b).m=0:=playE_whole hps.2 q2 q3
  rw [this,W1,Wo];rfl
 have eB:rR (stW s c1) (plW t b) 0=0:=by unfold rR;rw [azJ];simp [cB,hbig]
 have sB:ayH (stW s c1,plW t b,())=some (nxt (mvd s t),0,0,()):=by
  rw [s32 okB (fun _=>(azH P hB hsplit p3 p2 p1 g).trans (hk1 hc)) (fun _ _=>aqf P hB hsplit g),if_neg (by simp [eB]),azI P hsplit]
 have sT:ayH (s,t,())=some (nxt (mvd s t),0,0,()):=by
  rw [s32 ok hk1 hg,if_neg (by simp [ha])]
 have k1:bji (s,a,())=some ((c1.1,c1.2,()),[],0,()):=by
  rw [sp10 e1 e3 hbs.1 (by omega) P.one,show((c1.1,c1.2):Cnt)=c1 from rfl,P.ask hA]
 have k2:bji (stW s c1,b,())=some ((c2.1,c2.2,()),askC (c2.1,c2.2) b,0,()):=sp10 W1 Wo hbs.2 (by omega) P.two
 have k3:bji (s,t.p,())=some ((c2.1,c2.2,()),askC (c2.1,c2.2) t.p,0,()):=sp10 e1 e3 hp (by omega) hall
 have hask:askC (c2.1,c2.2) t.p=askC (c2.1,c2.2) b:=by rw [hsplit,xC hB]
 rw [e33,obind_some,sT,obind_some]
 show aH (ayH (s,b6 a,())) _=_
 rw [sA,obind_some]
 simp only [beq_self_eq_true,Bool.not_true,cond_false]
 rw [obind_some]
 show aH (ayH (stW s c1,plW t b,())) _=_
 rw [sB,obind_some,k1,obind_some,sp81 hbs.1,P.one,obind_some,k2,obind_some,k3,obind_some,hask]
 simp only [beq_self_eq_true,Bool.not_true,cond_false,cond_true,Bool.and_self,decide_true]
 simp [stW]
end
end Go.Ev
