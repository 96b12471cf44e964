import Derived.Test.YtgjbmohchdmdkaaGreatDoorDCG
set_option linter.unusedSimpArgs false
set_option linter.unusedVariables false
namespace Go.Ev
open Go.RowKit Go.Proofs
set_option maxRecDepth 100000
set_option maxHeartbeats 8000000
set_option linter.unusedSimpArgs false
set_option linter.unusedVariables false
noncomputable section
section
variable {s:St}{t:Pl}
theorem bxE (h:aB t.m=0):(dA (outsI s t) t.l t.m).map (zS s)=(bif cntsB s t then zR t else []).map (sl s):=by
 have e:(t.m.filter rnM).map (zS s)=(zR t).map (sl s):=by rw [←runs_T h,List.map_map];rfl
 unfold dA cntsB
 by_cases ho:outsI s t=3
 · cases t.l<;>cases hc:t.m.any clM<;>simp [ho,e]
 · have this:(outsI s t==3)=false:=by simpa using ho
   rw [if_neg (fun q=>ho q.1),this,e];rfl
theorem nod3 {a b c:Int}(h:([a,b,c].filter (fun b=>!(b==0))).Nodup):(a≠0→a≠b)∧(a≠0→a≠c)∧(b≠0→b≠c):=by
 by_cases h1:a=0<;>by_cases h2:b=0<;>by_cases h3:c=0<;>simp_all
theorem len3 (a b c:Int):((([a,b,c].filter (fun b=>!(b==0))).length:Nat):Int)=nb a+(nb b+nb c):=by
 unfold nb
 by_cases h1:a=0<;>by_cases h2:b=0<;>by_cases h3:c=0<;>simp [h1,h2,h3]
theorem bxb (h:aB t.m=0) (g:eP s t):((allT (act t.m 0) (s.b1==0) (s.b2==0) (s.b3==0):Nat):Int)=nb s.b1+(nb s.b2+nb s.b3)+(if t.e=[]then 0 else 1):=by
 have e1:=wJ (b:=s.b1)
 have e2:=wJ (b:=s.b2)
 have e3:=wJ (b:=s.b3)
 have eT:=tT h g
 unfold allT
 rw [Int.natCast_add,Int.natCast_add,Int.natCast_add,e1,e2,e3,eT];omega
theorem num_d {n:Int}(h:1≤n∧n≤9):IntKind.i64.wrap ((IntKind.i64.wrap (IntKind.i64.wrap (n+(if t.e=[]then 0 else 1))-1)).tmod 9+1)=if ¬t.e=[]then axQ n else n:=by
 rw [aqf h]
 have w1:IntKind.i64.wrap (n+(if t.e=[]then 0 else 1))=n+(if t.e=[]then 0 else 1):=by split<;>(rw [bH]<;>omega)
 have w2:IntKind.i64.wrap (n+(if t.e=[]then 0 else 1)-1)=n+(if t.e=[]then 0 else 1)-1:=by split<;>(rw [bH]<;>omega)
 rw [w1,w2,Int.tmod_eq_emod_of_nonneg (by split<;>omega),bH (by split<;>omega) (by split<;>omega)]
 by_cases he:t.e=[]
 · simp [he];omega
 · simp [he]
theorem azF (n:Num s):awQ s (mvd s t) (if t.e=[]then 0 else 1) (runsN s t):=by
 unfold awQ
 rw [num_d n.n0,num_d n.n1]
 rcases n.half with hh|hh
 · refine .inl ⟨hh,?_,?_,?_,?_⟩
   · show(if s.half=0 then _ else _)=_;rw [if_pos hh]
   · show(if s.half=1 then _ else _)=_;rw [if_neg (by omega)]
   · show(if ¬t.e=[]∧s.half=0 then axQ s.n0 else s.n0)=_;simp only [hh,and_true]
   · show(if ¬t.e=[]∧s.half=1 then axQ s.n1 else s.n1)=_;rw [if_neg (fun q=>by omega)]
 · refine .inr ⟨hh,?_,?_,?_,?_⟩
   · show(if s.half=1 then _ else _)=_;rw [if_pos hh]
   · show(if s.half=0 then _ else _)=_;rw [if_neg (by omega)]
   · show(if ¬t.e=[]∧s.half=1 then axQ s.n1 else s.n1)=_;simp only [hh,and_true]
   · show(if ¬t.e=[]∧s.half=0 then axQ s.n0 else s.n0)=_;rw [if_neg (fun q=>by omega)]
theorem mid_0 (h:aB t.m=0) (g:eP s t) (n:Num s) (F:avr s) (ho:¬outsI s t=3) :
  Mid s (mvd s t) t ((dA (outsI s t) t.l t.m).map (zS s)) [] 0 (nb s.b1+(nb s.b2+nb s.b3)+(if t.e=[]then 0 else 1)) (if t.e=[]then 0 else 1):=by
 have G:=n.good
 have hc:cntsB s t=true:=by unfold cntsB;simp [ho]
 have eR:=bxE (s:=s) h
 rw [hc,cond_true]at eR
 have Z:=zG (zfin h g true).1
 have sn:=rZ G F Z.nod Z.all
 rw [List.map_append,←ayR h g G,←eR]at sn
 have B1:(mvd s t).b1=eU s t 1:=rfl
 have B2:(mvd s t).b2=eU s t 2:=rfl
 have B3:(mvd s t).b3=eU s t 3:=rfl
 have hlen:=Z.len
 have la:=bxb h g
 have l3:=len3 (eU s t 1) (eU s t 2) (eU s t 3)
 rw [ayR h g G,List.length_map]at l3
 have lR:((dA (outsI s t) t.l t.m).map (zS s)).length=(zR t).length:=by rw [eR,List.length_map]
 rw [List.length_append]at hlen
 have ho':=awC h
 obtain⟨p1,p2⟩:=List.nodup_append.1 sn
 obtain⟨d12,d13,d23⟩:=nod3 p1
 have sl4:=a7 h
 have r4:=(nD (o:=outsI s t) (b:=t.l) (l:=t.m)).1
 refine⟨?_,sl4,?_,fun q=>absurd q (by omega),?_,.inl ⟨rfl,rfl,rfl,rfl⟩,d12,d13,d23,?_,?_⟩
 · simp;omega
 · rw [B1,B2,B3,lR,ho',←l3,←la,←hlen]
   simp only [List.length_nil,Int.natCast_add,Int.natCast_zero,Int.add_zero]
 · have:=azF (t:=t) n
   rw [List.length_map];exact this
 · rw [List.append_nil];exact p2.1
 · intro y hy hz hq
   rw [List.append_nil]at hy
   rw [B1,B2,B3]at hq
   refine p2.2 y ?_ y hy rfl
   rw [List.mem_filter]
   refine⟨by simpa using hq,by simpa using hz⟩
theorem mid_1 (h:aB t.m=0) (g:eP s t) (n:Num s) (F:avr s) {x:St}{e:Int}(hf:finP s x e ((t.m.countP (·.o):Nat):Int)) (hk:x.n0=(mvd s t).n0∧x.n1=(mvd s t).n1∧x.c0=(mvd s t).c0∧x.c1=(mvd s t).c1) (b1:x.b1=0) (b2:x.b2=0) (b3:x.b3=0) :
  Mid s x t ((dA (outsI s t) t.l t.m).map (zS s)) (sO s t) e (nb s.b1+(nb s.b2+nb s.b3)+(if t.e=[]then 0 else 1)) (if t.e=[]then 0 else 1):=by
 have G:=n.good
 have eR:=bxE (s:=s) h
 have Z:=zG (zfin h g (cntsB s t)).2.1
 have sn:=rZ G F Z.nod Z.all
 have eRL:(dA (outsI s t) t.l t.m).map (zS s)++sO s t=((bif cntsB s t then zR t else [])++lfRs (cntsB s t) (pl s t 0) (pl s t 1) (pl s t 2) (pl s t 3)).map (sl s):=by
  rw [List.map_append,eR];rfl
 have hlen:=Z.len
 have la:=bxb h g
 have lRL:=congrArg List.length eRL
 rw [List.length_map,List.length_append]at lRL
 have ho':=awC h
 have sl4:=a7 h
 have n1:=mA s.b1;have n2:=mA s.b2;have n3:=mA s.b3
 have z0:nb 0=0:=rfl
 have eT:(if t.e=[]then(0:Int)else 1)≤1:=by split<;>omega
 have hs:((((dA (outsI s t) t.l t.m).map (zS s)).length:Nat):Int)+(((sO s t).length:Nat):Int)+((zO t:Nat):Int)=nb s.b1+(nb s.b2+nb s.b3)+(if t.e=[]then 0 else 1):=by
  rw [←la,←hlen,←lRL];simp only [Int.natCast_add]
 refine⟨?_,sl4,?_,fun q=>?_,?_,hf,fun q=>absurd b1 q,fun q=>absurd b1 q,fun q=>absurd b2 q,?_,?_⟩
 · omega
 · rw [b1,b2,b3,z0,ho',←hs];omega
 · rw [b1,b2,b3];rfl
 · have:=azF (t:=t) n
   obtain⟨k1,k2,k3,k4⟩:=hk
   rw [List.length_map]
   unfold awQ at this ⊢
   rw [k1,k2,k3,k4];exact this
 · rw [eRL];exact sn
 · intro y hy hz hq
   rw [b1,b2,b3]at hq
   rcases hq with q|q|q<;>exact hz q
theorem law9 (s:St) (t:Pl) (hp:bW t.p=true) (he:bW t.e=true):Sz9 (s,t,())=some true:=by
 show Ez9 (t.m.length+64) s t=_
 have sw:ajM ()=some true:=rfl
 unfold Ez9 Tz9
 simp only [TS,w6]
 rw [s31,obind_some]
 cases hs:shP t with
 | false=>rw [sw];rfl
 | true=>
 simp only [shP,Bool.and_eq_true,decide_eq_true_eq,List.all_eq_true]at hs
 obtain⟨h1,h2,h3,h4⟩:=hs
 have hb:∀m∈t.m,m.b.length≤40:=fun m hm=>by
  have:=h4 m hm
  simp only [shM,Bool.and_eq_true,decide_eq_true_eq]at this
  exact this.2
 have okp:okPl t=true:=by
  simp only [okPl,Bool.and_eq_true,decide_eq_true_eq,List.all_eq_true]
  exact⟨by omega,fun m hm=>by have:=hb m hm;omega⟩
 have okc:tO t.m=true:=by
  simp only [tO,Bool.and_eq_true,decide_eq_true_eq,List.all_eq_true]
  exact⟨by omega,fun m hm=>by have:=hb m hm;omega⟩
 have ok:okP t:=⟨okp,hp,he,by omega⟩
 have e33:S33 (t,())=some t:=by unfold S33;rw [if_pos ⟨okp,okc⟩]
 have e17:S17 (s,())=some (stE s):=rfl
 have e58:S58 (t,())=some (playE t.p t.e t.m):=by unfold S58;rw [if_pos okp]
 rw [e17,obind_some,Bool.not_true,cond_false]
 by_cases e1:stE s=0
 rotate_left
 · have c:(!(stE s==0))=true:=by simpa using e1
   rw [c,sw];rfl
 have c:(!(stE s==0))=false:=by simp [e1]
 rw [c,cond_false,e58,obind_some]
 by_cases e2:playE t.p t.e t.m=0
 rotate_left
 · have c:(!(playE t.p t.e t.m==0))=true:=by simpa using e2
   rw [c,sw];rfl
 have c:(!(playE t.p t.e t.m==0))=false:=by simp [e2]
 rw [c,cond_false]
 cases e3:s.over with
 | true=>rw [sw];rfl
 | false=>
 rw [cond_false,e33,obind_some]
 have hc:qZ s t=0:=by unfold qZ;simp [e1,e2,e3]
 obtain⟨p1,p2,p3⟩:=playE_zero e2
 obtain⟨k,a,b,g,k0,k13⟩:=ayM (s:=s) p3 p2 hp (by omega)
 rw [s32 ok (fun _=>a) (fun h _=>g h),obind_some]
 by_cases ha:oG s t k=0
 rotate_left
 · rw [if_pos ha]
   show uJ s t (t.m.length+63+1) (.k11 (bxL s t k) (oG s t k) 0 0 0 0 0 0 0 0 0 0 0 0 false)=some true
   generalize t.m.length+63=N
   by_cases hk:k=0
   · have hbig:ayv s t=true:=by
      unfold oG at ha
      cases hx:ayv s t with
      | true=>rfl
      | false=>simp [hc,hk,hx]at ha
     have q1:oG s t k=4:=by unfold oG;simp [hc,hk,hbig]
     have q2:bxL s t k=0:=by unfold bxL;simp [hc,hk]
     rw [q1,q2]
     simp [bX,pM,TS,w6,sw,obind_some]
   · have q1:oG s t k=18:=by unfold oG;simp [hc,hk]
     have q2:bxL s t k=k:=by unfold bxL;simp [hc]
     have k1:decide (1≤k)=true:=by simp;omega
     have k2:decide (k≤13)=true:=by simpa using k13
     rw [q1,q2]
     simp [bX,pM,TS,w6,sw,obind_some,k1,k2]
 have hk:k=0:=by
  rcases acc_cases s t k with⟨x,_⟩ | ⟨_,x,y,_⟩
  · exact absurd ha x
  · exact y
 have g:=g hk
 have hbig:ayv s t=false:=by
  unfold oG at ha
  cases hx:ayv s t with
  | false=>rfl
  | true=>simp [hc,hk,hx]at ha
 obtain⟨i1,i2,i3,i4,i5⟩:=bqF e1
 have n:=xN.1 ⟨i1,i2,i3⟩
 have F:=xA.1 i5
 have N3:=num_mvd p3 g n hbig
 have F2:=fit_mvd p3 g n.good F
 have hx:=nxt_ok N3 e3 F2
 have e34:=s34 ok (fun _=>a)
 have e35:=s35 ok (fun _=>a) (fun h _=>‹_›)
 have e36:=s36 ok (fun _=>a) (fun h _=>‹_›)
 rw [if_neg (by simpa using ha)]at e34 e35 e36 ⊢
 have hmid : Mid s (nxt (mvd s t)) t ((dA (outsI s t) t.l t.m).map (zS s)) (if jC (mvd s t)=0 then []else sO s t) (jC (mvd s t)) (nb s.b1+(nb s.b2+nb s.b3)+(if t.e=[]then 0 else 1)) (if t.e=[]then 0 else 1)∧(nxt (mvd s t)).over=(jC (mvd s t)==2)∧0≤jC (mvd s t)∧jC (mvd s t)≤2:=by
  have ov:(mvd s t).over=false:=e3
  have end2:Mid s (bxW (mvd s t)) t ((dA (outsI s t) t.l t.m).map (zS s)) (sO s t) 2 (nb s.b1+(nb s.b2+nb s.b3)+(if t.e=[]then 0 else 1)) (if t.e=[]then 0 else 1):=
   mid_1 p3 g n F (.inr (.inr ⟨rfl,rfl,rfl,rfl,rfl,rfl⟩)) ⟨rfl,rfl,rfl,rfl⟩ rfl rfl rfl
  unfold nxt jC
  cases hd:decI (mvd s t)with
  | true=>simp only [cond_true];exact⟨end2,rfl,by decide,by decide⟩
  | false =>
    simp only [cond_false]
    have oe:(mvd s t).outs=outsI s t:=rfl
    cases ho:((mvd s t).outs==3)with
    | true =>
      simp only [cond_true]
      cases hl:lastI (mvd s t)with
      | true=>simp only [cond_true];exact⟨end2,rfl,by decide,by decide⟩
      | false=>
        simp only [cond_false]
        refine⟨?_,ov,by decide,by decide⟩
        refine mid_1 p3 g n F (.inr (.inl ⟨rfl,rfl,rfl,rfl,?_,?_⟩)) ⟨rfl,rfl,rfl,rfl⟩ rfl rfl rfl
        · show IntKind.i64.wrap (1-s.half)≠s.half
          rcases n.half with q|q<;>rw [q]<;>decide
        · show (bif s.half==1 then IntKind.i64.wrap (s.inn+1)else s.inn)=_
          have ni:=n.inn
          rcases n.half with q|q
          · rw [q,Int.add_zero,bH (n:=s.inn) (by omega) (by omega)];rfl
          · rw [q];rfl
    | false=>
      simp only [cond_false]
      refine⟨mid_0 p3 g n F (by rw [oe]at ho;simpa using ho),ov,by decide,by decide⟩
 obtain⟨M,ov,he0⟩:=hmid
 have T:=tail9 (nxt (mvd s t)) _ _ _ M hx e1 e3 he0 ov (fun q=>by rw [if_pos q]) e33 e34 e35 e36
 show uJ s t (t.m.length+63+1) (.k11 0 0 (nxt (mvd s t)).inn (nxt (mvd s t)).half (nxt (mvd s t)).outs (nxt (mvd s t)).balls (nxt (mvd s t)).strikes (nxt (mvd s t)).b1 (nxt (mvd s t)).b2 (nxt (mvd s t)).b3 (nxt (mvd s t)).n0 (nxt (mvd s t)).n1 (nxt (mvd s t)).c0 (nxt (mvd s t)).c1 (nxt (mvd s t)).over)=some true
 have len:=M.len
 rw [←List.length_append]at len
 generalize hRL:((dA (outsI s t) t.l t.m).map (zS s)++(if jC (mvd s t)=0 then []else sO s t)).length=r at len T
 have T':=T (49-r)
 rw [show 49-r+r+t.m.length+14=t.m.length+63 by omega]at T'
 generalize t.m.length+63=N at T' ⊢
 have z0:((0:Int)==0)=true:=rfl
 simp only [bX,pM,TS,z0,Bool.not_true,cond_false]
 exact T'
end
end
end Go.Ev
