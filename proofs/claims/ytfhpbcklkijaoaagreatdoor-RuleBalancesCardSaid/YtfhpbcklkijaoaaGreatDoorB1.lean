import Derived.Test.YtfhpbcklkijaoaaGreatDoorB0
set_option linter.unusedSimpArgs false
set_option linter.unusedVariables false
namespace Go.Ev
open Go.RowKit Go.Proofs
set_option maxRecDepth 20000
set_option maxHeartbeats 8000000
set_option linter.unusedVariables false
noncomputable section
theorem bqX {L:List Pl}(h4:∀t∈L,t.m.length≤4) (a:Nat):∀n,0≤osR L a n∧osR L a n≤4*(n:Int)
 | 0=>by simp [osR]
 | n + 1=>by
   have:=bqX h4 a n
   have:((L.getD (a+n) pl0).m.countP (·.o))≤4:=by
    refine Nat.le_trans List.countP_le_length ?_
    rw [List.getD_eq_getElem?_getD]
    cases hx:L[a+n]? with
    | none=>exact Nat.zero_le _
    | some t=>exact h4 t (List.mem_of_getElem? hx)
   unfold osR
   omega
theorem tsR_s {L:List Pl}{a i:Nat}{t:Pl}(h:a≤i) (ht:L[i]? = some t):tsR L a (i+1-a)=tsR L a (i-a)+(if t.e=[]then 0 else 1):=by
 rw [show i+1-a=(i-a)+1 by omega,tsR,show a+(i-a)=i by omega,aP ht]
theorem osR_s {L:List Pl}{a i:Nat}{t:Pl}(h:a≤i) (ht:L[i]? = some t):osR L a (i+1-a)=osR L a (i-a)+((t.m.countP (·.o):Nat):Int):=by
 rw [show i+1-a=(i-a)+1 by omega,osR,show a+(i-a)=i by omega,aP ht]
theorem nxt_c {y:St}:(nxt y).c0=y.c0∧(nxt y).c1=y.c1:=by
 unfold nxt
 cases decI y
 · cases (y.outs==3)
   · exact⟨rfl,rfl⟩
   · cases lastI y
     · exact⟨rfl,rfl⟩
     · exact⟨rfl,rfl⟩
 · exact⟨rfl,rfl⟩
theorem bi_of {L:List Pl}{i:Nat}{pre:List Hf}{h:Hf}{x:St}{t:Pl}(P:PU L i pre h x) (A:Acc x t) (ht:L[i]? = some t) (hi:i<300):BI L (i+1) (pre++[longS h i x t]) (nxt (mvd x t)):=by
 obtain⟨i1,i2,i3,i4,i5⟩:=j7 P.ok
 have n:=m8.1 ⟨i1,i2,i3⟩
 have G:=n.good
 have N3:=avc A.mv A.good n A.big
 obtain⟨a,ca,C⟩:=P.ch
 have rn:=aj3 (s:=x) A.mv
 have rc:=C.runs
 have cle:=C.le
 have b1:=bal_1 (s:=x) A.mv A.good
 have P1:=P.outs
 have oo:=av8 A.mv G
 rw [←ajb A.mv]at oo
 have o3:=A.good.outs
 have no:=n.outs
 have nn:=n.inn
 have z1:=aqZ x.b1;have z2:=aqZ x.b2;have z3:=aqZ x.b3
 have ti:=azi L a (i-a)
 have ct:=C.turns
 have e1:(if t.e=[]then(0:Int)else 1)=0∨(if t.e=[]then(0:Int)else 1)=1:=by split<;>simp
 have f1:(longS h i x t).to=((i+1:Nat):Int):=by show IntKind.i64.wrap ((i:Int)+1)=_;rw [aS (by omega) (by omega)];omega
 have f2:(longS h i x t).runs=h.runs+eO x t:=by show IntKind.i64.wrap _=_;rw [aS (by omega) (by omega)]
 have f3:(longS h i x t).turns=h.turns+(if t.e=[]then 0 else 1):=by
  show(if t.e=[]then h.turns else IntKind.i64.wrap (h.turns+1))=_
  split
  · omega
  · rw [aS (by omega) (by omega)]
 have f4:(longS h i x t).outs=h.outs+((t.m.countP (·.o):Nat):Int):=by show outsI x t=_;rw [oo,P1]
 have f5:(longS h i x t).left=(((yB x t).length:Nat):Int):=rfl
 have f6:(longS h i x t).side=h.side:=rfl
 have f7:(longS h i x t).inn=h.inn:=rfl
 have f8:(longS h i x t).outs=outsI x t:=rfl
 have pb:=P.bal
 have F:Fin1 L pre.length (longS h i x t) a (i+1):=by
  refine⟨⟨by omega,C.side,C.inn,C.frm,?_,?_,by rw [f2];omega,by rw [f2];omega⟩,by omega,f1,?_,?_,?_⟩
  · rw [f3,tsR_s cle ht,ct]
  · rw [f4,osR_s cle ht,C.outs]
  · rw [f2,f3,f4,f5];omega
  · rw [f8];omega
  · rw [f5];omega
 have hh:=P.half
 have hin:=P.inn
 have cs:=C.side
 have ci:=C.inn
 have nh:=n.half
 have nc0:=n.c0
 have nc1:=n.c1
 refine⟨axP A,rY.2 ⟨a,ca,by rw [Nat.zero_add];exact F⟩,?_,?_,?_,?_⟩
 · rw [List.dropLast_concat];exact P.three
 · rw [nxt_c.1,iY,f6,f2]
   show(if x.half=0 then IntKind.i64.wrap (x.c0+eO x t)else x.c0)=_
   have:=P.c0
   rw [hh]at *
   by_cases q:h.side=0
   · rw [if_pos q]at this ⊢
     rw [if_pos q,aS (by omega) (by omega)];omega
   · rw [if_neg q]at this ⊢
     rw [if_neg q];omega
 · rw [nxt_c.2,iY,f6,f2]
   show(if x.half=1 then IntKind.i64.wrap (x.c1+eO x t)else x.c1)=_
   have:=P.c1
   rw [hh]at *
   by_cases q:h.side=1
   · rw [if_pos q]at this ⊢
     rw [if_pos q,aS (by omega) (by omega)];omega
   · rw [if_neg q]at this ⊢
     rw [if_neg q];omega
 · unfold nxt
   cases hd:decI (mvd x t)with
   | true=>exact .inl rfl
   | false =>
     rw [cond_false]
     cases ho:((mvd x t).outs==3)with
     | true =>
       rw [cond_true]
       cases hl:lastI (mvd x t)with
       | true=>exact .inl rfl
       | false=>
         rw [cond_false]
         refine .inr (.inl ⟨?_,?_,rfl,rfl,rfl,rfl,?_⟩)
         · show IntKind.i64.wrap (1-x.half)=_
           rw [List.length_append,List.length_singleton,aS (by omega) (by omega)];omega
         · show (bif x.half==1 then IntKind.i64.wrap (x.inn+1)else x.inn)=_
           rw [List.length_append,List.length_singleton]
           rcases nh with q|q
           · have:(x.half==1)=false:=by rw [q];rfl
             rw [this,cond_false];omega
           · have:(x.half==1)=true:=by rw [q];rfl
             rw [this,cond_true,aS (by omega) (by omega)];omega
         · intro y hy
           rw [List.getLast?_concat]at hy
           cases hy
           exact eq_of_beq ho
     | false=>
       rw [cond_false]
       have ho':¬outsI x t=3:=by
        have:(mvd x t).outs=outsI x t:=rfl
        rw [this]at ho;simpa using ho
       have b0:=bal_0 (s:=x) A.mv A.good G ho'
       refine .inr (.inr ⟨pre,_,rfl,hh.trans f6.symm,hin.trans f7.symm,rfl,?_⟩)
       rw [f2,f3,f4];omega
theorem avt (L:List Pl) (hL:L.length<300):∀(l:List Pl) (i:Nat) (acc:List Hf) (accS:List St) (s:St),L.drop i=l→i≤L.length→BI L i acc s→(∀t∈l,okP t)→accS.getLastD st0=s →
  (vS i acc s l).2=(rC i accS s l).2.2.2∧((vS i acc s l).2=0→(rC i accS s l).2.1=0∧(rC i accS s l).2.2.1=0∧BI L L.length (vS i acc s l).1 ((rC i accS s l).1.getLastD st0)∧∀t∈l,t.m.length≤4)
 | [],i,acc,accS,s,hd,hiL,B,hok,hl=>by
   refine⟨rfl,fun _=>⟨rfl,rfl,?_,fun _ h=>by cases h⟩⟩
   show BI L L.length acc (accS.getLastD st0)
   rw [hl]
   have hle:L.length≤i:=List.drop_eq_nil_iff.1 hd
   have q:i=L.length:=Nat.le_antisymm hiL hle
   rw [←q];exact B
 | t :: l,i,acc,accS,s,hd,hiL,B,hok,hl=>by
   have hi:i<L.length:=by
    rcases Nat.lt_or_ge i L.length with q|q
    · exact q
    · rw [List.drop_eq_nil_of_le q]at hd;cases hd
   have ht:L[i]? = some t:=by
    have:=List.getElem?_drop (xs:=L) (i:=i) (j:=0)
    rw [hd]at this
    simpa using this.symm
   have hd2:L.drop (i+1)=l:=by
    have:=aQ ht
    rw [hd]at this
    exact(List.cons.inj this).2.symm
   rw [nD,gM]
   by_cases he:eE s t=0
   · rw [if_neg (by simp [he]),if_neg (by simp [he])]
     have A:=axO (hok t (by simp)) he
     obtain⟨pre,h,e,P⟩:=pu_of B A.on
     rw [awi e]
     obtain⟨h1,h2⟩:=avt L hL l (i+1) (pre++[longS h i s t]) (accS++[nxt (mvd s t)]) (nxt (mvd s t)) hd2 hi (bi_of P A ht (by omega)) (fun t ht=>hok t (List.mem_cons_of_mem _ ht)) (by simp)
     refine⟨h1,fun q=>?_⟩
     obtain⟨g1,g2,g3,g4⟩:=h2 q
     refine⟨g1,g2,g3,fun y hy=>?_⟩
     rcases List.mem_cons.1 hy with rfl|hy
     · exact fT A.mv
     · exact g4 y hy
   · rw [if_pos he,if_pos he]
     exact⟨rfl,fun q=>absurd q he⟩
def aw8 (q:P2) (k:Nat):Int:=if k % 2=0 then q.a else q.b
theorem avj {L:List Pl}:∀(l:List Hf) (k a e:Nat) (c:List P2),Ch L k a l e→(∀j,j<k→j / 2<c.length)→(∀j,j<k+l.length→j / 2<c.length) →
  (∀j,j<k→aw8 ((l.foldl qN c).getD (j / 2) p20) j=aw8 (c.getD (j / 2) p20) j)∧∀j y,l[j]? = some y→aw8 ((l.foldl qN c).getD ((k+j) / 2) p20) (k+j)=y.runs
 | [],k,a,e,c,h,h1,h2=>⟨fun j hj=>rfl,fun j y hy=>by cases hy⟩
 | x :: l,k,a,e,c,⟨b,F,h⟩,h1,h2=>by
   have hk:k / 2<c.length:=h2 k (by rw [List.length_cons];omega)
   have e1:(x.inn-1).toNat=k / 2:=by rw [F.cur.inn];omega
   have ih:=avj l (k+1) b e (qN c x) h (by intro j hj;rw [putQ_length];exact h2 j (by rw [List.length_cons];omega)) (by intro j hj;rw [putQ_length];exact h2 j (by rw [List.length_cons];omega))
   have sd:=F.cur.side
   have self:aw8 ((qN c x).getD (k / 2) p20) k=x.runs:=by
    unfold qN
    rw [e1,List.getD_eq_getElem?_getD,List.getElem?_set_self hk]
    unfold aw8
    by_cases q:k % 2=0
    · rw [if_pos q,if_pos (by omega)];rfl
    · rw [if_neg q,if_neg (by omega)];rfl
   have other:∀j,j<k→aw8 ((qN c x).getD (j / 2) p20) j=aw8 (c.getD (j / 2) p20) j:=by
    intro j hj
    unfold qN
    rw [e1]
    by_cases q:j / 2=k / 2
    · rw [q,List.getD_eq_getElem?_getD,List.getElem?_set_self hk]
      unfold aw8
      by_cases q1:j % 2=0
      · rw [if_pos q1,if_pos q1,if_neg (by omega)];rfl
      · rw [if_neg q1,if_neg q1,if_pos (by omega)];rfl
    · rw [List.getD_eq_getElem?_getD,List.getElem?_set_ne (fun z=>q z.symm),←List.getD_eq_getElem?_getD]
   constructor
   · intro j hj
     rw [List.foldl_cons,ih.1 j (by omega),other j hj]
   · intro j y hy
     cases j with
     | zero=>
       simp only [List.getElem?_cons_zero,Oi]at hy
       subst hy
       rw [List.foldl_cons,Nat.add_zero,ih.1 k (by omega),self]
     | succ j=>
       simp only [List.getElem?_cons_succ]at hy
       rw [List.foldl_cons,show k+(j+1)=k+1+j by omega]
       exact ih.2 j y hy
end
end Go.Ev
