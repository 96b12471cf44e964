import Derived.Test.YtkhmgggponmimaaGreatDoorDCD
set_option linter.unusedSimpArgs false
set_option linter.unusedVariables false
namespace Go.Ev
open Go.RowKit Go.Proofs
set_option maxRecDepth 100000
set_option maxHeartbeats 8000000
set_option linter.unusedSimpArgs false
noncomputable section
theorem hJ {s:St}(h:stE s=0):azM s=0∧nH s=0∧ax1 s=0∧endE s=0∧runE s=0:=by
 unfold stE az0 at h
 simp only [tV]at h
 by_cases h1:azM s=0
 · rw [if_pos h1]at h
   by_cases h2:nH s=0
   · rw [if_pos h2]at h
     by_cases h3:ax1 s=0
     · rw [if_pos h3]at h
       by_cases h4:endE s=0
       · rw [if_pos h4]at h
         by_cases h5:runE s=0
         · exact⟨h1,h2,h3,h4,h5⟩
         · rw [if_neg h5]at h;exact absurd h h5
       · rw [if_neg h4]at h;exact absurd h h4
     · rw [if_neg h3]at h;exact absurd h h3
   · rw [if_neg h2]at h;exact absurd h h2
 · rw [if_neg h1]at h;exact absurd h h1
theorem uT {s:St}(h1:azM s=0) (h2:nH s=0) (h3:ax1 s=0) (h4:endE s=0) (h5:runE s=0):stE s=0:=by
 unfold stE az0
 simp only [tV,h1,h2,h3,h4,h5,if_true]
structure Num (s:St):Prop where
 inn:1≤s.inn∧s.inn≤30
 half:s.half=0∨s.half=1
 outs:0≤s.outs∧s.outs≤2
 balls:0≤s.balls∧s.balls≤3
 strikes:0≤s.strikes∧s.strikes≤2
 b1:0≤s.b1∧s.b1≤9
 b2:0≤s.b2∧s.b2≤9
 b3:0≤s.b3∧s.b3≤9
 n0:1≤s.n0∧s.n0≤9
 n1:1≤s.n1∧s.n1≤9
 c0:0≤s.c0∧s.c0≤9999
 c1:0≤s.c1∧s.c1≤9999
theorem qP {s:St}:(azM s=0∧nH s=0∧ax1 s=0)↔Num s:=by
 have e1:azM s=0↔inB s.inn 1 30=true:=by unfold azM;split<;>simp_all
 have e2:nH s=0↔inB s.half 0 1=true:=by unfold nH;split<;>simp_all
 have e3:ax1 s=0↔nuB s 2=true:=by unfold ax1;split<;>simp_all
 rw [e1,e2,e3]
 simp only [nuB,baB,cnB,inB,Bool.and_eq_true,decide_eq_true_eq]
 constructor
 · rintro ⟨a,b,c⟩
   exact⟨a,by omega,by omega,by omega,by omega,by omega,by omega,by omega,by omega,by omega,by omega,by omega⟩
 · rintro ⟨a,b,c,d,e,f,g,h,i,j,k,l⟩
   exact⟨a,by omega,⟨⟨⟨⟨⟨⟨⟨⟨⟨c,d⟩,e⟩,f⟩,g⟩,h⟩,i⟩,k⟩,j⟩,l⟩⟩
theorem uX {s:St}:runE s=0↔awY s:=by
 rw [←fit_iff]
 unfold runE
 split<;>simp_all
theorem Num.good {s:St}(n:Num s):Good s:=⟨n.half,n.outs,n.b1,n.b2,n.b3,n.n0,n.n1⟩
theorem fit0 {s:St}(h1:s.b1=0) (h2:s.b2=0) (h3:s.b3=0):awY s:=
 ⟨fun h=>absurd h1 h,fun h=>absurd h2 h,fun h=>absurd h3 h,fun h=>absurd h1 h,fun h=>absurd h1 h,fun h=>absurd h2 h⟩
section
variable {s:St}{t:Pl}
theorem aqF (h:aC t.m=0) (g:gH s t) (G:Good s) {i:Int}(hi:i=1∨i=2∨i=3):0≤kK s t i∧kK s t i≤9:=by
 have r:=lV h g hi
 have Z:=azS (zfin h g true).1
 by_cases hz:zr s t i=0
 · rw [if_pos hz]at r;omega
 · rw [if_neg hz]at r
   have e:vF (zr s t i)=[zr s t i-1]:=by unfold vF;rw [show(zr s t i==0)=false by simpa using hz];rfl
   have hm:zr s t i-1∈zB s t:=by
    have ez:zB s t=vF (zr s t 1)++(vF (zr s t 2)++vF (zr s t 3)):=rfl
    rw [ez]
    rcases hi with rfl|rfl|rfl<;>simp [e]
   have:=sl_nz G (Z.all _ (List.mem_append_left _ hm))
   omega
theorem cnt_in (g:gH s t) (he:t.e=[]):0≤(eR s t).1.1∧(eR s t).1.1≤3∧0≤(eR s t).1.2.1∧(eR s t).1.2.1≤2:=by
 have hk:=ak1 g.cnt
 have ha:=g.asks
 rw [he]at ha
 have h1:(eR s t).1.1≠4:=by
  intro q
  unfold askC at ha
  rw [if_pos (show((eR s t).1.1,(eR s t).1.2.1).1=4 from q)]at ha
  simp [aqn]at ha
 have h2:(eR s t).1.2.1≠3:=by
  intro q
  unfold askC at ha
  rw [if_neg (show ¬((eR s t).1.1,(eR s t).1.2.1).1=4 from h1),if_pos (show((eR s t).1.1,(eR s t).1.2.1).2=3 from q)]at ha
  simp [aqn]at ha
 have e:eR s t=axo s.balls s.strikes t.p:=rfl
 rw [e]at h1 h2 ⊢
 omega
theorem awd (h:aC t.m=0):0≤f6 s t∧f6 s t≤4:=by
 have l:=dI h
 have:=(lQ (o:=outsI s t) (b:=t.l) (l:=t.m)).1
 unfold f6;omega
structure Num3 (s:St):Prop where
 inn:1≤s.inn∧s.inn≤30
 half:s.half=0∨s.half=1
 outs:0≤s.outs∧s.outs≤3
 balls:0≤s.balls∧s.balls≤3
 strikes:0≤s.strikes∧s.strikes≤2
 b1:0≤s.b1∧s.b1≤9
 b2:0≤s.b2∧s.b2≤9
 b3:0≤s.b3∧s.b3≤9
 n0:1≤s.n0∧s.n0≤9
 n1:1≤s.n1∧s.n1≤9
 c0:0≤s.c0∧s.c0≤9999
 c1:0≤s.c1∧s.c1≤9999
theorem num_mvd (h:aC t.m=0) (g:gH s t) (n:Num s) (hb:bq3 s t=false):Num3 (mvd s t):=by
 have G:=n.good
 have oo:=bqQ h G
 have o3:=g.outs
 have rn:=awd (s:=s) h
 have v1:=aqF h g G (i:=1) (by simp)
 have v2:=aqF h g G (i:=2) (by simp)
 have v3:=aqF h g G (i:=3) (by simp)
 have n0:=n.n0;have n1:=n.n1;have c0:=n.c0;have c1:=n.c1;have no:=n.outs
 have w0:IntKind.i64.wrap (s.c0+f6 s t)=s.c0+f6 s t:=fY (by omega) (by omega)
 have w1:IntKind.i64.wrap (s.c1+f6 s t)=s.c1+f6 s t:=fY (by omega) (by omega)
 unfold bq3 at hb
 rw [w0,w1]at hb
 simp only [decide_eq_false_iff_not]at hb
 have cn:t.e=[]→0≤(eR s t).1.1∧(eR s t).1.1≤3∧0≤(eR s t).1.2.1∧(eR s t).1.2.1≤2:=cnt_in g
 refine⟨n.inn,n.half,?_,?_,?_,v1,v2,v3,?_,?_,?_,?_⟩
 · show 0≤outsI s t∧outsI s t≤3;omega
 · show 0≤(if t.e=[]then(eR s t).1.1 else 0)∧(if t.e=[]then(eR s t).1.1 else 0)≤3
   split
   · have:=cn ‹_›;omega
   · omega
 · show 0≤(if t.e=[]then(eR s t).1.2.1 else 0)∧(if t.e=[]then(eR s t).1.2.1 else 0)≤2
   split
   · have:=cn ‹_›;omega
   · omega
 · show 1≤(if ¬t.e=[]∧s.half=0 then ay4 s.n0 else s.n0)∧(if ¬t.e=[]∧s.half=0 then ay4 s.n0 else s.n0)≤9
   rw [ajz n0];split<;>omega
 · show 1≤(if ¬t.e=[]∧s.half=1 then ay4 s.n1 else s.n1)∧(if ¬t.e=[]∧s.half=1 then ay4 s.n1 else s.n1)≤9
   rw [ajz n1];split<;>omega
 · show 0≤(if s.half=0 then IntKind.i64.wrap (s.c0+f6 s t)else s.c0)∧(if s.half=0 then IntKind.i64.wrap (s.c0+f6 s t)else s.c0)≤9999
   rw [w0]
   split
   · rename_i hh;rw [if_pos hh]at hb;omega
   · exact c0
 · show 0≤(if s.half=1 then IntKind.i64.wrap (s.c1+f6 s t)else s.c1)∧(if s.half=1 then IntKind.i64.wrap (s.c1+f6 s t)else s.c1)≤9999
   rw [w1]
   split
   · rename_i hh;rw [if_neg (show ¬s.half=0 by omega)]at hb;omega
   · exact c1
end
theorem nxt_ok {x:St}(n:Num3 x) (hv:x.over=false) (F:awY x):stE (nxt x)=0:=by
 have ee:∀(y:St),endE y=0↔(y.over&&!overB y||!y.over&&decB y)=false:=by
  intro y;unfold endE
  cases(y.over&&!overB y||!y.over&&decB y)<;>simp
 have fin:∀(y:St),y=endI x→(decI x=true∨lastI x=true)→stE y=0:=by
  intro y hy hc
  subst hy
  obtain⟨k1,k2,k3⟩:=qP.2 (⟨n.inn,n.half,⟨by show(0:Int)≤0;omega,by show(0:Int)≤2;omega⟩,⟨by show(0:Int)≤0;omega,by show(0:Int)≤3;omega⟩,⟨by show(0:Int)≤0;omega,by show(0:Int)≤2;omega⟩,
   ⟨by show(0:Int)≤0;omega,by show(0:Int)≤9;omega⟩,⟨by show(0:Int)≤0;omega,by show(0:Int)≤9;omega⟩,⟨by show(0:Int)≤0;omega,by show(0:Int)≤9;omega⟩,n.n0,n.n1,n.c0,n.c1⟩:Num (endI x))
  refine uT k1 k2 k3 ((ee _).2 ?_) (uX.2 (fit0 rfl rfl rfl))
  have hl:overB (endI x)=true:=by
   unfold overB
   rw [Bool.and_eq_true]
   refine⟨decide_eq_true rfl,?_⟩
   show(decide (9≤x.inn)&&(decide (x.c0<x.c1)||decide (x.half=1)&&(decide (x.c0≠x.c1)||decide (x.inn=30))))=true
   rcases hc with hc|hc
   · simp only [decI,Bool.and_eq_true,decide_eq_true_eq,beq_iff_eq]at hc
     simp [hc.1,hc.2.2]
   · simp only [lastI,Bool.and_eq_true,Bool.or_eq_true,decide_eq_true_eq,beq_iff_eq,Bool.not_eq_true',decide_eq_false_iff_not,beq_eq_false_iff_ne,ne_eq]at hc
     have:9≤x.inn:=by omega
     simp only [this,decide_true,Bool.true_and,Bool.or_eq_true,Bool.and_eq_true,decide_eq_true_eq]
     rcases hc.2 with q|⟨q,q2|q2⟩
     · exact .inl q
     · exact .inr ⟨q,.inl q2⟩
     · exact .inr ⟨q,.inr q2⟩
  rw [hl];rfl
 unfold nxt
 cases hd:decI x with
 | true=>exact fin _ rfl (.inl hd)
 | false =>
   rw [cond_false]
   cases ho:(x.outs==3)with
   | true =>
     rw [cond_true]
     cases hl:lastI x with
     | true=>exact fin _ rfl (.inr hl)
     | false=>
       rw [cond_false]
       have hi:=n.inn;have hh:=n.half
       have hlf:¬(9≤x.inn∧(x.c0<x.c1∨(x.half=1∧(x.c0≠x.c1∨x.inn=30)))):=by
        rintro⟨q1,q2⟩
        have:lastI x=true:=by
         simp only [lastI,Bool.and_eq_true,Bool.or_eq_true,decide_eq_true_eq,beq_iff_eq,Bool.not_eq_true',decide_eq_false_iff_not,beq_eq_false_iff_ne,ne_eq]
         exact⟨by omega,q2⟩
        rw [this]at hl;cases hl
       have e1:(p7 x).inn=if x.half=1 then x.inn+1 else x.inn:=by
        show(bif x.half==1 then IntKind.i64.wrap (x.inn+1)else x.inn)=_
        rcases hh with q|q
        · simp [q]
        · simp only [q,beq_self_eq_true,cond_true,if_true]
          exact fY (by omega) (by omega)
       have e2:(p7 x).half=1-x.half:=fY (by omega) (by omega)
       have i2:1≤(p7 x).inn∧(p7 x).inn≤30:=by
        rw [e1]
        split
        · rename_i q
          have:¬x.inn=30:=fun w=>hlf ⟨by omega,.inr ⟨q,.inr w⟩⟩
          omega
        · exact hi
       obtain⟨k1,k2,k3⟩:=qP.2 (⟨i2,by rw [e2];omega,⟨by show(0:Int)≤0;omega,by show(0:Int)≤2;omega⟩,⟨by show(0:Int)≤0;omega,by show(0:Int)≤3;omega⟩,⟨by show(0:Int)≤0;omega,by show(0:Int)≤2;omega⟩,
        ⟨by show(0:Int)≤0;omega,by show(0:Int)≤9;omega⟩,⟨by show(0:Int)≤0;omega,by show(0:Int)≤9;omega⟩,⟨by show(0:Int)≤0;omega,by show(0:Int)≤9;omega⟩,n.n0,n.n1,n.c0,n.c1⟩:Num (p7 x))
       refine uT k1 k2 k3 ((ee _).2 ?_) (uX.2 (fit0 rfl rfl rfl))
       have hov:(p7 x).over=false:=hv
       rw [hov]
       simp only [Bool.false_and,Bool.not_false,Bool.true_and,Bool.false_or]
       cases hb:decB (p7 x)with
       | false=>rfl
       | true=>
         exfalso
         simp only [decB,leadB,Bool.and_eq_true,decide_eq_true_eq]at hb
         obtain⟨⟨q1,q2⟩,q3⟩:=hb
         rw [e2]at q2
         rw [e1,if_neg (by omega)]at q1
         exact hlf ⟨q1,.inl q3⟩
   | false=>
     rw [cond_false]
     have ho:x.outs≠3:=by simpa using ho
     have o:=n.outs
     obtain⟨k1,k2,k3⟩:=qP.2 (⟨n.inn,n.half,by omega,n.balls,n.strikes,n.b1,n.b2,n.b3,n.n0,n.n1,n.c0,n.c1⟩:Num x)
     refine uT k1 k2 k3 ((ee _).2 ?_) (uX.2 F)
     rw [hv]
     simp only [Bool.false_and,Bool.not_false,Bool.true_and,Bool.false_or]
     cases hb:decB x with
     | false=>rfl
     | true=>
       exfalso
       simp only [decB,leadB,Bool.and_eq_true,decide_eq_true_eq]at hb
       have:decI x=true:=by
        simp only [decI,Bool.and_eq_true,decide_eq_true_eq,beq_iff_eq]
        exact⟨hb.1.1,hb.1.2,hb.2⟩
       rw [this]at hd;cases hd
end
end Go.Ev
