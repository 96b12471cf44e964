import Derived.Test.YtfhpbcklkijaoaaGreatDoorB1
import Derived.Test.YtfhpbcklkijaoaaGreatDoorDB1
import Derived.Test.YtfhpbcklkijaoaaGreatDoorG7
set_option linter.unusedSimpArgs false
set_option linter.unusedVariables false
namespace Go.Ev
open Go.RowKit Go.Proofs
set_option maxRecDepth 20000
set_option maxHeartbeats 8000000
set_option linter.unusedVariables false
set_option linter.unusedSimpArgs false
noncomputable section
section
variable {s:List Pl}{H:List Hf}{W:List P2}{F:St}
theorem lpb40 (h4:∀t∈s,t.m.length≤4) {a n:Nat}(hn:a+n≤s.length) (hs:s.length<300) {y0 y1 y2 y3 y4 y5 y6 y7 k r0 r1:Int}:∀(j i N:Nat),n=i+j →
  ajT s (N+j+1) (.k40 H W H ((H.length:Nat):Int) n a ((n:Nat):Int) F.inn F.half F.outs F.balls F.strikes F.b1 F.b2 F.b3 F.n0 F.n1 F.c0 F.c1 F.over y0 y1 y2 y3 y4 y5 y6 y7 (tsR s a i) (osR s a i) (i:Int) k r0 r1)=ajT s (N+1) (.k40 H W H ((H.length:Nat):Int) n a ((n:Nat):Int) F.inn F.half F.outs F.balls F.strikes F.b1 F.b2 F.b3 F.n0 F.n1 F.c0 F.c1 F.over y0 y1 y2 y3 y4 y5 y6 y7 (tsR s a n) (osR s a n) (n:Int) k r0 r1)
 | 0,i,N,e=>by
   obtain rfl:n=i:=e
   rfl
 | j + 1,i,N,e=>by
   have ih:=lpb40 h4 hn hs (y0:=y0) (y1:=y1) (y2:=y2) (y3:=y3) (y4:=y4) (y5:=y5) (y6:=y6) (y7:=y7) (k:=k) (r0:=r0) (r1:=r1) j (i+1) N (by omega)
   have c1:decide ((i:Int)<((n:Nat):Int))=true:=by simp;omega
   have c2:inR (i:Int) n=true:=lF (by omega) (by omega)
   have w4:IntKind.i64.wrap ((i:Int)+1)=((i+1:Nat):Int):=by rw [aS]<;>omega
   obtain⟨t,ht⟩:∃t,s[a+i]? = some t:=⟨s[a+i]'(by omega),List.getElem?_eq_getElem (by omega)⟩
   have hm:=h4 t (List.mem_of_getElem? ht)
   have e59:Sz59 (t,())=some ((t.m.countP (·.o):Nat):Int):=by
    obtain⟨p,e,b,l⟩:=t
    exact outs_r hm
   have ti:=azi s a i
   have oi:=bqX h4 a i
   have cp:t.m.countP (·.o)≤4:=Nat.le_trans List.countP_le_length hm
   have o1:IntKind.i64.wrap (osR s a i+((t.m.countP (·.o):Nat):Int))=osR s a (i+1):=by
    rw [aS (by omega) (by omega),osR,aP ht]
   have t1:t.e≠[]→IntKind.i64.wrap (tsR s a i+1)=tsR s a (i+1):=fun q=>by
    rw [aS (by omega) (by omega),tsR,aP ht,if_neg q]
   have t2:t.e=[]→tsR s a i=tsR s a (i+1):=fun q=>by
    rw [tsR,aP ht,if_pos q];omega
   rw [show N+(j+1)+1=(N+j+1)+1 from rfl]
   generalize N+j+1=M at ih ⊢
   rw [←ih,wY]
   by_cases he:t.e=[]
   · rw [←t2 he]
     simp only [tF,TS,w6,c1,c2,cond_true,Int.toNat_natCast,aP ht,he,decide_true,Bool.not_true,cond_false,e59,obind_some,o1,w4]
   · rw [←t1 he]
     simp only [tF,TS,w6,c1,c2,cond_true,Int.toNat_natCast,aP ht,he,decide_false,Bool.not_false,cond_true,e59,obind_some,o1,w4]
theorem lpb28 (h4:∀t∈s,t.m.length≤4) (hs:s.length<300) (hW:W.length=(H.length+1) / 2) (hw:∀j y,H[j]? = some y→aw8 (W.getD (j / 2) p20) j=y.runs) (h3:∀j y,H[j]? = some y→j+1<H.length→y.outs=3) (hH:H.length<300)
  (f0:0≤F.c0∧F.c0≤9999) (f1:0≤F.c1∧F.c1≤9999):∀(l:List Hf) (k a n:Nat) (r0 r1:Int),H.drop k=l→k≤H.length→Ch s k a l s.length→0≤r0→0≤r1→r0+xF 0 l=F.c0→r1+xF 1 l=F.c1 →
  (s.length-a)+2*l.length+1≤n→ajT s n (.k28 H W H ((H.length:Nat):Int) F.inn F.half F.outs F.balls F.strikes F.b1 F.b2 F.b3 F.n0 F.n1 F.c0 F.c1 F.over ((a:Nat):Int) (k:Int) r1 r0)=some true
 | [],k,a,n,r0,r1,hd,hk,hc,p0,p1,q0,q1,hn=>by
   have sw:Sw27 ()=some true:=rfl
   have hle:H.length≤k:=List.drop_eq_nil_iff.1 hd
   obtain rfl:k=H.length:=Nat.le_antisymm hk hle
   have ha:a=s.length:=hc
   have c1:decide (((H.length:Nat):Int)<((H.length:Nat):Int))=false:=by simp
   have c2:(((a:Nat):Int)==((s.length:Nat):Int))=true:=by rw [ha];simp
   have c3:(r0==F.c0)=true:=by rw [beq_iff_eq];simp only [xF]at q0;omega
   have c4:(r1==F.c1)=true:=by rw [beq_iff_eq];simp only [xF]at q1;omega
   have c5:(((W.length:Nat):Int)==IntKind.i64.wrap ((IntKind.i64.wrap (((H.length:Nat):Int)+1)).tdiv 2))=true:=by
    rw [beq_iff_eq,aS (n:=((H.length:Nat):Int)+1) (by omega) (by omega),Int.tdiv_eq_ediv_of_nonneg (by omega),aS (by omega) (by omega),hW];omega
   obtain⟨m,rfl⟩:∃m,n=m+1:=⟨n-1,by omega⟩
   rw [wY]
   simp only [tF,TS,w6,c1,cond_false,c2,c3,c4,c5,cond_true,Bool.and_self,sw,obind_some]
 | h :: l,k,a,n,r0,r1,hd,hk,⟨b,Fi,hc⟩,p0,p1,q0,q1,hn=>by
   have hlt:k<H.length:=by
    rcases Nat.lt_or_ge k H.length with q|q
    · exact q
    · rw [List.drop_eq_nil_of_le q]at hd;cases hd
   have hg:H[k]? = some h:=by
    have:=List.getElem?_drop (xs:=H) (i:=k) (j:=0)
    rw [hd]at this
    simpa using this.symm
   have hd2:H.drop (k+1)=l:=by
    have:=aQ hg
    rw [hd]at this
    exact(List.cons.inj this).2.symm
   have hbs:=ch_le hc
   have hww:=hw k h hg
   have h33:=h3 k h hg
   obtain⟨y0,y1,y2,y3,y4,y5,y6,y7⟩:=h
   obtain⟨⟨cle,cs,ci,cf,ct,co,cr⟩,flt,fto,fsum,fo,fl⟩:=Fi
   dsimp only at hww h33 cs ci cf ct co cr fto fsum fo fl
   subst cf fto
   simp only [xF]at q0 q1
   have nneg:∀(q:Int) (l:List Hf) (k a:Nat),Ch s k a l s.length→0≤xF q l:=fun q l=>by
    induction l with
    | nil=>intro k a _;exact Int.le_refl _
    | cons x l ih=>
      rintro k a ⟨b,Fi,h⟩
      have:=ih _ _ h
      have:=Fi.cur.runs
      simp only [xF]
      split<;>omega
   have z0:=nneg 0 l _ _ hc
   have z1:=nneg 1 l _ _ hc
   have c1:decide ((k:Int)<((H.length:Nat):Int))=true:=by simp;omega
   have c2:inR (k:Int) H.length=true:=lF (by omega) (by omega)
   have e1:(y1==((k:Int)).tmod 2)=true:=by rw [beq_iff_eq,cs,Int.tmod_eq_emod_of_nonneg (by omega)];omega
   have u1:IntKind.i64.wrap (((k:Int)).tdiv 2)=((k / 2:Nat):Int):=by rw [Int.tdiv_eq_ediv_of_nonneg (by omega),aS (by omega) (by omega)];omega
   have u2:IntKind.i64.wrap (((k / 2:Nat):Int)+1)=((k / 2+1:Nat):Int):=by rw [aS (by omega) (by omega)];omega
   have e2:(y0==((k / 2+1:Nat):Int))=true:=by rw [beq_iff_eq,ci]
   have e4:decide (((b:Nat):Int)≤((a:Nat):Int))=false:=by simp;omega
   have e5:decide (((s.length:Nat):Int)<((b:Nat):Int))=false:=by simp;omega
   have u3:IntKind.i64.wrap (y4+y6)=y4+y6:=by rw [aS (by omega) (by omega)]
   have u4:IntKind.i64.wrap (y4+y6+y7)=y4+y6+y7:=by rw [aS (by omega) (by omega)]
   have e6:(y5==y4+y6+y7)=true:=by rw [beq_iff_eq,fsum]
   have e7:decide (3<y6)=false:=by simp;omega
   have u5:IntKind.i64.wrap ((k:Int)+1)=((k+1:Nat):Int):=by rw [aS (by omega) (by omega)];omega
   have e8:decide (y4<0)=false:=by simp;omega
   have e9:decide (y7<0)=false:=by simp;omega
   have u6:IntKind.i64.wrap (3+y4)=3+y4:=by rw [aS (by omega) (by omega)]
   have u7:IntKind.i64.wrap (3+y4+3)=3+y4+3:=by rw [aS (by omega) (by omega)]
   have e10:decide (3+y4+3<y7)=false:=by simp;omega
   have e11:decide ((0:Int)≤((b:Nat):Int))=true:=by simp
   have e12:decide (((b:Nat):Int)≤((s.length:Nat):Int))=true:=by simp;omega
   have e13:decide ((0:Int)≤((a:Nat):Int))=true:=by simp
   have e14:decide (((a:Nat):Int)≤((b:Nat):Int))=true:=by simp;omega
   have ea:(((a:Nat):Int)==((a:Nat):Int))=true:=by simp
   rw [List.length_cons]at hn
   obtain⟨M,rfl⟩:∃M,n=M+(b-a)+1+1:=⟨n-(b-a)-2,by omega⟩
   have L4:=lpb40 (s:=s) (H:=H) (W:=W) (F:=F) h4 (a:=a) (n:=b-a) (by omega) hs (y0:=y0) (y1:=y1) (y2:=(a:Int)) (y3:=(b:Int)) (y4:=y4) (y5:=y5) (y6:=y6) (y7:=y7) (k:=(k:Int)) (r0:=r0) (r1:=r1) (b-a) 0 M (by omega)
   have go:ajT s (M+1) (.k40 H W H ((H.length:Nat):Int) (b-a) a (((b-a):Nat):Int) F.inn F.half F.outs F.balls F.strikes F.b1 F.b2 F.b3 F.n0 F.n1 F.c0 F.c1 F.over y0 y1 (a:Int) (b:Int) y4 y5 y6 y7 (tsR s a (b-a)) (osR s a (b-a)) ((b-a:Nat):Int) (k:Int) r0 r1)=some true:=by
    have d1:decide (((b-a:Nat):Int)<((b-a:Nat):Int))=false:=by simp
    have d2:(tsR s a (b-a)==y5)=true:=by rw [beq_iff_eq,ct]
    have d3:(osR s a (b-a)==y6)=true:=by rw [beq_iff_eq,co]
    have d4:decide (((W.length:Nat):Int)<y0)=false:=by simp;omega
    have d5:IntKind.i64.wrap (y0-1)=((k / 2:Nat):Int):=by rw [aS (by omega) (by omega)];omega
    have d6:inR ((k / 2:Nat):Int) W.length=true:=lF (by omega) (by omega)
    unfold aw8 at hww
    rw [wY]
    by_cases hk2:k % 2=0
    · have s0:(y1==0)=true:=by rw [beq_iff_eq];omega
      have y10:y1=0:=by omega
      rw [if_pos hk2]at hww
      rw [if_pos y10]at q0
      rw [if_neg (by omega)]at q1
      have d7:((W.getD (k / 2) p20).a==y4)=true:=by rw [beq_iff_eq,hww]
      have d8:IntKind.i64.wrap (r0+y4)=r0+y4:=by rw [aS (by omega) (by omega)]
      have ih:=lpb28 h4 hs hW hw h3 hH f0 f1 l (k+1) b M (r0+y4) r1 hd2 (by omega) hc (by omega) p1 (by omega) (by omega) (by omega)
      simp only [tF,TS,w6,d1,d2,d3,d4,d5,d6,s0,cond_false,cond_true,Bool.not_true,Int.toNat_natCast,d7,u5,d8]
      exact ih
    · have s0:(y1==0)=false:=by rw [beq_eq_false_iff_ne];omega
      have s1:(y1==1)=true:=by rw [beq_iff_eq];omega
      have y10:y1=1:=by omega
      rw [if_neg hk2]at hww
      rw [if_neg (by omega)]at q0
      rw [if_pos y10]at q1
      have d7:((W.getD (k / 2) p20).b==y4)=true:=by rw [beq_iff_eq,hww]
      have d8:IntKind.i64.wrap (r1+y4)=r1+y4:=by rw [aS (by omega) (by omega)]
      have ih:=lpb28 h4 hs hW hw h3 hH f0 f1 l (k+1) b M r0 (r1+y4) hd2 (by omega) hc p0 (by omega) (by omega) (by omega) (by omega)
      simp only [tF,TS,w6,d1,d2,d3,d4,d5,d6,s0,s1,cond_false,cond_true,Bool.not_true,Int.toNat_natCast,d7,u5,d8]
      exact ih
   rw [go]at L4
   rw [wY]
   cases hlast:decide (((k+1:Nat):Int)<((H.length:Nat):Int))with
   | true=>
     have e15:(y6==3)=true:=by rw [beq_iff_eq];exact h33 (by have:=of_decide_eq_true hlast;omega)
     simp only [tF,TS,w6,c1,c2,Int.toNat_natCast,aP hg,e1,u1,u2,e2,ea,e4,e5,u3,u4,e6,e7,u5,hlast,e15,e8,e9,u6,u7,e10,e11,e12,e13,e14,Bool.and_self,cond_false,cond_true,Bool.not_true]
     exact L4
   | false=>
     simp only [tF,TS,w6,c1,c2,Int.toNat_natCast,aP hg,e1,u1,u2,e2,ea,e4,e5,u3,u4,e6,e7,u5,hlast,e8,e9,u6,u7,e10,e11,e12,e13,e14,Bool.and_self,cond_false,cond_true,Bool.not_true]
     exact L4
end
theorem bqb {L:List Pl}:∀ {l:List Hf}{k a e:Nat},Ch L k a l e→∀j y,l[j]? = some y→∃a b,Fin1 L (k+j) y a b
 | [],_,_,_,_,j,y,h=>by cases h
 | x::l,k,a,e,⟨b,F,h⟩,0,y,hy=>by
   simp only [List.getElem?_cons_zero,Oi]at hy
   subst hy
   exact⟨a,b,F⟩
 | x::l,k,a,e,⟨b,F,h⟩,j+1,y,hy=>by
   simp only [List.getElem?_cons_succ]at hy
   obtain⟨a2,b2,F2⟩:=bqb h j y hy
   exact⟨a2,b2,by rw [show k+(j+1)=k+1+j by omega];exact F2⟩
theorem good_h {L:List Pl}{H:List Hf}{e:Nat}(h:Ch L 0 0 H e) (hl:H.length≤300):okH H=true∧(vK H).length=(H.length+1) / 2:=by
 rcases List.eq_nil_or_concat H with rfl|⟨pre,q,rfl⟩
 · exact⟨rfl,rfl⟩
 rw [List.concat_eq_append]at *
 obtain⟨m,_,F⟩:=rY.1 h
 have e1:(pre++[q]).getLastD hf0=q:=by simp
 have e2:=F.cur.inn
 have e3:(pre++[q]).length=pre.length+1:=by simp
 refine⟨?_,?_⟩
 · unfold okH
   rw [e1]
   simp only [Bool.and_eq_true,decide_eq_true_eq,List.all_eq_true,Bool.or_eq_true,beq_iff_eq]
   refine⟨by omega,by omega,fun y hy=>?_⟩
   obtain⟨j,hj⟩:=List.mem_iff_getElem?.1 hy
   obtain⟨a2,b2,F2⟩:=bqb h j y hj
   have i2:=F2.cur.inn
   have s2:=F2.cur.side
   obtain⟨hj2,_⟩:=List.getElem?_eq_some_iff.1 hj
   exact⟨by omega,by omega,by omega⟩
 · unfold vK
   rw [fV,List.length_replicate,e1]
   omega
theorem law10 (s:List Pl) (hb:∀t∈s,aV t.p=true∧aV t.e=true):Sz10 (s,())=some true:=by
 show Ez10 (s.length+1064) s=_
 have sw:Sw27 ()=some true:=rfl
 unfold Ez10 Tz10
 simp only [TS,w6]
 rw [s42,obind_some]
 cases hs:shL s with
 | false=>rw [sw];rfl
 | true=>
 simp only [shL,Bool.and_eq_true,Bool.or_eq_true,decide_eq_true_eq,List.all_eq_true]at hs
 obtain⟨h1,h2⟩:=hs
 rw [Bool.not_true,cond_false]
 by_cases hbig:14<s.length
 · have c:decide (14<((s.length:Nat):Int))=true:=by simp;omega
   rw [c,sw];rfl
 have c:decide (14<((s.length:Nat):Int))=false:=by simp;omega
 have hl:s.length≤14:=by omega
 have hc:∀t∈s,aw6 t=true∧jQ t.m=true:=fun t ht=>(bqP (h2 t ht) (hb t ht).1 (hb t ht).2).2
 have hok:∀t∈s,okP t:=fun t ht=>(bqP (h2 t ht) (hb t ht).1 (hb t ht).2).1
 have hg:gOK s=true:=gOK_of (by omega) hok
 have g43:Sg43 (s,())=some ((game s).1,(((game s).2.1:Nat):Int),(game s).2.2.1,(game s).2.2.2,()):=by unfold Sg43;rw [if_pos hg]
 have g45:Sg45 (s,())=some ((game s).1.getLastD st0,(((game s).2.1:Nat):Int),(game s).2.2.1,(game s).2.2.2,()):=by unfold Sg45;rw [if_pos hg]
 have g48:ayw (s,())=some ((halv s).1,(halv s).2,()):=by unfold ayw;rw [if_pos hg]
 rw [c,cond_false,s44 s (by omega) hc,obind_some,g48,obind_some]
 have eG:game s=rC 0 [bC] bC s:=by unfold game;rw [if_neg (by omega)]
 have eH:halv s=vS 0 [] bC s:=by unfold halv;rw [if_neg (by omega)]
 obtain⟨m1,m2⟩:=avt s (by omega) s 0 [] [bC] bC rfl (Nat.zero_le _) (ayd s) hok rfl
 rw [←eG,←eH]at m1 m2
 dsimp only
 by_cases he:(halv s).2=0
 rotate_left
 · have c2:(!((halv s).2==0))=true:=by simpa using he
   have c3:((game s).2.2.2==(halv s).2)=true:=by rw [beq_iff_eq,m1]
   rw [c2,cond_true,obind_some,g43,obind_some]
   dsimp only
   rw [c3,cond_true,sw,obind_some]
 obtain⟨g1,g2,B,h4⟩:=m2 he
 have g3:(game s).2.2.2=0:=by rw [←m1,he]
 have hlen:=ch_le B.ch
 have hgood:okH (halv s).1=true∧(vK (halv s).1).length=((halv s).1.length+1) / 2:=good_h B.ch (by omega)
 have g49:Sg49 (s,())=some (vK (halv s).1,0,()):=by
  unfold Sg49 lin
  rw [if_pos ⟨hg,hgood.1⟩,if_pos he]
 have c2:(!((halv s).2==0))=false:=by simp [he]
 rw [c2,cond_false,obind_some,g45,obind_some,obind_some,g49,obind_some]
 dsimp only
 rw [g1,g2,g3]
 have hk:∀j,j<0+(halv s).1.length→j / 2<(List.replicate ((halv s).1.getLastD hf0).inn.toNat p20).length:=by
  intro j hj
  have:=hgood.2
  unfold vK at this
  rw [fV]at this
  omega
 have hline:=(avj (halv s).1 0 0 _ _ B.ch (fun j hj=>absurd hj (Nat.not_lt_zero _)) hk).2
 obtain⟨i1,i2,i3,i4,i5⟩:=j7 B.ok
 have n:=m8.1 ⟨i1,i2,i3⟩
 have lp:=lpb28 (s:=s) (H:=(halv s).1) (W:=vK (halv s).1) (F:=(game s).1.getLastD st0) h4 (by omega) hgood.2 (fun j y hy=>by have:=hline j y hy;rw [Nat.zero_add]at this;exact this)
  (fun j y hy hj=>by
   refine B.three y ?_
   rw [List.dropLast_eq_take]
   refine List.mem_of_getElem? (i:=j) ?_
   rw [List.getElem?_take_of_lt (by omega),hy])
  (by omega) n.c0 n.c1 (halv s).1 0 0 (s.length+1064) 0 0 (by rw [List.drop_zero]) (Nat.zero_le _) B.ch (by omega) (by omega) (by rw [B.c0];omega) (by rw [B.c1];omega) (by omega)
 exact lp
end
end Go.Ev
