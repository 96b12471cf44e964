import Derived.Test.YtkhmgggponmimaaGreatDoorTBB
set_option linter.unusedSimpArgs false
set_option linter.unusedVariables false
namespace Go.Ev
open Go.RowKit Go.Proofs
set_option maxRecDepth 100000
set_option maxHeartbeats 8000000
set_option linter.unusedSimpArgs false
set_option linter.unusedVariables false
noncomputable section
theorem ends_nz {y:St}(h:rI y≠0):(nxt y).outs=0∧(nxt y).balls=0∧(nxt y).strikes=0∧(nxt y).b1=0∧(nxt y).b2=0∧(nxt y).b3=0:=by
 unfold rI at h
 unfold nxt
 cases h1:decI y
 · rw [h1]at h
   cases h2:(y.outs==3)
   · rw [h2]at h;exact absurd rfl h
   · cases lastI y<;>exact⟨rfl,rfl,rfl,rfl,rfl,rfl⟩
 · exact⟨rfl,rfl,rfl,rfl,rfl,rfl⟩
theorem ends_z {y:St}(h:rI y=0):nxt y=y∧¬y.outs=3:=by
 unfold rI at h
 unfold nxt
 cases h1:decI y
 · rw [h1]at h
   cases h2:(y.outs==3)
   · exact⟨rfl,by simpa using h2⟩
   · rw [h2]at h
     cases h3:lastI y
     · rw [h3]at h;exact absurd (show(1:Int)=0 from h) (by decide)
     · rw [h3]at h;exact absurd (show(2:Int)=0 from h) (by decide)
 · rw [h1]at h;exact absurd (show(2:Int)=0 from h) (by decide)
theorem aj0 {y:St}:(nxt y).c0=y.c0∧(nxt y).c1=y.c1:=by
 unfold nxt
 cases decI y
 · cases (y.outs==3)
   · exact⟨rfl,rfl⟩
   · cases lastI y
     · exact⟨rfl,rfl⟩
     · exact⟨rfl,rfl⟩
 · exact⟨rfl,rfl⟩
theorem wd10:IntKind.i64.wrap (1-0)=1:=by decide
theorem wd11:IntKind.i64.wrap (1-1)=0:=by decide
theorem plS_in (x:St):0≤plS x∧plS x≤6:=by
 unfold plS pl1
 cases decide (0<x.b1)<;>cases decide (0<x.b2)<;>cases decide (0<x.b3)<;>decide
section
variable {L:List Pl}{X:List St}(x y:St) (o r a e b c k:Int) (R:List Int) (t:Pl) (n:Nat)
theorem st29 (hh:x.half=0∨x.half=1) (hr:((R.length:Nat):Int)≤r) (h0:x.half=0→y.c0=IntKind.i64.wrap (x.c0+((R.length:Nat):Int))∧y.c1=x.c1) (h1:x.half=1→y.c1=IntKind.i64.wrap (x.c1+((R.length:Nat):Int))∧y.c0=x.c0) :
  wX L (n+1) (.k29 X o 0 r 0 a 0 R 0 e 0 0 x.inn x.half x.outs x.balls x.strikes x.b1 x.b2 x.b3 x.n0 x.n1 x.c0 x.c1 x.over y.inn y.half y.outs y.balls y.strikes y.b1 y.b2 y.b3 y.n0 y.n1 y.c0 y.c1 y.over b c k t.p t.e t.l t.m)=wX L n (.k33 X o r a R e x.inn x.half x.outs x.balls x.strikes x.b1 x.b2 x.b3 x.n0 x.n1 x.c0 x.c1 x.over y.inn y.half y.outs y.balls y.strikes y.b1 y.b2 y.b3 y.n0 y.n1 y.c0 y.c1 y.over b c k t.p t.e t.l t.m):=by
 have d:decide (r<((R.length:Nat):Int))=false:=by simp;omega
 rcases hh with hh|hh
 · obtain ⟨q0,q1⟩:=h0 hh
   have b0:(y.c0==IntKind.i64.wrap (x.c0+((R.length:Nat):Int)))=true:=beq_iff_eq.2 q0
   have b1:(y.c1==x.c1)=true:=beq_iff_eq.2 q1
   rw [oY]
   simp only [azQ,TS,w6,hh,d,b0,b1,wr0,wd10,Int.add_zero,cond_true,cond_false,beq_self_eq_true,Bool.not_true,Bool.not_false,show((1:Int)==0)=false from rfl,show((0:Int)==1)=false from rfl]
 · obtain ⟨q0,q1⟩:=h1 hh
   have b0:(y.c1==IntKind.i64.wrap (x.c1+((R.length:Nat):Int)))=true:=beq_iff_eq.2 q0
   have b1:(y.c0==x.c0)=true:=beq_iff_eq.2 q1
   rw [oY]
   simp only [azQ,TS,w6,hh,d,b0,b1,wr0,wd11,Int.add_zero,cond_true,cond_false,beq_self_eq_true,Bool.not_true,Bool.not_false,show((1:Int)==0)=false from rfl,show((0:Int)==1)=false from rfl]
theorem st33e (he:e≠0) (h:y.outs=0∧y.balls=0∧y.strikes=0∧y.b1=0∧y.b2=0∧y.b3=0) :
  wX L (n+1) (.k33 X o r a R e x.inn x.half x.outs x.balls x.strikes x.b1 x.b2 x.b3 x.n0 x.n1 x.c0 x.c1 x.over y.inn y.half y.outs y.balls y.strikes y.b1 y.b2 y.b3 y.n0 y.n1 y.c0 y.c1 y.over b c k t.p t.e t.l t.m)=wX L n (.k10 X (IntKind.i64.wrap (k+1))):=by
 have d:(e==0)=false:=by simpa using he
 obtain⟨h1,h2,h3,h4,h5,h6⟩:=h
 rw [oY]
 simp only [azQ,TS,w6,d,h1,h2,h3,h4,h5,h6,cond_true,cond_false,beq_self_eq_true,Bool.not_true,Bool.not_false,Bool.and_true]
theorem st33z:wX L (n+1) (.k33 X o r a R 0 x.inn x.half x.outs x.balls x.strikes x.b1 x.b2 x.b3 x.n0 x.n1 x.c0 x.c1 x.over y.inn y.half y.outs y.balls y.strikes y.b1 y.b2 y.b3 y.n0 y.n1 y.c0 y.c1 y.over b c k t.p t.e t.l t.m)=wX L n (.k42 X o r a R x.inn x.half x.outs x.balls x.strikes x.b1 x.b2 x.b3 x.n0 x.n1 x.c0 x.c1 x.over y.inn y.half y.outs y.balls y.strikes y.b1 y.b2 y.b3 y.n0 y.n1 y.c0 y.c1 y.over b c k t.m ((t.m.length:Nat):Int) t.p t.e t.l t.m 0 0):=by
 rw [oY]
 simp only [azQ,TS,cond_true,cond_false,beq_self_eq_true,Bool.not_true]
theorem lp42m (hm4:aC t.m=0):∀(j i n:Nat) (z:Int),t.m.length=i+j→-(4*(i:Int))≤z→z≤4*(i:Int)→wX L (n+j) (.k42 X o r a R x.inn x.half x.outs x.balls x.strikes x.b1 x.b2 x.b3 x.n0 x.n1 x.c0 x.c1 x.over y.inn y.half y.outs y.balls y.strikes y.b1 y.b2 y.b3 y.n0 y.n1 y.c0 y.c1 y.over b c k t.m ((t.m.length:Nat):Int) t.p t.e t.l t.m z (i:Int))=wX L n (.k42 X o r a R x.inn x.half x.outs x.balls x.strikes x.b1 x.b2 x.b3 x.n0 x.n1 x.c0 x.c1 x.over y.inn y.half y.outs y.balls y.strikes y.b1 y.b2 y.b3 y.n0 y.n1 y.c0 y.c1 y.over b c k t.m ((t.m.length:Nat):Int) t.p t.e t.l t.m (z+((t.m.drop i).map kQ).sum) ((t.m.length:Nat):Int))
 | 0,i,n,z,hk,h1,h2=>by
   obtain rfl:i=t.m.length:=by omega
   rw [List.drop_length,List.map_nil,List.sum_nil,Int.add_zero,Nat.add_zero]
 | j + 1,i,n,z,hlk,h1,h2=>by
   have hl:=dI hm4
   have hk:i<t.m.length:=by omega
   obtain⟨m,hm⟩:∃m,t.m[i]? = some m:=⟨t.m[i],List.getElem?_eq_getElem hk⟩
   have hv:=sQ hm4 m (List.mem_of_getElem? hm)
   have av:=ava m hv
   have ih:=lp42m hm4 j (i+1) n (z+kQ m) (by omega) (by omega) (by omega)
   have c1:decide ((i:Int)<((t.m.length:Nat):Int))=true:=by simp;omega
   have c2:inR (i:Int) t.m.length=true:=gP (by omega) (by omega)
   have w4:IntKind.i64.wrap ((i:Int)+1)=((i+1:Nat):Int):=by rw [b7]<;>omega
   rw [aO hm,List.map_cons,List.sum_cons,←Int.add_assoc,show n+(j+1)=(n+j)+1 from rfl,oY]
   generalize n+j=N at ih ⊢
   simp only [azQ,TS,w6,c1,c2,cond_true,Int.toNat_natCast,a7 hm,w4]
   unfold kQ at ih av ⊢
   cases ho:m.o with
   | true=>
     simp only [ho,if_true,cond_true]at ih av ⊢
     rw [b7 (n:=z+m.f) (by omega) (by omega)]
     exact ih
   | false=>
     simp only [ho,Bool.false_eq_true,if_false,Int.add_zero,cond_false]at ih ⊢
     exact ih
theorem st42 (z:Int) (hr:((R.length:Nat):Int)=r) (ho:y.outs=IntKind.i64.wrap (x.outs+o)) (hp:plS y=IntKind.i64.wrap (IntKind.i64.wrap (IntKind.i64.wrap (plS x-z)+a)-IntKind.i64.wrap (4*r)))
  (he:t.e=[]→y.balls=b∧y.strikes=c) (hn:¬t.e=[]→y.balls=0∧y.strikes=0) :
  wX L (n+1) (.k42 X o r a R x.inn x.half x.outs x.balls x.strikes x.b1 x.b2 x.b3 x.n0 x.n1 x.c0 x.c1 x.over y.inn y.half y.outs y.balls y.strikes y.b1 y.b2 y.b3 y.n0 y.n1 y.c0 y.c1 y.over b c k t.m ((t.m.length:Nat):Int) t.p t.e t.l t.m z ((t.m.length:Nat):Int))=wX L n (.k10 X (IntKind.i64.wrap (k+1))):=by
 have c1:decide (((t.m.length:Nat):Int)<((t.m.length:Nat):Int))=false:=by simp
 have b0:(((R.length:Nat):Int)==r)=true:=beq_iff_eq.2 hr
 have b1:(y.outs==IntKind.i64.wrap (x.outs+o))=true:=beq_iff_eq.2 ho
 have b2:(plS y==IntKind.i64.wrap (IntKind.i64.wrap (IntKind.i64.wrap (plS x-z)+a)-IntKind.i64.wrap (4*r)))=true:=beq_iff_eq.2 hp
 have ex:Sp13 ((⟨x.inn,x.half,x.outs,x.balls,x.strikes,x.b1,x.b2,x.b3,x.n0,x.n1,x.c0,x.c1,x.over⟩:St),())=some (plS x):=s13 x
 have ey:Sp13 ((⟨y.inn,y.half,y.outs,y.balls,y.strikes,y.b1,y.b2,y.b3,y.n0,y.n1,y.c0,y.c1,y.over⟩:St),())=some (plS y):=s13 y
 rw [oY]
 by_cases h:t.e=[]
 · obtain ⟨q0,q1⟩:=he h
   have d:decide (t.e=[])=true:=by simpa using h
   have b3:(y.balls==b)=true:=beq_iff_eq.2 q0
   have b4:(y.strikes==c)=true:=beq_iff_eq.2 q1
   simp only [azQ,TS,w6,c1,b0,b1,ex,ey,b2,b3,b4,d,obind_some,cond_true,cond_false,Bool.not_true,Bool.not_false]
 · obtain ⟨q0,q1⟩:=hn h
   have d:decide (t.e=[])=false:=by simpa using h
   have b3:(y.balls==0)=true:=beq_iff_eq.2 q0
   have b4:(y.strikes==0)=true:=beq_iff_eq.2 q1
   simp only [azQ,TS,w6,c1,b0,b1,ex,ey,b2,b3,b4,d,obind_some,cond_true,cond_false,Bool.not_true,Bool.not_false]
end
theorem step3 {L:List Pl}{X:List St}{k:Nat}{t:Pl}{x:St}(hL:L.length≤12) (hX:X.length=L.length+1) (ht:L[k]? = some t) (hb:okP t∧ax0 t=true∧gX t.m=true)
  (hx:X.getD k st0=x) (he:eE x t=0) (hy:X.getD (k+1) st0=nxt (mvd x t)) (n:Nat):∃m,n≤m∧wX L (n+8) (.k10 X (k:Int))=wX L m (.k10 X ((k+1:Nat):Int)):=by
 obtain⟨ok,okp,okc⟩:=hb
 have A:=akg ok he
 have g:=A.good
 have n3:=qP.1 ⟨(hJ A.st).1,(hJ A.st).2.1,(hJ A.st).2.2.1⟩
 have G:=n3.good
 have ha:aq1 x t (brk x t)=0:=he
 have hk:k<L.length:=(List.getElem?_eq_some_iff.1 ht).1
 have c1:decide ((k:Int)<((L.length:Nat):Int))=true:=by simp;omega
 have c2:inR (k:Int) L.length=true:=gP (by omega) (by omega)
 have c3:inR (k:Int) X.length=true:=gP (by omega) (by omega)
 have c4:inR ((k+1:Nat):Int) X.length=true:=gP (by omega) (by omega)
 have w4:IntKind.i64.wrap ((k:Int)+1)=((k+1:Nat):Int):=by rw [b7]<;>omega
 have e33:S33 (t,())=some t:=by unfold S33;rw [if_pos ⟨okp,okc⟩]
 have e142:=s142 okp ok.2.1 ok.2.2.1 A.pl
 have e6:=s6 e142 A.mv
 have e8:=s8 e142 A.mv
 have e9:=s9 e142 A.mv
 have e34:=s34 (s:=x) ok (yZ ok).1
 have e36:=s36 (s:=x) ok (yZ ok).1 (yZ ok).2
 rw [if_neg (by simp [ha])]at e34 e36
 have e81:S81 (x.balls,x.strikes,t.p,())=some (eR x t):=by unfold S81;rw [if_pos ok.2.1];rfl
 have ec:(eR x t).2.2.1=0:=g.cnt
 have q10:wX L (n+7+1) (.k10 X (k:Int))=wX L (n+7) (.k29 X ((t.m.countP (·.o):Nat):Int) 0 (((t.m.filter rnM).length:Nat):Int) 0 ((t.m.map uH).sum) 0 ((f7 (outsI x t) t.l t.m).map (bqJ x)) 0 (rI (mvd x t)) 0 0 x.inn x.half x.outs x.balls x.strikes x.b1 x.b2 x.b3 x.n0 x.n1 x.c0 x.c1 x.over (nxt (mvd x t)).inn (nxt (mvd x t)).half (nxt (mvd x t)).outs (nxt (mvd x t)).balls (nxt (mvd x t)).strikes (nxt (mvd x t)).b1 (nxt (mvd x t)).b2 (nxt (mvd x t)).b3 (nxt (mvd x t)).n0 (nxt (mvd x t)).n1 (nxt (mvd x t)).c0 (nxt (mvd x t)).c1 (nxt (mvd x t)).over (eR x t).1.1 (eR x t).1.2.1 (k:Int) t.p t.e t.l t.m):=by
  rw [oY]
  simp only [azQ,TS,w6,c1,c2,c3,c4,w4,cond_true,Int.toNat_natCast,a7 ht,hx,hy,e33,e6,e8,e9,e34,e36,e81,ec,obind_some]
 have rs:=lQ (o:=outsI x t) (b:=t.l) (l:=t.m)
 have rl:(f7 (outsI x t) t.l t.m).length≤(t.m.filter rnM).length:=by unfold f7;split<;>simp
 have q29:=st29 (L:=L) (X:=X) x (nxt (mvd x t)) ((t.m.countP (·.o):Nat):Int) (((t.m.filter rnM).length:Nat):Int) ((t.m.map uH).sum) (rI (mvd x t)) (eR x t).1.1 (eR x t).1.2.1 (k:Int) ((f7 (outsI x t) t.l t.m).map (bqJ x)) t (n+6) G.half
  (by rw [List.length_map];omega)
  (fun h=>by
   rw [aj0.1,aj0.2,List.length_map]
   refine⟨?_,?_⟩
   · show (if x.half=0 then IntKind.i64.wrap (x.c0+f6 x t)else x.c0)=_
     rw [if_pos h];rfl
   · show (if x.half=1 then IntKind.i64.wrap (x.c1+f6 x t)else x.c1)=_
     rw [if_neg (by omega)])
  (fun h=>by
   rw [aj0.1,aj0.2,List.length_map]
   refine⟨?_,?_⟩
   · show (if x.half=1 then IntKind.i64.wrap (x.c1+f6 x t)else x.c1)=_
     rw [if_pos h];rfl
   · show (if x.half=0 then IntKind.i64.wrap (x.c0+f6 x t)else x.c0)=_
     rw [if_neg (by omega)])
 have q0:=q10.trans q29
 by_cases hz:rI (mvd x t)=0
 · obtain ⟨nz,oz⟩:=ends_z hz
   have hl:=dI A.mv
   rw [hz,nz]at q0
   have q33:=st33z (L:=L) (X:=X) x (mvd x t) ((t.m.countP (·.o):Nat):Int) (((t.m.filter rnM).length:Nat):Int) ((t.m.map uH).sum) (eR x t).1.1 (eR x t).1.2.1 (k:Int) ((f7 (outsI x t) t.l t.m).map (bqJ x)) t (n+5)
   have qm:=lp42m (L:=L) (X:=X) x (mvd x t) ((t.m.countP (·.o):Nat):Int) (((t.m.filter rnM).length:Nat):Int) ((t.m.map uH).sum) (eR x t).1.1 (eR x t).1.2.1 (k:Int) ((f7 (outsI x t) t.l t.m).map (bqJ x)) t A.mv t.m.length 0 (n+5-t.m.length) 0 (by omega) (by simp) (by simp)
   rw [show n+5-t.m.length+t.m.length=n+5 by omega,List.drop_zero,Int.zero_add]at qm
   have hv:∀m∈t.m,mvE m=0:=fun m h=>sQ A.mv m h
   have s1:=az6 uH 4 bq8 t.m hv
   have s2:=az6 kQ 4 ava t.m hv
   have pi:=plS_in x
   have pl:=places A.mv g G
   rw [avG]at pl
   have fl:(t.m.filter rnM).length≤t.m.length:=List.length_filter_le _ _
   have oz':¬outsI x t=3:=oz
   have q42:=st42 (L:=L) (X:=X) x (mvd x t) ((t.m.countP (·.o):Nat):Int) (((t.m.filter rnM).length:Nat):Int) ((t.m.map uH).sum) (eR x t).1.1 (eR x t).1.2.1 (k:Int) ((f7 (outsI x t) t.l t.m).map (bqJ x)) t (n+4-t.m.length) ((t.m.map kQ).sum)
    (by rw [List.length_map];unfold f7;rw [if_neg (fun h=>oz' h.1)]) rfl
    (by
     rw [pl,b7 (n:=plS x-(t.m.map kQ).sum) (by omega) (by omega),b7 (n:=plS x-(t.m.map kQ).sum+(t.m.map uH).sum) (by omega) (by omega),b7 (n:=4*(((t.m.filter rnM).length:Nat):Int)) (by omega) (by omega),b7 (by omega) (by omega)])
    (fun h=>⟨if_pos h,if_pos h⟩) (fun h=>⟨if_neg h,if_neg h⟩)
   rw [show n+4-t.m.length+1=n+5-t.m.length by omega,w4]at q42
   exact⟨n+4-t.m.length,by omega,((q0.trans q33).trans qm).trans q42⟩
 · have q33:=st33e (L:=L) (X:=X) x (nxt (mvd x t)) ((t.m.countP (·.o):Nat):Int) (((t.m.filter rnM).length:Nat):Int) ((t.m.map uH).sum) (rI (mvd x t)) (eR x t).1.1 (eR x t).1.2.1 (k:Int) ((f7 (outsI x t) t.l t.m).map (bqJ x)) t (n+5) hz (ends_nz hz)
   rw [w4]at q33
   exact⟨n+5,by omega,q0.trans q33⟩
theorem lp10 {L:List Pl}(hL:L.length≤12) (hb:∀t∈L,okP t∧ax0 t=true∧gX t.m=true) (P:Pth cD L):∀(j k n:Nat),L.length=k+j→wX L (n+8*j+1) (.k10 (sts cD L) (k:Int))=some true
 | 0,k,n,hk=>by
   have c1:decide ((k:Int)<((L.length:Nat):Int))=false:=by simp;omega
   have sw:Sw27 ()=some true:=rfl
   rw [oY]
   simp only [azQ,TS,c1,cond_false,sw,obind_some]
 | j+1,k,n,hlk=>by
   have hk:k<L.length:=by omega
   obtain⟨t,ht⟩:∃t,L[k]? = some t:=⟨L[k],List.getElem?_eq_getElem hk⟩
   obtain⟨p1,p2⟩:=bqP L cD k t P ht
   obtain⟨m,hm,q⟩:=step3 (X:=sts cD L) hL (m4 L cD) ht (hb t (List.mem_of_getElem? ht)) rfl p1 p2 (n+8*j+1)
   rw [show n+8*(j+1)+1=n+8*j+1+8 by omega,q]
   have ih:=lp10 hL hb P j (k+1) (m-(8*j+1)) (by omega)
   rw [show m-(8*j+1)+8*j+1=m by omega]at ih
   exact ih
theorem law3 (L:List Pl) (hb:∀t∈L,aS t.p=true∧aS t.e=true):Sp3 (L,())=some true:=by
 show Ep3 (L.length+1064) L=_
 have sw:Sw27 ()=some true:=rfl
 have e4:Sp4 (L,12,())=if decide ((12:Int)<((L.length:Nat):Int))=true then some ([],false,())else if shL L=false then some ([],false,())else aM (Sz44 (L,())) fun r5=>aM (Sg43 (r5,())) fun r6=>if r6.2.2.2.1=0 then some (r6.1,(((r6.1.length:Nat):Int)==IntKind.i64.wrap (((L.length:Nat):Int)+1)),())else some (r6.1,false,()):=by
  show Ep4 L 12=_
  unfold Ep4 Tp4
  simp only [TS,w6,s42,obind_some,cond_ite,Bool.not_eq_true',beq_iff_eq]
 unfold Ep3 Tp3
 simp only [TS]
 rw [e4]
 by_cases h12:(12:Int)<((L.length:Nat):Int)
 · rw [if_pos (by simpa using h12),obind_some,sw];rfl
 rw [if_neg (by simpa using h12)]
 cases hs:shL L with
 | false=>rw [if_pos rfl,obind_some,sw];rfl
 | true=>
 rw [if_neg (by decide)]
 simp only [shL,Bool.and_eq_true,Bool.or_eq_true,decide_eq_true_eq,List.all_eq_true]at hs
 obtain⟨h1,h2⟩:=hs
 have hc:∀t∈L,okP t∧ax0 t=true∧gX t.m=true:=fun t ht=>shP_ok (h2 t ht) (hb t ht).1 (hb t ht).2
 have hg:gOK L=true:=gOK_of (by omega) fun t ht=>(hc t ht).1
 have g43:Sg43 (L,())=some ((game L).1,(((game L).2.1:Nat):Int),(game L).2.2.1,(game L).2.2.2,()):=by unfold Sg43;rw [if_pos hg]
 have w1:IntKind.i64.wrap (((L.length:Nat):Int)+1)=((L.length:Nat):Int)+1:=by rw [b7]<;>omega
 rw [s44 L (by omega) fun t ht=>(hc t ht).2,obind_some,g43,obind_some]
 dsimp only
 by_cases hE:(game L).2.2.2=0
 rotate_left
 · rw [if_neg hE,obind_some,sw];rfl
 have hG:game L=yD 0 ([]++[cD]) cD L:=by unfold game;rw [if_neg (by omega)];rfl
 rw [if_pos hE]
 rw [hG]at hE ⊢
 obtain⟨h3,h4⟩:=aje L 0 [] cD hE
 rw [h3,List.nil_append,m4,w1,obind_some]
 have b:((((L.length+1:Nat):Nat):Int)==((L.length:Nat):Int)+1)=true:=beq_iff_eq.2 (by omega)
 rw [b]
 have q:=lp10 (L:=L) (by omega) hc h4 L.length 0 (1063-7*L.length) (by omega)
 rw [show 1063-7*L.length+8*L.length+1=L.length+1064 by omega]at q
 exact q
end
end Go.Ev
