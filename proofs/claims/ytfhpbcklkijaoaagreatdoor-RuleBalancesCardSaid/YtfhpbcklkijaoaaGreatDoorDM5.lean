import Derived.Test.YtfhpbcklkijaoaaGreatDoorDM3
set_option linter.unusedSimpArgs false
set_option linter.unusedVariables false
namespace Go.Ev
open Go.RowKit Go.Proofs
set_option maxRecDepth 100000
set_option maxHeartbeats 4000000
set_option linter.unusedSimpArgs false
noncomputable section
theorem m172 (h:List Nat) (o:Bool):Sf172 (h,o,())=some (yG o h):=by
 show Ef172 h o=_
 unfold Ef172 Tf172
 match h with
 | []=>rfl
 | [x]=>
   have e1:=m83 [102,103,99,100,107,110,121] (x:Int) (by simp)
   have e2:=m83 [98,97,115,112,107,116,111] (x:Int) (by simp)
   simp only [TS,List.getD_cons_zero,e1,e2,obind_some]
   cases o<;>rfl
 | a::b::l=>
   have:((((a::b::l).length:Nat):Int)==1)=false:=beq_eq_false_iff_ne.2 (by simp;omega)
   simp only [TS,this];rfl
theorem m173 (m:Mv) (c:Nat) (hc:m.h=[c]) (hf:0≤m.f∧m.f≤3):Sf173 (m,())=some (fitsB m.f m.t m.o c):=by
 show Ef173 m=_
 unfold Ef173 Tf173 fitsB
 have e1:=m83 [115,107] (c:Int) (by simp)
 have w1:w6 (m.f+1)=m.f+1:=by unfold w6;rw [aS]<;>omega
 simp only [TS,hc,List.getD_cons_zero,e1,obind_some,w1,List.cons.injEq,and_true]
 cases m.o with
 | false=>
   simp only [Bool.not_false,cond_true,if_pos,decide_eq_true_eq]
   cases decide (m.f<m.t)with
   | false=>rfl
   | true=>cases decide (0<m.f)<;>rfl
 | true=>
   simp only [Bool.not_true,cond_false,Bool.true_eq_false,if_false]
   by_cases h1:c=100
   · simp only [h1,decide_true,cond_true,if_true]
     cases decide (0<m.f)<;>rfl
   simp only [h1,decide_false,cond_false,if_false]
   by_cases h2:c=103
   · simp only [h2,decide_true,cond_true,if_true]
   simp only [h2,decide_false,cond_false,if_false]
   by_cases h3:c=110
   · simp only [h3,decide_true,cond_true,if_true]
     cases decide (m.f<m.t)with
     | false=>rfl
     | true=>cases decide (0<m.f)<;>rfl
   simp only [h3,decide_false,cond_false,if_false]
   by_cases h4:c=102
   · simp only [h4,decide_true,cond_true,if_true]
   simp only [h4,decide_false,cond_false,if_false]
   cases m.f==0<;>rfl
theorem rg_or (n lo hi:Int):cZ n lo hi=0∨cZ n lo hi=3:=by unfold cZ;split<;>simp
theorem rg_z {n lo hi:Int}(h:cZ n lo hi=0):lo≤n∧n≤hi:=by
 unfold cZ at h
 split at h
 · cases h
 · omega
theorem m116 (m:Mv):Sf116 (m,())=some (mvE m):=by
 show Ef116 m=_
 unfold Ef116 Tf116
 simp only [TS,m64 m.f 0 3 (by omega),m64 m.t 1 4 (by omega),obind_some,m65 [_,_] (by simp),m172,m174]
 unfold mvE
 by_cases h1:cZ m.f 0 3=0
 rotate_left
 · have h3:=(rg_or m.f 0 3).resolve_left h1
   simp [aq0,h3,dY]
 by_cases h2:cZ m.t 1 4=0
 rotate_left
 · have h3:=(rg_or m.t 1 4).resolve_left h2
   simp [aq0,h1,h3,dY]
 have hf:=rg_z h1
 have ht:=rg_z h2
 rw [axe hf ht,h1,h2]
 simp only [dY,ne_eq,not_true,if_false,show((0:Int)==0)=true from rfl,Bool.not_true,cond_false]
 unfold wayR
 cases hw:yG m.o m.h with
 | false=>rfl
 | true=>
   obtain⟨c,hc⟩:∃c,m.h=[c]:=by
    match hh:m.h,hw with
    | [c],_=>exact⟨c,rfl⟩
   rw [m173 m c hc hf,hc]
   simp only [Bool.not_true,cond_false,obind_some,if_true]
   cases fitsB m.f m.t m.o c<;>rfl
theorem frm_eq {l:List Mv}{k:Nat}{m y:Mv}(hy:l[k]? = some y):((oT l (k+1)).any fun q=>decide (q≤m.f))=decide (y.f≤m.f):=by
 rw [rD,hy];rfl
theorem mvs_j (s:List Mv) (hl:s.length≤4):∀j n k,k+j=s.length→Tr.lp (zU s) (n+j+1) (.k8 (k:Int))=some (az1 (oT s k) (s.drop k)):=by
 intro j
 induction j with
 | zero=>
   intro n k hk
   rw [Tr.lp_s]
   simp only [zU,TS,axt (show ¬k<s.length by omega),cond_false,List.drop_eq_nil_of_le (show s.length≤k by omega)]
   unfold az1;rfl
 | succ j ih=>
   intro n k hk
   have hlt:k<s.length:=by omega
   obtain⟨x,hx⟩:=sC hlt
   have hn:=ih n (k+1) (by omega)
   rw [Tr.lp_s,avf hx]
   simp only [zU,TS,axs hlt,vQ hlt,cond_true,Int.toNat_natCast,aP hx,w6s (show k<9223372036854775807 by omega),m216,obind_some]
   rw [show n+(j+1)=n+j+1 by omega,hn]
   by_cases he:mvE x=0
   rotate_left
   · have:(mvE x==0)=false:=beq_eq_false_iff_ne.2 he
     simp [he,this]
   simp only [he,show((0:Int)==0)=true from rfl,Bool.not_true,cond_false,ne_eq,not_true,if_false]
   cases k with
   | zero=>simp [oT]
   | succ k=>
     obtain⟨y,hy⟩:=sC (show k<s.length by omega)
     have c1:decide ((0:Int)<((k+1:Nat):Int))=true:=by rw [decide_eq_true_eq];omega
     simp only [c1,cond_true,w6p (show k<9223372036854775807 by omega),vQ (show k<s.length by omega),Int.toNat_natCast,aP hy,frm_eq hy]
     cases decide (y.f≤x.f)<;>rfl
theorem m195 (s:List Mv):Sf195 (s,())=some (aC s):=by
 show Ef195 (s.length+64) s=_
 unfold Ef195 Tf195 aC
 simp only [TS]
 by_cases h:4<s.length
 · have c1:decide (4<((s.length:Nat):Int))=true:=by rw [decide_eq_true_eq];omega
   rw [c1,cond_true,if_pos h]
 · have c1:decide (4<((s.length:Nat):Int))=false:=by rw [decide_eq_false_iff_not];omega
   have:=mvs_j s (by omega) s.length 63 0 (by omega)
   rw [List.drop_zero,nc0]at this
   rw [c1,cond_false,if_neg h,fu];exact this
theorem m142 (p:Pl) (h1:aV p.p=true) (h2:aV p.e=true):Sf142 (p,())=some (playE p.p p.e p.m):=by
 show Ef142 p=_
 unfold Ef142 Tf142 playE
 simp only [TS,m193 p.p h1,m194 p.e h2,m195,obind_some,m192 [_,_,_] (by simp)]
end
end Go.Ev
namespace Go.Ev
open Go.RowKit Go.Proofs
set_option maxRecDepth 100000
set_option maxHeartbeats 4000000
set_option linter.unusedSimpArgs false
noncomputable section
theorem m118 (s t u:Int):iJ (s,t,u,())=some (inB s t u):=by
 show Ef118 s t u=_
 unfold Ef118 Tf118 inB
 simp only [TS]
 cases decide (t≤s)<;>rfl
theorem m69 (s:St):Sf69 (s,())=some (az2 s):=by
 show Ef69 s=_
 unfold Ef69 Tf69 az2
 simp only [TS,m118,obind_some]
 cases inB s.inn 1 30<;>rfl
theorem m70 (s:St):Sf70 (s,())=some (nE s):=by
 show Ef70 s=_
 unfold Ef70 Tf70 nE
 simp only [TS,m118,obind_some]
 cases inB s.half 0 1<;>rfl
theorem y1:w6 (0+1)=1:=by decide
theorem y2:w6 (1+1)=2:=by decide
theorem y3:w6 (2+1)=3:=by decide
theorem y4:w6 (3+1)=4:=by decide
theorem y5:w6 (4+1)=5:=by decide
theorem z03:decide ((0:Int)<3)=true:=by decide
theorem z13:decide ((1:Int)<3)=true:=by decide
theorem z23:decide ((2:Int)<3)=true:=by decide
theorem z33:decide ((3:Int)<3)=false:=by decide
theorem z02:decide ((0:Int)<2)=true:=by decide
theorem z12:decide ((1:Int)<2)=true:=by decide
theorem z22:decide ((2:Int)<2)=false:=by decide
theorem v00:((0:Int)==0)=true:=by decide
theorem v10:((1:Int)==0)=false:=by decide
theorem v11:((1:Int)==1)=true:=by decide
theorem v20:((2:Int)==0)=false:=by decide
theorem v21:((2:Int)==1)=false:=by decide
theorem v22:((2:Int)==2)=true:=by decide
theorem num_j (s:St) (b:Bool) (n:Nat):Tr.lp (aym s) (n+7) (.k6 b 0)=some (if(b&&inB s.b1 0 9&&inB s.b2 0 9&&inB s.b3 0 9&&inB s.n0 1 9&&inB s.c0 0 9999&&inB s.n1 1 9&&inB s.c1 0 9999)=true then 0 else 3):=by
 rw [show n+7=n+6+1 from rfl]
 simp only [Tr.lp_s,aym,TS,m118,obind_some,y1,y2,y3,z03,z13,z23,z33,z02,z12,z22,v00,v10,v11,v20,v21,v22,cond_true,cond_false]
 cases b<;>cases inB s.b1 0 9<;>cases inB s.b2 0 9<;>cases inB s.b3 0 9<;>cases inB s.n0 1 9<;>cases inB s.c0 0 9999<;>cases inB s.n1 1 9<;>cases inB s.c1 0 9999<;>rfl
theorem m71 (s:St):Sf71 (s,())=some (axc s):=by
 show Ef71 64 s=_
 unfold Ef71 Tf71 axc nuB baB cnB
 simp only [TS,m118,obind_some]
 have h:=fun b=>num_j s b 57
 simp only [show(57:Nat)+7=64 from rfl]at h
 simp only [show ∀b,Ef71J s 64 (.k6 b 0)=_ from h]
 cases inB s.outs 0 2<;>cases inB s.balls 0 3<;>cases inB s.strikes 0 2<;>rfl
theorem m177 (s:St):bqB (s,())=some (leadB s):=rfl
theorem dnot (a b:Int):decide (a<b)=!decide (b≤a):=by
 by_cases h:a<b
 · have:¬b≤a:=by omega
   simp [h,this]
 · have:b≤a:=by omega
   simp [h,this]
theorem m176 (s:St):Sf176 (s,())=some (lastB s):=by
 show Ef176 s=_
 unfold Ef176 Tf176 lastB
 simp only [TS,m177,obind_some,eqN,dnot s.inn 9]
 cases decide (9≤s.inn)with
 | false=>rfl
 | true=>
   cases leadB s with
   | true=>rfl
   | false=>
     simp only [Bool.not_true,cond_false,Bool.true_and,Bool.false_or,ne_eq,decide_not]
     cases decide (s.half=1)<;>cases decide (s.c0=s.c1)<;>rfl
theorem m175 (s:St):Sf175 (s,())=some (clr s):=rfl
theorem m119 (s:St):Sf119 (s,())=some (overB s):=by
 show Ef119 s=_
 unfold Ef119 Tf119
 simp only [TS,m175,m176,obind_some,overB]
 have h:decide (s=clr s)=(decide (s.outs=0)&&decide (s.balls=0)&&decide (s.strikes=0)&&(decide (s.b1=0)&&decide (s.b2=0)&&decide (s.b3=0))):=by
  rw [Bool.eq_iff_iff]
  simp only [decide_eq_true_eq,Bool.and_eq_true]
  cases s
  simp only [clr,St.mk.injEq]
  constructor
  · rintro⟨_,_,rfl,rfl,rfl,rfl,rfl,rfl,_⟩;simp
  · rintro⟨⟨⟨rfl,rfl⟩,rfl⟩,⟨rfl,rfl⟩,rfl⟩;simp
 rw [h]
 simp only [clr,eqN,decide_true,beq_self_eq_true,Bool.true_and,Bool.and_true]
 cases decide (s.outs=0)<;>cases decide (s.balls=0)<;>cases decide (s.strikes=0)<;>cases decide (s.b1=0)<;>cases decide (s.b2=0)<;>cases decide (s.b3=0)<;>rfl
theorem m120 (s:St):bqD (s,())=some (decB s):=by
 show Ef120 s=_
 unfold Ef120 Tf120 decB
 simp only [TS,m177,obind_some,eqN]
 cases decide (9≤s.inn)<;>cases decide (s.half=1)<;>rfl
theorem m72 (s:St):Sf72 (s,())=some (endE s):=by
 show Ef72 s=_
 unfold Ef72 Tf72 endE
 simp only [TS,m119,m120,obind_some]
 cases s.over<;>cases overB s<;>cases decB s<;>rfl
theorem m146 (a:Int):Sf146 (a,())=some (behC a):=by
 show Ef146 a=_
 unfold Ef146 Tf146
 simp only [TS,w6,wbeh]
theorem sin_j {r b:Int}(h1:1≤r) (h2:r≤9) (h3:1≤b) (h4:b≤9):∀(j n k:Nat),((k+j:Nat):Int)=sinC r b→Tr.lp (zW r b) (n+j+1) (.k6 ((r+k-1) % 9+1) (k:Int))=some (sinC r b):=by
 intro j
 have hs:=qF r b
 induction j with
 | zero=>
   intro n k hk
   have hk:(k:Int)=sinC r b:=by simpa using hk
   have c1:decide ((k:Int)<9)=true:=by rw [decide_eq_true_eq];omega
   rw [Tr.lp_s]
   simp only [zW,TS,c1,cond_true,m146,obind_some,bqg h1,at_eq h1 h2 h3 h4 hk,beq_self_eq_true]
   rw [hk]
 | succ j ih=>
   intro n k hk
   have c1:decide ((k:Int)<9)=true:=by rw [decide_eq_true_eq];omega
   have hne:((r+k) % 9+1==b)=false:=beq_eq_false_iff_ne.2 (at_ne h1 h2 h3 h4 (by omega))
   rw [Tr.lp_s]
   simp only [zW,TS,c1,cond_true,m146,obind_some,bqg h1,hne,cond_false,w6s (show k<9223372036854775807 by omega)]
   have:=ih n (k+1) (by rw [←hk];congr 1;omega)
   rw [show(r+((k+1:Nat):Int)-1)=r+k by omega]at this
   rw [show n+(j+1)=n+j+1 by omega];exact this
theorem m121 {r b:Int}(h1:1≤r) (h2:r≤9) (h3:1≤b) (h4:b≤9):azN (r,b,())=some (sinC r b):=by
 show Ef121 64 r b=_
 unfold Ef121 Tf121
 simp only [TS]
 have hs:=qF r b
 have:=sin_j h1 h2 h3 h4 (sinC r b).toNat (63-(sinC r b).toNat) 0 (by omega)
 rw [show 63-(sinC r b).toNat+(sinC r b).toNat+1=64 by omega,nc0,show(r+0-1) % 9+1=r by omega]at this
 exact this
theorem m62 {s:St}(h:s.half=0∨s.half=1):Sf62 (s,())=some (batC s):=by
 show Ef62 s=_
 unfold Ef62 Tf62 batC
 simp only [TS]
 rcases h with h|h<;>simp [h]
end
end Go.Ev
