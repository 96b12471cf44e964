import Derived.Test.YtkhmgggponmimaaGreatDoorDM3
set_option linter.unusedSimpArgs false
set_option linter.unusedVariables false
namespace Go.Ev
open Go.RowKit Go.Proofs
set_option maxRecDepth 100000
set_option maxHeartbeats 4000000
set_option linter.unusedSimpArgs false
noncomputable section
theorem frm_eq {l:List Mv}{k:Nat}{m y:Mv}(hy:l[k]? = some y):((oP l (k+1)).any fun q=>decide (q≤m.f))=decide (y.f≤m.f):=by
 rw [rA,hy];rfl
theorem mvs_j (s:List Mv) (hl:s.length≤4):∀j n k,k+j=s.length→Tr.lp (zL s) (n+j+1) (.k8 (k:Int))=some (azL (oP s k) (s.drop k)):=by
 intro j
 induction j with
 | zero=>
   intro n k hk
   rw [Tr.lp_s]
   simp only [zL,TS,dlt_f (show ¬k<s.length by omega),cond_false,List.drop_eq_nil_of_le (show s.length≤k by omega)]
   unfold azL;rfl
 | succ j ih=>
   intro n k hk
   have hlt:k<s.length:=by omega
   obtain⟨x,hx⟩:=aqm hlt
   have hn:=ih n (k+1) (by omega)
   rw [Tr.lp_s,avZ hx]
   simp only [zL,TS,dlt_t hlt,avk hlt,cond_true,Int.toNat_natCast,a7 hx,w6s (show k<9223372036854775807 by omega),m216,obind_some]
   rw [show n+(j+1)=n+j+1 by omega,hn]
   by_cases he:mvE x=0
   rotate_left
   · have:(mvE x==0)=false:=beq_eq_false_iff_ne.2 he
     simp [he,this]
   simp only [he,show((0:Int)==0)=true from rfl,Bool.not_true,cond_false,ne_eq,not_true,if_false]
   cases k with
   | zero=>simp [oP]
   | succ k=>
     obtain⟨y,hy⟩:=aqm (show k<s.length by omega)
     have c1:decide ((0:Int)<((k+1:Nat):Int))=true:=by rw [decide_eq_true_eq];omega
     simp only [c1,cond_true,w6p (show k<9223372036854775807 by omega),avk (show k<s.length by omega),Int.toNat_natCast,a7 hy,frm_eq hy]
     cases decide (y.f≤x.f)<;>rfl
theorem m195 (s:List Mv):Sf195 (s,())=some (aC s):=by
 show Ef195 (s.length+64) s=_
 unfold Ef195 Tf195 aC
 simp only [TS]
 by_cases h:4<s.length
 · have c1:decide (4<((s.length:Nat):Int))=true:=by rw [decide_eq_true_eq];omega
   rw [c1,cond_true,if_pos h]
 · have c1:decide (4<((s.length:Nat):Int))=false:=by rw [decide_eq_false_iff_not];omega
   have:=mvs_j s (by omega) s.length 63 0 (by omega)
   rw [List.drop_zero,nc0]at this
   rw [c1,cond_false,if_neg h,fu];exact this
theorem m142 (p:Pl) (h1:aS p.p=true) (h2:aS p.e=true):Sf142 (p,())=some (playE p.p p.e p.m):=by
 show Ef142 p=_
 unfold Ef142 Tf142 playE
 simp only [TS,m193 p.p h1,m194 p.e h2,m195,obind_some,m192 [_,_,_] (by simp)]
end
end Go.Ev
namespace Go.Ev
open Go.RowKit Go.Proofs
set_option maxRecDepth 100000
set_option maxHeartbeats 4000000
set_option linter.unusedSimpArgs false
noncomputable section
theorem m118 (s t u:Int):iT (s,t,u,())=some (inB s t u):=by
 show Ef118 s t u=_
 unfold Ef118 Tf118 inB
 simp only [TS]
 cases decide (t≤s)<;>rfl
theorem m69 (s:St):Sf69 (s,())=some (azM s):=by
 show Ef69 s=_
 unfold Ef69 Tf69 azM
 simp only [TS,m118,obind_some]
 cases inB s.inn 1 30<;>rfl
theorem m70 (s:St):Sf70 (s,())=some (nH s):=by
 show Ef70 s=_
 unfold Ef70 Tf70 nH
 simp only [TS,m118,obind_some]
 cases inB s.half 0 1<;>rfl
theorem y1:w6 (0+1)=1:=by decide
theorem y2:w6 (1+1)=2:=by decide
theorem y3:w6 (2+1)=3:=by decide
theorem y4:w6 (3+1)=4:=by decide
theorem y5:w6 (4+1)=5:=by decide
theorem z03:decide ((0:Int)<3)=true:=by decide
theorem z13:decide ((1:Int)<3)=true:=by decide
theorem z23:decide ((2:Int)<3)=true:=by decide
theorem z33:decide ((3:Int)<3)=false:=by decide
theorem z02:decide ((0:Int)<2)=true:=by decide
theorem z12:decide ((1:Int)<2)=true:=by decide
theorem z22:decide ((2:Int)<2)=false:=by decide
theorem v00:((0:Int)==0)=true:=by decide
theorem v10:((1:Int)==0)=false:=by decide
theorem v11:((1:Int)==1)=true:=by decide
theorem v20:((2:Int)==0)=false:=by decide
theorem v21:((2:Int)==1)=false:=by decide
theorem v22:((2:Int)==2)=true:=by decide
theorem num_j (s:St) (b:Bool) (n:Nat):Tr.lp (aye s) (n+7) (.k6 b 0)=some (if(b&&inB s.b1 0 9&&inB s.b2 0 9&&inB s.b3 0 9&&inB s.n0 1 9&&inB s.c0 0 9999&&inB s.n1 1 9&&inB s.c1 0 9999)=true then 0 else 3):=by
 rw [show n+7=n+6+1 from rfl]
 simp only [Tr.lp_s,aye,TS,m118,obind_some,y1,y2,y3,z03,z13,z23,z33,z02,z12,z22,v00,v10,v11,v20,v21,v22,cond_true,cond_false]
 cases b<;>cases inB s.b1 0 9<;>cases inB s.b2 0 9<;>cases inB s.b3 0 9<;>cases inB s.n0 1 9<;>cases inB s.c0 0 9999<;>cases inB s.n1 1 9<;>cases inB s.c1 0 9999<;>rfl
theorem m71 (s:St):Sf71 (s,())=some (ax1 s):=by
 show Ef71 64 s=_
 unfold Ef71 Tf71 ax1 nuB baB cnB
 simp only [TS,m118,obind_some]
 have h:=fun b=>num_j s b 57
 simp only [show(57:Nat)+7=64 from rfl]at h
 simp only [show ∀b,Ef71J s 64 (.k6 b 0)=_ from h]
 cases inB s.outs 0 2<;>cases inB s.balls 0 3<;>cases inB s.strikes 0 2<;>rfl
theorem m177 (s:St):ayr (s,())=some (leadB s):=rfl
theorem dnot (a b:Int):decide (a<b)=!decide (b≤a):=by
 by_cases h:a<b
 · have:¬b≤a:=by omega
   simp [h,this]
 · have:b≤a:=by omega
   simp [h,this]
theorem m176 (s:St):Sf176 (s,())=some (lastB s):=by
 show Ef176 s=_
 unfold Ef176 Tf176 lastB
 simp only [TS,m177,obind_some,eqN,dnot s.inn 9]
 cases decide (9≤s.inn)with
 | false=>rfl
 | true=>
   cases leadB s with
   | true=>rfl
   | false=>
     simp only [Bool.not_true,cond_false,Bool.true_and,Bool.false_or,ne_eq,decide_not]
     cases decide (s.half=1)<;>cases decide (s.c0=s.c1)<;>rfl
theorem m175 (s:St):Sf175 (s,())=some (clr s):=rfl
theorem m119 (s:St):Sf119 (s,())=some (overB s):=by
 show Ef119 s=_
 unfold Ef119 Tf119
 simp only [TS,m175,m176,obind_some,overB]
 have h:decide (s=clr s)=(decide (s.outs=0)&&decide (s.balls=0)&&decide (s.strikes=0)&&(decide (s.b1=0)&&decide (s.b2=0)&&decide (s.b3=0))):=by
  rw [Bool.eq_iff_iff]
  simp only [decide_eq_true_eq,Bool.and_eq_true]
  cases s
  simp only [clr,St.mk.injEq]
  constructor
  · rintro⟨_,_,rfl,rfl,rfl,rfl,rfl,rfl,_⟩;simp
  · rintro⟨⟨⟨rfl,rfl⟩,rfl⟩,⟨rfl,rfl⟩,rfl⟩;simp
 rw [h]
 simp only [clr,eqN,decide_true,beq_self_eq_true,Bool.true_and,Bool.and_true]
 cases decide (s.outs=0)<;>cases decide (s.balls=0)<;>cases decide (s.strikes=0)<;>cases decide (s.b1=0)<;>cases decide (s.b2=0)<;>cases decide (s.b3=0)<;>rfl
theorem m120 (s:St):ayt (s,())=some (decB s):=by
 show Ef120 s=_
 unfold Ef120 Tf120 decB
 simp only [TS,m177,obind_some,eqN]
 cases decide (9≤s.inn)<;>cases decide (s.half=1)<;>rfl
theorem m72 (s:St):Sf72 (s,())=some (endE s):=by
 show Ef72 s=_
 unfold Ef72 Tf72 endE
 simp only [TS,m119,m120,obind_some]
 cases s.over<;>cases overB s<;>cases decB s<;>rfl
theorem m146 (a:Int):Sf146 (a,())=some (behC a):=by
 show Ef146 a=_
 unfold Ef146 Tf146
 simp only [TS,w6,wbeh]
theorem sin_j {r b:Int}(h1:1≤r) (h2:r≤9) (h3:1≤b) (h4:b≤9):∀(j n k:Nat),((k+j:Nat):Int)=sinC r b→Tr.lp (zN r b) (n+j+1) (.k6 ((r+k-1) % 9+1) (k:Int))=some (sinC r b):=by
 intro j
 have hs:=qC r b
 induction j with
 | zero=>
   intro n k hk
   have hk:(k:Int)=sinC r b:=by simpa using hk
   have c1:decide ((k:Int)<9)=true:=by rw [decide_eq_true_eq];omega
   rw [Tr.lp_s]
   simp only [zN,TS,c1,cond_true,m146,obind_some,bq6 h1,at_eq h1 h2 h3 h4 hk,beq_self_eq_true]
   rw [hk]
 | succ j ih=>
   intro n k hk
   have c1:decide ((k:Int)<9)=true:=by rw [decide_eq_true_eq];omega
   have hne:((r+k) % 9+1==b)=false:=beq_eq_false_iff_ne.2 (at_ne h1 h2 h3 h4 (by omega))
   rw [Tr.lp_s]
   simp only [zN,TS,c1,cond_true,m146,obind_some,bq6 h1,hne,cond_false,w6s (show k<9223372036854775807 by omega)]
   have:=ih n (k+1) (by rw [←hk];congr 1;omega)
   rw [show(r+((k+1:Nat):Int)-1)=r+k by omega]at this
   rw [show n+(j+1)=n+j+1 by omega];exact this
theorem m121 {r b:Int}(h1:1≤r) (h2:r≤9) (h3:1≤b) (h4:b≤9):axx (r,b,())=some (sinC r b):=by
 show Ef121 64 r b=_
 unfold Ef121 Tf121
 simp only [TS]
 have hs:=qC r b
 have:=sin_j h1 h2 h3 h4 (sinC r b).toNat (63-(sinC r b).toNat) 0 (by omega)
 rw [show 63-(sinC r b).toNat+(sinC r b).toNat+1=64 by omega,nc0,show(r+0-1) % 9+1=r by omega]at this
 exact this
theorem m62 {s:St}(h:s.half=0∨s.half=1):Sf62 (s,())=some (batC s):=by
 show Ef62 s=_
 unfold Ef62 Tf62 batC
 simp only [TS]
 rcases h with h|h<;>simp [h]
end
end Go.Ev
