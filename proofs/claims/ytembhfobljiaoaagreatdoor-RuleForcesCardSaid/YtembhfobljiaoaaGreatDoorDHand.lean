import Derived.Test.YtembhfobljiaoaaGreatDoorDM3
import Derived.Test.YtembhfobljiaoaaGreatDoorAwkU
set_option linter.unusedSimpArgs false
set_option linter.unusedVariables false
namespace Go.Ev
open Go.RowKit Go.Proofs
set_option maxRecDepth 100000
set_option maxHeartbeats 4000000
set_option linter.unusedSimpArgs false
noncomputable section
theorem m172 (h:List Nat) (o:Bool):Sf172 (h,o,())=some (xH o h):=by
 show Ef172 h o=_
 unfold Ef172 Tf172
 match h with
 | []=>rfl
 | [x]=>
   have e1:=m83 [102,103,99,100,107,110,121] (x:Int) (by simp)
   have e2:=m83 [98,97,115,112,107,116,111] (x:Int) (by simp)
   simp only [TS,List.getD_cons_zero,e1,e2,obind_some]
   cases o<;>rfl
 | a::b::l=>
   have:((((a::b::l).length:Nat):Int)==1)=false:=beq_eq_false_iff_ne.2 (by simp;omega)
   simp only [TS,this];rfl
theorem m173 (m:Mv) (c:Nat) (hc:m.h=[c]) (hf:0≤m.f∧m.f≤3):Sf173 (m,())=some (fitsB m.f m.t m.o c):=by
 show Ef173 m=_
 unfold Ef173 Tf173 fitsB
 have e1:=m83 [115,107] (c:Int) (by simp)
 have w1:w6 (m.f+1)=m.f+1:=by unfold w6;rw [dP]<;>omega
 simp only [TS,hc,List.getD_cons_zero,e1,obind_some,w1,List.cons.injEq,and_true]
 cases m.o with
 | false=>
   simp only [Bool.not_false,cond_true,if_pos,decide_eq_true_eq]
   cases decide (m.f<m.t)with
   | false=>rfl
   | true=>cases decide (0<m.f)<;>rfl
 | true=>
   simp only [Bool.not_true,cond_false,Bool.true_eq_false,if_false]
   by_cases h1:c=100
   · simp only [h1,decide_true,cond_true,if_true]
     cases decide (0<m.f)<;>rfl
   simp only [h1,decide_false,cond_false,if_false]
   by_cases h2:c=103
   · simp only [h2,decide_true,cond_true,if_true]
   simp only [h2,decide_false,cond_false,if_false]
   by_cases h3:c=110
   · simp only [h3,decide_true,cond_true,if_true]
     cases decide (m.f<m.t)with
     | false=>rfl
     | true=>cases decide (0<m.f)<;>rfl
   simp only [h3,decide_false,cond_false,if_false]
   by_cases h4:c=102
   · simp only [h4,decide_true,cond_true,if_true]
   simp only [h4,decide_false,cond_false,if_false]
   cases m.f==0<;>rfl
theorem rg_or (n lo hi:Int):b8 n lo hi=0∨b8 n lo hi=3:=by unfold b8;split<;>simp
theorem rg_z {n lo hi:Int}(h:b8 n lo hi=0):lo≤n∧n≤hi:=by
 unfold b8 at h
 split at h
 · cases h
 · omega
theorem m116 (m:Mv):Sf116 (m,())=some (mvE m):=by
 show Ef116 m=_
 unfold Ef116 Tf116
 simp only [TS,m64 m.f 0 3 (by omega),m64 m.t 1 4 (by omega),obind_some,m65 [_,_] (by simp),m172,m174]
 unfold mvE
 by_cases h1:b8 m.f 0 3=0
 rotate_left
 · have h3:=(rg_or m.f 0 3).resolve_left h1
   simp [zY,h3,dD]
 by_cases h2:b8 m.t 1 4=0
 rotate_left
 · have h3:=(rg_or m.t 1 4).resolve_left h2
   simp [zY,h1,h3,dD]
 have hf:=rg_z h1
 have ht:=rg_z h2
 rw [ajz hf ht,h1,h2]
 simp only [dD,ne_eq,not_true,if_false,show((0:Int)==0)=true from rfl,Bool.not_true,cond_false]
 unfold wayR
 cases hw:xH m.o m.h with
 | false=>rfl
 | true=>
   obtain⟨c,hc⟩:∃c,m.h=[c]:=by
    match hh:m.h,hw with
    | [c],_=>exact⟨c,rfl⟩
   rw [m173 m c hc hf,hc]
   simp only [Bool.not_true,cond_false,obind_some,if_true]
   cases fitsB m.f m.t m.o c<;>rfl
theorem frm_eq {l:List Mv}{k:Nat}{m y:Mv}(hy:l[k]? = some y):((nZ l (k+1)).any fun q=>decide (q≤m.f))=decide (y.f≤m.f):=by
 rw [qM,hy];rfl
theorem mvs_j (s:List Mv) (hl:s.length≤4):∀j n k,k+j=s.length→Tr.lp (yS s) (n+j+1) (.k8 (k:Int))=some (axy (nZ s k) (s.drop k)):=by
 intro j
 induction j with
 | zero=>
   intro n k hk
   rw [Tr.lp_s]
   simp only [yS,TS,axN (show ¬k<s.length by omega),cond_false,List.drop_eq_nil_of_le (show s.length≤k by omega)]
   unfold axy;rfl
 | succ j ih=>
   intro n k hk
   have hlt:k<s.length:=by omega
   obtain⟨x,hx⟩:=rJ hlt
   have hn:=ih n (k+1) (by omega)
   rw [Tr.lp_s,avB hx]
   simp only [yS,TS,axM hlt,uY hlt,cond_true,Int.toNat_natCast,bQ hx,w6s (show k<9223372036854775807 by omega),m216,obind_some]
   rw [show n+(j+1)=n+j+1 by omega,hn]
   by_cases he:mvE x=0
   rotate_left
   · have:(mvE x==0)=false:=beq_eq_false_iff_ne.2 he
     simp [he,this]
   simp only [he,show((0:Int)==0)=true from rfl,Bool.not_true,cond_false,ne_eq,not_true,if_false]
   cases k with
   | zero=>simp [nZ]
   | succ k=>
     obtain⟨y,hy⟩:=rJ (show k<s.length by omega)
     have c1:decide ((0:Int)<((k+1:Nat):Int))=true:=by rw [decide_eq_true_eq];omega
     simp only [c1,cond_true,w6p (show k<9223372036854775807 by omega),uY (show k<s.length by omega),Int.toNat_natCast,bQ hy,frm_eq hy]
     cases decide (y.f≤x.f)<;>rfl
theorem m195 (s:List Mv):Sf195 (s,())=some (aT s):=by
 show Ef195 (s.length+64) s=_
 unfold Ef195 Tf195 aT
 simp only [TS]
 by_cases h:4<s.length
 · have c1:decide (4<((s.length:Nat):Int))=true:=by rw [decide_eq_true_eq];omega
   rw [c1,cond_true,if_pos h]
 · have c1:decide (4<((s.length:Nat):Int))=false:=by rw [decide_eq_false_iff_not];omega
   have:=mvs_j s (by omega) s.length 63 0 (by omega)
   rw [List.drop_zero,nc0]at this
   rw [c1,cond_false,if_neg h,fu];exact this
theorem m142 (p:Pl) (h1:dT p.p=true) (h2:dT p.e=true):Sf142 (p,())=some (playE p.p p.e p.m):=by
 show Ef142 p=_
 unfold Ef142 Tf142 playE
 simp only [TS,m193 p.p h1,m194 p.e h2,m195,obind_some,m192 [_,_,_] (by simp)]
end
end Go.Ev
namespace Go.Ev
open Go.RowKit Go.Proofs
set_option maxRecDepth 100000
set_option maxHeartbeats 4000000
set_option linter.unusedSimpArgs false
noncomputable section
theorem m118 (s t u:Int):hZ (s,t,u,())=some (inB s t u):=by
 show Ef118 s t u=_
 unfold Ef118 Tf118 inB
 simp only [TS]
 cases decide (t≤s)<;>rfl
theorem rg_in (n lo hi:Int):b8 n lo hi=rgC n lo hi:=by
 unfold b8 rgC inB
 by_cases h1:lo≤n<;>by_cases h2:n≤hi<;>simp [h1,h2]<;>omega
theorem m69 (s:St):Sf69 (s,())=some (ak4 s):=by
 show Ef69 s=_
 unfold Ef69 Tf69 ak4
 simp only [TS,m118,obind_some]
 cases inB s.inn 1 30<;>rfl
theorem m70 (s:St):Sf70 (s,())=some (oJ s):=by
 show Ef70 s=_
 unfold Ef70 Tf70 oJ
 simp only [TS,m118,obind_some]
 cases inB s.half 0 1<;>rfl
theorem y1:w6 (0+1)=1:=by decide
theorem y2:w6 (1+1)=2:=by decide
theorem y3:w6 (2+1)=3:=by decide
theorem y4:w6 (3+1)=4:=by decide
theorem y5:w6 (4+1)=5:=by decide
theorem z03:decide ((0:Int)<3)=true:=by decide
theorem z13:decide ((1:Int)<3)=true:=by decide
theorem z23:decide ((2:Int)<3)=true:=by decide
theorem z33:decide ((3:Int)<3)=false:=by decide
theorem z02:decide ((0:Int)<2)=true:=by decide
theorem z12:decide ((1:Int)<2)=true:=by decide
theorem z22:decide ((2:Int)<2)=false:=by decide
theorem v00:((0:Int)==0)=true:=by decide
theorem v10:((1:Int)==0)=false:=by decide
theorem v11:((1:Int)==1)=true:=by decide
theorem v20:((2:Int)==0)=false:=by decide
theorem v21:((2:Int)==1)=false:=by decide
theorem v22:((2:Int)==2)=true:=by decide
theorem num_j (s:St) (b:Bool) (n:Nat):Tr.lp (awb s) (n+7) (.k6 b 0)=some (if(b&&inB s.b1 0 9&&inB s.b2 0 9&&inB s.b3 0 9&&inB s.n0 1 9&&inB s.c0 0 9999&&inB s.n1 1 9&&inB s.c1 0 9999)=true then 0 else 3):=by
 rw [show n+7=n+6+1 from rfl]
 simp only [Tr.lp_s,awb,TS,m118,obind_some,y1,y2,y3,z03,z13,z23,z33,z02,z12,z22,v00,v10,v11,v20,v21,v22,cond_true,cond_false]
 cases b<;>cases inB s.b1 0 9<;>cases inB s.b2 0 9<;>cases inB s.b3 0 9<;>cases inB s.n0 1 9<;>cases inB s.c0 0 9999<;>cases inB s.n1 1 9<;>cases inB s.c1 0 9999<;>rfl
theorem m71 (s:St):Sf71 (s,())=some (ajw s):=by
 show Ef71 64 s=_
 unfold Ef71 Tf71 ajw nuB baB cnB
 simp only [TS,m118,obind_some]
 have h:=fun b=>num_j s b 57
 simp only [show(57:Nat)+7=64 from rfl]at h
 simp only [show ∀b,Ef71J s 64 (.k6 b 0)=_ from h]
 cases inB s.outs 0 2<;>cases inB s.balls 0 3<;>cases inB s.strikes 0 2<;>rfl
theorem m177 (s:St):awo (s,())=some (leadB s):=rfl
theorem dnot (a b:Int):decide (a<b)=!decide (b≤a):=by
 by_cases h:a<b
 · have:¬b≤a:=by omega
   simp [h,this]
 · have:b≤a:=by omega
   simp [h,this]
theorem m176 (s:St):Sf176 (s,())=some (akv s):=by
 show Ef176 s=_
 unfold Ef176 Tf176 akv
 simp only [TS,m177,obind_some,eqN,dnot s.inn 9]
 cases decide (9≤s.inn)with
 | false=>rfl
 | true=>
   cases leadB s with
   | true=>rfl
   | false=>
     simp only [Bool.not_true,cond_false,Bool.true_and,Bool.false_or,ne_eq,decide_not]
     cases decide (s.half=1)<;>cases decide (s.c0=s.c1)<;>rfl
theorem m175 (s:St):Sf175 (s,())=some (clr s):=rfl
theorem m119 (s:St):Sf119 (s,())=some (overB s):=by
 show Ef119 s=_
 unfold Ef119 Tf119
 simp only [TS,m175,m176,obind_some,overB]
 have h:decide (s=clr s)=(decide (s.outs=0)&&decide (s.balls=0)&&decide (s.strikes=0)&&(decide (s.b1=0)&&decide (s.b2=0)&&decide (s.b3=0))):=by
  rw [Bool.eq_iff_iff]
  simp only [decide_eq_true_eq,Bool.and_eq_true]
  cases s
  simp only [clr,St.mk.injEq]
  constructor
  · rintro⟨_,_,rfl,rfl,rfl,rfl,rfl,rfl,_⟩;simp
  · rintro⟨⟨⟨rfl,rfl⟩,rfl⟩,⟨rfl,rfl⟩,rfl⟩;simp
 rw [h]
 simp only [clr,eqN,decide_true,beq_self_eq_true,Bool.true_and,Bool.and_true]
 cases decide (s.outs=0)<;>cases decide (s.balls=0)<;>cases decide (s.strikes=0)<;>cases decide (s.b1=0)<;>cases decide (s.b2=0)<;>cases decide (s.b3=0)<;>rfl
theorem m120 (s:St):awq (s,())=some (decB s):=by
 show Ef120 s=_
 unfold Ef120 Tf120 decB
 simp only [TS,m177,obind_some,eqN]
 cases decide (9≤s.inn)<;>cases decide (s.half=1)<;>rfl
theorem m72 (s:St):Sf72 (s,())=some (av5 s):=by
 show Ef72 s=_
 unfold Ef72 Tf72 av5
 simp only [TS,m119,m120,obind_some]
 cases s.over<;>cases overB s<;>cases decB s<;>rfl
theorem m66 (s:St):Sf66 (s,())=some (overB s):=by
 show Ef66 s=_
 unfold Ef66 Tf66
 rw [akk]
 simp only [TS,lstB,leadB,eqN,dnot s.inn 9,ne_eq,decide_not]
 cases decide (s.outs=0)<;>cases decide (s.balls=0)<;>cases decide (s.strikes=0)<;>try rfl
 cases decide (s.b1=0)<;>cases decide (s.b2=0)<;>cases decide (s.b3=0)<;>try rfl
 cases decide (9≤s.inn)<;>cases decide (s.c0<s.c1)<;>cases decide (s.half=1)<;>cases decide (s.c0=s.c1)<;>rfl
theorem m67 (s:St):Sf67 (s,())=some (decB s):=by
 show Ef67 s=_
 unfold Ef67 Tf67 decB leadB
 simp only [TS,eqN]
 cases decide (9≤s.inn)<;>cases decide (s.half=1)<;>rfl
theorem m146 (a:Int):Sf146 (a,())=some (aw3 a):=by
 show Ef146 a=_
 unfold Ef146 Tf146
 simp only [TS,w6,wbeh]
theorem m154 (a:Int):akR (a,())=some (aw3 a):=by
 show Ef154 a=_
 unfold Ef154 Tf154
 simp only [TS,w6,wbeh]
theorem sin_j {r b:Int}(h1:1≤r) (h2:r≤9) (h3:1≤b) (h4:b≤9):∀(j n k:Nat),((k+j:Nat):Int)=sinC r b→Tr.lp (yU r b) (n+j+1) (.k6 ((r+k-1) % 9+1) (k:Int))=some (sinC r b):=by
 intro j
 have hs:=uG r b
 induction j with
 | zero=>
   intro n k hk
   have hk:(k:Int)=sinC r b:=by simpa using hk
   have c1:decide ((k:Int)<9)=true:=by rw [decide_eq_true_eq];omega
   rw [Tr.lp_s]
   simp only [yU,TS,c1,cond_true,m146,obind_some,aj3 h1,at_eq h1 h2 h3 h4 hk,beq_self_eq_true]
   rw [hk]
 | succ j ih=>
   intro n k hk
   have c1:decide ((k:Int)<9)=true:=by rw [decide_eq_true_eq];omega
   have hne:((r+k) % 9+1==b)=false:=beq_eq_false_iff_ne.2 (at_ne h1 h2 h3 h4 (by omega))
   rw [Tr.lp_s]
   simp only [yU,TS,c1,cond_true,m146,obind_some,aj3 h1,hne,cond_false,w6s (show k<9223372036854775807 by omega)]
   have:=ih n (k+1) (by rw [←hk];congr 1;omega)
   rw [show(r+((k+1:Nat):Int)-1)=r+k by omega]at this
   rw [show n+(j+1)=n+j+1 by omega];exact this
theorem m121 {r b:Int}(h1:1≤r) (h2:r≤9) (h3:1≤b) (h4:b≤9):axk (r,b,())=some (sinC r b):=by
 show Ef121 64 r b=_
 unfold Ef121 Tf121
 simp only [TS]
 have hs:=uG r b
 have:=sin_j h1 h2 h3 h4 (sinC r b).toNat (63-(sinC r b).toNat) 0 (by omega)
 rw [show 63-(sinC r b).toNat+(sinC r b).toNat+1=64 by omega,nc0,show(r+0-1) % 9+1=r by omega]at this
 exact this
theorem m62 {s:St}(h:s.half=0∨s.half=1):Sf62 (s,())=some (batC s):=by
 show Ef62 s=_
 unfold Ef62 Tf62 batC
 simp only [TS]
 rcases h with h|h<;>simp [h]
theorem sn2_j {s:St}{r:Int}(hh:s.half=0∨s.half=1) (h1:1≤r) (h2:r≤9) (h3:1≤batC s) (h4:batC s≤9):∀(j n k:Nat),((k+j:Nat):Int)=sinC r (batC s)→Tr.lp (rQ s r) (n+j+1) (.k4 ((r+k) % 9+1) (k:Int))=some (sinC r (batC s)):=by
 intro j
 have hs:=uG r (batC s)
 have step:∀x y:Int,rQ s r (.k4 x y)=rQ s r (.k4 x y):=fun _ _=>rfl
 have hb:∀(x y:Int) (g:aqb→Option Int),(rQ s r (.k4 x y)).d g=cond (!(x==batC s)) (g (.k4 (aw3 x) (w6 (y+1)))) (some y):=fun x y g=>by
  simp only [rQ,TS,m154,obind_some]
  unfold batC
  rcases hh with h|h<;>simp [h]
 induction j with
 | zero=>
   intro n k hk
   have hk:(k:Int)=sinC r (batC s):=by simpa using hk
   rw [Tr.lp_s,hb,at_eq h1 h2 h3 h4 hk]
   simp [hk]
 | succ j ih=>
   intro n k hk
   have hne:((r+k) % 9+1==batC s)=false:=beq_eq_false_iff_ne.2 (at_ne h1 h2 h3 h4 (by omega))
   have hbe:aw3 ((r+(k:Int)) % 9+1)=(r+((k+1:Nat):Int)) % 9+1:=by
    have:=aj3 (r:=r) (k:=k+1) h1
    rwa [show r+((k+1:Nat):Int)-1=r+(k:Int) by omega]at this
   rw [Tr.lp_s,hb,hne,hbe,w6s (show k<9223372036854775807 by omega)]
   rw [show n+(j+1)=n+j+1 by omega]
   exact ih n (k+1) (by rw [←hk];congr 1;omega)
theorem m117 {s:St}{r:Int}(hh:s.half=0∨s.half=1) (h1:1≤r) (h2:r≤9) (h3:1≤batC s) (h4:batC s≤9):oP (s,r,())=some (sinC r (batC s)):=by
 show Ef117 64 s r=_
 unfold Ef117 Tf117
 simp only [TS,m154,obind_some]
 have hs:=uG r (batC s)
 have:=sn2_j hh h1 h2 h3 h4 (sinC r (batC s)).toNat (63-(sinC r (batC s)).toNat) 0 (by omega)
 have hbe:=aj3 (r:=r) (k:=0) h1
 rw [show 63-(sinC r (batC s)).toNat+(sinC r (batC s)).toNat+1=64 by omega,nc0,show(r+0) % 9+1=aw3 r by
  rw [nc0,show(r+0-1) % 9+1=r by omega]at hbe;exact hbe.symm]at this
 exact this
end
end Go.Ev
namespace Go.Ev
open Go.RowKit Go.Proofs
set_option maxRecDepth 100000
set_option maxHeartbeats 4000000
set_option linter.unusedSimpArgs false
noncomputable section
def ayO (s:St) (slot lo la:Int):Bool:=inB (sinC slot (batC s)) lo (lo+s.outs)&&!decide (sinC slot (batC s)≤la)
section
variable {s:St}(g:Good s)
include g
theorem w6lo {lo:Int}(h:0≤lo∧lo≤3):w6 (lo+s.outs)=lo+s.outs:=by
 have:=g.outs
 unfold w6;rw [dP]<;>omega
theorem bat9:1≤batC s∧batC s≤9:=by have:=g.bat;rwa [ajG]at this
theorem ord_s {k:Nat}(hk:k<3) {lo la:Int}(h:0≤lo∧lo≤3) (n:Nat):Tr.lp (l9 s) (n+1) (.k6 (k:Int) lo la)=if bsC s k=0 then Tr.lp (l9 s) n (.k6 ((k+1:Nat):Int) lo la)else if ayO s (bsC s k) lo la=true then Tr.lp (l9 s) n (.k6 ((k+1:Nat):Int) (lo+1) (sinC (bsC s k) (batC s)))else some 11:=by
 have hb:=bat9 g
 have w1:=w6lo g h
 have w2:w6 (lo+1)=lo+1:=by unfold w6;rw [dP]<;>omega
 rw [Tr.lp_s]
 have step:∀(slot:Int) (q:Int) (hs:0≤slot∧slot≤9),cond (slot==0) (Tr.lp (l9 s) n (.k6 q lo la)) (aV (axk (slot,batC s,())) fun r=>aV (some (inB r lo (lo+s.outs))) fun b=>cond (!b) (some 11) (cond (decide (r≤la)) (some 11) (Tr.lp (l9 s) n (.k6 q (lo+1) r))))=if slot=0 then Tr.lp (l9 s) n (.k6 q lo la)else if ayO s slot lo la=true then Tr.lp (l9 s) n (.k6 q (lo+1) (sinC slot (batC s)))else some 11:=by
  intro slot q hs
  by_cases h0:slot=0
  · simp [h0]
  have h0':(slot==0)=false:=beq_eq_false_iff_ne.2 h0
  rw [if_neg h0,h0',cond_false,m121 (by omega) (by omega) hb.1 hb.2,obind_some,obind_some]
  unfold ayO
  cases inB (sinC slot (batC s)) lo (lo+s.outs)<;>cases decide (sinC slot (batC s)≤la)<;>rfl
 have hc:k=0∨k=1∨k=2:=by omega
 rcases hc with rfl|rfl|rfl
 · rw [←step (bsC s 0) _ g.b1]
   simp only [l9,TS,m62 g.half,m118,w1,w2,obind_some,show(((0:Nat):Int))=0 from rfl,z03,v00,cond_true,y1];rfl
 · rw [←step (bsC s 1) _ g.b2]
   simp only [l9,TS,m62 g.half,m118,w1,w2,obind_some,show(((1:Nat):Int))=1 from rfl,z13,v10,v11,cond_true,cond_false,y2];rfl
 · rw [←step (bsC s 2) _ g.b3]
   simp only [l9,TS,m62 g.half,m118,w1,w2,obind_some,show(((2:Nat):Int))=2 from rfl,z23,v20,v21,v22,cond_true,cond_false,y3];rfl
theorem ord_k (n:Nat):∀(j k:Nat),k+j=3→∀lo la,ajL s k=some (lo,la)→0≤lo∧lo≤k→Tr.lp (l9 s) (n+j+1) (.k6 (k:Int) lo la)=some (if fitB s=true then 0 else 11):=by
 intro j
 induction j with
 | zero=>
   intro k hk lo la hf _
   obtain rfl:k=3:=by omega
   have hb:fitB s=true:=by unfold fitB;rw [hf];rfl
   rw [Tr.lp_s,hb]
   simp only [l9,TS,show(((3:Nat):Int))=3 from rfl,z33,cond_false,if_true]
 | succ j ih=>
   intro k hk lo la hf hlo
   rw [show n+(j+1)+1=(n+j+1)+1 by omega,ord_s g (by omega) (by omega)]
   have hs:ajL s (k+1)=sE s (bsC s k) (some (lo,la)):=by rw [ajL,hf]
   by_cases h0:bsC s k=0
   · rw [if_pos h0]
     refine ih (k+1) (by omega) lo la ?_ (by omega)
     rw [hs];simp [sE,h0]
   rw [if_neg h0]
   by_cases hq:ayO s (bsC s k) lo la=true
   · rw [if_pos hq]
     refine ih (k+1) (by omega) _ _ ?_ (by omega)
     rw [hs];unfold sE;simp only [h0,if_false];exact if_pos hq
   · rw [if_neg hq]
     have:ajL s (k+1)=none:=by rw [hs];unfold sE;simp only [h0,if_false];exact if_neg hq
     rw [ajK this (by omega)];rfl
theorem m73:Sf73 (s,())=some (ak2 s):=by
 show Ef73 64 s=_
 unfold Ef73 Tf73 ak2
 simp only [TS]
 exact ord_k g 60 3 0 rfl 0 (-1) rfl (by omega)
theorem ors_s {k:Nat}(hk:k<3) {lo la:Int}(h:0≤lo∧lo≤3) (n:Nat):Tr.lp (mA s) (n+1) (.k6 (k:Int) lo la)=if bsC s k=0 then Tr.lp (mA s) n (.k6 ((k+1:Nat):Int) lo la)else if ayO s (bsC s k) lo la=true then Tr.lp (mA s) n (.k6 ((k+1:Nat):Int) (lo+1) (sinC (bsC s k) (batC s)))else some false:=by
 have hb:=bat9 g
 have w1:=w6lo g h
 have w2:w6 (lo+1)=lo+1:=by unfold w6;rw [dP]<;>omega
 rw [Tr.lp_s]
 have step:∀(slot:Int) (q:Int) (hs:0≤slot∧slot≤9),cond (slot==0) (Tr.lp (mA s) n (.k6 q lo la)) (aV (oP (s,slot,())) fun r=>cond (decide (r<lo)) (some false) (cond (decide (lo+s.outs<r)) (some false) (cond (decide (r≤la)) (some false) (Tr.lp (mA s) n (.k6 q (lo+1) r)))))=if slot=0 then Tr.lp (mA s) n (.k6 q lo la)else if ayO s slot lo la=true then Tr.lp (mA s) n (.k6 q (lo+1) (sinC slot (batC s)))else some false:=by
  intro slot q hs
  by_cases h0:slot=0
  · simp [h0]
  have h0':(slot==0)=false:=beq_eq_false_iff_ne.2 h0
  rw [if_neg h0,h0',cond_false,m117 g.half (by omega) (by omega) hb.1 hb.2,obind_some]
  unfold ayO inB
  generalize sinC slot (batC s)=r
  by_cases a1:r<lo
  · have:¬lo≤r:=by omega
    simp [a1,this]
  have a1':lo≤r:=by omega
  by_cases a2:lo+s.outs<r
  · have:¬r≤lo+s.outs:=by omega
    simp [a1,a2,this]
  have a2':r≤lo+s.outs:=by omega
  simp only [a1,a2,a1',a2',decide_true,decide_false,cond_false,Bool.and_self,Bool.true_and]
  cases decide (r≤la)<;>rfl
 have hc:k=0∨k=1∨k=2:=by omega
 rcases hc with rfl|rfl|rfl
 · rw [←step (bsC s 0) _ g.b1]
   simp only [mA,TS,w1,w2,obind_some,show(((0:Nat):Int))=0 from rfl,z03,v00,cond_true,y1];rfl
 · rw [←step (bsC s 1) _ g.b2]
   simp only [mA,TS,w1,w2,obind_some,show(((1:Nat):Int))=1 from rfl,z13,v10,v11,cond_true,cond_false,y2];rfl
 · rw [←step (bsC s 2) _ g.b3]
   simp only [mA,TS,w1,w2,obind_some,show(((2:Nat):Int))=2 from rfl,z23,v20,v21,v22,cond_true,cond_false,y3];rfl
theorem ors_k (n:Nat):∀(j k:Nat),k+j=3→∀lo la,ajL s k=some (lo,la)→0≤lo∧lo≤k→Tr.lp (mA s) (n+j+1) (.k6 (k:Int) lo la)=some (fitB s):=by
 intro j
 induction j with
 | zero=>
   intro k hk lo la hf _
   obtain rfl:k=3:=by omega
   have hb:fitB s=true:=by unfold fitB;rw [hf];rfl
   rw [Tr.lp_s,hb]
   simp only [mA,TS,show(((3:Nat):Int))=3 from rfl,z33,cond_false]
 | succ j ih=>
   intro k hk lo la hf hlo
   rw [show n+(j+1)+1=(n+j+1)+1 by omega,ors_s g (by omega) (by omega)]
   have hs:ajL s (k+1)=sE s (bsC s k) (some (lo,la)):=by rw [ajL,hf]
   by_cases h0:bsC s k=0
   · rw [if_pos h0]
     refine ih (k+1) (by omega) lo la ?_ (by omega)
     rw [hs];simp [sE,h0]
   rw [if_neg h0]
   by_cases hq:ayO s (bsC s k) lo la=true
   · rw [if_pos hq]
     refine ih (k+1) (by omega) _ _ ?_ (by omega)
     rw [hs];unfold sE;simp only [h0,if_false];exact if_pos hq
   · rw [if_neg hq]
     have:ajL s (k+1)=none:=by rw [hs];unfold sE;simp only [h0,if_false];exact if_neg hq
     rw [ajK this (by omega)]
theorem m68:Sf68 (s,())=some (fitB s):=by
 show Ef68 64 s=_
 unfold Ef68 Tf68
 simp only [TS]
 exact ors_k g 60 3 0 rfl 0 (-1) rfl (by omega)
end
theorem avQ {s:St}(h1:inB s.half 0 1=true) (h2:nuB s 2=true):Good s:=by
 refine avP ?_
 simp only [awC,h2,Bool.and_true,ajH,Bool.or_eq_true,decide_eq_true_eq]
 simp only [inB,Bool.and_eq_true,decide_eq_true_eq]at h1
 omega
theorem m60 (s:St):cC (s,(((),()),((),()),((),()),((),()),((),()),()),())=some (stE s):=by
 show cD 64 s _=_
 unfold cD cA stE ajn
 simp only [TS,iZ]
 have v30:((3:Int)==0)=false:=by decide
 have v31:((3:Int)==1)=false:=by decide
 have v32:((3:Int)==2)=false:=by decide
 have v33:((3:Int)==3)=true:=by decide
 have v40:((4:Int)==0)=false:=by decide
 have v41:((4:Int)==1)=false:=by decide
 have v42:((4:Int)==2)=false:=by decide
 have v43:((4:Int)==3)=false:=by decide
 have v44:((4:Int)==4)=true:=by decide
 have q0:decide ((0:Int)<5)=true:=by decide
 have q1:decide ((1:Int)<5)=true:=by decide
 have q2:decide ((2:Int)<5)=true:=by decide
 have q3:decide ((3:Int)<5)=true:=by decide
 have q4:decide ((4:Int)<5)=true:=by decide
 have q5:decide ((5:Int)<5)=false:=by decide
 have ne:∀ {x:Int},x≠0→(x==0)=false:=fun h=>beq_eq_false_iff_ne.2 h
 show Tr.lp _ (63+1) _=_
 rw [Tr.lp_s]
 simp only [aM,TS,m69,obind_some,q0,v00,cond_true,y1]
 by_cases h1:ak4 s=0
 rotate_left
 · simp [h1,ne h1]
 rw [if_pos h1,h1]
 simp only [v00,Bool.not_true,cond_false]
 rw [show(63:Nat)=62+1 from rfl,Tr.lp_s]
 simp only [aM,TS,m70,obind_some,q1,v10,v11,cond_true,cond_false,y2]
 by_cases h2:oJ s=0
 rotate_left
 · simp [h2,ne h2]
 rw [if_pos h2,h2]
 simp only [v00,Bool.not_true,cond_false]
 rw [show(62:Nat)=61+1 from rfl,Tr.lp_s]
 simp only [aM,TS,m71,obind_some,q2,v20,v21,v22,cond_true,cond_false,y3]
 by_cases h3:ajw s=0
 rotate_left
 · simp [h3,ne h3]
 rw [if_pos h3,h3]
 simp only [v00,Bool.not_true,cond_false]
 rw [show(61:Nat)=60+1 from rfl,Tr.lp_s]
 simp only [aM,TS,m72,obind_some,q3,v30,v31,v32,v33,cond_true,cond_false,y4]
 by_cases h4:av5 s=0
 rotate_left
 · simp [h4,ne h4]
 rw [if_pos h4,h4]
 simp only [v00,Bool.not_true,cond_false]
 have h2':inB s.half 0 1=true:=by unfold oJ at h2;split at h2<;>first|assumption|omega
 have h3':nuB s 2=true:=by unfold ajw at h3;split at h3<;>first|assumption|omega
 rw [show(60:Nat)=59+1 from rfl,Tr.lp_s]
 simp only [aM,TS,m73 (avQ h2' h3'),obind_some,q4,v40,v41,v42,v43,v44,cond_true,cond_false,y5]
 by_cases h5:ak2 s=0
 rotate_left
 · simp [h5,ne h5]
 rw [if_pos h5,h5]
 simp only [v00,Bool.not_true,cond_false]
 rw [show(59:Nat)=58+1 from rfl,Tr.lp_s]
 simp only [aM,TS,q5,cond_false]
theorem m18 (s:St):Sf18 (s,())=some (stE s):=by
 show Ef18 s=_
 unfold Ef18 Tf18
 simp only [TS,m60,obind_some]
theorem m17 (s:St):Sf17 (s,())=some (stE s):=by
 show Ef17 64 s=_
 unfold Ef17 Tf17
 rw [stE_eq]
 simp only [TS,m64 _ _ _ (show(1:Int)≤30 by omega),m64 _ _ _ (show(0:Int)≤2 by omega),m64 _ _ _ (show(0:Int)≤3 by omega),m64 _ _ _ (show(0:Int)≤9 by omega),m64 _ _ _ (show(1:Int)≤9 by omega),m64 _ _ _ (show(0:Int)≤9999 by omega),obind_some,rg_in,rgC_z]
 cases h1:inB s.inn 1 30 with
 | false=>rfl
 | true=>
 simp only [Bool.not_true,cond_false,Bool.true_eq_false,if_false]
 have hh:(cond (!(s.half==0)) (cond (!(s.half==1)) (some (17:Int)) (Ef17J s 64 (.k29 (rgC s.outs 0 2) (rgC s.balls 0 3) (rgC s.strikes 0 2) (rgC s.b1 0 9) (rgC s.b2 0 9) (rgC s.b3 0 9) (rgC s.n0 1 9) (rgC s.c0 0 9999) (rgC s.n1 1 9) (rgC s.c1 0 9999)))) (Ef17J s 64 (.k29 (rgC s.outs 0 2) (rgC s.balls 0 3) (rgC s.strikes 0 2) (rgC s.b1 0 9) (rgC s.b2 0 9) (rgC s.b3 0 9) (rgC s.n0 1 9) (rgC s.c0 0 9999) (rgC s.n1 1 9) (rgC s.c1 0 9999))))=if inB s.half 0 1=false then some 17 else Ef17J s 64 (.k29 (rgC s.outs 0 2) (rgC s.balls 0 3) (rgC s.strikes 0 2) (rgC s.b1 0 9) (rgC s.b2 0 9) (rgC s.b3 0 9) (rgC s.n0 1 9) (rgC s.c0 0 9999) (rgC s.n1 1 9) (rgC s.c1 0 9999)):=by
  generalize Ef17J s 64 _=z
  by_cases a:s.half=0
  · simp [a,inB]
  by_cases b:s.half=1
  · simp [b,inB]
  have:inB s.half 0 1=false:=by simp [inB];omega
  have a':(s.half==0)=false:=beq_eq_false_iff_ne.2 a
  have b':(s.half==1)=false:=beq_eq_false_iff_ne.2 b
  rw [this,a',b'];rfl
 rw [hh]
 cases h2:inB s.half 0 1 with
 | false=>rfl
 | true=>
 simp only [Bool.true_eq_false,if_false]
 show Tr.lp _ (63+1) _=_
 rw [Tr.lp_s]
 simp only [awc,TS,m65 [_,_,_,_,_,_,_,_,_,_] (by simp),obind_some]
 have hf:∀l:List Int,dD l=iZ l:=by
  intro l
  induction l with
  | nil=>rfl
  | cons x l ih=>rw [dD,iZ,ih];by_cases h:x=0<;>simp [h]
 rw [hf,xN (fun x hx=>by
  simp only [List.mem_cons,List.not_mem_nil,or_false]at hx
  rcases hx with rfl|rfl|rfl|rfl|rfl|rfl|rfl|rfl|rfl|rfl<;>exact rgC_or _ _ _)]
 have hn:(([rgC s.outs 0 2,rgC s.balls 0 3,rgC s.strikes 0 2,rgC s.b1 0 9,rgC s.b2 0 9,rgC s.b3 0 9,rgC s.n0 1 9,rgC s.c0 0 9999,rgC s.n1 1 9,rgC s.c1 0 9999]:List Int).all (·==0))=nuB s 2:=by
  simp only [List.all_cons,List.all_nil,rgC_z,nuB,baB,cnB,Bool.and_true,Bool.and_assoc]
 rw [hn]
 cases h3:nuB s 2 with
 | false=>rfl
 | true=>
 simp only [if_true,show((0:Int)==0)=true from rfl,Bool.not_true,cond_false,Bool.true_eq_false,if_false]
 rw [show(63:Nat)=62+1 from rfl,Tr.lp_s]
 simp only [awc,TS,m66,m67,m68 (avQ h2 h3),obind_some]
 cases s.over<;>cases overB s<;>cases decB s<;>cases fitB s<;>rfl
end
end Go.Ev
namespace Go.Ev
open Go.RowKit Go.Proofs
set_option maxRecDepth 100000
set_option maxHeartbeats 4000000
set_option linter.unusedSimpArgs false
noncomputable section
theorem i8 {c0 c:Cnt}{d:Bool}{l:List Nat}{k x:Nat}(h:cnt c0 false (l.take k)=.inl (c,d)) (hx:l[k]? = some x) (hd:d=true∨isP x=false):cnt c0 false l=.inr k:=by
 obtain⟨hk,rfl⟩:=List.getElem?_eq_some_iff.1 hx
 have e:=tU c0 false (l.take k) (l.drop k)
 rw [List.take_append_drop,h]at e
 rw [List.drop_eq_getElem_cons hk]at e
 have hb:(d||!isP l[k])=true:=by rcases hd with rfl|hd<;>simp [*]
 simp only [cnt,hb,if_true]at e
 rw [e,List.length_take]
 congr 1
 omega
theorem vS {c0 c:Cnt}{l:List Nat}{k x:Nat}(h:cnt c0 false (l.take k)=.inl (c,false)) (hx:l[k]? = some x) (hd:isP x=true):cnt c0 false (l.take (k+1))=.inl (stepC c x,doneC c x):=by
 rw [List.take_add_one,hx,tU,h]
 simp [cnt,hd]
set_option maxHeartbeats 8000000 in
abbrev CntR:=(Int×Int×Unit)×Int×Int×Unit
def cntQ (r:(Cnt×Bool) ⊕ Nat):CntR:=match r with
 | .inl (c',_)=>((c'.1,c'.2,()),0,0,())
 | .inr k=>((0,0,()),(k:Nat),14,())
def axW (b s:Int) (l:List Nat):CntR:=if(0≤b∧b≤3)∧(0≤s∧s≤2)then(if l.length≤24 then cntQ (cnt (b,s) false l)else((0,0,()),0,5,()))else((0,0,()),0,3,())
theorem m138 {c:Cnt}{x:Nat}(h:okC c false):Sf138 ((c.1,c.2,()),((x:Nat):Int),())=some ((stepC c x).1,(stepC c x).2,()):=by
 show Ef138 _ _=_
 unfold Ef138 Tf138 stepC
 obtain⟨o1,o2,o3,o4,o5⟩:=h
 have o5:=o5 rfl
 have w1:w6 (c.1+1)=c.1+1:=by unfold w6;rw [dP]<;>omega
 have w2:w6 (c.2+1)=c.2+1:=by unfold w6;rw [dP]<;>omega
 have q66:(((x:Nat):Int)==66)=(x==66):=nbeq x 66
 have q67:(((x:Nat):Int)==67)=(x==67):=nbeq x 67
 have q83:(((x:Nat):Int)==83)=(x==83):=nbeq x 83
 have q70:(((x:Nat):Int)==70)=(x==70):=nbeq x 70
 simp only [TS,q66,q67,q83,q70,w1,w2]
 by_cases h1:x=66
 · simp [h1]
 by_cases h2:x=67
 · simp [h2]
 by_cases h3:x=83
 · simp [h3]
 have n1:(x==66)=false:=beq_eq_false_iff_ne.2 h1
 have n2:(x==67)=false:=beq_eq_false_iff_ne.2 h2
 have n3:(x==83)=false:=beq_eq_false_iff_ne.2 h3
 simp only [n1,n2,n3,cond_false,if_neg h1,h2,h3,or_self,if_false]
 by_cases h4:x=70
 · simp only [h4,beq_self_eq_true,cond_true,if_true]
   by_cases h5:c.2<2<;>simp [h5]
 · have n4:(x==70)=false:=beq_eq_false_iff_ne.2 h4
   simp only [n4,cond_false,if_neg h4]
theorem j81 (b s:Int) (l:List Nat) (hl:l.length≤24) (hb:dT l=true) (hin:(0≤b∧b≤3)∧(0≤s∧s≤2)):∀n k x2 x5 x3,k≤l.length→l.length<n+k→cnt (b,s) false (l.take k)=.inl ((x2,x5),x3) →
  Tr.lp (awa b s l) n (.k14 x3 x2 x5 k)=some (cntQ (cnt (b,s) false l)):=by
 intro n
 induction n with
 | zero=>intro k x2 x5 x3 h1 h2;omega
 | succ n ih=>
   intro k x2 x5 x3 h1 h2 hc
   rw [Tr.lp_s]
   simp only [awa,TS]
   have hok:okC (x2,x5) x3:=cnt_ok (c:=(b,s)) (d:=false) (by simp only [okC];omega) hc
   by_cases hlt:k<l.length
   rotate_left
   · obtain rfl:k=l.length:=by omega
     rw [List.take_length]at hc
     rw [hc,blt_f hlt];rfl
   obtain⟨y,hy⟩:=rJ hlt
   simp only [blt_t hlt,cond_true]
   cases x3 with
   | true=>rw [i8 hc hy (.inl rfl)];rfl
   | false=>
   simp only [cond_false,m137,obind_some]
   by_cases hy8:y<128
   rotate_left
   · have hp:=lS (aqz hb hy hy8)
     rw [hp,i8 hc hy (.inr (lS (by omega)))];rfl
   rw [aqy hy hy8]
   cases hp:isP y with
   | false=>rw [i8 hc hy (.inr hp)];rfl
   | true=>
   have hstep:=vS hc hy hp
   have hm:=m138 (x:=y) hok
   simp only [Bool.not_true,cond_false,hm,obind_some,m139]
   have ih':=fun x2 x5 x3 h=>ih (k+1) x2 x5 x3 hlt (by omega) h
   by_cases e1:(stepC (x2,x5) y).1=4
   · have b1:((stepC (x2,x5) y).1==4)=true:=by rw [e1];rfl
     simp only [b1,cond_true]
     exact ih' _ _ _ (by rw [hstep,show doneC (x2,x5) y=true by simp [doneC,full,e1]])
   have n1:((stepC (x2,x5) y).1==4)=false:=beq_eq_false_iff_ne.2 e1
   by_cases e2:(stepC (x2,x5) y).2=3
   · have b2:((stepC (x2,x5) y).2==3)=true:=by rw [e2];rfl
     simp only [n1,b2,cond_true,cond_false]
     exact ih' _ _ _ (by rw [hstep,show doneC (x2,x5) y=true by simp [doneC,full,e2]])
   have n2:((stepC (x2,x5) y).2==3)=false:=beq_eq_false_iff_ne.2 e2
   simp only [n1,n2,cond_false]
   exact ih' _ _ _ (by rw [hstep,show doneC (x2,x5) y=lastP y by simp [doneC,full,e1,e2]])
theorem m81 (b s:Int) (l:List Nat) (hb:dT l=true):Sf81 (b,s,l,())=some (axW b s l):=by
 show Ef81 (l.length+64) b s l=_
 unfold Ef81 Tf81 axW
 simp only [TS,m136,obind_some]
 by_cases h1:0≤b∧b≤3
 rotate_left
 · have:withinB b 0 3=false:=by simp [withinB];omega
   rw [this,if_neg (fun h=>h1 h.1)];rfl
 by_cases h2:0≤s∧s≤2
 rotate_left
 · have e1:withinB b 0 3=true:=by simp [withinB];omega
   have:withinB s 0 2=false:=by simp [withinB];omega
   rw [this,e1,if_neg (fun h=>h2 h.2)];rfl
 have e1:withinB b 0 3=true:=by simp [withinB];omega
 have e2:withinB s 0 2=true:=by simp [withinB];omega
 simp only [e1,e2,Bool.not_true,cond_false,if_pos (show(0≤b∧b≤3)∧(0≤s∧s≤2)from⟨h1,h2⟩)]
 by_cases hl:l.length≤24
 · have a5:decide ((24:Int)<((l.length:Nat):Int))=false:=by simp;omega
   simp only [a5,cond_false,if_pos hl]
   exact j81 b s l hl hb ⟨h1,h2⟩ (l.length+64) 0 b s false (Nat.zero_le _) (by omega) (by simp [cnt])
 · have a5:decide ((24:Int)<((l.length:Nat):Int))=true:=by simp;omega
   simp only [a5,cond_true,if_neg hl]
end
end Go.Ev
namespace Go.Ev
open Go.RowKit Go.Proofs
set_option maxRecDepth 100000
set_option maxHeartbeats 4000000
theorem aw27_0:aI Tryz.prog (.bool true) (run Tryz.prog gT (aU [(17,A77),(20,A79),(18,A78),(21,A80),(15,A54),(9,A34),(22,A35),(23,A36)]) 3000 (.call 5 [] H.start0))=true:=by kernel_rfl
noncomputable def A27:List EVal→Option EVal:=tbl [([],.bool true)]
theorem an27:FnT 5 A27:=Fn.tbl0 mixed noNG [(17,A77),(20,A79),(18,A78),(21,A80),(15,A54),(9,A34),(22,A35),(23,A36)] (by simp only [List.forall_mem_cons];exact⟨an77,an79,an78,an80,an54,an34,an35,an36,fun _ h=>by cases h⟩) (n:=3000) (by simp only [List.forall_mem_cons];exact⟨aw27_0,fun _ h=>by cases h⟩)
def F27:List EVal→Option EVal
 | []=>some (.bool true)
 | _=>none
theorem e27:F27 []=some (.bool true):=rfl
theorem fn27:FnT 5 F27:=by
 intro B0 W0 G a v hF
 refine an27 B0 W0 G a v ?_
 unfold F27 at hF
 split at hF
 · exact hF
 · cases hF
end Go.Ev
namespace Go.Ev
open Go.RowKit Go.Proofs
set_option maxRecDepth 100000
set_option maxHeartbeats 4000000
noncomputable section
def A18:Row (St×Unit):=Row.cons (Cod.agg rSt) Row.nil
def S18 (x:St×Unit):Option Int:=some (stE x.1)
def K18:Con Tryz.prog gT:=Con.of 19 A18 cI S18 (Con.less Kf18.ok fun x r h=>(m18 x.1).trans h)
def A17:Row (St×Unit):=Row.cons (Cod.agg rSt) Row.nil
def S17 (x:St×Unit):Option Int:=some (stE x.1)
def K17:Con Tryz.prog gT:=Con.of 4 A17 cI S17 (Con.less Kf17.ok fun x r h=>(m17 x.1).trans h)
def Aw27:Row Unit:=Row.nil
def Sw27 (_:Unit):Option Bool:=some true
def Kw27:Con Tryz.prog gT:=Con.of 5 Aw27 cB Sw27 (Fn.weak fn27 fun a v h=>by
 obtain⟨_,r,rfl,hs,rfl⟩:=qR h
 cases hs
 have e:V.cs (Aw27.v ())=[]:=by
  show V.cs []=_
  rw [V.cs]
 rw [e,e27];simp only [cB,V.c])
def cCntR:Cod CntR:=Cod.tup (Row.cons (Cod.agg (Row.cons cI (Row.cons cI Row.nil))) (Row.cons cI (Row.cons cI Row.nil)))
def A81:Row (Int×Int×List Nat×Unit):=Row.cons cI (Row.cons cI (Row.cons cS Row.nil))
def S81 (x:Int×Int×List Nat×Unit):Option CntR:=if dT x.2.2.1=true then some (axW x.1 x.2.1 x.2.2.1)else none
def K81:Con Tryz.prog gT:=Con.of 104 A81 cCntR S81 (Con.less Kf81.ok fun x r h=>by
 unfold S81 at h
 split at h
 · rename_i hb;exact(m81 x.1 x.2.1 x.2.2.1 hb).trans h
 · cases h)
theorem vMv_c (m:Mv):V.cs (rMv.v m)=kA m:=by
 show V.cs [V.int .i64 m.f,V.int .i64 m.t,V.bool m.o,V.str m.h,(Cod.list 0 lK).v m.b]=_
 have h1:(V.el (m.b.map lK.v)).c=((Cod.list 0 lK).v m.b).c:=c9
 have h2:((Cod.list 0 lK).v m.b).c=.lsl (oK m.b):=h1.symm.trans (by
  rw [V.c,V.css_map,List.map_map,oK]
  exact congrArg EVal.lsl (List.map_congr_left fun x _=>by
   show V.cs [V.int .i64 x]=_
   simp only [V.cs,V.c]))
 simp only [V.cs,V.c,h2,kA]
theorem vMvs_c (l:List Mv):((Cod.list mv0 rMv).v l).c=.lsl (aH l):=by
 have h1:(V.el (l.map rMv.v)).c=((Cod.list mv0 rMv).v l).c:=c9
 refine h1.symm.trans ?_
 rw [V.c,V.css_map,List.map_map,aH]
 congr 1
 exact List.map_congr_left fun m _=>vMv_c m
def okPl (p:Pl):Bool:=decide (p.m.length<9223372036854775808)&&p.m.all fun m=>decide (m.b.length<9223372036854775808)
def ePl (p:Pl):EVal:=.agg [.str p.p,.str p.e,.bool p.l,.lsl (aH p.m)]
theorem vPl_c (p:Pl):((Cod.agg rPl).v p).c=ePl p:=by
 show(V.agg [V.str p.p,V.str p.e,V.bool p.l,(Cod.list mv0 rMv).v p.m]).c=_
 simp only [V.c,V.cs,vMvs_c,ePl]
theorem vPl_1 (p:Pl):V.cs (Row.v (Row.cons (Cod.agg rPl) Row.nil) (p,()))=[ePl p]:=by
 show V.cs [(Cod.agg rPl).v p]=_
 rw [V.cs,V.cs,vPl_c]
theorem akc (s:St):V.cs (rSt.v s)=eSt s:=by
 show V.cs [_,_,_,_,_,_,_,_,_,_,_,_,_]=_
 simp only [V.cs,ax2,cB,V.c];rfl
def A142:Row (Pl×Unit):=Row.cons (Cod.agg rPl) Row.nil
def S142 (x:Pl×Unit):Option Int:=if okPl x.1=true∧dT x.1.p=true∧dT x.1.e=true then some (playE x.1.p x.1.e x.1.m)else none
def K142:Con Tryz.prog gT:=Con.of 57 A142 cI S142 (Con.less Kf142.ok fun x r h=>by
 unfold S142 at h
 split at h
 · rename_i hb;exact(m142 x.1 hb.2.1 hb.2.2).trans h
 · cases h)
def A33:Row (Pl×Unit):=Row.cons (Cod.agg rPl) Row.nil
def S33 (x:Pl×Unit):Option Pl:=if okPl x.1=true∧rD x.1.m=true then some x.1 else none
def K33:Con Tryz.prog gT:=Con.of 8 A33 (Cod.agg rPl) S33 (Con.less Kf33.ok fun x r h=>by
 unfold S33 at h
 split at h
 · rename_i hh;exact(m33 x.1 hh.2).trans h
 · cases h)
end
end Go.Ev
