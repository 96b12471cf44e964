import Derived.Test.YtkhmgggponmimaaGreatDoorDM5
set_option linter.unusedSimpArgs false
set_option linter.unusedVariables false
namespace Go.Ev
open Go.RowKit Go.Proofs
set_option maxRecDepth 100000
set_option maxHeartbeats 4000000
set_option linter.unusedSimpArgs false
noncomputable section
def fitQ (s:St) (slot lo la:Int):Bool:=inB (sinC slot (batC s)) lo (lo+s.outs)&&!decide (sinC slot (batC s)≤la)
section
variable {s:St}(g:Good s)
include g
theorem w6lo {lo:Int}(h:0≤lo∧lo≤3):w6 (lo+s.outs)=lo+s.outs:=by
 have:=g.outs
 unfold w6;rw [b7]<;>omega
theorem bat9:1≤batC s∧batC s≤9:=by have:=g.bat;rwa [ajc]at this
theorem ord_s {k:Nat}(hk:k<3) {lo la:Int}(h:0≤lo∧lo≤3) (n:Nat):Tr.lp (mQ s) (n+1) (.k6 (k:Int) lo la)=if bsC s k=0 then Tr.lp (mQ s) n (.k6 ((k+1:Nat):Int) lo la)else if fitQ s (bsC s k) lo la=true then Tr.lp (mQ s) n (.k6 ((k+1:Nat):Int) (lo+1) (sinC (bsC s k) (batC s)))else some 11:=by
 have hb:=bat9 g
 have w1:=w6lo g h
 have w2:w6 (lo+1)=lo+1:=by unfold w6;rw [b7]<;>omega
 rw [Tr.lp_s]
 have step:∀(slot:Int) (q:Int) (hs:0≤slot∧slot≤9),cond (slot==0) (Tr.lp (mQ s) n (.k6 q lo la)) (aM (axx (slot,batC s,())) fun r=>aM (some (inB r lo (lo+s.outs))) fun b=>cond (!b) (some 11) (cond (decide (r≤la)) (some 11) (Tr.lp (mQ s) n (.k6 q (lo+1) r))))=if slot=0 then Tr.lp (mQ s) n (.k6 q lo la)else if fitQ s slot lo la=true then Tr.lp (mQ s) n (.k6 q (lo+1) (sinC slot (batC s)))else some 11:=by
  intro slot q hs
  by_cases h0:slot=0
  · simp [h0]
  have h0':(slot==0)=false:=beq_eq_false_iff_ne.2 h0
  rw [if_neg h0,h0',cond_false,m121 (by omega) (by omega) hb.1 hb.2,obind_some,obind_some]
  unfold fitQ
  cases inB (sinC slot (batC s)) lo (lo+s.outs)<;>cases decide (sinC slot (batC s)≤la)<;>rfl
 have hc:k=0∨k=1∨k=2:=by omega
 rcases hc with rfl|rfl|rfl
 · rw [←step (bsC s 0) _ g.b1]
   simp only [mQ,TS,m62 g.half,m118,w1,w2,obind_some,show(((0:Nat):Int))=0 from rfl,z03,v00,cond_true,y1];rfl
 · rw [←step (bsC s 1) _ g.b2]
   simp only [mQ,TS,m62 g.half,m118,w1,w2,obind_some,show(((1:Nat):Int))=1 from rfl,z13,v10,v11,cond_true,cond_false,y2];rfl
 · rw [←step (bsC s 2) _ g.b3]
   simp only [mQ,TS,m62 g.half,m118,w1,w2,obind_some,show(((2:Nat):Int))=2 from rfl,z23,v20,v21,v22,cond_true,cond_false,y3];rfl
theorem ord_k (n:Nat):∀(j k:Nat),k+j=3→∀lo la,avu s k=some (lo,la)→0≤lo∧lo≤k→Tr.lp (mQ s) (n+j+1) (.k6 (k:Int) lo la)=some (if ayC s=true then 0 else 11):=by
 intro j
 induction j with
 | zero=>
   intro k hk lo la hf _
   obtain rfl:k=3:=by omega
   have hb:ayC s=true:=by unfold ayC;rw [hf];rfl
   rw [Tr.lp_s,hb]
   simp only [mQ,TS,show(((3:Nat):Int))=3 from rfl,z33,cond_false,if_true]
 | succ j ih=>
   intro k hk lo la hf hlo
   rw [show n+(j+1)+1=(n+j+1)+1 by omega,ord_s g (by omega) (by omega)]
   have hs:avu s (k+1)=sP s (bsC s k) (some (lo,la)):=by rw [avu,hf]
   by_cases h0:bsC s k=0
   · rw [if_pos h0]
     refine ih (k+1) (by omega) lo la ?_ (by omega)
     rw [hs];simp [sP,h0]
   rw [if_neg h0]
   by_cases hq:fitQ s (bsC s k) lo la=true
   · rw [if_pos hq]
     refine ih (k+1) (by omega) _ _ ?_ (by omega)
     rw [hs];unfold sP;simp only [h0,if_false];exact if_pos hq
   · rw [if_neg hq]
     have:avu s (k+1)=none:=by rw [hs];unfold sP;simp only [h0,if_false];exact if_neg hq
     rw [ayB this (by omega)];rfl
theorem m73:Sf73 (s,())=some (runE s):=by
 show Ef73 64 s=_
 unfold Ef73 Tf73 runE
 simp only [TS]
 exact ord_k g 60 3 0 rfl 0 (-1) rfl (by omega)
end
theorem good_in {s:St}(h1:inB s.half 0 1=true) (h2:nuB s 2=true):Good s:=by
 refine avm ?_
 simp only [awy,h2,Bool.and_true,ajd,Bool.or_eq_true,decide_eq_true_eq]
 simp only [inB,Bool.and_eq_true,decide_eq_true_eq]at h1
 omega
theorem m60 (s:St):cH (s,(((),()),((),()),((),()),((),()),((),()),()),())=some (stE s):=by
 show cJ 64 s _=_
 unfold cJ cG stE az0
 simp only [TS,tV]
 have v30:((3:Int)==0)=false:=by decide
 have v31:((3:Int)==1)=false:=by decide
 have v32:((3:Int)==2)=false:=by decide
 have v33:((3:Int)==3)=true:=by decide
 have v40:((4:Int)==0)=false:=by decide
 have v41:((4:Int)==1)=false:=by decide
 have v42:((4:Int)==2)=false:=by decide
 have v43:((4:Int)==3)=false:=by decide
 have v44:((4:Int)==4)=true:=by decide
 have q0:decide ((0:Int)<5)=true:=by decide
 have q1:decide ((1:Int)<5)=true:=by decide
 have q2:decide ((2:Int)<5)=true:=by decide
 have q3:decide ((3:Int)<5)=true:=by decide
 have q4:decide ((4:Int)<5)=true:=by decide
 have q5:decide ((5:Int)<5)=false:=by decide
 have ne:∀ {x:Int},x≠0→(x==0)=false:=fun h=>beq_eq_false_iff_ne.2 h
 show Tr.lp _ (63+1) _=_
 rw [Tr.lp_s]
 simp only [aJ,TS,m69,obind_some,q0,v00,cond_true,y1]
 by_cases h1:azM s=0
 rotate_left
 · simp [h1,ne h1]
 rw [if_pos h1,h1]
 simp only [v00,Bool.not_true,cond_false]
 rw [show(63:Nat)=62+1 from rfl,Tr.lp_s]
 simp only [aJ,TS,m70,obind_some,q1,v10,v11,cond_true,cond_false,y2]
 by_cases h2:nH s=0
 rotate_left
 · simp [h2,ne h2]
 rw [if_pos h2,h2]
 simp only [v00,Bool.not_true,cond_false]
 rw [show(62:Nat)=61+1 from rfl,Tr.lp_s]
 simp only [aJ,TS,m71,obind_some,q2,v20,v21,v22,cond_true,cond_false,y3]
 by_cases h3:ax1 s=0
 rotate_left
 · simp [h3,ne h3]
 rw [if_pos h3,h3]
 simp only [v00,Bool.not_true,cond_false]
 rw [show(61:Nat)=60+1 from rfl,Tr.lp_s]
 simp only [aJ,TS,m72,obind_some,q3,v30,v31,v32,v33,cond_true,cond_false,y4]
 by_cases h4:endE s=0
 rotate_left
 · simp [h4,ne h4]
 rw [if_pos h4,h4]
 simp only [v00,Bool.not_true,cond_false]
 have h2':inB s.half 0 1=true:=by unfold nH at h2;split at h2<;>first|assumption|omega
 have h3':nuB s 2=true:=by unfold ax1 at h3;split at h3<;>first|assumption|omega
 rw [show(60:Nat)=59+1 from rfl,Tr.lp_s]
 simp only [aJ,TS,m73 (good_in h2' h3'),obind_some,q4,v40,v41,v42,v43,v44,cond_true,cond_false,y5]
 by_cases h5:runE s=0
 rotate_left
 · simp [h5,ne h5]
 rw [if_pos h5,h5]
 simp only [v00,Bool.not_true,cond_false]
 rw [show(59:Nat)=58+1 from rfl,Tr.lp_s]
 simp only [aJ,TS,q5,cond_false]
theorem m18 (s:St):Sf18 (s,())=some (stE s):=by
 show Ef18 s=_
 unfold Ef18 Tf18
 simp only [TS,m60,obind_some]
end
end Go.Ev
