import Derived.Test.YtmejahdlkaifoaaGreatDoorDM5
set_option linter.unusedSimpArgs false
set_option linter.unusedVariables false
namespace Go.Ev
open Go.RowKit Go.Proofs
set_option maxRecDepth 100000
set_option maxHeartbeats 4000000
set_option linter.unusedSimpArgs false
noncomputable section
def bj0 (s:St) (slot lo la:Int):Bool:=inB (sinC slot (batC s)) lo (lo+s.outs)&&!decide (sinC slot (batC s)≤la)
section
variable {s:St}(g:Good s)
include g
theorem w6lo {lo:Int}(h:0≤lo∧lo≤3):w6 (lo+s.outs)=lo+s.outs:=by
 have:=g.outs
 unfold w6;rw [cG]<;>omega
theorem bat9:1≤batC s∧batC s≤9:=by have:=g.bat;rwa [axV]at this
theorem ord_s {k:Nat}(hk:k<3) {lo la:Int}(h:0≤lo∧lo≤3) (n:Nat):Tr.lp (m5 s) (n+1) (.k6 (k:Int) lo la)=if bsC s k=0 then Tr.lp (m5 s) n (.k6 ((k+1:Nat):Int) lo la)else if bj0 s (bsC s k) lo la=true then Tr.lp (m5 s) n (.k6 ((k+1:Nat):Int) (lo+1) (sinC (bsC s k) (batC s)))else some 11:=by
 have hb:=bat9 g
 have w1:=w6lo g h
 have w2:w6 (lo+1)=lo+1:=by unfold w6;rw [cG]<;>omega
 rw [Tr.lp_s]
 have step:∀(slot:Int) (q:Int) (hs:0≤slot∧slot≤9),cond (slot==0) (Tr.lp (m5 s) n (.k6 q lo la)) (aH (azi (slot,batC s,())) fun r=>aH (some (inB r lo (lo+s.outs))) fun b=>cond (!b) (some 11) (cond (decide (r≤la)) (some 11) (Tr.lp (m5 s) n (.k6 q (lo+1) r))))=if slot=0 then Tr.lp (m5 s) n (.k6 q lo la)else if bj0 s slot lo la=true then Tr.lp (m5 s) n (.k6 q (lo+1) (sinC slot (batC s)))else some 11:=by
  intro slot q hs
  by_cases h0:slot=0
  · simp [h0]
  have h0':(slot==0)=false:=beq_eq_false_iff_ne.2 h0
  rw [if_neg h0,h0',cond_false,m121 (by omega) (by omega) hb.1 hb.2,obind_some,obind_some]
  unfold bj0
  cases inB (sinC slot (batC s)) lo (lo+s.outs)<;>cases decide (sinC slot (batC s)≤la)<;>rfl
 have hc:k=0∨k=1∨k=2:=by omega
 rcases hc with rfl|rfl|rfl
 · rw [←step (bsC s 0) _ g.b1]
   simp only [m5,TS,m62 g.half,m118,w1,w2,obind_some,show(((0:Nat):Int))=0 from rfl,z03,v00,cond_true,y1];rfl
 · rw [←step (bsC s 1) _ g.b2]
   simp only [m5,TS,m62 g.half,m118,w1,w2,obind_some,show(((1:Nat):Int))=1 from rfl,z13,v10,v11,cond_true,cond_false,y2];rfl
 · rw [←step (bsC s 2) _ g.b3]
   simp only [m5,TS,m62 g.half,m118,w1,w2,obind_some,show(((2:Nat):Int))=2 from rfl,z23,v20,v21,v22,cond_true,cond_false,y3];rfl
theorem ord_k (n:Nat):∀(j k:Nat),k+j=3→∀lo la,ax0 s k=some (lo,la)→0≤lo∧lo≤k→Tr.lp (m5 s) (n+j+1) (.k6 (k:Int) lo la)=some (if fitB s=true then 0 else 11):=by
 intro j
 induction j with
 | zero=>
   intro k hk lo la hf _
   obtain rfl:k=3:=by omega
   have hb:fitB s=true:=by unfold fitB;rw [hf];rfl
   rw [Tr.lp_s,hb]
   simp only [m5,TS,show(((3:Nat):Int))=3 from rfl,z33,cond_false,if_true]
 | succ j ih=>
   intro k hk lo la hf hlo
   rw [show n+(j+1)+1=(n+j+1)+1 by omega,ord_s g (by omega) (by omega)]
   have hs:ax0 s (k+1)=tC s (bsC s k) (some (lo,la)):=by rw [ax0,hf]
   by_cases h0:bsC s k=0
   · rw [if_pos h0]
     refine ih (k+1) (by omega) lo la ?_ (by omega)
     rw [hs];simp [tC,h0]
   rw [if_neg h0]
   by_cases hq:bj0 s (bsC s k) lo la=true
   · rw [if_pos hq]
     refine ih (k+1) (by omega) _ _ ?_ (by omega)
     rw [hs];unfold tC;simp only [h0,if_false];exact if_pos hq
   · rw [if_neg hq]
     have:ax0 s (k+1)=none:=by rw [hs];unfold tC;simp only [h0,if_false];exact if_neg hq
     rw [axZ this (by omega)];rfl
theorem m73:Sf73 (s,())=some (runE s):=by
 show Ef73 64 s=_
 unfold Ef73 Tf73 runE
 simp only [TS]
 exact ord_k g 60 3 0 rfl 0 (-1) rfl (by omega)
theorem ors_s {k:Nat}(hk:k<3) {lo la:Int}(h:0≤lo∧lo≤3) (n:Nat):Tr.lp (m6 s) (n+1) (.k6 (k:Int) lo la)=if bsC s k=0 then Tr.lp (m6 s) n (.k6 ((k+1:Nat):Int) lo la)else if bj0 s (bsC s k) lo la=true then Tr.lp (m6 s) n (.k6 ((k+1:Nat):Int) (lo+1) (sinC (bsC s k) (batC s)))else some false:=by
 have hb:=bat9 g
 have w1:=w6lo g h
 have w2:w6 (lo+1)=lo+1:=by unfold w6;rw [cG]<;>omega
 rw [Tr.lp_s]
 have step:∀(slot:Int) (q:Int) (hs:0≤slot∧slot≤9),cond (slot==0) (Tr.lp (m6 s) n (.k6 q lo la)) (aH (pV (s,slot,())) fun r=>cond (decide (r<lo)) (some false) (cond (decide (lo+s.outs<r)) (some false) (cond (decide (r≤la)) (some false) (Tr.lp (m6 s) n (.k6 q (lo+1) r)))))=if slot=0 then Tr.lp (m6 s) n (.k6 q lo la)else if bj0 s slot lo la=true then Tr.lp (m6 s) n (.k6 q (lo+1) (sinC slot (batC s)))else some false:=by
  intro slot q hs
  by_cases h0:slot=0
  · simp [h0]
  have h0':(slot==0)=false:=beq_eq_false_iff_ne.2 h0
  rw [if_neg h0,h0',cond_false,m117 g.half (by omega) (by omega) hb.1 hb.2,obind_some]
  unfold bj0 inB
  generalize sinC slot (batC s)=r
  by_cases a1:r<lo
  · have:¬lo≤r:=by omega
    simp [a1,this]
  have a1':lo≤r:=by omega
  by_cases a2:lo+s.outs<r
  · have:¬r≤lo+s.outs:=by omega
    simp [a1,a2,this]
  have a2':r≤lo+s.outs:=by omega
  simp only [a1,a2,a1',a2',decide_true,decide_false,cond_false,Bool.and_self,Bool.true_and]
  cases decide (r≤la)<;>rfl
 have hc:k=0∨k=1∨k=2:=by omega
 rcases hc with rfl|rfl|rfl
 · rw [←step (bsC s 0) _ g.b1]
   simp only [m6,TS,w1,w2,obind_some,show(((0:Nat):Int))=0 from rfl,z03,v00,cond_true,y1];rfl
 · rw [←step (bsC s 1) _ g.b2]
   simp only [m6,TS,w1,w2,obind_some,show(((1:Nat):Int))=1 from rfl,z13,v10,v11,cond_true,cond_false,y2];rfl
 · rw [←step (bsC s 2) _ g.b3]
   simp only [m6,TS,w1,w2,obind_some,show(((2:Nat):Int))=2 from rfl,z23,v20,v21,v22,cond_true,cond_false,y3];rfl
theorem ors_k (n:Nat):∀(j k:Nat),k+j=3→∀lo la,ax0 s k=some (lo,la)→0≤lo∧lo≤k→Tr.lp (m6 s) (n+j+1) (.k6 (k:Int) lo la)=some (fitB s):=by
 intro j
 induction j with
 | zero=>
   intro k hk lo la hf _
   obtain rfl:k=3:=by omega
   have hb:fitB s=true:=by unfold fitB;rw [hf];rfl
   rw [Tr.lp_s,hb]
   simp only [m6,TS,show(((3:Nat):Int))=3 from rfl,z33,cond_false]
 | succ j ih=>
   intro k hk lo la hf hlo
   rw [show n+(j+1)+1=(n+j+1)+1 by omega,ors_s g (by omega) (by omega)]
   have hs:ax0 s (k+1)=tC s (bsC s k) (some (lo,la)):=by rw [ax0,hf]
   by_cases h0:bsC s k=0
   · rw [if_pos h0]
     refine ih (k+1) (by omega) lo la ?_ (by omega)
     rw [hs];simp [tC,h0]
   rw [if_neg h0]
   by_cases hq:bj0 s (bsC s k) lo la=true
   · rw [if_pos hq]
     refine ih (k+1) (by omega) _ _ ?_ (by omega)
     rw [hs];unfold tC;simp only [h0,if_false];exact if_pos hq
   · rw [if_neg hq]
     have:ax0 s (k+1)=none:=by rw [hs];unfold tC;simp only [h0,if_false];exact if_neg hq
     rw [axZ this (by omega)]
theorem m68:Sf68 (s,())=some (fitB s):=by
 show Ef68 64 s=_
 unfold Ef68 Tf68
 simp only [TS]
 exact ors_k g 60 3 0 rfl 0 (-1) rfl (by omega)
end
theorem ak9 {s:St}(h1:inB s.half 0 1=true) (h2:nuB s 2=true):Good s:=by
 refine ak8 ?_
 simp only [ayo,h2,Bool.and_true,axW,Bool.or_eq_true,decide_eq_true_eq]
 simp only [inB,Bool.and_eq_true,decide_eq_true_eq]at h1
 omega
theorem m60 (s:St):cK (s,(((),()),((),()),((),()),((),()),((),()),()),())=some (stE s):=by
 show cL 64 s _=_
 unfold cL cJ stE ayN
 simp only [TS,kV]
 have v30:((3:Int)==0)=false:=by decide
 have v31:((3:Int)==1)=false:=by decide
 have v32:((3:Int)==2)=false:=by decide
 have v33:((3:Int)==3)=true:=by decide
 have v40:((4:Int)==0)=false:=by decide
 have v41:((4:Int)==1)=false:=by decide
 have v42:((4:Int)==2)=false:=by decide
 have v43:((4:Int)==3)=false:=by decide
 have v44:((4:Int)==4)=true:=by decide
 have q0:decide ((0:Int)<5)=true:=by decide
 have q1:decide ((1:Int)<5)=true:=by decide
 have q2:decide ((2:Int)<5)=true:=by decide
 have q3:decide ((3:Int)<5)=true:=by decide
 have q4:decide ((4:Int)<5)=true:=by decide
 have q5:decide ((5:Int)<5)=false:=by decide
 have ne:∀ {x:Int},x≠0→(x==0)=false:=fun h=>beq_eq_false_iff_ne.2 h
 show Tr.lp _ (63+1) _=_
 rw [Tr.lp_s]
 simp only [aG,TS,m69,obind_some,q0,v00,cond_true,y1]
 by_cases h1:innE s=0
 rotate_left
 · simp [h1,ne h1]
 rw [if_pos h1,h1]
 simp only [v00,Bool.not_true,cond_false]
 rw [show(63:Nat)=62+1 from rfl,Tr.lp_s]
 simp only [aG,TS,m70,obind_some,q1,v10,v11,cond_true,cond_false,y2]
 by_cases h2:yS s=0
 rotate_left
 · simp [h2,ne h2]
 rw [if_pos h2,h2]
 simp only [v00,Bool.not_true,cond_false]
 rw [show(62:Nat)=61+1 from rfl,Tr.lp_s]
 simp only [aG,TS,m71,obind_some,q2,v20,v21,v22,cond_true,cond_false,y3]
 by_cases h3:bjT s=0
 rotate_left
 · simp [h3,ne h3]
 rw [if_pos h3,h3]
 simp only [v00,Bool.not_true,cond_false]
 rw [show(61:Nat)=60+1 from rfl,Tr.lp_s]
 simp only [aG,TS,m72,obind_some,q3,v30,v31,v32,v33,cond_true,cond_false,y4]
 by_cases h4:ayt s=0
 rotate_left
 · simp [h4,ne h4]
 rw [if_pos h4,h4]
 simp only [v00,Bool.not_true,cond_false]
 have h2':inB s.half 0 1=true:=by unfold yS at h2;split at h2<;>first|assumption|omega
 have h3':nuB s 2=true:=by unfold bjT at h3;split at h3<;>first|assumption|omega
 rw [show(60:Nat)=59+1 from rfl,Tr.lp_s]
 simp only [aG,TS,m73 (ak9 h2' h3'),obind_some,q4,v40,v41,v42,v43,v44,cond_true,cond_false,y5]
 by_cases h5:runE s=0
 rotate_left
 · simp [h5,ne h5]
 rw [if_pos h5,h5]
 simp only [v00,Bool.not_true,cond_false]
 rw [show(59:Nat)=58+1 from rfl,Tr.lp_s]
 simp only [aG,TS,q5,cond_false]
theorem m18 (s:St):Sf18 (s,())=some (stE s):=by
 show Ef18 s=_
 unfold Ef18 Tf18
 simp only [TS,m60,obind_some]
theorem m17 (s:St):Sf17 (s,())=some (stE s):=by
 show Ef17 64 s=_
 unfold Ef17 Tf17
 rw [bjN]
 simp only [TS,m64 _ _ _ (show(1:Int)≤30 by omega),m64 _ _ _ (show(0:Int)≤2 by omega),m64 _ _ _ (show(0:Int)≤3 by omega),m64 _ _ _ (show(0:Int)≤9 by omega),m64 _ _ _ (show(1:Int)≤9 by omega),m64 _ _ _ (show(0:Int)≤9999 by omega),obind_some,rg_in,rgC_z]
 cases h1:inB s.inn 1 30 with
 | false=>rfl
 | true=>
 simp only [Bool.not_true,cond_false,Bool.true_eq_false,if_false]
 have hh:(cond (!(s.half==0)) (cond (!(s.half==1)) (some (17:Int)) (Ef17J s 64 (.k29 (rgC s.outs 0 2) (rgC s.balls 0 3) (rgC s.strikes 0 2) (rgC s.b1 0 9) (rgC s.b2 0 9) (rgC s.b3 0 9) (rgC s.n0 1 9) (rgC s.c0 0 9999) (rgC s.n1 1 9) (rgC s.c1 0 9999)))) (Ef17J s 64 (.k29 (rgC s.outs 0 2) (rgC s.balls 0 3) (rgC s.strikes 0 2) (rgC s.b1 0 9) (rgC s.b2 0 9) (rgC s.b3 0 9) (rgC s.n0 1 9) (rgC s.c0 0 9999) (rgC s.n1 1 9) (rgC s.c1 0 9999))))=if inB s.half 0 1=false then some 17 else Ef17J s 64 (.k29 (rgC s.outs 0 2) (rgC s.balls 0 3) (rgC s.strikes 0 2) (rgC s.b1 0 9) (rgC s.b2 0 9) (rgC s.b3 0 9) (rgC s.n0 1 9) (rgC s.c0 0 9999) (rgC s.n1 1 9) (rgC s.c1 0 9999)):=by
  generalize Ef17J s 64 _=z
  by_cases a:s.half=0
  · simp [a,inB]
  by_cases b:s.half=1
  · simp [b,inB]
  have:inB s.half 0 1=false:=by simp [inB];omega
  have a':(s.half==0)=false:=beq_eq_false_iff_ne.2 a
  have b':(s.half==1)=false:=beq_eq_false_iff_ne.2 b
  rw [this,a',b'];rfl
 rw [hh]
 cases h2:inB s.half 0 1 with
 | false=>rfl
 | true=>
 simp only [Bool.true_eq_false,if_false]
 show Tr.lp _ (63+1) _=_
 rw [Tr.lp_s]
 simp only [bq4,TS,m65 [_,_,_,_,_,_,_,_,_,_] (by simp),obind_some]
 have hf:∀l:List Int,cE l=kV l:=by
  intro l
  induction l with
  | nil=>rfl
  | cons x l ih=>rw [cE,kV,ih];by_cases h:x=0<;>simp [h]
 rw [hf,yW (fun x hx=>by
  simp only [List.mem_cons,List.not_mem_nil,or_false]at hx
  rcases hx with rfl|rfl|rfl|rfl|rfl|rfl|rfl|rfl|rfl|rfl<;>exact rgC_or _ _ _)]
 have hn:(([rgC s.outs 0 2,rgC s.balls 0 3,rgC s.strikes 0 2,rgC s.b1 0 9,rgC s.b2 0 9,rgC s.b3 0 9,rgC s.n0 1 9,rgC s.c0 0 9999,rgC s.n1 1 9,rgC s.c1 0 9999]:List Int).all (·==0))=nuB s 2:=by
  simp only [List.all_cons,List.all_nil,rgC_z,nuB,baB,cnB,Bool.and_true,Bool.and_assoc]
 rw [hn]
 cases h3:nuB s 2 with
 | false=>rfl
 | true=>
 simp only [if_true,show((0:Int)==0)=true from rfl,Bool.not_true,cond_false,Bool.true_eq_false,if_false]
 rw [show(63:Nat)=62+1 from rfl,Tr.lp_s]
 simp only [bq4,TS,m66,m67,m68 (ak9 h2 h3),obind_some]
 cases s.over<;>cases overB s<;>cases decB s<;>cases fitB s<;>rfl
end
end Go.Ev
