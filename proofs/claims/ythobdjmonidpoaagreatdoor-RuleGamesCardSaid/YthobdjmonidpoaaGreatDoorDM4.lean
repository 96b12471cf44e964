import Derived.Test.YthobdjmonidpoaaGreatDoorDM3
set_option linter.unusedSimpArgs false
set_option linter.unusedVariables false
namespace Go.Ev
open Go.RowKit Go.Proofs
set_option maxRecDepth 100000
set_option maxHeartbeats 4000000
set_option linter.unusedSimpArgs false
noncomputable section
theorem m172 (h:List Nat) (o:Bool):Sf172 (h,o,())=some (yA o h):=by
 show Ef172 h o=_
 unfold Ef172 Tf172
 match h with
 | []=>rfl
 | [x]=>
   have e1:=m83 [102,103,99,100,107,110,121] (x:Int) (by simp)
   have e2:=m83 [98,97,115,112,107,116,111] (x:Int) (by simp)
   simp only [TS,List.getD_cons_zero,e1,e2,obind_some]
   cases o<;>rfl
 | a::b::l=>
   have:((((a::b::l).length:Nat):Int)==1)=false:=beq_eq_false_iff_ne.2 (by simp;omega)
   simp only [TS,this];rfl
theorem m173 (m:Mv) (c:Nat) (hc:m.h=[c]) (hf:0≤m.f∧m.f≤3):Sf173 (m,())=some (fitsB m.f m.t m.o c):=by
 show Ef173 m=_
 unfold Ef173 Tf173 fitsB
 have e1:=m83 [115,107] (c:Int) (by simp)
 have w1:w6 (m.f+1)=m.f+1:=by unfold w6;rw [cL]<;>omega
 simp only [TS,hc,List.getD_cons_zero,e1,obind_some,w1,List.cons.injEq,and_true]
 cases m.o with
 | false=>
   simp only [Bool.not_false,cond_true,if_pos,decide_eq_true_eq]
   cases decide (m.f<m.t)with
   | false=>rfl
   | true=>cases decide (0<m.f)<;>rfl
 | true=>
   simp only [Bool.not_true,cond_false,Bool.true_eq_false,if_false]
   by_cases h1:c=100
   · simp only [h1,decide_true,cond_true,if_true]
     cases decide (0<m.f)<;>rfl
   simp only [h1,decide_false,cond_false,if_false]
   by_cases h2:c=103
   · simp only [h2,decide_true,cond_true,if_true]
   simp only [h2,decide_false,cond_false,if_false]
   by_cases h3:c=110
   · simp only [h3,decide_true,cond_true,if_true]
     cases decide (m.f<m.t)with
     | false=>rfl
     | true=>cases decide (0<m.f)<;>rfl
   simp only [h3,decide_false,cond_false,if_false]
   by_cases h4:c=102
   · simp only [h4,decide_true,cond_true,if_true]
   simp only [h4,decide_false,cond_false,if_false]
   cases m.f==0<;>rfl
theorem rg_or (n lo hi:Int):dC n lo hi=0∨dC n lo hi=3:=by unfold dC;split<;>simp
theorem rg_z {n lo hi:Int}(h:dC n lo hi=0):lo≤n∧n≤hi:=by
 unfold dC at h
 split at h
 · cases h
 · omega
theorem m116 (m:Mv):Sf116 (m,())=some (mvE m):=by
 show Ef116 m=_
 unfold Ef116 Tf116
 simp only [TS,m64 m.f 0 3 (by omega),m64 m.t 1 4 (by omega),obind_some,m65 [_,_] (by simp),m172,m174]
 unfold mvE
 by_cases h1:dC m.f 0 3=0
 rotate_left
 · have h3:=(rg_or m.f 0 3).resolve_left h1
   simp [aqV,h3,dU]
 by_cases h2:dC m.t 1 4=0
 rotate_left
 · have h3:=(rg_or m.t 1 4).resolve_left h2
   simp [aqV,h1,h3,dU]
 have hf:=rg_z h1
 have ht:=rg_z h2
 rw [ax8 hf ht,h1,h2]
 simp only [dU,ne_eq,not_true,if_false,show((0:Int)==0)=true from rfl,Bool.not_true,cond_false]
 unfold wayR
 cases hw:yA m.o m.h with
 | false=>rfl
 | true=>
   obtain⟨c,hc⟩:∃c,m.h=[c]:=by
    match hh:m.h,hw with
    | [c],_=>exact⟨c,rfl⟩
   rw [m173 m c hc hf,hc]
   simp only [Bool.not_true,cond_false,obind_some,if_true]
   cases fitsB m.f m.t m.o c<;>rfl
theorem bqc {l:List Mv}{k:Nat}{m y:Mv}(hy:l[k]? = some y):((jC l (k+1)).any fun q=>decide (q≤m.f))=decide (y.f≤m.f):=by
 rw [qY,hy];rfl
theorem mvs_j (s:List Mv) (hl:s.length≤4):∀j n k,k+j=s.length→Tr.lp (zM s) (n+j+1) (.k8 (k:Int))=some (aja (jC s k) (s.drop k)):=by
 intro j
 induction j with
 | zero=>
   intro n k hk
   rw [Tr.lp_s]
   simp only [zM,TS,yP (show ¬k<s.length by omega),cond_false,List.drop_eq_nil_of_le (show s.length≤k by omega)]
   unfold aja;rfl
 | succ j ih=>
   intro n k hk
   have hlt:k<s.length:=by omega
   obtain⟨x,hx⟩:=mF hlt
   have hn:=ih n (k+1) (by omega)
   rw [Tr.lp_s,xS hx]
   simp only [zM,TS,yO hlt,oX hlt,cond_true,Int.toNat_natCast,aW hx,w6s (show k<9223372036854775807 by omega),m216,obind_some]
   rw [show n+(j+1)=n+j+1 by omega,hn]
   by_cases he:mvE x=0
   rotate_left
   · have:(mvE x==0)=false:=beq_eq_false_iff_ne.2 he
     simp [he,this]
   simp only [he,show((0:Int)==0)=true from rfl,Bool.not_true,cond_false,ne_eq,not_true,if_false]
   cases k with
   | zero=>simp [jC]
   | succ k=>
     obtain⟨y,hy⟩:=mF (show k<s.length by omega)
     have c1:decide ((0:Int)<((k+1:Nat):Int))=true:=by rw [decide_eq_true_eq];omega
     simp only [c1,cond_true,w6p (show k<9223372036854775807 by omega),oX (show k<s.length by omega),Int.toNat_natCast,aW hy,bqc hy]
     cases decide (y.f≤x.f)<;>rfl
theorem m195 (s:List Mv):Sf195 (s,())=some (aB s):=by
 show Ef195 (s.length+64) s=_
 unfold Ef195 Tf195 aB
 simp only [TS]
 by_cases h:4<s.length
 · have c1:decide (4<((s.length:Nat):Int))=true:=by rw [decide_eq_true_eq];omega
   rw [c1,cond_true,if_pos h]
 · have c1:decide (4<((s.length:Nat):Int))=false:=by rw [decide_eq_false_iff_not];omega
   have:=mvs_j s (by omega) s.length 63 0 (by omega)
   rw [List.drop_zero,nc0]at this
   rw [c1,cond_false,if_neg h,fu];exact this
theorem mvs2_j (p:Pl) (hl:p.m.length≤4):∀j n k,k+j=p.m.length→Tr.lp (axy p) (n+j+1) (.k18 (k:Int))=some (aja (jC p.m k) (p.m.drop k)):=by
 intro j
 induction j with
 | zero=>
   intro n k hk
   rw [Tr.lp_s]
   simp only [axy,TS,yP (show ¬k<p.m.length by omega),cond_false,List.drop_eq_nil_of_le (show p.m.length≤k by omega)]
   unfold aja;rfl
 | succ j ih=>
   intro n k hk
   have hlt:k<p.m.length:=by omega
   obtain⟨x,hx⟩:=mF hlt
   have hn:=ih n (k+1) (by omega)
   rw [Tr.lp_s,xS hx]
   simp only [axy,TS,yO hlt,oX hlt,cond_true,Int.toNat_natCast,aW hx,w6s (show k<9223372036854775807 by omega),m116,obind_some]
   rw [show n+(j+1)=n+j+1 by omega,hn]
   by_cases he:mvE x=0
   rotate_left
   · have:(mvE x==0)=false:=beq_eq_false_iff_ne.2 he
     simp [he,this]
   simp only [he,show((0:Int)==0)=true from rfl,Bool.not_true,cond_false,ne_eq,not_true,if_false]
   cases k with
   | zero=>simp [jC]
   | succ k=>
     obtain⟨y,hy⟩:=mF (show k<p.m.length by omega)
     have c1:decide ((0:Int)<((k+1:Nat):Int))=true:=by rw [decide_eq_true_eq];omega
     simp only [c1,cond_true,w6p (show k<9223372036854775807 by omega),oX (show k<p.m.length by omega),Int.toNat_natCast,aW hy,bqc hy]
     cases decide (y.f≤x.f)<;>rfl
theorem m142 (p:Pl) (h1:a7 p.p=true) (h2:a7 p.e=true):Sf142 (p,())=some (playE p.p p.e p.m):=by
 show Ef142 p=_
 unfold Ef142 Tf142 playE
 simp only [TS,m193 p.p h1,m194 p.e h2,m195,obind_some,m192 [_,_,_] (by simp)]
theorem m58 (p:Pl):Sf58 (p,())=some (playE p.p p.e p.m):=by
 show Ef58 (p.m.length+64) p=_
 unfold Ef58 Tf58 playE
 simp only [TS,m114,m115,obind_some,dU]
 by_cases h1:lV p.p=0
 rotate_left
 · have:(lV p.p==0)=false:=beq_eq_false_iff_ne.2 h1
   simp [h1,this]
 simp only [h1,show((0:Int)==0)=true from rfl,Bool.not_true,cond_false,ne_eq,not_true,if_false]
 unfold rE aB
 cases(decide (p.e=[])||isEv p.e)with
 | false=>rfl
 | true=>
   simp only [Bool.not_true,cond_false,if_true,not_true,if_false]
   by_cases h:4<p.m.length
   · have c1:decide (4<((p.m.length:Nat):Int))=true:=by rw [decide_eq_true_eq];omega
     rw [c1,cond_true,if_pos h];rfl
   · have c1:decide (4<((p.m.length:Nat):Int))=false:=by rw [decide_eq_false_iff_not];omega
     have:=mvs2_j p (by omega) p.m.length 63 0 (by omega)
     rw [List.drop_zero,nc0,show jC p.m 0=none from rfl]at this
     rw [c1,cond_false,if_neg h,fu]
     refine(show Tr.lp (axy p) _ _=_ from this).trans ?_
     split<;>simp_all
end
end Go.Ev
