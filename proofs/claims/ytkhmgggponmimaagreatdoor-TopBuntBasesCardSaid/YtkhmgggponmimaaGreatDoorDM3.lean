import Derived.Test.YtkhmgggponmimaaGreatDoorDM2
set_option linter.unusedSimpArgs false
set_option linter.unusedVariables false
namespace Go.Ev
open Go.RowKit Go.Proofs
set_option maxRecDepth 100000
set_option maxHeartbeats 4000000
set_option linter.unusedSimpArgs false
noncomputable section
theorem way_j (o:Bool) (h:List Nat) (n:Nat):Tr.lp (axF o h) (n+15) .k4_0=some (wyV o h):=by
 rw [show n+15=n+14+1 from rfl]
 simp only [Tr.lp_s,axF,TS,wyV,findL,wayT,List.find?_cons,List.find?_nil]
 cases o<;>simp only [Bool.false_eq_true,Bool.true_eq_false,beq_self_eq_true,cond_true,cond_false,Bool.true_and,Bool.false_and,show(false==true)=false from rfl,show(true==false)=false from rfl]
 · cases decide ([98]=h)with
   | true=>rfl
   | false=>
   cases decide ([97]=h)with
   | true=>rfl
   | false=>
   cases decide ([115]=h)with
   | true=>rfl
   | false=>
   cases decide ([112]=h)with
   | true=>rfl
   | false=>
   cases decide ([107]=h)with
   | true=>rfl
   | false=>
   cases decide ([116]=h)with
   | true=>rfl
   | false=>
   cases decide ([111]=h)with
   | true=>rfl
   | false=>
   rfl
 · cases decide ([102]=h)with
   | true=>rfl
   | false=>
   cases decide ([103]=h)with
   | true=>rfl
   | false=>
   cases decide ([99]=h)with
   | true=>rfl
   | false=>
   cases decide ([100]=h)with
   | true=>rfl
   | false=>
   cases decide ([107]=h)with
   | true=>rfl
   | false=>
   cases decide ([110]=h)with
   | true=>rfl
   | false=>
   cases decide ([121]=h)with
   | true=>rfl
   | false=>
   rfl
theorem m247 (o:Bool) (h:List Nat):Sf247 (o,h,())=some (wyV o h):=by
 show Ef247 (h.length+64) o h=_
 unfold Ef247 Tf247
 simp only [TS]
 rw [show h.length+64=(h.length+49)+15 by omega];exact way_j o h _
theorem m248 (r f t:Int):ayn (r,f,t,())=some (reachB r f t):=by
 show Ef248 r f t=_
 unfold Ef248 Tf248 reachB
 simp only [TS]
 by_cases h1:r=1
 · simp [h1]
 have n1:(r==1)=false:=by simpa using h1
 rw [n1,cond_false,if_neg h1]
 by_cases h2:r=2
 · simp [h2,w6]
 have n2:(r==2)=false:=by simpa using h2
 rw [n2,cond_false,if_neg h2]
 by_cases h3:r=3
 · simp [h3]
 have n3:(r==3)=false:=by simpa using h3
 rw [n3,cond_false,if_neg h3]
 by_cases h4:r=4
 · simp [h4]
 have n4:(r==4)=false:=by simpa using h4
 rw [n4,cond_false,if_neg h4]
theorem m236 (m:Mv):Sf236 (m,())=some (wayE m.f m.t m.o m.h):=by
 show Ef236 m=_
 unfold Ef236 Tf236 wayE
 simp only [TS,m247,m248,obind_some,wyV]
 cases findL m.o m.h wayT with
 | none=>rfl
 | some w=>
   by_cases h:m.f=0
   · simp only [h,Bool.not_true,cond_false,if_pos,show((0:Int)==0)=true from rfl,cond_true]
     cases reachB w.2.2.1 0 m.t<;>rfl
   · have h0:(m.f==0)=false:=by simp [h]
     simp only [h0,Bool.not_true,cond_false,if_neg h]
     cases reachB w.2.2.2 m.f m.t<;>rfl
theorem bef_eq {b:List Int}{k:Nat}{x y:Int}(hy:b[k]? = some y):decide (before b (k+1)=some x)=(x==y):=by
 rw [rX,hy]
 by_cases h:x=y
 · simp [h]
 · have:¬y=x:=fun e=>h e.symm
   simp [h,this]
theorem tch_j (m:Mv) (hl:m.b.length≤9):∀j n k,k+j=m.b.length→Tr.lp (zK m) (n+j+1) (.k8 (k:Int))=some (if mY (before m.b k) (m.b.drop k)=true then 0 else 16):=by
 intro j
 induction j with
 | zero=>
   intro n k hk
   rw [Tr.lp_s]
   simp only [zK,TS,dlt_f (show ¬k<m.b.length by omega),cond_false,List.drop_eq_nil_of_le (show m.b.length≤k by omega)]
   unfold mY;rfl
 | succ j ih=>
   intro n k hk
   have hlt:k<m.b.length:=by omega
   obtain⟨x,hx⟩:=aqm hlt
   have hn:=ih n (k+1) (by omega)
   rw [Tr.lp_s,xA hx]
   simp only [zK,TS,dlt_t hlt,avk hlt,cond_true,Int.toNat_natCast,a7 hx,w6s (show k<9223372036854775807 by omega),m136,obind_some]
   rw [show n+(j+1)=n+j+1 by omega,hn]
   cases hw:withinB x 1 9 with
   | false=>rfl
   | true=>
     cases k with
     | zero=>
       simp [before]
     | succ k=>
       obtain⟨y,hy⟩:=aqm (show k<m.b.length by omega)
       have c1:decide ((0:Int)<((k+1:Nat):Int))=true:=by rw [decide_eq_true_eq];omega
       simp only [c1,cond_true,w6p (show k<9223372036854775807 by omega),avk (show k<m.b.length by omega),Int.toNat_natCast,a7 hy,bef_eq hy,Bool.not_true,cond_false,Bool.true_and]
       cases x==y<;>rfl
theorem m237 (m:Mv):Sf237 (m,())=some (az4 m.o m.b):=by
 show Ef237 (64) m=_
 unfold Ef237 Tf237 az4
 simp only [TS]
 by_cases h:9<m.b.length
 · have c1:decide (9<((m.b.length:Nat):Int))=true:=by simp;omega
   simp only [c1,cond_true,if_pos (Or.inl h)]
 have c1:decide (9<((m.b.length:Nat):Int))=false:=by simp;omega
 have:=tch_j m (by omega) m.b.length (63-m.b.length) 0 (by omega)
 rw [List.drop_zero,nc0,show before m.b 0=none from rfl,show 63-m.b.length+m.b.length+1=64 by omega]at this
 simp only [c1,cond_false]
 by_cases h0:m.o=true∧m.b.length=0
 · have c2:(((m.b.length:Nat):Int)==0)=true:=by simp [h0.2]
   simp only [h0.1,c2,cond_true,if_pos (Or.inr h0)]
   rw [if_pos (by right;exact⟨trivial,h0.2⟩)]
 · rw [if_neg (fun q=>q.elim h h0)]
   cases ho:m.o with
   | false=>rw [cond_false];exact this
   | true=>
     have c2:(((m.b.length:Nat):Int)==0)=false:=by
      have:m.b.length≠0:=fun e=>h0 ⟨ho,e⟩
      exact beq_eq_false_iff_ne.2 (by omega)
     simp only [c2,cond_true,cond_false];exact this
theorem fst_j (s:List Int) (hl:s.length<9223372036854775807):∀j n k,k+j=s.length→Tr.lp (zM s) (n+j+1) (.k4 (k:Int))=some (jF (s.drop k)):=by
 intro j
 induction j with
 | zero=>
   intro n k hk
   rw [Tr.lp_s]
   simp only [zM,TS,dlt_f (show ¬k<s.length by omega),cond_false,List.drop_eq_nil_of_le (show s.length≤k by omega)];rfl
 | succ j ih=>
   intro n k hk
   have hlt:k<s.length:=by omega
   obtain⟨x,hx⟩:=aqm hlt
   have hn:=ih n (k+1) (by omega)
   rw [Tr.lp_s,aqW hx]
   simp only [zM,TS,dlt_t hlt,avk hlt,cond_true,Int.toNat_natCast,a7 hx,w6s (show k<9223372036854775807 by omega)]
   rw [show n+(j+1)=n+j+1 by omega,hn]
   by_cases h:x=0
   · simp [h]
   · have:(x==0)=false:=by simpa using h
     simp [h,this]
theorem m192 (s:List Int) (hl:s.length<9223372036854775807):ayp (s,())=some (jF s):=by
 show Ef192 (s.length+64) s=_
 unfold Ef192 Tf192
 simp only [TS]
 have:=fst_j s hl s.length 63 0 (by omega)
 rw [List.drop_zero,nc0]at this
 rw [fu];exact this
theorem m216 (m:Mv):Sf216 (m,())=some (mvE m):=by
 show Ef216 m=_
 unfold Ef216 Tf216 mvE moveE
 simp only [TS,m234,m235,m236,m237,obind_some,m192 [_,_,_,_] (by simp)]
end
end Go.Ev
