import Derived.Test.YtkhmgggponmimaaGreatDoorDM6
set_option linter.unusedSimpArgs false
set_option linter.unusedVariables false
namespace Go.Ev
open Go.RowKit Go.Proofs
set_option maxRecDepth 100000
set_option maxHeartbeats 4000000
set_option linter.unusedSimpArgs false
noncomputable section
theorem jM {c0 c:Cnt}{d:Bool}{l:List Nat}{k x:Nat}(h:cnt c0 false (l.take k)=.inl (c,d)) (hx:l[k]? = some x) (hd:d=true∨isP x=false):cnt c0 false l=.inr k:=by
 obtain⟨hk,rfl⟩:=List.getElem?_eq_some_iff.1 hx
 have e:=t9 c0 false (l.take k) (l.drop k)
 rw [List.take_append_drop,h]at e
 rw [List.drop_eq_getElem_cons hk]at e
 have hb:(d||!isP l[k])=true:=by rcases hd with rfl|hd<;>simp [*]
 simp only [cnt,hb,if_true]at e
 rw [e,List.length_take]
 congr 1
 omega
theorem wF {c0 c:Cnt}{l:List Nat}{k x:Nat}(h:cnt c0 false (l.take k)=.inl (c,false)) (hx:l[k]? = some x) (hd:isP x=true):cnt c0 false (l.take (k+1))=.inl (stepC c x,doneC c x):=by
 rw [List.take_add_one,hx,t9,h]
 simp [cnt,hd]
set_option maxHeartbeats 8000000 in
abbrev CntR:=(Int×Int×Unit)×Int×Int×Unit
def cntQ (r:(Cnt×Bool) ⊕ Nat):CntR:=match r with
 | .inl (c',_)=>((c'.1,c'.2,()),0,0,())
 | .inr k=>((0,0,()),(k:Nat),14,())
def axo (b s:Int) (l:List Nat):CntR:=if(0≤b∧b≤3)∧(0≤s∧s≤2)then(if l.length≤24 then cntQ (cnt (b,s) false l)else((0,0,()),0,5,()))else((0,0,()),0,3,())
theorem m138 {c:Cnt}{x:Nat}(h:okC c false):Sf138 ((c.1,c.2,()),((x:Nat):Int),())=some ((stepC c x).1,(stepC c x).2,()):=by
 show Ef138 _ _=_
 unfold Ef138 Tf138 stepC
 obtain⟨o1,o2,o3,o4,o5⟩:=h
 have o5:=o5 rfl
 have w1:w6 (c.1+1)=c.1+1:=by unfold w6;rw [b7]<;>omega
 have w2:w6 (c.2+1)=c.2+1:=by unfold w6;rw [b7]<;>omega
 have q66:(((x:Nat):Int)==66)=(x==66):=nbeq x 66
 have q67:(((x:Nat):Int)==67)=(x==67):=nbeq x 67
 have q83:(((x:Nat):Int)==83)=(x==83):=nbeq x 83
 have q70:(((x:Nat):Int)==70)=(x==70):=nbeq x 70
 simp only [TS,q66,q67,q83,q70,w1,w2]
 by_cases h1:x=66
 · simp [h1]
 by_cases h2:x=67
 · simp [h2]
 by_cases h3:x=83
 · simp [h3]
 have n1:(x==66)=false:=beq_eq_false_iff_ne.2 h1
 have n2:(x==67)=false:=beq_eq_false_iff_ne.2 h2
 have n3:(x==83)=false:=beq_eq_false_iff_ne.2 h3
 simp only [n1,n2,n3,cond_false,if_neg h1,h2,h3,or_self,if_false]
 by_cases h4:x=70
 · simp only [h4,beq_self_eq_true,cond_true,if_true]
   by_cases h5:c.2<2<;>simp [h5]
 · have n4:(x==70)=false:=beq_eq_false_iff_ne.2 h4
   simp only [n4,cond_false,if_neg h4]
theorem j81 (b s:Int) (l:List Nat) (hl:l.length≤24) (hb:aS l=true) (hin:(0≤b∧b≤3)∧(0≤s∧s≤2)):∀n k x2 x5 x3,k≤l.length→l.length<n+k→cnt (b,s) false (l.take k)=.inl ((x2,x5),x3) →
  Tr.lp (ayd b s l) n (.k14 x3 x2 x5 k)=some (cntQ (cnt (b,s) false l)):=by
 intro n
 induction n with
 | zero=>intro k x2 x5 x3 h1 h2;omega
 | succ n ih=>
   intro k x2 x5 x3 h1 h2 hc
   rw [Tr.lp_s]
   simp only [ayd,TS]
   have hok:okC (x2,x5) x3:=cnt_ok (c:=(b,s)) (d:=false) (by simp only [okC];omega) hc
   by_cases hlt:k<l.length
   rotate_left
   · obtain rfl:k=l.length:=by omega
     rw [List.take_length]at hc
     rw [hc,blt_f hlt];rfl
   obtain⟨y,hy⟩:=aqm hlt
   simp only [blt_t hlt,cond_true]
   cases x3 with
   | true=>rw [jM hc hy (.inl rfl)];rfl
   | false=>
   simp only [cond_false,m137,obind_some]
   by_cases hy8:y<128
   rotate_left
   · have hp:=mA (aj3 hb hy hy8)
     rw [hp,jM hc hy (.inr (mA (by omega)))];rfl
   rw [aj2 hy hy8]
   cases hp:isP y with
   | false=>rw [jM hc hy (.inr hp)];rfl
   | true=>
   have hstep:=wF hc hy hp
   have hm:=m138 (x:=y) hok
   simp only [Bool.not_true,cond_false,hm,obind_some,m139]
   have ih':=fun x2 x5 x3 h=>ih (k+1) x2 x5 x3 hlt (by omega) h
   by_cases e1:(stepC (x2,x5) y).1=4
   · have b1:((stepC (x2,x5) y).1==4)=true:=by rw [e1];rfl
     simp only [b1,cond_true]
     exact ih' _ _ _ (by rw [hstep,show doneC (x2,x5) y=true by simp [doneC,full,e1]])
   have n1:((stepC (x2,x5) y).1==4)=false:=beq_eq_false_iff_ne.2 e1
   by_cases e2:(stepC (x2,x5) y).2=3
   · have b2:((stepC (x2,x5) y).2==3)=true:=by rw [e2];rfl
     simp only [n1,b2,cond_true,cond_false]
     exact ih' _ _ _ (by rw [hstep,show doneC (x2,x5) y=true by simp [doneC,full,e2]])
   have n2:((stepC (x2,x5) y).2==3)=false:=beq_eq_false_iff_ne.2 e2
   simp only [n1,n2,cond_false]
   exact ih' _ _ _ (by rw [hstep,show doneC (x2,x5) y=lastP y by simp [doneC,full,e1,e2]])
theorem m81 (b s:Int) (l:List Nat) (hb:aS l=true):Sf81 (b,s,l,())=some (axo b s l):=by
 show Ef81 (l.length+64) b s l=_
 unfold Ef81 Tf81 axo
 simp only [TS,m136,obind_some]
 by_cases h1:0≤b∧b≤3
 rotate_left
 · have:withinB b 0 3=false:=by simp [withinB];omega
   rw [this,if_neg (fun h=>h1 h.1)];rfl
 by_cases h2:0≤s∧s≤2
 rotate_left
 · have e1:withinB b 0 3=true:=by simp [withinB];omega
   have:withinB s 0 2=false:=by simp [withinB];omega
   rw [this,e1,if_neg (fun h=>h2 h.2)];rfl
 have e1:withinB b 0 3=true:=by simp [withinB];omega
 have e2:withinB s 0 2=true:=by simp [withinB];omega
 simp only [e1,e2,Bool.not_true,cond_false,if_pos (show(0≤b∧b≤3)∧(0≤s∧s≤2)from⟨h1,h2⟩)]
 by_cases hl:l.length≤24
 · have a5:decide ((24:Int)<((l.length:Nat):Int))=false:=by simp;omega
   simp only [a5,cond_false,if_pos hl]
   exact j81 b s l hl hb ⟨h1,h2⟩ (l.length+64) 0 b s false (Nat.zero_le _) (by omega) (by simp [cnt])
 · have a5:decide ((24:Int)<((l.length:Nat):Int))=true:=by simp;omega
   simp only [a5,cond_true,if_neg hl]
end
end Go.Ev
