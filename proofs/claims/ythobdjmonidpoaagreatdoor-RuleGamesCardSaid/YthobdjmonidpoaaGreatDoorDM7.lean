import Derived.Test.YthobdjmonidpoaaGreatDoorDM6
set_option linter.unusedSimpArgs false
set_option linter.unusedVariables false
namespace Go.Ev
open Go.RowKit Go.Proofs
set_option maxRecDepth 100000
set_option maxHeartbeats 4000000
set_option linter.unusedSimpArgs false
noncomputable section
theorem d9 {c0 c:Cnt}{d:Bool}{l:List Nat}{k x:Nat}(h:cnt c0 false (l.take k)=.inl (c,d)) (hx:l[k]? = some x) (hd:d=true∨isP x=false):cnt c0 false l=.inr k:=by
 obtain⟨hk,rfl⟩:=List.getElem?_eq_some_iff.1 hx
 have e:=uA c0 false (l.take k) (l.drop k)
 rw [List.take_append_drop,h]at e
 rw [List.drop_eq_getElem_cons hk]at e
 have hb:(d||!isP l[k])=true:=by rcases hd with rfl|hd<;>simp [*]
 simp only [cnt,hb,if_true]at e
 rw [e,List.length_take]
 congr 1
 omega
theorem mA {c0 c:Cnt}{l:List Nat}{k x:Nat}(h:cnt c0 false (l.take k)=.inl (c,false)) (hx:l[k]? = some x) (hd:isP x=true):cnt c0 false (l.take (k+1))=.inl (stepC c x,doneC c x):=by
 rw [List.take_add_one,hx,uA,h]
 simp [cnt,hd]
set_option maxHeartbeats 8000000 in
abbrev CntR:=(Int×Int×Unit)×Int×Int×Unit
def bqk (r:(Cnt×Bool) ⊕ Nat):CntR:=match r with
 | .inl (c',_)=>((c'.1,c'.2,()),0,0,())
 | .inr k=>((0,0,()),(k:Nat),14,())
def yY (b s:Int) (l:List Nat):CntR:=if(0≤b∧b≤3)∧(0≤s∧s≤2)then(if l.length≤24 then bqk (cnt (b,s) false l)else((0,0,()),0,5,()))else((0,0,()),0,3,())
theorem j29 (b s:Int) (l:List Nat) (hl:l.length≤24) (hin:(0≤b∧b≤3)∧(0≤s∧s≤2)):∀n k x2 x5 x3,k≤l.length→l.length<n+k→cnt (b,s) false (l.take k)=.inl ((x2,x5),x3) →
  Tr.lp (ayf b s l) n (.k14 x2 x3 (k:Int) x5)=some (bqk (cnt (b,s) false l)):=by
 intro n
 induction n with
 | zero=>intro k x2 x5 x3 h1 h2;omega
 | succ n ih=>
   intro k x2 x5 x3 h1 h2 hc
   rw [Tr.lp_s]
   simp only [ayf,TS]
   have hok:okC (x2,x5) x3:=bqj (c:=(b,s)) (d:=false) (by simp only [okC];omega) hc
   by_cases hlt:k<l.length
   rotate_left
   · obtain rfl:k=l.length:=by omega
     rw [List.take_length]at hc
     rw [hc]
     have c1:decide ((l.length:Int)<((l.length:Nat):Int))=false:=by simp
     simp only [c1,cond_false,bqk]
   obtain⟨y,hy⟩:∃y,l[k]? = some y:=⟨l[k],List.getElem?_eq_getElem hlt⟩
   have c1:decide ((k:Int)<((l.length:Nat):Int))=true:=by simp;omega
   have c2:inR (k:Int) l.length=true:=fE (by omega) (by omega)
   have hS:az0 ([66,67,83,70,88,72],((y:Nat):Int),())=some (isP y):=m83P y
   have w4:w6 ((k:Int)+1)=((k+1:Nat):Int):=by unfold w6;rw [cL]<;>omega
   simp only [c1,c2,cond_true,Int.toNat_natCast,aW hy,hS,obind_some]
   cases hp:isP y with
   | false=>
     rw [d9 hc hy (.inr hp)]
     simp only [Bool.not_false,cond_true,bqk]
   | true=>
   cases x3 with
   | true=>
     rw [d9 hc hy (.inl rfl)]
     simp only [Bool.not_true,cond_false,cond_true,bqk]
   | false=>
   have hstep:=mA hc hy hp
   have ih':=fun x2 x5 x3 h=>ih (k+1) x2 x5 x3 hlt (by omega) h
   obtain⟨o1,o2,o3,o4,o5⟩:=hok
   have o5:=o5 rfl
   simp only at o1 o2 o3 o4 o5
   have w2:w6 (x2+1)=x2+1:=by unfold w6;rw [cL]<;>omega
   have w5:w6 (x5+1)=x5+1:=by unfold w6;rw [cL]<;>omega
   have n24:(x2==(4:Int))=false:=by simp;omega
   have n53:(x5==(3:Int))=false:=by simp;omega
   simp only [Bool.not_true,cond_false,w4,w2,w5,n24,n53]
   have q (m:Nat):(((y:Nat):Int)==((m:Nat):Int))=decide (y=m):=by rw [Bool.eq_iff_iff];simp;omega
   have q66:(((y:Nat):Int)==(66:Int))=decide (y=66):=q 66
   have q67:(((y:Nat):Int)==(67:Int))=decide (y=67):=q 67
   have q83:(((y:Nat):Int)==(83:Int))=decide (y=83):=q 83
   have q70:(((y:Nat):Int)==(70:Int))=decide (y=70):=q 70
   have q88:(((y:Nat):Int)==(88:Int))=decide (y=88):=q 88
   have q72:(((y:Nat):Int)==(72:Int))=decide (y=72):=q 72
   simp only [q66,q67,q83,q70]
   by_cases e66:y=66
   · subst e66
     simp only [decide_true,cond_true]
     have:stepC (x2,x5) 66=(x2+1,x5):=by simp [stepC]
     rw [this]at hstep
     by_cases h4:x2+1=4
     · have c3:(x2+1==(4:Int))=true:=by simpa using h4
       simp only [c3,cond_true]
       exact ih' _ _ _ (by rw [hstep];simp [doneC,full,stepC,h4])
     · have c3:(x2+1==(4:Int))=false:=by simpa using h4
       simp only [c3,cond_false]
       exact ih' _ _ _ (by rw [hstep];simp [doneC,full,stepC,h4,lastP];omega)
   have d66:decide (y=66)=false:=by simpa using e66
   simp only [d66,cond_false]
   by_cases e67:y=67
   · subst e67
     simp only [decide_true,cond_true]
     have:stepC (x2,x5) 67=(x2,x5+1):=by simp [stepC]
     rw [this]at hstep
     exact ih' _ _ _ (by rw [hstep];simp [doneC,full,stepC,lastP];omega)
   have d67:decide (y=67)=false:=by simpa using e67
   simp only [d67,cond_false]
   by_cases e83:y=83
   · subst e83
     simp only [decide_true,cond_true]
     have:stepC (x2,x5) 83=(x2,x5+1):=by simp [stepC]
     rw [this]at hstep
     exact ih' _ _ _ (by rw [hstep];simp [doneC,full,stepC,lastP];omega)
   have d83:decide (y=83)=false:=by simpa using e83
   simp only [d83,cond_false]
   by_cases e70:y=70
   · subst e70
     simp only [decide_true,cond_true]
     by_cases h5:x5<2
     · have a1:decide ((2:Int)<x5+1)=false:=by simp;omega
       have a2:decide (x5<x5+1)=true:=by simp;omega
       simp only [a1,a2,cond_false,cond_true]
       have:stepC (x2,x5) 70=(x2,x5+1):=by simp [stepC,h5]
       rw [this]at hstep
       exact ih' _ _ _ (by rw [hstep];simp [doneC,full,stepC,lastP,h5];omega)
     · have a1:decide ((2:Int)<x5+1)=true:=by simp;omega
       have a2:decide (x5<(2:Int))=false:=by simp;omega
       simp only [a1,a2,cond_false,cond_true]
       have:stepC (x2,x5) 70=(x2,x5):=by simp [stepC,h5]
       rw [this]at hstep
       have a3:(x5==(3:Int))=false:=by simp;omega
       simp only [a3]
       exact ih' _ _ _ (by rw [hstep];simp [doneC,full,stepC,lastP,h5];omega)
   have d70:decide (y=70)=false:=by simpa using e70
   simp only [d70,cond_false]
   have:stepC (x2,x5) y=(x2,x5):=by simp [stepC,e66,e67,e83,e70]
   rw [this]at hstep
   exact ih' _ _ _ (by
    rw [hstep]
    have h8:y=88∨y=72:=by
     simp only [isP,Bool.or_eq_true,beq_iff_eq]at hp
     omega
    simp only [doneC,this,full]
    rcases h8 with rfl|rfl<;>simp [lastP])
theorem m29 (b s:Int) (l:List Nat):Sf29 (b,s,l,())=some (yY b s l):=by
 show Ef29 (l.length+64) b s l=_
 unfold Ef29 Tf29 yY
 simp only [TS]
 by_cases hin:(0≤b∧b≤3)∧(0≤s∧s≤2)
 · have a1:decide (b<(0:Int))=false:=by simp;omega
   have a2:decide ((3:Int)<b)=false:=by simp;omega
   have a3:decide (s<(0:Int))=false:=by simp;omega
   have a4:decide ((2:Int)<s)=false:=by simp;omega
   simp only [a1,a2,a3,a4,cond_false,if_pos hin]
   by_cases hl:l.length≤24
   · have a5:decide ((24:Int)<((l.length:Nat):Int))=false:=by simp;omega
     simp only [a5,cond_false,if_pos hl]
     exact j29 b s l hl hin (l.length+64) 0 b s false (Nat.zero_le _) (by omega) (by simp [cnt])
   · have a5:decide ((24:Int)<((l.length:Nat):Int))=true:=by simp;omega
     simp only [a5,cond_true,if_neg hl]
 · rw [if_neg hin]
   by_cases k1:b<0
   · simp [k1]
   by_cases k2:3<b
   · simp [k1,k2]
   by_cases k3:s<0
   · simp [k1,k2,k3]
   by_cases k4:2<s
   · simp [k1,k2,k3,k4]
   · exact absurd ⟨⟨by omega,by omega⟩,by omega,by omega⟩ hin
theorem m138 {c:Cnt}{x:Nat}(h:okC c false):Sf138 ((c.1,c.2,()),((x:Nat):Int),())=some ((stepC c x).1,(stepC c x).2,()):=by
 show Ef138 _ _=_
 unfold Ef138 Tf138 stepC
 obtain⟨o1,o2,o3,o4,o5⟩:=h
 have o5:=o5 rfl
 have w1:w6 (c.1+1)=c.1+1:=by unfold w6;rw [cL]<;>omega
 have w2:w6 (c.2+1)=c.2+1:=by unfold w6;rw [cL]<;>omega
 have q66:(((x:Nat):Int)==66)=(x==66):=nbeq x 66
 have q67:(((x:Nat):Int)==67)=(x==67):=nbeq x 67
 have q83:(((x:Nat):Int)==83)=(x==83):=nbeq x 83
 have q70:(((x:Nat):Int)==70)=(x==70):=nbeq x 70
 simp only [TS,q66,q67,q83,q70,w1,w2]
 by_cases h1:x=66
 · simp [h1]
 by_cases h2:x=67
 · simp [h2]
 by_cases h3:x=83
 · simp [h3]
 have n1:(x==66)=false:=beq_eq_false_iff_ne.2 h1
 have n2:(x==67)=false:=beq_eq_false_iff_ne.2 h2
 have n3:(x==83)=false:=beq_eq_false_iff_ne.2 h3
 simp only [n1,n2,n3,cond_false,if_neg h1,h2,h3,or_self,if_false]
 by_cases h4:x=70
 · simp only [h4,beq_self_eq_true,cond_true,if_true]
   by_cases h5:c.2<2<;>simp [h5]
 · have n4:(x==70)=false:=beq_eq_false_iff_ne.2 h4
   simp only [n4,cond_false,if_neg h4]
theorem j81 (b s:Int) (l:List Nat) (hl:l.length≤24) (hb:a7 l=true) (hin:(0≤b∧b≤3)∧(0≤s∧s≤2)):∀n k x2 x5 x3,k≤l.length→l.length<n+k→cnt (b,s) false (l.take k)=.inl ((x2,x5),x3) →
  Tr.lp (ayd b s l) n (.k14 x3 x2 x5 k)=some (bqk (cnt (b,s) false l)):=by
 intro n
 induction n with
 | zero=>intro k x2 x5 x3 h1 h2;omega
 | succ n ih=>
   intro k x2 x5 x3 h1 h2 hc
   rw [Tr.lp_s]
   simp only [ayd,TS]
   have hok:okC (x2,x5) x3:=bqj (c:=(b,s)) (d:=false) (by simp only [okC];omega) hc
   by_cases hlt:k<l.length
   rotate_left
   · obtain rfl:k=l.length:=by omega
     rw [List.take_length]at hc
     rw [hc,blt_f hlt];rfl
   obtain⟨y,hy⟩:=mF hlt
   simp only [blt_t hlt,cond_true]
   cases x3 with
   | true=>rw [d9 hc hy (.inl rfl)];rfl
   | false=>
   simp only [cond_false,m137,obind_some]
   by_cases hy8:y<128
   rotate_left
   · have hp:=l5 (aj7 hb hy hy8)
     rw [hp,d9 hc hy (.inr (l5 (by omega)))];rfl
   rw [aj6 hy hy8]
   cases hp:isP y with
   | false=>rw [d9 hc hy (.inr hp)];rfl
   | true=>
   have hstep:=mA hc hy hp
   have hm:=m138 (x:=y) hok
   simp only [Bool.not_true,cond_false,hm,obind_some,m139]
   have ih':=fun x2 x5 x3 h=>ih (k+1) x2 x5 x3 hlt (by omega) h
   by_cases e1:(stepC (x2,x5) y).1=4
   · have b1:((stepC (x2,x5) y).1==4)=true:=by rw [e1];rfl
     simp only [b1,cond_true]
     exact ih' _ _ _ (by rw [hstep,show doneC (x2,x5) y=true by simp [doneC,full,e1]])
   have n1:((stepC (x2,x5) y).1==4)=false:=beq_eq_false_iff_ne.2 e1
   by_cases e2:(stepC (x2,x5) y).2=3
   · have b2:((stepC (x2,x5) y).2==3)=true:=by rw [e2];rfl
     simp only [n1,b2,cond_true,cond_false]
     exact ih' _ _ _ (by rw [hstep,show doneC (x2,x5) y=true by simp [doneC,full,e2]])
   have n2:((stepC (x2,x5) y).2==3)=false:=beq_eq_false_iff_ne.2 e2
   simp only [n1,n2,cond_false]
   exact ih' _ _ _ (by rw [hstep,show doneC (x2,x5) y=lastP y by simp [doneC,full,e1,e2]])
theorem m81 (b s:Int) (l:List Nat) (hb:a7 l=true):Sf81 (b,s,l,())=some (yY b s l):=by
 show Ef81 (l.length+64) b s l=_
 unfold Ef81 Tf81 yY
 simp only [TS,m136,obind_some]
 by_cases h1:0≤b∧b≤3
 rotate_left
 · have:withinB b 0 3=false:=by simp [withinB];omega
   rw [this,if_neg (fun h=>h1 h.1)];rfl
 by_cases h2:0≤s∧s≤2
 rotate_left
 · have e1:withinB b 0 3=true:=by simp [withinB];omega
   have:withinB s 0 2=false:=by simp [withinB];omega
   rw [this,e1,if_neg (fun h=>h2 h.2)];rfl
 have e1:withinB b 0 3=true:=by simp [withinB];omega
 have e2:withinB s 0 2=true:=by simp [withinB];omega
 simp only [e1,e2,Bool.not_true,cond_false,if_pos (show(0≤b∧b≤3)∧(0≤s∧s≤2)from⟨h1,h2⟩)]
 by_cases hl:l.length≤24
 · have a5:decide ((24:Int)<((l.length:Nat):Int))=false:=by simp;omega
   simp only [a5,cond_false,if_pos hl]
   exact j81 b s l hl hb ⟨h1,h2⟩ (l.length+64) 0 b s false (Nat.zero_le _) (by omega) (by simp [cnt])
 · have a5:decide ((24:Int)<((l.length:Nat):Int))=true:=by simp;omega
   simp only [a5,cond_true,if_neg hl]
end
end Go.Ev
