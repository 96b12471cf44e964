import Derived.Test.YtmejahdlkaifoaaGreatDoorDM1
set_option linter.unusedSimpArgs false
set_option linter.unusedVariables false
namespace Go.Ev
open Go.RowKit Go.Proofs
set_option maxRecDepth 100000
set_option maxHeartbeats 4000000
set_option linter.unusedSimpArgs false
noncomputable section
theorem axL {l:List Nat}{k c:Nat}(h:l[k]? = some c) (hc:c<128):gG l k=(c,1):=by unfold gG;rw [azM h hc];rfl
theorem axM {l:List Nat}{k c:Nat}(hb:aW l=true) (h:l[k]? = some c) (hc:¬c<128):128≤(gG l k).1:=by
 obtain⟨r,w,e,hr⟩:=akT hb h hc
 unfold gG;rw [e];exact hr
theorem blt_t {k n:Nat}(h:k<n):Nat.blt k n=true:=by rw [Nat.blt_eq];exact h
theorem blt_f {k n:Nat}(h:¬k<n):Nat.blt k n=false:=by
 cases hb:Nat.blt k n
 · rfl
 · rw [Nat.blt_eq]at hb;exact absurd hb h
theorem pp_j (s:List Nat) (hl:s.length≤24) (hb:aW s=true):∀j n k,k+j=s.length→Tr.lp (u7 s) (n+j+1) (.k8 k)=some (if bL (s.drop k)=true then 0 else 14):=by
 intro j
 induction j with
 | zero=>
   intro n k hk
   rw [Tr.lp_s]
   simp only [u7,TS,blt_f (show ¬k<s.length by omega),cond_false,List.drop_eq_nil_of_le (show s.length≤k by omega)];rfl
 | succ j ih=>
   intro n k hk
   have hlt:k<s.length:=by omega
   obtain⟨x,hx⟩:=m0 hlt
   have w1:w6 ((s.length:Int)-1)=(s.length:Int)-1:=by unfold w6;rw [cG]<;>omega
   rw [Tr.lp_s]
   by_cases hx8:x<128
   · simp only [u7,TS,blt_t hlt,cond_true,axL hx hx8,m137,m139,obind_some,w1,fY hx]
     rw [show n+(j+1)=n+j+1 by omega,ih n (k+1) (by omega)]
     cases isP x<;>cases lastP x<;>cases decide ((k:Int)<(s.length:Int)-1)<;>rfl
   · have h1:=mQ (axM hb hx hx8)
     have h2:=mQ (show 128≤x by omega)
     simp only [u7,TS,blt_t hlt,cond_true,m137,obind_some,fY hx,h1,h2];rfl
theorem m193 (s:List Nat) (hb:aW s=true):Sf193 (s,())=some (dP s):=by
 show Ef193 (s.length+64) s=_
 unfold Ef193 Tf193 dP
 simp only [TS]
 by_cases h:s.length≤24
 · have c1:decide (24<((s.length:Nat):Int))=false:=by simp;omega
   have:=pp_j s h hb s.length 63 0 (by omega)
   rw [List.drop_zero]at this
   rw [c1,cond_false,if_pos h,fu];exact this
 · have c1:decide (24<((s.length:Nat):Int))=true:=by simp;omega
   rw [c1,cond_true,if_neg h]
theorem m215 (s:List Nat) (hb:aW s=true):Sf215 (s,())=some (isEv s):=by
 show Ef215 s=_
 unfold Ef215 Tf215
 simp only [TS]
 match s,hb with
 | [],_=>rfl
 | [x],hb=>
   have hx:x<256:=by simpa [aW]using hb
   have:xH (EL,[x],())=some (hasC EL (x:Int)):=by
    show(if(EL∈CL∧x∈OL)∨(EL=EL∧x<256)then _ else _)=_
    rw [if_pos (Or.inr ⟨rfl,hx⟩)]
   show aH (xH (EL,[x],())) _=_
   rw [this];rfl
 | a::b::l,_=>
   have:((((a::b::l).length:Nat):Int)==1)=false:=by simp;omega
   rw [this];rfl
theorem m194 (s:List Nat) (hb:aW s=true):Sf194 (s,())=some (kW s):=by
 show Ef194 s=_
 unfold Ef194 Tf194 kW
 simp only [TS,m215 s hb,obind_some]
 by_cases h:s=[]
 · simp [h]
 · simp only [h,decide_false,Bool.not_false,cond_true,Bool.false_or]
   cases isEv s<;>rfl
theorem m115 (s:List Nat):Sf115 (s,())=some (decide (s=[])||isEv s):=by
 show Ef115 s=_
 unfold Ef115 Tf115
 match s with
 | []=>rfl
 | [x]=>
   have:=m83 [75,87,72,73,88,78,89] (x:Int) (by simp)
   simp only [TS,List.getD_cons_zero,this,obind_some];rfl
 | a::b::l=>
   have:((((a::b::l).length:Nat):Int)==1)=false:=by simp;omega
   simp only [TS,this];rfl
theorem m136 (s t u:Int):ajc (s,t,u,())=some (withinB s t u):=by
 show Ef136 s t u=_
 unfold Ef136 Tf136 withinB
 simp only [TS]
 cases decide (t≤s)<;>rfl
theorem wr_eq (n lo hi:Int):(if withinB n lo hi=true then 0 else 3)=cD n lo hi:=by
 unfold withinB cD
 by_cases h1:lo≤n<;>by_cases h2:n≤hi<;>simp [h1,h2]<;>omega
theorem m234 (s:Int):Sf234 (s,())=some (cD s 0 3):=by
 show Ef234 s=_
 unfold Ef234 Tf234
 simp only [TS,m136,obind_some,←wr_eq]
 cases withinB s 0 3<;>rfl
theorem m235 (s:Int):Sf235 (s,())=some (cD s 1 4):=by
 show Ef235 s=_
 unfold Ef235 Tf235
 simp only [TS,m136,obind_some,←wr_eq]
 cases withinB s 1 4<;>rfl
theorem m64 (s t u:Int) (h:t≤u):pU (s,t,u,())=some (cD s t u):=by
 show Ef64 s t u=_
 unfold Ef64 Tf64 cD
 simp only [TS]
 by_cases h1:s<t<;>by_cases h2:u<s<;>simp [h1,h2]
def wyV (o:Bool) (h:List Nat):Wy×Bool×Unit:=match findL o h wayT with
 | some w=>(⟨w.1,w.2.1,w.2.2.1,w.2.2.2⟩,true,())
 | none=>(⟨false,[],0,0⟩,false,())
end
end Go.Ev
