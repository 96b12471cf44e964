import Derived.Test.YtkhmgggponmimaaGreatDoorDSpec
set_option linter.unusedSimpArgs false
set_option linter.unusedVariables false
namespace Go.Ev
open Go.RowKit Go.Proofs
set_option maxRecDepth 100000
set_option maxHeartbeats 4000000
set_option linter.unusedSimpArgs false
noncomputable section
theorem b7 {n:Int}(h1:-9223372036854775808≤n) (h2:n<9223372036854775808):IntKind.i64.wrap n=n:=fY h1 h2
theorem w6s {k:Nat}(h:k<9223372036854775807):w6 ((k:Int)+1)=((k+1:Nat):Int):=by unfold w6;rw [b7]<;>omega
theorem w6p {k:Nat}(h:k<9223372036854775807):w6 (((k+1:Nat):Int)-1)=((k:Nat):Int):=by unfold w6;rw [b7]<;>omega
theorem gP {i:Int}{n:Nat}(h1:0≤i) (h2:i<(n:Int)):inR i n=true:=by simp [inR];omega
theorem avk {k n:Nat}(h:k<n):inR (k:Int) n=true:=gP (by omega) (by omega)
theorem a7 {α:Type}{l:List α}{k:Nat}{x d:α}(h:l[k]? = some x):l.getD k d=x:=by rw [List.getD_eq_getElem?_getD,h];rfl
theorem aqm {α:Type}{l:List α}{k:Nat}(h:k<l.length):∃x,l[k]? = some x:=⟨l[k],List.getElem?_eq_getElem h⟩
theorem dlt_t {k n:Nat}(h:k<n):decide ((k:Int)<((n:Nat):Int))=true:=by simp;omega
theorem dlt_f {k n:Nat}(h:¬k<n):decide ((k:Int)<((n:Nat):Int))=false:=by simp;omega
theorem nc0:((0:Nat):Int)=0:=rfl
theorem fu (n:Nat):n+64=63+n+1:=by omega
theorem m139 (r:Nat):ays (((r:Nat):Int),())=some (lastP r):=by
 show Ef139 _=_
 unfold Ef139 Tf139
 simp only [TS]
 have e1:(((r:Nat):Int)==88)=(r==88):=nbeq r 88
 have e2:(((r:Nat):Int)==72)=(r==72):=nbeq r 72
 rw [e1,e2]
 unfold lastP
 cases r==88<;>rfl
theorem m137 (r:Nat):S137 (((r:Nat):Int),())=some (isP r):=by
 unfold S137
 rw [if_pos (by simp)];simp
end
end Go.Ev
namespace Go.Ev
open Go.RowKit Go.Proofs
set_option maxRecDepth 100000
set_option maxHeartbeats 4000000
set_option linter.unusedSimpArgs false
noncomputable section
theorem aj2 {l:List Nat}{k c:Nat}(h:l[k]? = some c) (hc:c<128):gM l k=(c,1):=by unfold gM;rw [ax2 h hc];rfl
theorem aj3 {l:List Nat}{k c:Nat}(hb:aS l=true) (h:l[k]? = some c) (hc:¬c<128):128≤(gM l k).1:=by
 obtain⟨r,w,e,hr⟩:=avY hb h hc
 unfold gM;rw [e];exact hr
theorem blt_t {k n:Nat}(h:k<n):Nat.blt k n=true:=by rw [Nat.blt_eq];exact h
theorem blt_f {k n:Nat}(h:¬k<n):Nat.blt k n=false:=by
 cases hb:Nat.blt k n
 · rfl
 · rw [Nat.blt_eq]at hb;exact absurd hb h
theorem pp_j (s:List Nat) (hl:s.length≤24) (hb:aS s=true):∀j n k,k+j=s.length→Tr.lp (uK s) (n+j+1) (.k8 k)=some (if gL (s.drop k)=true then 0 else 14):=by
 intro j
 induction j with
 | zero=>
   intro n k hk
   rw [Tr.lp_s]
   simp only [uK,TS,blt_f (show ¬k<s.length by omega),cond_false,List.drop_eq_nil_of_le (show s.length≤k by omega)];rfl
 | succ j ih=>
   intro n k hk
   have hlt:k<s.length:=by omega
   obtain⟨x,hx⟩:=aqm hlt
   have w1:w6 ((s.length:Int)-1)=(s.length:Int)-1:=by unfold w6;rw [b7]<;>omega
   rw [Tr.lp_s]
   by_cases hx8:x<128
   · simp only [uK,TS,blt_t hlt,cond_true,aj2 hx hx8,m137,m139,obind_some,w1,kL hx]
     rw [show n+(j+1)=n+j+1 by omega,ih n (k+1) (by omega)]
     cases isP x<;>cases lastP x<;>cases decide ((k:Int)<(s.length:Int)-1)<;>rfl
   · have h1:=mA (aj3 hb hx hx8)
     have h2:=mA (show 128≤x by omega)
     simp only [uK,TS,blt_t hlt,cond_true,m137,obind_some,kL hx,h1,h2];rfl
theorem m193 (s:List Nat) (hb:aS s=true):Sf193 (s,())=some (xS s):=by
 show Ef193 (s.length+64) s=_
 unfold Ef193 Tf193 xS
 simp only [TS]
 by_cases h:s.length≤24
 · have c1:decide (24<((s.length:Nat):Int))=false:=by simp;omega
   have:=pp_j s h hb s.length 63 0 (by omega)
   rw [List.drop_zero]at this
   rw [c1,cond_false,if_pos h,fu];exact this
 · have c1:decide (24<((s.length:Nat):Int))=true:=by simp;omega
   rw [c1,cond_true,if_neg h]
theorem m215 (s:List Nat) (hb:aS s=true):Sf215 (s,())=some (isEv s):=by
 show Ef215 s=_
 unfold Ef215 Tf215
 simp only [TS]
 match s,hb with
 | [],_=>rfl
 | [x],hb=>
   have hx:x<256:=by simpa [aS]using hb
   have:wT (EL,[x],())=some (hasC EL (x:Int)):=by
    show(if(EL∈CL∧x∈OL)∨(EL=EL∧x<256)then _ else _)=_
    rw [if_pos (Or.inr ⟨rfl,hx⟩)]
   show aM (wT (EL,[x],())) _=_
   rw [this];rfl
 | a::b::l,_=>
   have:((((a::b::l).length:Nat):Int)==1)=false:=by simp;omega
   rw [this];rfl
theorem m194 (s:List Nat) (hb:aS s=true):Sf194 (s,())=some (t0 s):=by
 show Ef194 s=_
 unfold Ef194 Tf194 t0
 simp only [TS,m215 s hb,obind_some]
 by_cases h:s=[]
 · simp [h]
 · simp only [h,decide_false,Bool.not_false,cond_true,Bool.false_or]
   cases isEv s<;>rfl
theorem m136 (s t u:Int):aqw (s,t,u,())=some (withinB s t u):=by
 show Ef136 s t u=_
 unfold Ef136 Tf136 withinB
 simp only [TS]
 cases decide (t≤s)<;>rfl
theorem wr_eq (n lo hi:Int):(if withinB n lo hi=true then 0 else 3)=lX n lo hi:=by
 unfold withinB lX
 by_cases h1:lo≤n<;>by_cases h2:n≤hi<;>simp [h1,h2]<;>omega
theorem m234 (s:Int):Sf234 (s,())=some (lX s 0 3):=by
 show Ef234 s=_
 unfold Ef234 Tf234
 simp only [TS,m136,obind_some,←wr_eq]
 cases withinB s 0 3<;>rfl
theorem m235 (s:Int):Sf235 (s,())=some (lX s 1 4):=by
 show Ef235 s=_
 unfold Ef235 Tf235
 simp only [TS,m136,obind_some,←wr_eq]
 cases withinB s 1 4<;>rfl
def wyV (o:Bool) (h:List Nat):Wy×Bool×Unit:=match findL o h wayT with
 | some w=>(⟨w.1,w.2.1,w.2.2.1,w.2.2.2⟩,true,())
 | none=>(⟨false,[],0,0⟩,false,())
end
end Go.Ev
