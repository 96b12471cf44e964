import Derived.Test.YtmejahdlkaifoaaGreatDoorDSpec
set_option linter.unusedSimpArgs false
set_option linter.unusedVariables false
namespace Go.Ev
open Go.RowKit Go.Proofs
set_option maxRecDepth 100000
set_option maxHeartbeats 4000000
set_option linter.unusedSimpArgs false
noncomputable section
theorem cG {n:Int}(h1:-9223372036854775808≤n) (h2:n<9223372036854775808):IntKind.i64.wrap n=n:=vE h1 h2
theorem w6s {k:Nat}(h:k<9223372036854775807):w6 ((k:Int)+1)=((k+1:Nat):Int):=by unfold w6;rw [cG]<;>omega
theorem w6p {k:Nat}(h:k<9223372036854775807):w6 (((k+1:Nat):Int)-1)=((k:Nat):Int):=by unfold w6;rw [cG]<;>omega
theorem iL {i:Int}{n:Nat}(h1:0≤i) (h2:i<(n:Int)):inR i n=true:=by simp [inR];omega
theorem pP {k n:Nat}(h:k<n):inR (k:Int) n=true:=iL (by omega) (by omega)
theorem aR {α:Type}{l:List α}{k:Nat}{x d:α}(h:l[k]? = some x):l.getD k d=x:=by rw [List.getD_eq_getElem?_getD,h];rfl
theorem m0 {α:Type}{l:List α}{k:Nat}(h:k<l.length):∃x,l[k]? = some x:=⟨l[k],List.getElem?_eq_getElem h⟩
theorem zA {k n:Nat}(h:k<n):decide ((k:Int)<((n:Nat):Int))=true:=by simp;omega
theorem zB {k n:Nat}(h:¬k<n):decide ((k:Int)<((n:Nat):Int))=false:=by simp;omega
theorem has_jm (s:List Nat) (t:Int) (hl:s.length<9223372036854775807):∀j n k,k+j=s.length→Tr.lp (awg s t) (n+j+1) (.k4 (k:Int))=some (hasC (s.drop k) t):=by
 intro j
 induction j with
 | zero=>
   intro n k hk
   rw [Tr.lp_s]
   simp only [awg,TS,zB (show ¬k<s.length by omega),cond_false,List.drop_eq_nil_of_le (show s.length≤k by omega)];rfl
 | succ j ih=>
   intro n k hk
   have hlt:k<s.length:=by omega
   obtain⟨x,hx⟩:=m0 hlt
   rw [Tr.lp_s]
   simp only [awg,TS,zA hlt,pP hlt,cond_true,Int.toNat_natCast,aR hx,w6s (show k<9223372036854775807 by omega),ak7 hx]
   rw [show n+(j+1)=n+j+1 by omega,ih n (k+1) (by omega)]
   cases((x:Nat):Int)==t<;>rfl
theorem nc0:((0:Nat):Int)=0:=rfl
theorem fu (n:Nat):n+64=63+n+1:=by omega
theorem m83 (s:List Nat) (t:Int) (hl:s.length<9223372036854775807):avB (s,t,())=some (hasC s t):=by
 show Ef83 (s.length+64) s t=_
 unfold Ef83 Tf83
 simp only [TS]
 have:=has_jm s t hl s.length 63 0 (by omega)
 rw [List.drop_zero,nc0]at this
 rw [fu];exact this
theorem m83P (x:Nat):avB ([66,67,83,70,88,72],((x:Nat):Int),())=some (isP x):=by rw [m83 _ _ (by simp),hasC_P]
theorem m83L (x:Nat):avB ([88,72],((x:Nat):Int),())=some (lastP x):=by rw [m83 _ _ (by simp),ak6]
theorem pit_j (s:List Nat) (hl:s.length≤24):∀j n k,k+j=s.length→Tr.lp (aqC s) (n+j+1) (.k8 (k:Int))=some (if bL (s.drop k)=true then 0 else 14):=by
 intro j
 induction j with
 | zero=>
   intro n k hk
   rw [Tr.lp_s]
   simp only [aqC,TS,zB (show ¬k<s.length by omega),cond_false,List.drop_eq_nil_of_le (show s.length≤k by omega)];rfl
 | succ j ih=>
   intro n k hk
   have hlt:k<s.length:=by omega
   obtain⟨x,hx⟩:=m0 hlt
   have w1:w6 ((s.length:Int)-1)=(s.length:Int)-1:=by unfold w6;rw [cG]<;>omega
   rw [Tr.lp_s]
   simp only [aqC,TS,zA hlt,pP hlt,cond_true,Int.toNat_natCast,aR hx,w6s (show k<9223372036854775807 by omega),m83P,m83L,obind_some,w1,fY hx]
   rw [show n+(j+1)=n+j+1 by omega,ih n (k+1) (by omega)]
   cases isP x<;>cases lastP x<;>cases decide ((k:Int)<(s.length:Int)-1)<;>rfl
theorem m114 (s:List Nat):Sf114 (s,())=some (dP s):=by
 show Ef114 (s.length+64) s=_
 unfold Ef114 Tf114 dP
 simp only [TS]
 by_cases h:s.length≤24
 · have c1:decide (24<((s.length:Nat):Int))=false:=by simp;omega
   have:=pit_j s h s.length 63 0 (by omega)
   rw [List.drop_zero,nc0]at this
   rw [c1,cond_false,if_pos h,fu];exact this
 · have c1:decide (24<((s.length:Nat):Int))=true:=by simp;omega
   rw [c1,cond_true,if_neg h]
theorem m139 (r:Nat):bql (((r:Nat):Int),())=some (lastP r):=by
 show Ef139 _=_
 unfold Ef139 Tf139
 simp only [TS]
 have e1:(((r:Nat):Int)==88)=(r==88):=nbeq r 88
 have e2:(((r:Nat):Int)==72)=(r==72):=nbeq r 72
 rw [e1,e2]
 unfold lastP
 cases r==88<;>rfl
theorem m137 (r:Nat):S137 (((r:Nat):Int),())=some (isP r):=by
 unfold S137
 rw [if_pos (by simp)];simp
end
end Go.Ev
