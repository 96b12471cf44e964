import Derived.Test.YtkhmgggponmimaaGreatDoorDQ1
set_option linter.unusedSimpArgs false
set_option linter.unusedVariables false
namespace Go.Ev
open Go.RowKit Go.Proofs
set_option maxRecDepth 100000
set_option maxHeartbeats 4000000
set_option linter.unusedSimpArgs false
noncomputable section
theorem wr0:IntKind.i64.wrap 0=0:=by decide
theorem wr1:IntKind.i64.wrap 1=1:=by decide
theorem wr2:IntKind.i64.wrap 2=2:=by decide
theorem wr3:IntKind.i64.wrap 3=3:=by decide
theorem wr4:IntKind.i64.wrap 4=4:=by decide
theorem wr5:IntKind.i64.wrap 5=5:=by decide
theorem awU:IntKind.i64.wrap (-1)=-1:=by decide
@[elab_as_elim] theorem len_cases {α:Type} {P:List α→Prop} {l:List α} (h:l.length≤4) (e0:P []) (e1:∀a,P [a]) (e2:∀a b,P [a,b]) (e3:∀a b c,P [a,b,c]) (e4:∀a b c d,P [a,b,c,d]):P l:=by
  match l,h with
  | [],_=>exact e0
  | [a],_=>exact e1 a
  | [a,b],_=>exact e2 a b
  | [a,b,c],_=>exact e3 a b c
  | [a,b,c,d],_=>exact e4 a b c d
  | a::b::c::d::e::l,h=>exact absurd h (by simp)
theorem len64 {α:Type}{l:List α}(h:l.length≤4):∃n,l.length+64=n+5:=⟨l.length+59,by omega⟩
def rnM (m:Mv):Bool:=!m.o&&(m.t==4)
theorem s196 (m:Mv):Sz196 (m,())=some m.o:=rfl
theorem s151 (m:Mv):ayi (m,())=some (rnM m):=by
 show Ez151 m=_
 unfold Ez151 Tz151 rnM
 simp only [TS,w6]
 cases m.o<;>rfl
def mAt (l:List Mv) (k:Int):Option Mv:=l.find? fun m=>m.f==k
theorem outs_j {l:List Mv}(h:l.length≤4) (n:Nat):g0 l () (n+5) (.k6 0 0)=some ((l.countP (·.o):Nat):Int):=by
 refine len_cases (P:=fun l=>g0 l () (n+5) (.k6 0 0)=some ((l.countP (·.o):Nat):Int)) h ?_ ?_ ?_ ?_ ?_
 · simp [eC,dC,TS,w6,inR,wr0,wr1,wr2,wr3,wr4,wr5,awU,obind_some,s196,List.countP_cons]
 · intro a
   cases h0:a.o<;>simp [eC,dC,TS,w6,inR,wr0,wr1,wr2,wr3,wr4,wr5,awU,obind_some,s196,List.countP_cons,h0]
 · intro a b
   cases h0:a.o<;>cases h1:b.o<;>simp [eC,dC,TS,w6,inR,wr0,wr1,wr2,wr3,wr4,wr5,awU,obind_some,s196,List.countP_cons,h0,h1]
 · intro a b c
   cases h0:a.o<;>cases h1:b.o<;>cases h2:c.o<;>simp [eC,dC,TS,w6,inR,wr0,wr1,wr2,wr3,wr4,wr5,awU,obind_some,s196,List.countP_cons,h0,h1,h2]
 · intro a b c d
   cases h0:a.o<;>cases h1:b.o<;>cases h2:c.o<;>cases h3:d.o<;>simp [eC,dC,TS,w6,inR,wr0,wr1,wr2,wr3,wr4,wr5,awU,obind_some,s196,List.countP_cons,h0,h1,h2,h3]
theorem outs_p {l:List Mv}(h:l.length≤4):sD (l,(),())=some ((l.countP (·.o):Nat):Int):=by
 obtain⟨n,e⟩:=len64 h
 show sH (l.length+64) l ()=_
 unfold sH sA
 simp only [TS,w6]
 rw [e];exact outs_j h n
theorem runs_j {l:List Mv}(h:l.length≤4) (n:Nat):hD l () (n+5) (.k6 0 0)=some ((l.countP rnM:Nat):Int):=by
 refine len_cases (P:=fun l=>hD l () (n+5) (.k6 0 0)=some ((l.countP rnM:Nat):Int)) h ?_ ?_ ?_ ?_ ?_
 · simp [eD,dD,TS,w6,inR,wr0,wr1,wr2,wr3,wr4,wr5,awU,obind_some,s151,List.countP_cons]
 · intro a
   cases h0:rnM a<;>simp [eD,dD,TS,w6,inR,wr0,wr1,wr2,wr3,wr4,wr5,awU,obind_some,s151,List.countP_cons,h0]
 · intro a b
   cases h0:rnM a<;>cases h1:rnM b<;>simp [eD,dD,TS,w6,inR,wr0,wr1,wr2,wr3,wr4,wr5,awU,obind_some,s151,List.countP_cons,h0,h1]
 · intro a b c
   cases h0:rnM a<;>cases h1:rnM b<;>cases h2:rnM c<;>simp [eD,dD,TS,w6,inR,wr0,wr1,wr2,wr3,wr4,wr5,awU,obind_some,s151,List.countP_cons,h0,h1,h2]
 · intro a b c d
   cases h0:rnM a<;>cases h1:rnM b<;>cases h2:rnM c<;>cases h3:rnM d<;>simp [eD,dD,TS,w6,inR,wr0,wr1,wr2,wr3,wr4,wr5,awU,obind_some,s151,List.countP_cons,h0,h1,h2,h3]
theorem runs_p {l:List Mv}(h:l.length≤4):sE (l,(),())=some ((l.countP rnM:Nat):Int):=by
 obtain⟨n,e⟩:=len64 h
 show sI (l.length+64) l ()=_
 unfold sI sB
 simp only [TS,w6]
 rw [e];exact runs_j h n
end
end Go.Ev
