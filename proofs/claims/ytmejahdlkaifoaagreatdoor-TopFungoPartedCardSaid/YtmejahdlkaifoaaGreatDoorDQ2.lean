import Derived.Test.YtmejahdlkaifoaaGreatDoorDQ1
set_option linter.unusedSimpArgs false
set_option linter.unusedVariables false
namespace Go.Ev
open Go.RowKit Go.Proofs
set_option maxRecDepth 100000
set_option maxHeartbeats 4000000
set_option linter.unusedSimpArgs false
noncomputable section
theorem wr0:IntKind.i64.wrap 0=0:=by decide
theorem wr1:IntKind.i64.wrap 1=1:=by decide
theorem wr2:IntKind.i64.wrap 2=2:=by decide
theorem wr3:IntKind.i64.wrap 3=3:=by decide
theorem wr4:IntKind.i64.wrap 4=4:=by decide
theorem wr5:IntKind.i64.wrap 5=5:=by decide
theorem lX:IntKind.i64.wrap (-1)=-1:=by decide
@[elab_as_elim] theorem len_cases {α:Type} {P:List α→Prop} {l:List α} (h:l.length≤4) (e0:P []) (e1:∀a,P [a]) (e2:∀a b,P [a,b]) (e3:∀a b c,P [a,b,c]) (e4:∀a b c d,P [a,b,c,d]):P l:=by
  match l,h with
  | [],_=>exact e0
  | [a],_=>exact e1 a
  | [a,b],_=>exact e2 a b
  | [a,b,c],_=>exact e3 a b c
  | [a,b,c,d],_=>exact e4 a b c d
  | a::b::c::d::e::l,h=>exact absurd h (by simp)
theorem aqw {α:Type}{l:List α}(h:l.length≤4):∃n,l.length+64=n+5:=⟨l.length+59,by omega⟩
def rnM (m:Mv):Bool:=!m.o&&(m.t==4)
theorem s196 (m:Mv):Sz196 (m,())=some m.o:=rfl
theorem s151 (m:Mv):bqb (m,())=some (rnM m):=by
 show Ez151 m=_
 unfold Ez151 Tz151 rnM
 simp only [TS,w6]
 cases m.o<;>rfl
def mvIx (l:List Mv) (k:Int):Int:=match l with
 | []=>-1
 | a::r=>bif a.f==k then 0 else(match mvIx r k with
   | .ofNat j=>.ofNat (j+1)
   | i=>i)
def mAt (l:List Mv) (k:Int):Option Mv:=l.find? fun m=>m.f==k
theorem outs_j {l:List Mv}(h:l.length≤4) (n:Nat):gU l () (n+5) (.k6 0 0)=some ((l.countP (·.o):Nat):Int):=by
 refine len_cases (P:=fun l=>gU l () (n+5) (.k6 0 0)=some ((l.countP (·.o):Nat):Int)) h ?_ ?_ ?_ ?_ ?_
 · simp [eN,dK,TS,w6,inR,wr0,wr1,wr2,wr3,wr4,wr5,lX,obind_some,s196,List.countP_cons]
 · intro a
   cases h0:a.o<;>simp [eN,dK,TS,w6,inR,wr0,wr1,wr2,wr3,wr4,wr5,lX,obind_some,s196,List.countP_cons,h0]
 · intro a b
   cases h0:a.o<;>cases h1:b.o<;>simp [eN,dK,TS,w6,inR,wr0,wr1,wr2,wr3,wr4,wr5,lX,obind_some,s196,List.countP_cons,h0,h1]
 · intro a b c
   cases h0:a.o<;>cases h1:b.o<;>cases h2:c.o<;>simp [eN,dK,TS,w6,inR,wr0,wr1,wr2,wr3,wr4,wr5,lX,obind_some,s196,List.countP_cons,h0,h1,h2]
 · intro a b c d
   cases h0:a.o<;>cases h1:b.o<;>cases h2:c.o<;>cases h3:d.o<;>simp [eN,dK,TS,w6,inR,wr0,wr1,wr2,wr3,wr4,wr5,lX,obind_some,s196,List.countP_cons,h0,h1,h2,h3]
theorem outs_p {l:List Mv}(h:l.length≤4):sX (l,(),())=some ((l.countP (·.o):Nat):Int):=by
 obtain⟨n,e⟩:=aqw h
 show s6 (l.length+64) l ()=_
 unfold s6 sR
 simp only [TS,w6]
 rw [e];exact outs_j h n
theorem runs_j {l:List Mv}(h:l.length≤4) (n:Nat):gV l () (n+5) (.k6 0 0)=some ((l.countP rnM:Nat):Int):=by
 refine len_cases (P:=fun l=>gV l () (n+5) (.k6 0 0)=some ((l.countP rnM:Nat):Int)) h ?_ ?_ ?_ ?_ ?_
 · simp [eO,dL,TS,w6,inR,wr0,wr1,wr2,wr3,wr4,wr5,lX,obind_some,s151,List.countP_cons]
 · intro a
   cases h0:rnM a<;>simp [eO,dL,TS,w6,inR,wr0,wr1,wr2,wr3,wr4,wr5,lX,obind_some,s151,List.countP_cons,h0]
 · intro a b
   cases h0:rnM a<;>cases h1:rnM b<;>simp [eO,dL,TS,w6,inR,wr0,wr1,wr2,wr3,wr4,wr5,lX,obind_some,s151,List.countP_cons,h0,h1]
 · intro a b c
   cases h0:rnM a<;>cases h1:rnM b<;>cases h2:rnM c<;>simp [eO,dL,TS,w6,inR,wr0,wr1,wr2,wr3,wr4,wr5,lX,obind_some,s151,List.countP_cons,h0,h1,h2]
 · intro a b c d
   cases h0:rnM a<;>cases h1:rnM b<;>cases h2:rnM c<;>cases h3:rnM d<;>simp [eO,dL,TS,w6,inR,wr0,wr1,wr2,wr3,wr4,wr5,lX,obind_some,s151,List.countP_cons,h0,h1,h2,h3]
theorem runs_p {l:List Mv}(h:l.length≤4):sY (l,(),())=some ((l.countP rnM:Nat):Int):=by
 obtain⟨n,e⟩:=aqw h
 show s7 (l.length+64) l ()=_
 unfold s7 sS
 simp only [TS,w6]
 rw [e];exact runs_j h n
theorem outs_rj {l:List Mv}(h:l.length≤4) (n:Nat) {p ev:List Nat}{lt:Bool}:awy ⟨p,ev,lt,l⟩ (n+5) (.k6 0 0)=some ((l.countP (·.o):Nat):Int):=by
 refine len_cases (P:=fun l=>awy ⟨p,ev,lt,l⟩ (n+5) (.k6 0 0)=some ((l.countP (·.o):Nat):Int)) h ?_ ?_ ?_ ?_ ?_
 · simp [s5,zV,TS,w6,inR,wr0,wr1,wr2,wr3,wr4,wr5,lX,obind_some,List.countP_cons]
 · intro a
   cases h0:a.o<;>simp [s5,zV,TS,w6,inR,wr0,wr1,wr2,wr3,wr4,wr5,lX,obind_some,List.countP_cons,h0]
 · intro a b
   cases h0:a.o<;>cases h1:b.o<;>simp [s5,zV,TS,w6,inR,wr0,wr1,wr2,wr3,wr4,wr5,lX,obind_some,List.countP_cons,h0,h1]
 · intro a b c
   cases h0:a.o<;>cases h1:b.o<;>cases h2:c.o<;>simp [s5,zV,TS,w6,inR,wr0,wr1,wr2,wr3,wr4,wr5,lX,obind_some,List.countP_cons,h0,h1,h2]
 · intro a b c d
   cases h0:a.o<;>cases h1:b.o<;>cases h2:c.o<;>cases h3:d.o<;>simp [s5,zV,TS,w6,inR,wr0,wr1,wr2,wr3,wr4,wr5,lX,obind_some,List.countP_cons,h0,h1,h2,h3]
theorem akM {l:List Mv}{p ev:List Nat}{lt:Bool}(h:l.length≤4):aja (⟨p,ev,lt,l⟩,())=some ((l.countP (·.o):Nat):Int):=by
 obtain⟨n,e⟩:=aqw h
 show Ez59 (l.length+64) ⟨p,ev,lt,l⟩=_
 unfold Ez59 Tz59
 simp only [TS,w6]
 rw [e];exact outs_rj h n
theorem runs_rj {l:List Mv}(h:l.length≤4) (n:Nat) {p ev:List Nat}{lt:Bool}:aqT ⟨p,ev,lt,l⟩ (n+5) (.k6 0 0)=some ((l.countP rnM:Nat):Int):=by
 refine len_cases (P:=fun l=>aqT ⟨p,ev,lt,l⟩ (n+5) (.k6 0 0)=some ((l.countP rnM:Nat):Int)) h ?_ ?_ ?_ ?_ ?_
 · simp [nB,pK,TS,w6,inR,wr0,wr1,wr2,wr3,wr4,wr5,lX,obind_some,rnM,List.countP_cons]
 · intro a
   cases h0:a.o<;>cases h1:(a.t==(4:Int))<;>simp [nB,pK,TS,w6,inR,wr0,wr1,wr2,wr3,wr4,wr5,lX,obind_some,rnM,List.countP_cons,h0,h1]
 · intro a b
   cases h0:a.o<;>cases h1:(a.t==(4:Int))<;>cases h2:b.o<;>cases h3:(b.t==(4:Int))<;>simp [nB,pK,TS,w6,inR,wr0,wr1,wr2,wr3,wr4,wr5,lX,obind_some,rnM,List.countP_cons,h0,h1,h2,h3]
 · intro a b c
   cases h0:a.o<;>cases h1:(a.t==(4:Int))<;>cases h2:b.o<;>cases h3:(b.t==(4:Int))<;>cases h4:c.o<;>cases h5:(c.t==(4:Int))<;>simp [nB,pK,TS,w6,inR,wr0,wr1,wr2,wr3,wr4,wr5,lX,obind_some,rnM,List.countP_cons,h0,h1,h2,h3,h4,h5]
 · intro a b c d
   cases h0:a.o<;>cases h1:(a.t==(4:Int))<;>cases h2:b.o<;>cases h3:(b.t==(4:Int))<;>cases h4:c.o<;>cases h5:(c.t==(4:Int))<;>cases h6:d.o<;>cases h7:(d.t==(4:Int))<;>simp [nB,pK,TS,w6,inR,wr0,wr1,wr2,wr3,wr4,wr5,lX,obind_some,rnM,List.countP_cons,h0,h1,h2,h3,h4,h5,h6,h7]
theorem runs_r {l:List Mv}{p ev:List Nat}{lt:Bool}(h:l.length≤4):Sz201 (⟨p,ev,lt,l⟩,())=some ((l.countP rnM:Nat):Int):=by
 obtain⟨n,e⟩:=aqw h
 show Ez201 (l.length+64) ⟨p,ev,lt,l⟩=_
 unfold Ez201 Tz201
 simp only [TS,w6]
 rw [e];exact runs_rj h n
theorem mvIx_j {l:List Mv}(h:l.length≤4) (n:Nat) {p ev:List Nat}{lt:Bool}{k:Int}:aqV ⟨p,ev,lt,l⟩ k (n+5) (.k4 0)=some (mvIx l k):=by
 refine len_cases (P:=fun l=>aqV ⟨p,ev,lt,l⟩ k (n+5) (.k4 0)=some (mvIx l k)) h ?_ ?_ ?_ ?_ ?_
 · simp [nC,pL,TS,w6,inR,wr0,wr1,wr2,wr3,wr4,wr5,lX,obind_some,mvIx]
 · intro a
   cases h0:(a.f==k)<;>simp [nC,pL,TS,w6,inR,wr0,wr1,wr2,wr3,wr4,wr5,lX,obind_some,mvIx,h0]
 · intro a b
   cases h0:(a.f==k)<;>cases h1:(b.f==k)<;>simp [nC,pL,TS,w6,inR,wr0,wr1,wr2,wr3,wr4,wr5,lX,obind_some,mvIx,h0,h1]
 · intro a b c
   cases h0:(a.f==k)<;>cases h1:(b.f==k)<;>cases h2:(c.f==k)<;>simp [nC,pL,TS,w6,inR,wr0,wr1,wr2,wr3,wr4,wr5,lX,obind_some,mvIx,h0,h1,h2]
 · intro a b c d
   cases h0:(a.f==k)<;>cases h1:(b.f==k)<;>cases h2:(c.f==k)<;>cases h3:(d.f==k)<;>simp [nC,pL,TS,w6,inR,wr0,wr1,wr2,wr3,wr4,wr5,lX,obind_some,mvIx,h0,h1,h2,h3]
theorem akU {l:List Mv}{p ev:List Nat}{lt:Bool}{k:Int}(h:l.length≤4):aqE (⟨p,ev,lt,l⟩,k,())=some (mvIx l k):=by
 obtain⟨n,e⟩:=aqw h
 show Ez157 (l.length+64) ⟨p,ev,lt,l⟩ k=_
 unfold Ez157 Tz157
 simp only [TS,w6]
 rw [e];exact mvIx_j h n
theorem has_j {l:List Nat}(h:l.length≤4) (n:Nat) {k:Int}:awx l k (n+5) (.k4 0)=some (hasC l k):=by
 refine len_cases (P:=fun l=>awx l k (n+5) (.k4 0)=some (hasC l k)) h ?_ ?_ ?_ ?_ ?_
 · simp [s4,zU,TS,w6,inR,wr0,wr1,wr2,wr3,wr4,wr5,lX,obind_some,hasC]
 · intro a
   cases h0:((a:Nat):Int)==k<;>simp [s4,zU,TS,w6,inR,wr0,wr1,wr2,wr3,wr4,wr5,lX,obind_some,hasC,h0]
 · intro a b
   cases h0:((a:Nat):Int)==k<;>cases h1:((b:Nat):Int)==k<;>simp [s4,zU,TS,w6,inR,wr0,wr1,wr2,wr3,wr4,wr5,lX,obind_some,hasC,h0,h1]
 · intro a b c
   cases h0:((a:Nat):Int)==k<;>cases h1:((b:Nat):Int)==k<;>cases h2:((c:Nat):Int)==k<;>simp [s4,zU,TS,w6,inR,wr0,wr1,wr2,wr3,wr4,wr5,lX,obind_some,hasC,h0,h1,h2]
 · intro a b c d
   cases h0:((a:Nat):Int)==k<;>cases h1:((b:Nat):Int)==k<;>cases h2:((c:Nat):Int)==k<;>cases h3:((d:Nat):Int)==k<;>simp [s4,zU,TS,w6,inR,wr0,wr1,wr2,wr3,wr4,wr5,lX,obind_some,hasC,h0,h1,h2,h3]
theorem has_r {l:List Nat}{k:Int}(h:l.length≤4):Sz83 (l,k,())=some (hasC l k):=by
 obtain⟨n,e⟩:=aqw h
 show Ez83 (l.length+64) l k=_
 unfold Ez83 Tz83
 simp only [TS,w6]
 rw [e];exact has_j h n
def isM (m:Mv) (out:Bool) (u:List Nat):Bool:=(m.o==out)&&hasC u ((m.h.getD 0 0:Nat):Int)
theorem is_r {m:Mv}{b:Bool}{u:List Nat}(hu:u.length≤4) (hm:m.h≠[]):fN (m,b,u,())=some (isM m b u):=by
 show Ez200 m b u=_
 unfold Ez200 Tz200 isM
 simp only [TS,w6]
 have h0:inR (0:Int) m.h.length=true:=by
  cases hh:m.h with
  | nil=>exact absurd hh hm
  | cons x r=>simp [inR]
 rw [has_r hu,h0]
 cases m.o==b<;>rfl
end
end Go.Ev
