import Derived.Test.YtmejahdlkaifoaaGreatDoorDQI
set_option linter.unusedSimpArgs false
set_option linter.unusedVariables false
namespace Go.Ev
open Go.RowKit Go.Proofs
set_option maxRecDepth 100000
set_option maxHeartbeats 40000000
set_option linter.unusedSimpArgs false
noncomputable section
theorem safe_lt {m:Mv}(h:mvE m=0) (ho:m.o=false):m.f<m.t:=by
 obtain⟨w,hw,h1,h2,h3⟩:=ayL h
 have hr:=gI h
 by_cases hf:m.f=0
 · omega
 · rw [if_neg hf]at h3
   rw [ho]at h1
   simp only [wayT,List.mem_cons,List.not_mem_nil,or_false]at hw
   rcases hw with rfl|rfl|rfl|rfl|rfl|rfl|rfl|rfl|rfl|rfl|rfl|rfl|rfl|rfl<;>simp [reachB]at h1 h3<;>omega
def act (l:List Mv) (f:Int):Int:=match mAt l f with
 | none=>-1
 | some m=>if m.o then 0 else m.t
def stepA (i f a v x:Int):Int:=if a=-1 then x else if a=i then v else if f=i then 0 else x
theorem ayp {l:List Mv}(h:aB l=0) {i:Int}(hi:i=1∨i=2∨i=3) (v:Mv→Int) (V:Int→Int) (hv:∀m∈l,v m=V m.f) (x:Int) :
  l.foldl (mvB i v) x=stepA i 0 (act l 0) (V 0) (stepA i 1 (act l 1) (V 1) (stepA i 2 (act l 2) (V 2) (stepA i 3 (act l 3) (V 3) x))):=by
 have one:∀(m:Mv) (y:Int),mvE m=0→v m=V m.f→mvB i v y m=stepA i m.f (if m.o then 0 else m.t) (V m.f) y:=by
  intro m y hm hvm
  have hr:=gI hm
  unfold mvB onB offB stepA
  rw [hvm]
  cases ho:m.o with
  | true=>
    have h0:¬(0:Int)=i:=by omega
    simp [h0]
  | false=>
    have h0:¬m.t=-1:=by omega
    simp [h0]
 have no:∀(f w y:Int),stepA i f (-1) w y=y:=by intro f w y;simp [stepA]
 revert hv
 refine sh_cases h ?_ ?_ ?_ ?_ ?_ ?_ ?_ ?_ ?_ ?_ ?_ ?_ ?_ ?_ ?_ ?_<;>intros<;>(try simp only [vMv]at *)<;>simp_all [act,mAt]
end
end Go.Ev
namespace Go.Ev
open Go.RowKit Go.Proofs
set_option maxRecDepth 100000
set_option maxHeartbeats 40000000
set_option linter.unusedSimpArgs false
noncomputable section
def tA (e:Bool) (f:Int):Int:=bif e then 0 else f+1
def pT (a:Int) (e:Bool) (f:Int):Int:=if a=-1 then(if f=0 then 0 else bif e then 0 else f)else a
def lhsT (a0 a1 a2 a3:Int) (e1 e2 e3:Bool) (i:Int):Int:=stepA i 0 a0 1 (stepA i 1 a1 (tA e1 1) (stepA i 2 a2 (tA e2 2) (stepA i 3 a3 (tA e3 3) (if i=1 then tA e1 1 else if i=2 then tA e2 2 else tA e3 3))))
def rhsT (a0 a1 a2 a3:Int) (e1 e2 e3:Bool) (i:Int):Int:=setB i (pT a3 e3 3) (tA e3 3) (setB i (pT a2 e2 2) (tA e2 2) (setB i (pT a1 e1 1) (tA e1 1) (setB i (pT a0 true 0) 1 0)))
def chkT (a0 a1 a2 a3:Int) (e1 e2 e3:Bool) (i:Int):Bool:=(e1&&!(a1==-1))||((e2&&!(a2==-1))||((e3&&!(a3==-1))||(akN (pT a0 true 0) (pT a1 e1 1) (pT a2 e2 2) (pT a3 e3 3)||(lhsT a0 a1 a2 a3 e1 e2 e3 i==rhsT a0 a1 a2 a3 e1 e2 e3 i))))
theorem bqO:([-1,0,1,2,3,4].all fun a0=>[-1,0,2,3,4].all fun a1=>[-1,0,3,4].all fun a2=>[-1,0,4].all fun a3=>[true,false].all fun e1=>[true,false].all fun e2=>[true,false].all fun e3=>[1,2,3].all fun i=>chkT a0 a1 a2 a3 e1 e2 e3 i)=true:=by kernel_rfl
def phi (v0 b1 b2 b3 x:Int):Int:=if x=0 then 0 else if x=1 then v0 else if x=2 then b1 else if x=3 then b2 else b3
theorem phi_tok1 {v0 b1 b2 b3:Int}:phi v0 b1 b2 b3 (tA (b1==0) 1)=b1:=by
 cases h:(b1==0)
 · simp [phi,tA]
 · have h:b1=0:=by simpa using h
   simp [phi,tA,h]
theorem phi_tok2 {v0 b1 b2 b3:Int}:phi v0 b1 b2 b3 (tA (b2==0) 2)=b2:=by
 cases h:(b2==0)
 · simp [phi,tA]
 · have h:b2=0:=by simpa using h
   simp [phi,tA,h]
theorem phi_tok3 {v0 b1 b2 b3:Int}:phi v0 b1 b2 b3 (tA (b3==0) 3)=b3:=by
 cases h:(b3==0)
 · simp [phi,tA]
 · have h:b3=0:=by simpa using h
   simp [phi,tA,h]
theorem p9 {v0 b1 b2 b3 i f a v x:Int}:stepA i f a (phi v0 b1 b2 b3 v) (phi v0 b1 b2 b3 x)=phi v0 b1 b2 b3 (stepA i f a v x):=by
 have e0:phi v0 b1 b2 b3 0=0:=rfl
 unfold stepA
 split
 · rfl
 · split
   · rfl
   · split
     · exact e0.symm
     · rfl
theorem phi_set {v0 b1 b2 b3 i p v x:Int}:setB i p (phi v0 b1 b2 b3 v) (phi v0 b1 b2 b3 x)=phi v0 b1 b2 b3 (setB i p v x):=by
 unfold setB
 split<;>rfl
theorem aw3 {a0 a1 a2 a3 v0 b1 b2 b3 i:Int}(h0:a0∈[-1,0,1,2,3,4]) (h1:a1∈[-1,0,2,3,4]) (h2:a2∈[-1,0,3,4]) (h3:a3∈[-1,0,4]) (hi:i∈[1,2,3])
  (z1:b1=0→a1=-1) (z2:b2=0→a2=-1) (z3:b3=0→a3=-1) (ho:akN (pT a0 true 0) (pT a1 (b1==0) 1) (pT a2 (b2==0) 2) (pT a3 (b3==0) 3)=false) :
  stepA i 0 a0 v0 (stepA i 1 a1 b1 (stepA i 2 a2 b2 (stepA i 3 a3 b3 (if i=1 then b1 else if i=2 then b2 else b3)))) =
  setB i (pT a3 (b3==0) 3) b3 (setB i (pT a2 (b2==0) 2) b2 (setB i (pT a1 (b1==0) 1) b1 (setB i (pT a0 true 0) v0 0))):=by
 have hb:∀b:Bool,b∈[true,false]:=by decide
 have c:=List.all_eq_true.1 (List.all_eq_true.1 (List.all_eq_true.1 (List.all_eq_true.1 (List.all_eq_true.1 (List.all_eq_true.1 (List.all_eq_true.1 (List.all_eq_true.1 bqO a0 h0) a1 h1) a2 h2) a3 h3) (b1==0) (hb _)) (b2==0) (hb _)) (b3==0) (hb _)) i hi
 have y1:((b1==0)&&!(a1==-1))=false:=by
  by_cases h:b1=0
  · rw [z1 h];simp
  · simp [h]
 have y2:((b2==0)&&!(a2==-1))=false:=by
  by_cases h:b2=0
  · rw [z2 h];simp
  · simp [h]
 have y3:((b3==0)&&!(a3==-1))=false:=by
  by_cases h:b3=0
  · rw [z3 h];simp
  · simp [h]
 unfold chkT at c
 rw [y1,y2,y3,ho]at c
 simp only [Bool.false_or,beq_iff_eq]at c
 have p1:phi v0 b1 b2 b3 1=v0:=rfl
 have p0:phi v0 b1 b2 b3 0=0:=rfl
 have l:phi v0 b1 b2 b3 (lhsT a0 a1 a2 a3 (b1==0) (b2==0) (b3==0) i)=stepA i 0 a0 v0 (stepA i 1 a1 b1 (stepA i 2 a2 b2 (stepA i 3 a3 b3 (if i=1 then b1 else if i=2 then b2 else b3)))):=by
  unfold lhsT
  have e:phi v0 b1 b2 b3 (if i=1 then tA (b1==0) 1 else if i=2 then tA (b2==0) 2 else tA (b3==0) 3)=(if i=1 then b1 else if i=2 then b2 else b3):=by
   split
   · exact phi_tok1
   · split
     · exact phi_tok2
     · exact phi_tok3
  rw [←p9,←p9,←p9,←p9,phi_tok1,phi_tok2,phi_tok3,p1,e]
 have r:phi v0 b1 b2 b3 (rhsT a0 a1 a2 a3 (b1==0) (b2==0) (b3==0) i)=setB i (pT a3 (b3==0) 3) b3 (setB i (pT a2 (b2==0) 2) b2 (setB i (pT a1 (b1==0) 1) b1 (setB i (pT a0 true 0) v0 0))):=by
  unfold rhsT
  rw [←phi_set,←phi_set,←phi_set,←phi_set,phi_tok1,phi_tok2,phi_tok3,p1,p0]
 rw [←l,←r,c]
end
end Go.Ev
