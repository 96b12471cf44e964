import Derived.Test.YtkhmgggponmimaaGreatDoorDQH
set_option linter.unusedSimpArgs false
set_option linter.unusedVariables false
namespace Go.Ev
open Go.RowKit Go.Proofs
set_option maxRecDepth 100000
set_option maxHeartbeats 8000000
set_option linter.unusedSimpArgs false
noncomputable section
def offB (i f x:Int):Int:=if f=i then 0 else x
def onB (i:Int) (m:Mv) (v x:Int):Int:=if m.o=false∧m.t=i then v else x
def mvB (i:Int) (v:Mv→Int) (x:Int) (m:Mv):Int:=onB i m (v m) (offB i m.f x)
def axX (s:Tn) (m:Mv):Int:=azk s.s_half s.s_n0 s.s_n1 s.s_b1 s.s_b2 s.s_b3 m.f
section
variable {s:Tn}
theorem lp147 (h:aC s.p_m=0) (hs:s.s_half=0∨s.s_half=1):∀(j k n:Nat) (x3 x2 x1:Int),s.p_m.length=k+j→axL s (n+j+1) (.k8 (k:Int) x3 x2 x1)=some ((s.p_m.drop k).foldl (mvB 1 (axX s)) x1,(s.p_m.drop k).foldl (mvB 2 (axX s)) x2,(s.p_m.drop k).foldl (mvB 3 (axX s)) x3,())
 | 0,k,n,x3,x2,x1,hl=>by
   have c1:decide ((k:Int)<((s.p_m.length:Nat):Int))=false:=by simp;omega
   rw [List.drop_eq_nil_of_le (by omega)]
   simp only [axK,zF,TS,w6,c1,cond_false,List.foldl_nil]
 | j+1,k,n,x3,x2,x1,hl=>by
   have hlen:=dI h
   have hk:k<s.p_m.length:=by omega
   obtain⟨m,hm⟩:∃m,s.p_m[k]? = some m:=⟨s.p_m[k],List.getElem?_eq_getElem hk⟩
   have ih:=fun x3 x2 x1=>lp147 h hs j (k+1) n x3 x2 x1 (by omega)
   have hr:=fQ (sQ h m (List.mem_of_getElem? hm))
   have q:bqe (s,m.f,())=some (axX s m):=s91 hs (by omega)
   have c1:decide ((k:Int)<((s.p_m.length:Nat):Int))=true:=by simp;omega
   have c2:inR (k:Int) s.p_m.length=true:=gP (by omega) (by omega)
   have w4:IntKind.i64.wrap ((k:Int)+1)=((k+1:Nat):Int):=by rw [b7]<;>omega
   rw [aO hm,show n+(j+1)+1=(n+j+1)+1 from rfl]
   generalize n+j+1=N at ih ⊢
   simp only [axK,zF,TS,w6,c1,c2,cond_true,Int.toNat_natCast,a7 hm,w4,ih,q,obind_some,List.foldl_cons]
   have h4:m.f=0∨m.f=1∨m.f=2∨m.f=3:=by omega
   have h5:m.t=1∨m.t=2∨m.t=3∨m.t=4:=by omega
   rcases h4 with h4|h4|h4|h4<;>rcases h5 with h5|h5|h5|h5<;>cases ho:m.o<;>simp [h4,h5,ho,mvB,onB,offB,wr0,wr1,wr2,wr3]
theorem s147 (h:aC s.p_m=0) (hs:s.s_half=0∨s.s_half=1):akp (s,())=some (s.p_m.foldl (mvB 1 (axX s)) s.s_b1,s.p_m.foldl (mvB 2 (axX s)) s.s_b2,s.p_m.foldl (mvB 3 (axX s)) s.s_b3,()):=by
 have e:=lp147 h hs s.p_m.length 0 63 s.s_b3 s.s_b2 s.s_b1 (by omega)
 rw [←mB,List.drop_zero]at e
 show Ez147 (s.p_m.length+64) s=_
 unfold Ez147 Tz147
 simp only [TS,w6]
 exact e
end
section
variable {s:St}{t:Pl}
def pl (s:St) (t:Pl) (f:Int):Int:=placeB t.m s.b1 s.b2 s.b3 f
def sl (s:St) (f:Int):Int:=azk s.half s.n0 s.n1 s.b1 s.b2 s.b3 f
def uW (i p v x:Int):Int:=if p=i then v else x
def kK (s:St) (t:Pl) (i:Int):Int:=uW i (pl s t 3) (sl s 3) (uW i (pl s t 2) (sl s 2) (uW i (pl s t 1) (sl s 1) (uW i (pl s t 0) (sl s 0) 0)))
end
end
end Go.Ev
namespace Go.Ev
open Go.RowKit Go.Proofs
set_option maxRecDepth 100000
set_option maxHeartbeats 40000000
set_option linter.unusedSimpArgs false
noncomputable section
theorem safe_lt {m:Mv}(h:mvE m=0) (ho:m.o=false):m.f<m.t:=by
 obtain⟨w,hw,h1,h2,h3⟩:=aw2 h
 have hr:=fQ h
 by_cases hf:m.f=0
 · omega
 · rw [if_neg hf]at h3
   rw [ho]at h1
   simp only [wayT,List.mem_cons,List.not_mem_nil,or_false]at hw
   rcases hw with rfl|rfl|rfl|rfl|rfl|rfl|rfl|rfl|rfl|rfl|rfl|rfl|rfl|rfl<;>simp [reachB]at h1 h3<;>omega
def act (l:List Mv) (f:Int):Int:=match mAt l f with
 | none=>-1
 | some m=>if m.o then 0 else m.t
def stepA (i f a v x:Int):Int:=if a=-1 then x else if a=i then v else if f=i then 0 else x
theorem awz {l:List Mv}(h:aC l=0) {i:Int}(hi:i=1∨i=2∨i=3) (v:Mv→Int) (V:Int→Int) (hv:∀m∈l,v m=V m.f) (x:Int) :
  l.foldl (mvB i v) x=stepA i 0 (act l 0) (V 0) (stepA i 1 (act l 1) (V 1) (stepA i 2 (act l 2) (V 2) (stepA i 3 (act l 3) (V 3) x))):=by
 have one:∀(m:Mv) (y:Int),mvE m=0→v m=V m.f→mvB i v y m=stepA i m.f (if m.o then 0 else m.t) (V m.f) y:=by
  intro m y hm hvm
  have hr:=fQ hm
  unfold mvB onB offB stepA
  rw [hvm]
  cases ho:m.o with
  | true=>
    have h0:¬(0:Int)=i:=by omega
    simp [h0]
  | false=>
    have h0:¬m.t=-1:=by omega
    simp [h0]
 have no:∀(f w y:Int),stepA i f (-1) w y=y:=by intro f w y;simp [stepA]
 revert hv
 refine sh_cases h ?_ ?_ ?_ ?_ ?_ ?_ ?_ ?_ ?_ ?_ ?_ ?_ ?_ ?_ ?_ ?_<;>intros<;>(try simp only [vMv]at *)<;>simp_all [act,mAt]
end
end Go.Ev
namespace Go.Ev
open Go.RowKit Go.Proofs
set_option maxRecDepth 100000
set_option maxHeartbeats 40000000
set_option linter.unusedSimpArgs false
noncomputable section
def sO (e:Bool) (f:Int):Int:=bif e then 0 else f+1
def pT (a:Int) (e:Bool) (f:Int):Int:=if a=-1 then(if f=0 then 0 else bif e then 0 else f)else a
def lhsT (a0 a1 a2 a3:Int) (e1 e2 e3:Bool) (i:Int):Int:=stepA i 0 a0 1 (stepA i 1 a1 (sO e1 1) (stepA i 2 a2 (sO e2 2) (stepA i 3 a3 (sO e3 3) (if i=1 then sO e1 1 else if i=2 then sO e2 2 else sO e3 3))))
def xJ (a0 a1 a2 a3:Int) (e1 e2 e3:Bool) (i:Int):Int:=uW i (pT a3 e3 3) (sO e3 3) (uW i (pT a2 e2 2) (sO e2 2) (uW i (pT a1 e1 1) (sO e1 1) (uW i (pT a0 true 0) 1 0)))
def chkT (a0 a1 a2 a3:Int) (e1 e2 e3:Bool) (i:Int):Bool:=(e1&&!(a1==-1))||((e2&&!(a2==-1))||((e3&&!(a3==-1))||(awW (pT a0 true 0) (pT a1 e1 1) (pT a2 e2 2) (pT a3 e3 3)||(lhsT a0 a1 a2 a3 e1 e2 e3 i==xJ a0 a1 a2 a3 e1 e2 e3 i))))
theorem ay0:([-1,0,1,2,3,4].all fun a0=>[-1,0,2,3,4].all fun a1=>[-1,0,3,4].all fun a2=>[-1,0,4].all fun a3=>[true,false].all fun e1=>[true,false].all fun e2=>[true,false].all fun e3=>[1,2,3].all fun i=>chkT a0 a1 a2 a3 e1 e2 e3 i)=true:=by kernel_rfl
def phi (v0 b1 b2 b3 x:Int):Int:=if x=0 then 0 else if x=1 then v0 else if x=2 then b1 else if x=3 then b2 else b3
theorem phi_tok1 {v0 b1 b2 b3:Int}:phi v0 b1 b2 b3 (sO (b1==0) 1)=b1:=by
 cases h:(b1==0)
 · simp [phi,sO]
 · have h:b1=0:=by simpa using h
   simp [phi,sO,h]
theorem phi_tok2 {v0 b1 b2 b3:Int}:phi v0 b1 b2 b3 (sO (b2==0) 2)=b2:=by
 cases h:(b2==0)
 · simp [phi,sO]
 · have h:b2=0:=by simpa using h
   simp [phi,sO,h]
theorem phi_tok3 {v0 b1 b2 b3:Int}:phi v0 b1 b2 b3 (sO (b3==0) 3)=b3:=by
 cases h:(b3==0)
 · simp [phi,sO]
 · have h:b3=0:=by simpa using h
   simp [phi,sO,h]
theorem pK {v0 b1 b2 b3 i f a v x:Int}:stepA i f a (phi v0 b1 b2 b3 v) (phi v0 b1 b2 b3 x)=phi v0 b1 b2 b3 (stepA i f a v x):=by
 have e0:phi v0 b1 b2 b3 0=0:=rfl
 unfold stepA
 split
 · rfl
 · split
   · rfl
   · split
     · exact e0.symm
     · rfl
theorem phi_set {v0 b1 b2 b3 i p v x:Int}:uW i p (phi v0 b1 b2 b3 v) (phi v0 b1 b2 b3 x)=phi v0 b1 b2 b3 (uW i p v x):=by
 unfold uW
 split<;>rfl
theorem ak9 {a0 a1 a2 a3 v0 b1 b2 b3 i:Int}(h0:a0∈[-1,0,1,2,3,4]) (h1:a1∈[-1,0,2,3,4]) (h2:a2∈[-1,0,3,4]) (h3:a3∈[-1,0,4]) (hi:i∈[1,2,3])
  (z1:b1=0→a1=-1) (z2:b2=0→a2=-1) (z3:b3=0→a3=-1) (ho:awW (pT a0 true 0) (pT a1 (b1==0) 1) (pT a2 (b2==0) 2) (pT a3 (b3==0) 3)=false) :
  stepA i 0 a0 v0 (stepA i 1 a1 b1 (stepA i 2 a2 b2 (stepA i 3 a3 b3 (if i=1 then b1 else if i=2 then b2 else b3)))) =
  uW i (pT a3 (b3==0) 3) b3 (uW i (pT a2 (b2==0) 2) b2 (uW i (pT a1 (b1==0) 1) b1 (uW i (pT a0 true 0) v0 0))):=by
 have hb:∀b:Bool,b∈[true,false]:=by decide
 have c:=List.all_eq_true.1 (List.all_eq_true.1 (List.all_eq_true.1 (List.all_eq_true.1 (List.all_eq_true.1 (List.all_eq_true.1 (List.all_eq_true.1 (List.all_eq_true.1 ay0 a0 h0) a1 h1) a2 h2) a3 h3) (b1==0) (hb _)) (b2==0) (hb _)) (b3==0) (hb _)) i hi
 have y1:((b1==0)&&!(a1==-1))=false:=by
  by_cases h:b1=0
  · rw [z1 h];simp
  · simp [h]
 have y2:((b2==0)&&!(a2==-1))=false:=by
  by_cases h:b2=0
  · rw [z2 h];simp
  · simp [h]
 have y3:((b3==0)&&!(a3==-1))=false:=by
  by_cases h:b3=0
  · rw [z3 h];simp
  · simp [h]
 unfold chkT at c
 rw [y1,y2,y3,ho]at c
 simp only [Bool.false_or,beq_iff_eq]at c
 have p1:phi v0 b1 b2 b3 1=v0:=rfl
 have p0:phi v0 b1 b2 b3 0=0:=rfl
 have l:phi v0 b1 b2 b3 (lhsT a0 a1 a2 a3 (b1==0) (b2==0) (b3==0) i)=stepA i 0 a0 v0 (stepA i 1 a1 b1 (stepA i 2 a2 b2 (stepA i 3 a3 b3 (if i=1 then b1 else if i=2 then b2 else b3)))):=by
  unfold lhsT
  have e:phi v0 b1 b2 b3 (if i=1 then sO (b1==0) 1 else if i=2 then sO (b2==0) 2 else sO (b3==0) 3)=(if i=1 then b1 else if i=2 then b2 else b3):=by
   split
   · exact phi_tok1
   · split
     · exact phi_tok2
     · exact phi_tok3
  rw [←pK,←pK,←pK,←pK,phi_tok1,phi_tok2,phi_tok3,p1,e]
 have r:phi v0 b1 b2 b3 (xJ a0 a1 a2 a3 (b1==0) (b2==0) (b3==0) i)=uW i (pT a3 (b3==0) 3) b3 (uW i (pT a2 (b2==0) 2) b2 (uW i (pT a1 (b1==0) 1) b1 (uW i (pT a0 true 0) v0 0))):=by
  unfold xJ
  rw [←phi_set,←phi_set,←phi_set,←phi_set,phi_tok1,phi_tok2,phi_tok3,p1,p0]
 rw [←l,←r,c]
end
end Go.Ev
