import Derived.Test.YtkhmgggponmimaaGreatDoorDQS
set_option linter.unusedSimpArgs false
set_option linter.unusedVariables false
namespace Go.Ev
open Go.RowKit Go.Proofs
set_option maxRecDepth 100000
set_option maxHeartbeats 8000000
set_option linter.unusedSimpArgs false
noncomputable section
def memI (x:Int):List Int→Bool
 | []=>false
 | y::l=>(x==y)||memI x l
def nodI:List Int→Bool
 | []=>true
 | x::l=>!memI x l&&nodI l
def runT (a0 a1 a2 a3:Int):List Int:=(bif a3==4 then [3]else [])++((bif a2==4 then [2]else [])++((bif a1==4 then [1]else [])++(bif a0==4 then [0]else [])))
def outT (a0 a1 a2 a3:Int):Nat:=b2n (a3==0)+(b2n (a2==0)+(b2n (a1==0)+b2n (a0==0)))
def vF (r:Int):List Int:=bif r==0 then []else [r-1]
def basT (a0 a1 a2 a3:Int) (e1 e2 e3:Bool):List Int:=vF (xJ a0 a1 a2 a3 e1 e2 e3 1)++(vF (xJ a0 a1 a2 a3 e1 e2 e3 2)++vF (xJ a0 a1 a2 a3 e1 e2 e3 3))
def preT (a0:Int) (e1 e2 e3:Bool) (f:Int):Bool:=bif f==0 then !(a0==-1)else bif f==1 then !e1 else bif f==2 then !e2 else bif f==3 then !e3 else false
def allT (a0:Int) (e1 e2 e3:Bool):Nat:=b2n (!e1)+(b2n (!e2)+(b2n (!e3)+b2n (!(a0==-1))))
def allP (p:Int→Bool):List Int→Bool
 | []=>true
 | x::l=>p x&&allP p l
def zOK (a0:Int) (e1 e2 e3:Bool) (o:Nat) (z:List Int):Bool:=nodI z&&(allP (preT a0 e1 e2 e3) z&&Nat.beq (z.length+o) (allT a0 e1 e2 e3))
def bqT (a0:Int) (e1 e2:Bool) (r:Int):Nat:=bif r==1 then 0 else bif r==2 then b2n (!(a0==-1))else bif r==3 then b2n (!(a0==-1))+b2n (!e1)else b2n (!(a0==-1))+(b2n (!e1)+b2n (!e2))
def fit1 (a0:Int) (e1 e2:Bool) (o i:Nat) (r:Int):Bool:=(r==0)||(Nat.ble i (bqT a0 e1 e2 r)&&Nat.ble (bqT a0 e1 e2 r) (i+o))
def ltT (r q:Int):Bool:=(r==0)||((q==0)||decide (r<q))
def fitT (a0:Int) (e1 e2:Bool) (o:Nat) (r1 r2 r3:Int):Bool:=
 fit1 a0 e1 e2 o 0 r1&&(fit1 a0 e1 e2 o (b2n (!(r1==0))) r2&&(fit1 a0 e1 e2 o (b2n (!(r1==0))+b2n (!(r2==0))) r3&&(ltT r1 r2&&(ltT r1 r3&&ltT r2 r3))))
def inT (r:Int):Bool:=(r==0)||((r==1)||((r==2)||((r==3)||(r==4))))
def chkZ (a0 a1 a2 a3:Int) (e1 e2 e3 c:Bool):Bool:=(e1&&!(a1==-1))||((e2&&!(a2==-1))||((e3&&!(a3==-1))||(awW (pT a0 true 0) (pT a1 e1 1) (pT a2 e2 2) (pT a3 e3 3) ||
 (zOK a0 e1 e2 e3 (outT a0 a1 a2 a3) (basT a0 a1 a2 a3 e1 e2 e3++runT a0 a1 a2 a3)&&(zOK a0 e1 e2 e3 (outT a0 a1 a2 a3) ((bif c then runT a0 a1 a2 a3 else [])++lfRs c (pT a0 true 0) (pT a1 e1 1) (pT a2 e2 2) (pT a3 e3 3)) &&
  (fitT a0 e1 e2 (outT a0 a1 a2 a3) (xJ a0 a1 a2 a3 e1 e2 e3 1) (xJ a0 a1 a2 a3 e1 e2 e3 2) (xJ a0 a1 a2 a3 e1 e2 e3 3)&&(inT (xJ a0 a1 a2 a3 e1 e2 e3 1)&&(inT (xJ a0 a1 a2 a3 e1 e2 e3 2)&&inT (xJ a0 a1 a2 a3 e1 e2 e3 3)))))))))
theorem ayZ:([-1,0,1,2,3,4].all fun a0=>[-1,0,2,3,4].all fun a1=>[-1,0,3,4].all fun a2=>[-1,0,4].all fun a3=>[true,false].all fun e1=>[true,false].all fun e2=>[true,false].all fun e3=>[true,false].all fun c=>chkZ a0 a1 a2 a3 e1 e2 e3 c)=true:=by kernel_rfl
section
variable {s:St}{t:Pl}
def zB (s:St) (t:Pl):List Int:=basT (act t.m 0) (act t.m 1) (act t.m 2) (act t.m 3) (s.b1==0) (s.b2==0) (s.b3==0)
def zR (t:Pl):List Int:=runT (act t.m 0) (act t.m 1) (act t.m 2) (act t.m 3)
def zO (t:Pl):Nat:=outT (act t.m 0) (act t.m 1) (act t.m 2) (act t.m 3)
def zr (s:St) (t:Pl) (i:Int):Int:=xJ (act t.m 0) (act t.m 1) (act t.m 2) (act t.m 3) (s.b1==0) (s.b2==0) (s.b3==0) i
def zOk (s:St) (t:Pl) (z:List Int):Bool:=zOK (act t.m 0) (s.b1==0) (s.b2==0) (s.b3==0) (zO t) z
theorem zfin (h:aC t.m=0) (g:gH s t) (c:Bool) :
  zOk s t (zB s t++zR t)=true∧zOk s t ((bif c then zR t else [])++lfRs c (pl s t 0) (pl s t 1) (pl s t 2) (pl s t 3))=true ∧
  fitT (act t.m 0) (s.b1==0) (s.b2==0) (zO t) (zr s t 1) (zr s t 2) (zr s t 3)=true∧inT (zr s t 1)=true∧inT (zr s t 2)=true∧inT (zr s t 3)=true:=by
 have a0:=eI h (f:=0)
 have a1:=eI h (f:=1)
 have a2:=eI h (f:=2)
 have a3:=eI h (f:=3)
 have z:∀f:Int,(f=1∨f=2∨f=3)→bzB s.b1 s.b2 s.b3 f=true→act t.m f=-1:=by
  intro f hf hz
  unfold act
  cases hm:mAt t.m f with
  | none=>rfl
  | some m=>rw [at_nz h g.four hf hm]at hz;cases hz
 have p0:pl s t 0=pT (act t.m 0) true 0:=eJ h 0 true (.inl rfl)
 have p1:pl s t 1=pT (act t.m 1) (s.b1==0) 1:=eJ h 1 _ (.inr rfl)
 have p2:pl s t 2=pT (act t.m 2) (s.b2==0) 2:=eJ h 2 _ (.inr rfl)
 have p3:pl s t 3=pT (act t.m 3) (s.b3==0) 3:=eJ h 3 _ (.inr rfl)
 have ho':awW (pl s t 0) (pl s t 1) (pl s t 2) (pl s t 3)=false:=g.order
 rw [p0,p1,p2,p3]at ho' ⊢
 have m0:act t.m 0∈[-1,0,1,2,3,4]:=by simp;omega
 have m1:act t.m 1∈[-1,0,2,3,4]:=by simp;omega
 have m2:act t.m 2∈[-1,0,3,4]:=by simp;omega
 have m3:act t.m 3∈[-1,0,4]:=by simp;omega
 have hb:∀b:Bool,b∈[true,false]:=by decide
 have w:=List.all_eq_true.1 (List.all_eq_true.1 (List.all_eq_true.1 (List.all_eq_true.1 (List.all_eq_true.1 (List.all_eq_true.1 (List.all_eq_true.1 (List.all_eq_true.1 ayZ _ m0) _ m1) _ m2) _ m3) (s.b1==0) (hb _)) (s.b2==0) (hb _)) (s.b3==0) (hb _)) c (hb _)
 have y:∀f:Int,(f=1∨f=2∨f=3)→(bzB s.b1 s.b2 s.b3 f&&!(act t.m f==-1))=false:=by
  intro f hf
  cases hq:bzB s.b1 s.b2 s.b3 f with
  | true=>rw [z f hf hq];rfl
  | false=>rfl
 have y1:((s.b1==0)&&!(act t.m 1==-1))=false:=y 1 (by simp)
 have y2:((s.b2==0)&&!(act t.m 2==-1))=false:=y 2 (by simp)
 have y3:((s.b3==0)&&!(act t.m 3==-1))=false:=y 3 (by simp)
 unfold chkZ at w
 rw [y1,y2,y3,ho']at w
 simp only [Bool.false_or,Bool.and_eq_true]at w
 obtain⟨w1,w2,w3,w4,w5,w6⟩:=w
 exact⟨w1,w2,w3,w4,w5,w6⟩
theorem outs_T (h:aC t.m=0):t.m.countP (·.o)=zO t:=by
 unfold zO outT
 have key:∀(m:Mv),mvE m=0→b2n ((if m.o then(0:Int)else m.t)==0)=(if m.o=true then 1 else 0):=by
  intro m hm
  have hr:=fQ hm
  cases ho:m.o with
  | true=>rfl
  | false=>
    have:(m.t==0)=false:=by simp;omega
    simp only [b2n,Bool.false_eq_true,if_false,this,cond_false]
 have no:b2n ((-1:Int)==0)=0:=rfl
 refine sh_cases h ?_ ?_ ?_ ?_ ?_ ?_ ?_ ?_ ?_ ?_ ?_ ?_ ?_ ?_ ?_ ?_<;>intros<;>(try simp only [vMv]at *)<;>simp_all [act,mAt,List.countP_cons]<;>omega
end
end
end Go.Ev
