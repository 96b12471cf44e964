import Derived.Test.YtknnagbemkdlgaaGreatDoorDQP
set_option linter.unusedSimpArgs false
set_option linter.unusedVariables false
namespace Go.Ev
open Go.RowKit Go.Proofs
set_option maxRecDepth 100000
set_option maxHeartbeats 8000000
set_option linter.unusedSimpArgs false
noncomputable section
def lfR (a:Int) (c:Bool) (p f:Int):List Int:=bif(p==a)&&(decide (a<4)||!c)then [f]else []
def lfRa (a:Int) (c:Bool) (p0 p1 p2 p3:Int):List Int:=lfR a c p3 3++(lfR a c p2 2++(lfR a c p1 1++lfR a c p0 0))
def lfRs (c:Bool) (p0 p1 p2 p3:Int):List Int:=lfRa 4 c p0 p1 p2 p3++(lfRa 3 c p0 p1 p2 p3++(lfRa 2 c p0 p1 p2 p3++lfRa 1 c p0 p1 p2 p3))
section
variable {s:St}{t:Pl}
end
end
end Go.Ev
namespace Go.Ev
open Go.RowKit Go.Proofs
set_option maxRecDepth 100000
set_option maxHeartbeats 8000000
set_option linter.unusedSimpArgs false
noncomputable section
def memI (x:Int):List Int→Bool
 | []=>false
 | y::l=>(x==y)||memI x l
def nodI:List Int→Bool
 | []=>true
 | x::l=>!memI x l&&nodI l
def runT (a0 a1 a2 a3:Int):List Int:=(bif a3==4 then [3]else [])++((bif a2==4 then [2]else [])++((bif a1==4 then [1]else [])++(bif a0==4 then [0]else [])))
def outT (a0 a1 a2 a3:Int):Nat:=b2n (a3==0)+(b2n (a2==0)+(b2n (a1==0)+b2n (a0==0)))
def aqt (r:Int):List Int:=bif r==0 then []else [r-1]
def basT (a0 a1 a2 a3:Int) (e1 e2 e3:Bool):List Int:=aqt (aqp a0 a1 a2 a3 e1 e2 e3 1)++(aqt (aqp a0 a1 a2 a3 e1 e2 e3 2)++aqt (aqp a0 a1 a2 a3 e1 e2 e3 3))
def preT (a0:Int) (e1 e2 e3:Bool) (f:Int):Bool:=bif f==0 then !(a0==-1)else bif f==1 then !e1 else bif f==2 then !e2 else bif f==3 then !e3 else false
def allT (a0:Int) (e1 e2 e3:Bool):Nat:=b2n (!e1)+(b2n (!e2)+(b2n (!e3)+b2n (!(a0==-1))))
def allP (p:Int→Bool):List Int→Bool
 | []=>true
 | x::l=>p x&&allP p l
def zOK (a0:Int) (e1 e2 e3:Bool) (o:Nat) (z:List Int):Bool:=nodI z&&(allP (preT a0 e1 e2 e3) z&&Nat.beq (z.length+o) (allT a0 e1 e2 e3))
def ay9 (a0:Int) (e1 e2:Bool) (r:Int):Nat:=bif r==1 then 0 else bif r==2 then b2n (!(a0==-1))else bif r==3 then b2n (!(a0==-1))+b2n (!e1)else b2n (!(a0==-1))+(b2n (!e1)+b2n (!e2))
def fit1 (a0:Int) (e1 e2:Bool) (o i:Nat) (r:Int):Bool:=(r==0)||(Nat.ble i (ay9 a0 e1 e2 r)&&Nat.ble (ay9 a0 e1 e2 r) (i+o))
def ltT (r q:Int):Bool:=(r==0)||((q==0)||decide (r<q))
def fitT (a0:Int) (e1 e2:Bool) (o:Nat) (r1 r2 r3:Int):Bool:=
 fit1 a0 e1 e2 o 0 r1&&(fit1 a0 e1 e2 o (b2n (!(r1==0))) r2&&(fit1 a0 e1 e2 o (b2n (!(r1==0))+b2n (!(r2==0))) r3&&(ltT r1 r2&&(ltT r1 r3&&ltT r2 r3))))
def inT (r:Int):Bool:=(r==0)||((r==1)||((r==2)||((r==3)||(r==4))))
def chkZ (a0 a1 a2 a3:Int) (e1 e2 e3 c:Bool):Bool:=(e1&&!(a1==-1))||((e2&&!(a2==-1))||((e3&&!(a3==-1))||(ay6 (pT a0 true 0) (pT a1 e1 1) (pT a2 e2 2) (pT a3 e3 3) ||
 (zOK a0 e1 e2 e3 (outT a0 a1 a2 a3) (basT a0 a1 a2 a3 e1 e2 e3++runT a0 a1 a2 a3)&&(zOK a0 e1 e2 e3 (outT a0 a1 a2 a3) ((bif c then runT a0 a1 a2 a3 else [])++lfRs c (pT a0 true 0) (pT a1 e1 1) (pT a2 e2 2) (pT a3 e3 3)) &&
  (fitT a0 e1 e2 (outT a0 a1 a2 a3) (aqp a0 a1 a2 a3 e1 e2 e3 1) (aqp a0 a1 a2 a3 e1 e2 e3 2) (aqp a0 a1 a2 a3 e1 e2 e3 3)&&(inT (aqp a0 a1 a2 a3 e1 e2 e3 1)&&(inT (aqp a0 a1 a2 a3 e1 e2 e3 2)&&inT (aqp a0 a1 a2 a3 e1 e2 e3 3)))))))))
theorem awh:([-1,0,1,2,3,4].all fun a0=>[-1,0,2,3,4].all fun a1=>[-1,0,3,4].all fun a2=>[-1,0,4].all fun a3=>[true,false].all fun e1=>[true,false].all fun e2=>[true,false].all fun e3=>[true,false].all fun c=>chkZ a0 a1 a2 a3 e1 e2 e3 c)=true:=by kernel_rfl
section
variable {s:St}{t:Pl}
def zB (s:St) (t:Pl):List Int:=basT (act t.m 0) (act t.m 1) (act t.m 2) (act t.m 3) (s.b1==0) (s.b2==0) (s.b3==0)
def zR (t:Pl):List Int:=runT (act t.m 0) (act t.m 1) (act t.m 2) (act t.m 3)
def zO (t:Pl):Nat:=outT (act t.m 0) (act t.m 1) (act t.m 2) (act t.m 3)
def zr (s:St) (t:Pl) (i:Int):Int:=aqp (act t.m 0) (act t.m 1) (act t.m 2) (act t.m 3) (s.b1==0) (s.b2==0) (s.b3==0) i
def zOk (s:St) (t:Pl) (z:List Int):Bool:=zOK (act t.m 0) (s.b1==0) (s.b2==0) (s.b3==0) (zO t) z
theorem zfin (h:aI t.m=0) (g:jL s t) (c:Bool) :
  zOk s t (zB s t++zR t)=true∧zOk s t ((bif c then zR t else [])++lfRs c (pl s t 0) (pl s t 1) (pl s t 2) (pl s t 3))=true ∧
  fitT (act t.m 0) (s.b1==0) (s.b2==0) (zO t) (zr s t 1) (zr s t 2) (zr s t 3)=true∧inT (zr s t 1)=true∧inT (zr s t 2)=true∧inT (zr s t 3)=true:=by
 have a0:=jJ h (f:=0)
 have a1:=jJ h (f:=1)
 have a2:=jJ h (f:=2)
 have a3:=jJ h (f:=3)
 have z:∀f:Int,(f=1∨f=2∨f=3)→bzB s.b1 s.b2 s.b3 f=true→act t.m f=-1:=by
  intro f hf hz
  unfold act
  cases hm:mAt t.m f with
  | none=>rfl
  | some m=>rw [at_nz h g.four hf hm]at hz;cases hz
 have p0:pl s t 0=pT (act t.m 0) true 0:=iH h 0 true (.inl rfl)
 have p1:pl s t 1=pT (act t.m 1) (s.b1==0) 1:=iH h 1 _ (.inr rfl)
 have p2:pl s t 2=pT (act t.m 2) (s.b2==0) 2:=iH h 2 _ (.inr rfl)
 have p3:pl s t 3=pT (act t.m 3) (s.b3==0) 3:=iH h 3 _ (.inr rfl)
 have ho':ay6 (pl s t 0) (pl s t 1) (pl s t 2) (pl s t 3)=false:=g.order
 rw [p0,p1,p2,p3]at ho' ⊢
 have m0:act t.m 0∈[-1,0,1,2,3,4]:=by simp;omega
 have m1:act t.m 1∈[-1,0,2,3,4]:=by simp;omega
 have m2:act t.m 2∈[-1,0,3,4]:=by simp;omega
 have m3:act t.m 3∈[-1,0,4]:=by simp;omega
 have hb:∀b:Bool,b∈[true,false]:=by decide
 have w:=List.all_eq_true.1 (List.all_eq_true.1 (List.all_eq_true.1 (List.all_eq_true.1 (List.all_eq_true.1 (List.all_eq_true.1 (List.all_eq_true.1 (List.all_eq_true.1 awh _ m0) _ m1) _ m2) _ m3) (s.b1==0) (hb _)) (s.b2==0) (hb _)) (s.b3==0) (hb _)) c (hb _)
 have y:∀f:Int,(f=1∨f=2∨f=3)→(bzB s.b1 s.b2 s.b3 f&&!(act t.m f==-1))=false:=by
  intro f hf
  cases hq:bzB s.b1 s.b2 s.b3 f with
  | true=>rw [z f hf hq];rfl
  | false=>rfl
 have y1:((s.b1==0)&&!(act t.m 1==-1))=false:=y 1 (by simp)
 have y2:((s.b2==0)&&!(act t.m 2==-1))=false:=y 2 (by simp)
 have y3:((s.b3==0)&&!(act t.m 3==-1))=false:=y 3 (by simp)
 unfold chkZ at w
 rw [y1,y2,y3,ho']at w
 simp only [Bool.false_or,Bool.and_eq_true]at w
 obtain⟨w1,w2,w3,w4,w5,w6⟩:=w
 exact⟨w1,w2,w3,w4,w5,w6⟩
theorem outs_T (h:aI t.m=0):t.m.countP (·.o)=zO t:=by
 unfold zO outT
 have key:∀(m:Mv),mvE m=0→b2n ((if m.o then(0:Int)else m.t)==0)=(if m.o=true then 1 else 0):=by
  intro m hm
  have hr:=iK hm
  cases ho:m.o with
  | true=>rfl
  | false=>
    have:(m.t==0)=false:=by simp;omega
    simp only [b2n,Bool.false_eq_true,if_false,this,cond_false]
 have no:b2n ((-1:Int)==0)=0:=rfl
 refine sh_cases h ?_ ?_ ?_ ?_ ?_ ?_ ?_ ?_ ?_ ?_ ?_ ?_ ?_ ?_ ?_ ?_<;>intros<;>(try simp only [vMv]at *)<;>simp_all [act,mAt,List.countP_cons]<;>omega
end
end
end Go.Ev
namespace Go.Ev
open Go.RowKit Go.Proofs
set_option maxRecDepth 100000
set_option maxHeartbeats 8000000
set_option linter.unusedSimpArgs false
noncomputable section
def nb (b:Int):Int:=if b=0 then 0 else 1
structure akj (s:St):Prop where
 f1:s.b1≠0→0≤sinC s.b1 (batC s)∧sinC s.b1 (batC s)≤s.outs
 f2:s.b2≠0→nb s.b1≤sinC s.b2 (batC s)∧sinC s.b2 (batC s)≤nb s.b1+s.outs
 f3:s.b3≠0→nb s.b1+nb s.b2≤sinC s.b3 (batC s)∧sinC s.b3 (batC s)≤nb s.b1+nb s.b2+s.outs
 l12:s.b1≠0→s.b2≠0→sinC s.b1 (batC s)<sinC s.b2 (batC s)
 l13:s.b1≠0→s.b3≠0→sinC s.b1 (batC s)<sinC s.b3 (batC s)
 l23:s.b2≠0→s.b3≠0→sinC s.b2 (batC s)<sinC s.b3 (batC s)
abbrev okF (o lo la x:Int):Prop:=lo≤x∧x≤lo+o∧la<x
theorem ajm {s:St}{slot lo la:Int}:rZ s slot (some (lo,la))=if slot=0 then some (lo,la)else if lo≤sinC slot (batC s)∧sinC slot (batC s)≤lo+s.outs∧la<sinC slot (batC s)then some (lo+1,sinC slot (batC s))else none:=by
 simp only [rZ]
 split
 · rfl
 · by_cases h:lo≤sinC slot (batC s)∧sinC slot (batC s)≤lo+s.outs∧la<sinC slot (batC s)
   · rw [if_pos h,if_pos]
     simp [inB];omega
   · rw [if_neg h,if_neg]
     simp [inB];omega
theorem azG {s:St}{slot lo la:Int}:rZ s slot (some (lo,la))=if slot=0∨okF s.outs lo la (sinC slot (batC s))then some (lo+nb slot,if slot=0 then la else sinC slot (batC s))else none:=by
 rw [ajm]
 unfold nb okF
 by_cases h:slot=0
 · simp [h]
 · simp only [h,if_false,false_or]
theorem azH {s:St}{slot lo la:Int}{A:Prop} [Decidable A]:rZ s slot (if A then some (lo,la)else none)=if A∧(slot=0∨okF s.outs lo la (sinC slot (batC s)))then some (lo+nb slot,if slot=0 then la else sinC slot (batC s))else none:=by
 by_cases h:A
 · rw [if_pos h,azG]
   simp only [h,true_and]
 · rw [if_neg h,if_neg (fun q=>h q.1)];rfl
theorem fit_iff (s:St):awV s=true↔akj s:=by
 have h1:=pO s.b1 (batC s)
 unfold awV
 simp only [avR,bsC]
 rw [azG,azH,azH]
 simp only [Option.isSome_ite]
 constructor
 · rintro ⟨⟨a1,a2⟩,a3⟩
   simp only [okF,Int.zero_add]at a1 a2 a3
   refine⟨fun z=>?_,fun z=>?_,fun z=>?_,fun z y=>?_,fun z y=>?_,fun z y=>?_⟩
   · have:=a1.resolve_left z;omega
   · have:=a2.resolve_left z;omega
   · have:=a3.resolve_left z;omega
   · have:=a2.resolve_left y;rw [if_neg z]at this;omega
   · have w:=a3.resolve_left y
     by_cases x:s.b2=0
     · rw [if_pos x,if_neg z]at w;omega
     · have v:=a2.resolve_left x
       rw [if_neg x]at w;rw [if_neg z]at v;omega
   · have w:=a3.resolve_left y
     rw [if_neg z]at w;omega
 · rintro ⟨f1,f2,f3,l12,l13,l23⟩
   simp only [okF,Int.zero_add]
   refine⟨⟨?_,?_⟩,?_⟩
   · by_cases z:s.b1=0
     · exact .inl z
     · have:=f1 z;exact .inr (by omega)
   · by_cases z:s.b2=0
     · exact .inl z
     · have w:=f2 z
       refine .inr ⟨w.1,w.2,?_⟩
       by_cases y:s.b1=0
       · rw [if_pos y];have:=pO s.b2 (batC s);omega
       · rw [if_neg y];exact l12 y z
   · by_cases z:s.b3=0
     · exact .inl z
     · have w:=f3 z
       refine .inr ⟨w.1,w.2,?_⟩
       by_cases x:s.b2=0
       · rw [if_pos x]
         by_cases y:s.b1=0
         · rw [if_pos y];have:=pO s.b3 (batC s);omega
         · rw [if_neg y];exact l13 y z
       · rw [if_neg x];exact l23 x z
end
end Go.Ev
namespace Go.Ev
open Go.RowKit Go.Proofs
set_option maxRecDepth 100000
set_option maxHeartbeats 8000000
set_option linter.unusedSimpArgs false
noncomputable section
section
variable {s:St}{t:Pl}
def akf (s:St) (t:Pl) (f:Int):Prop:=(f=0∧act t.m 0≠-1)∨(f=1∧s.b1≠0)∨(f=2∧s.b2≠0)∨(f=3∧s.b3≠0)
theorem azn {f:Int}(h:preT (act t.m 0) (s.b1==0) (s.b2==0) (s.b3==0) f=true):akf s t f:=by
 unfold preT at h
 unfold akf
 by_cases h0:f=0
 · subst h0;simp at h;exact .inl ⟨rfl,h⟩
 · by_cases h1:f=1
   · subst h1;simp at h;exact .inr (.inl ⟨rfl,h⟩)
   · by_cases h2:f=2
     · subst h2;simp at h;exact .inr (.inr (.inl ⟨rfl,h⟩))
     · by_cases h3:f=3
       · subst h3;simp at h;exact .inr (.inr (.inr ⟨rfl,h⟩))
       · simp [h0,h1,h2,h3]at h
theorem sl0:sl s 0=batC s:=rfl
theorem sl1:sl s 1=s.b1:=rfl
theorem sl2:sl s 2=s.b2:=rfl
theorem sl3:sl s 3=s.b3:=rfl
theorem ayp (g:Good s):1≤batC s∧batC s≤9:=by
 have:=g.n0;have:=g.n1
 unfold batC;split<;>omega
theorem awH (b:Int):0≤nb b∧nb b≤1:=by unfold nb;split<;>omega
theorem sl_nz (g:Good s) {f:Int}(h:akf s t f):1≤sl s f∧sl s f≤9:=by
 have h1:=g.b1;have h2:=g.b2;have h3:=g.b3;have h0:=ayp g
 rcases h with⟨rfl,_⟩ | ⟨rfl,h⟩ | ⟨rfl,h⟩ | ⟨rfl,h⟩
 · rw [sl0];exact h0
 · rw [sl1];omega
 · rw [sl2];omega
 · rw [sl3];omega
theorem oW (h:aI t.m=0) (g:jL s t) {i:Int}(hi:i=1∨i=2∨i=3):kM s t i=if zr s t i=0 then 0 else sl s (zr s t i-1):=by
 obtain⟨_,_,_,i1,i2,i3⟩:=zfin h g true
 have hin:inT (zr s t i)=true:=by rcases hi with rfl|rfl|rfl<;>assumption
 have p0:pl s t 0=pT (act t.m 0) true 0:=iH h 0 true (.inl rfl)
 have p1:pl s t 1=pT (act t.m 1) (s.b1==0) 1:=iH h 1 _ (.inr rfl)
 have p2:pl s t 2=pT (act t.m 2) (s.b2==0) 2:=iH h 2 _ (.inr rfl)
 have p3:pl s t 3=pT (act t.m 3) (s.b3==0) 3:=iH h 3 _ (.inr rfl)
 have q1:phi (sl s 0) s.b1 s.b2 s.b3 1=sl s 0:=rfl
 have q0:phi (sl s 0) s.b1 s.b2 s.b3 0=0:=rfl
 have e:phi (sl s 0) s.b1 s.b2 s.b3 (zr s t i)=kM s t i:=by
  unfold kM zr aqp
  rw [p0,p1,p2,p3,←phi_set,←phi_set,←phi_set,←phi_set,phi_tok1,phi_tok2,phi_tok3,q1,q0]
  rfl
 rw [←e]
 generalize zr s t i=r at hin
 simp only [inT,Bool.or_eq_true,beq_iff_eq]at hin
 rcases hin with rfl|rfl|rfl|rfl|rfl<;>rfl
theorem aqz {x:Int}:∀ {l:List Int},memI x l=true↔x∈l
 | []=>by simp [memI]
 | y::l=>by simp only [memI,Bool.or_eq_true,beq_iff_eq,aqz,List.mem_cons]
theorem aqu:∀ {l:List Int},nodI l=true↔l.Nodup
 | []=>by simp [nodI]
 | y::l=>by
   simp only [nodI,Bool.and_eq_true,List.nodup_cons,aqu,Bool.not_eq_true']
   rw [←aqz (x:=y) (l:=l)]
   simp
theorem aj6 {p:Int→Bool}:∀ {l:List Int},allP p l=true↔∀x∈l,p x=true
 | []=>by simp [allP]
 | y::l=>by simp only [allP,Bool.and_eq_true,aj6,List.forall_mem_cons]
structure ZOk (s:St) (t:Pl) (z:List Int):Prop where
 nod:z.Nodup
 all:∀f∈z,akf s t f
 len:z.length+zO t=allT (act t.m 0) (s.b1==0) (s.b2==0) (s.b3==0)
theorem ayX {z:List Int}(h:zOk s t z=true):ZOk s t z:=by
 unfold zOk zOK at h
 simp only [Bool.and_eq_true,aqu,aj6]at h
 exact⟨h.1,fun f hf=>azn (h.2.1 f hf),Nat.eq_of_beq_eq_true h.2.2⟩
end
end
end Go.Ev
namespace Go.Ev
open Go.RowKit Go.Proofs
set_option maxRecDepth 100000
set_option maxHeartbeats 8000000
set_option linter.unusedSimpArgs false
noncomputable section
section
variable {s:St}{t:Pl}
theorem xJ (h:aI t.m=0) (g:jL s t):t.e=[]↔act t.m 0=-1:=by
 have hh:=g.has
 unfold act
 cases hm:mAt t.m 0 with
 | none=>rw [hm]at hh;simpa using hh.symm
 | some m=>
   rw [hm]at hh
   have hr:=iK (zT h hm).2
   have he:¬t.e=[]:=by simpa using hh
   simp only [he,false_iff]
   split<;>omega
theorem aj2 {n:Int}(h:1≤n∧n≤9):awl n=n % 9+1:=by
 unfold awl
 rw [wbeh]
 unfold behC
 rw [Int.tmod_eq_emod_of_nonneg (by omega)]
theorem bat_mvd (G:Good s):batC (mvd s t)=if t.e=[]then batC s else batC s % 9+1:=by
 have n0:=G.n0;have n1:=G.n1
 unfold batC mvd
 dsimp only
 by_cases he:t.e=[]
 · simp [he]
 · rcases G.half with hh|hh
   · simp [he,hh,aj2 n0]
   · simp [he,hh,aj2 n1]
theorem avy {b:Int}:((b2n (!(b==0)):Nat):Int)=nb b:=by
 unfold b2n nb
 by_cases h:b=0
 · simp [h]
 · rw [show(b==0)=false by simpa using h,if_neg h];rfl
theorem pP {r b:Int}{e:List Nat}(hr:1≤r∧r≤9) (hb:1≤b∧b≤9) (h:sinC r b≤4):sinC r (if e=[]then b else b % 9+1)=sinC r b+(if e=[]then 0 else 1):=by
 unfold sinC at h ⊢
 split<;>omega
theorem sig_bat {b:Int}(hb:1≤b∧b≤9):sinC b (b % 9+1)=0:=by unfold sinC;omega
theorem tT (h:aI t.m=0) (g:jL s t):((b2n (!(act t.m 0==-1)):Nat):Int)=if t.e=[]then 0 else 1:=by
 have:=xJ h g
 unfold b2n
 by_cases he:t.e=[]
 · rw [this.1 he];simp [he]
 · have:¬act t.m 0=-1:=fun q=>he (this.2 q)
   rw [show(act t.m 0==-1)=false by simpa using this,if_neg he];rfl
theorem sg (h:aI t.m=0) (g:jL s t) (G:Good s) (F:akj s):(act t.m 0≠-1→sinC (sl s 0) (batC (mvd s t))=0) ∧
  (s.b1≠0→sinC (sl s 1) (batC (mvd s t))=sinC s.b1 (batC s)+(if t.e=[]then 0 else 1)) ∧
  (s.b2≠0→sinC (sl s 2) (batC (mvd s t))=sinC s.b2 (batC s)+(if t.e=[]then 0 else 1)) ∧
  (s.b3≠0→sinC (sl s 3) (batC (mvd s t))=sinC s.b3 (batC s)+(if t.e=[]then 0 else 1)):=by
 have o:=G.outs;have b:=ayp G;have n1:=awH s.b1;have n2:=awH s.b2
 have c1:=G.b1;have c2:=G.b2;have c3:=G.b3
 rw [bat_mvd G]
 refine⟨fun z=>?_,fun z=>?_,fun z=>?_,fun z=>?_⟩
 · have he:¬t.e=[]:=fun q=>z ((xJ h g).1 q)
   rw [if_neg he,sl0];exact sig_bat b
 · have:=F.f1 z
   rw [sl1];exact pP (by omega) b (by omega)
 · have:=F.f2 z
   rw [sl2];exact pP (by omega) b (by omega)
 · have:=F.f3 z
   rw [sl3];exact pP (by omega) b (by omega)
theorem y0 (h:aI t.m=0) (g:jL s t) (G:Good s) (F:akj s) {f:Int}(hp:akf s t f) :
  ((ay9 (act t.m 0) (s.b1==0) (s.b2==0) (f+1):Nat):Int)≤sinC (sl s f) (batC (mvd s t))∧sinC (sl s f) (batC (mvd s t))≤((ay9 (act t.m 0) (s.b1==0) (s.b2==0) (f+1):Nat):Int)+s.outs:=by
 obtain⟨s0,s1,s2,s3⟩:=sg h g G F
 have o:=G.outs
 have e1:=avy (b:=s.b1)
 have e2:=avy (b:=s.b2)
 have eT:=tT h g
 rcases hp with⟨rfl,z⟩ | ⟨rfl,z⟩ | ⟨rfl,z⟩ | ⟨rfl,z⟩
 · rw [s0 z]
   have:ay9 (act t.m 0) (s.b1==0) (s.b2==0) (0+1)=0:=rfl
   rw [this];omega
 · have w:=F.f1 z
   rw [s1 z]
   have:ay9 (act t.m 0) (s.b1==0) (s.b2==0) (1+1)=b2n (!(act t.m 0==-1)):=rfl
   rw [this,eT];omega
 · have w:=F.f2 z
   rw [s2 z]
   have:ay9 (act t.m 0) (s.b1==0) (s.b2==0) (2+1)=b2n (!(act t.m 0==-1))+b2n (!(s.b1==0)):=rfl
   rw [this,Int.natCast_add,eT,e1];omega
 · have w:=F.f3 z
   rw [s3 z]
   have:ay9 (act t.m 0) (s.b1==0) (s.b2==0) (3+1)=b2n (!(act t.m 0==-1))+(b2n (!(s.b1==0))+b2n (!(s.b2==0))):=rfl
   rw [this,Int.natCast_add,Int.natCast_add,eT,e1,e2];omega
theorem azA (h:aI t.m=0) (g:jL s t) (G:Good s) (F:akj s) {f f':Int}(hp:akf s t f) (hp':akf s t f') (hf:f<f'):sinC (sl s f) (batC (mvd s t))<sinC (sl s f') (batC (mvd s t)):=by
 obtain⟨s0,s1,s2,s3⟩:=sg h g G F
 have n1:=awH s.b1
 have n2:=awH s.b2
 rcases hp with⟨rfl,z⟩ | ⟨rfl,z⟩ | ⟨rfl,z⟩ | ⟨rfl,z⟩<;>rcases hp' with⟨rfl,y⟩ | ⟨rfl,y⟩ | ⟨rfl,y⟩ | ⟨rfl,y⟩<;>first|omega|skip
 · have he:¬t.e=[]:=fun q=>z ((xJ h g).1 q)
   have w:=F.f1 y
   rw [s0 z,s1 y,if_neg he];omega
 · have he:¬t.e=[]:=fun q=>z ((xJ h g).1 q)
   have w:=F.f2 y
   rw [s0 z,s2 y,if_neg he];omega
 · have he:¬t.e=[]:=fun q=>z ((xJ h g).1 q)
   have w:=F.f3 y
   rw [s0 z,s3 y,if_neg he];omega
 · have w:=F.l12 z y
   rw [s1 z,s2 y];omega
 · have w:=F.l13 z y
   rw [s1 z,s3 y];omega
 · have w:=F.l23 z y
   rw [s2 z,s3 y];omega
theorem ay5 (h:aI t.m=0) (G:Good s):outsI s t=s.outs+((zO t:Nat):Int):=by
 have o:=G.outs
 have l:=gA h
 have c:t.m.countP (·.o)≤t.m.length:=List.countP_le_length
 unfold outsI
 rw [dG (by omega) (by omega),outs_T h]
theorem fit_mvd (h:aI t.m=0) (g:jL s t) (G:Good s) (F:akj s):akj (mvd s t):=by
 have r1:=oW h g (i:=1) (by simp)
 have r2:=oW h g (i:=2) (by simp)
 have r3:=oW h g (i:=3) (by simp)
 have Z:=ayX (zfin h g true).1
 have hfit:=(zfin h g true).2.2.1
 have oo:=ay5 h G
 have pz:∀f∈zB s t,akf s t f:=fun f hf=>Z.all f (List.mem_append_left _ hf)
 have ez:zB s t=aqt (zr s t 1)++(aqt (zr s t 2)++aqt (zr s t 3)):=rfl
 rw [ez]at pz
 have tok:∀ {r b:Int},b=(if r=0 then 0 else sl s (r-1))→(∀f∈aqt r,akf s t f)→(b≠0↔r≠0)∧(r≠0→akf s t (r-1)∧b=sl s (r-1)):=by
  intro r b hb hz
  by_cases hr:r=0
  · subst hb;simp [hr]
  · have e:aqt r=[r-1]:=by unfold aqt;rw [show(r==0)=false by simpa using hr];rfl
    have p:=hz (r-1) (by rw [e];simp)
    have:=sl_nz G p
    rw [if_neg hr]at hb
    refine⟨⟨fun _=>hr,fun _=>by omega⟩,fun _=>⟨p,hb⟩⟩
 obtain⟨q1,t1⟩:=tok r1 (fun f hf=>pz f (by simp [hf]))
 obtain⟨q2,t2⟩:=tok r2 (fun f hf=>pz f (by simp [hf]))
 obtain⟨q3,t3⟩:=tok r3 (fun f hf=>pz f (by simp [hf]))
 have nbt:∀ {r b:Int},(b≠0↔r≠0)→nb b=((b2n (!(r==0)):Nat):Int):=by
  intro r b hq
  rw [avy]
  unfold nb
  by_cases hr:r=0
  · have:b=0:=Decidable.not_not.1 fun q=>hq.1 q hr
    simp [hr,this]
  · simp [hr,hq.2 hr]
 have nb1:=nbt q1
 have nb2:=nbt q2
 simp only [fitT,fit1,ltT,Bool.and_eq_true,Bool.or_eq_true,beq_iff_eq,decide_eq_true_eq,Nat.ble_eq]at hfit
 obtain⟨a1,a2,a3,m12,m13,m23⟩:=hfit
 have B1:(mvd s t).b1=kM s t 1:=rfl
 have B2:(mvd s t).b2=kM s t 2:=rfl
 have B3:(mvd s t).b3=kM s t 3:=rfl
 have OO:(mvd s t).outs=outsI s t:=rfl
 refine⟨fun z=>?_,fun z=>?_,fun z=>?_,fun z y=>?_,fun z y=>?_,fun z y=>?_⟩
 · rw [B1]at z ⊢
   have hr:=q1.1 z
   obtain⟨p,e⟩:=t1 hr
   have w:=y0 h g G F p
   have v:=a1.resolve_left hr
   rw [Int.sub_add_cancel]at w
   rw [e,OO,oo];omega
 · rw [B2]at z ⊢
   have hr:=q2.1 z
   obtain⟨p,e⟩:=t2 hr
   have w:=y0 h g G F p
   have v:=a2.resolve_left hr
   rw [Int.sub_add_cancel]at w
   rw [e,OO,oo,B1,nb1];omega
 · rw [B3]at z ⊢
   have hr:=q3.1 z
   obtain⟨p,e⟩:=t3 hr
   have w:=y0 h g G F p
   have v:=a3.resolve_left hr
   rw [Int.sub_add_cancel]at w
   rw [e,OO,oo,B1,B2,nb1,nb2];omega
 · rw [B1]at z ⊢;rw [B2]at y ⊢
   obtain⟨p,e⟩:=t1 (q1.1 z)
   obtain⟨p',e'⟩:=t2 (q2.1 y)
   have v:=(m12.resolve_left (q1.1 z)).resolve_left (q2.1 y)
   rw [e,e'];exact azA h g G F p p' (by omega)
 · rw [B1]at z ⊢;rw [B3]at y ⊢
   obtain⟨p,e⟩:=t1 (q1.1 z)
   obtain⟨p',e'⟩:=t3 (q3.1 y)
   have v:=(m13.resolve_left (q1.1 z)).resolve_left (q3.1 y)
   rw [e,e'];exact azA h g G F p p' (by omega)
 · rw [B2]at z ⊢;rw [B3]at y ⊢
   obtain⟨p,e⟩:=t2 (q2.1 z)
   obtain⟨p',e'⟩:=t3 (q3.1 y)
   have v:=(m23.resolve_left (q2.1 z)).resolve_left (q3.1 y)
   rw [e,e'];exact azA h g G F p p' (by omega)
end
end
end Go.Ev
