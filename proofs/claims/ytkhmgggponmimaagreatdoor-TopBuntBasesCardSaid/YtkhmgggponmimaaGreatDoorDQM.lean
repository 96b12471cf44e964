import Derived.Test.YtkhmgggponmimaaGreatDoorDQK
set_option linter.unusedSimpArgs false
set_option linter.unusedVariables false
namespace Go.Ev
open Go.RowKit Go.Proofs
set_option maxRecDepth 100000
set_option maxHeartbeats 8000000
set_option linter.unusedSimpArgs false
noncomputable section
section
variable {s:St}{t:Pl}
theorem eI {l:List Mv}(h:aC l=0) {f:Int}:act l f=-1∨act l f=0∨(f<act l f∧act l f≤4∧1≤act l f):=by
 unfold act
 cases hm:mAt l f with
 | none=>exact .inl rfl
 | some m=>
   obtain⟨hf,hv⟩:=xT h hm
   have hr:=fQ hv
   cases ho:m.o with
   | true=>exact .inr (.inl (by simp [ho]))
   | false=>
     have:=safe_lt hv ho
     refine .inr (.inr ?_)
     simp [ho]
     omega
theorem eJ (h:aC t.m=0) (f:Int) (e:Bool) (he:f=0∨e=bzB s.b1 s.b2 s.b3 f):pl s t f=pT (act t.m f) e f:=by
 unfold pl placeB pT act
 cases hm:mAt t.m f with
 | none=>
   simp only [if_true]
   split
   · rfl
   · rename_i hf
     rcases he with he|he
     · exact absurd he hf
     · rw [he];cases bzB s.b1 s.b2 s.b3 f<;>rfl
 | some m=>
   simp only
   cases ho:m.o with
   | true=>simp
   | false=>
     simp only [Bool.false_eq_true,if_false]
     split
     · rename_i h1
       have:=fQ (xT h hm).2
       omega
     · rfl
theorem wM (h:aC t.m=0) (g:gH s t) {i:Int}(hi:i=1∨i=2∨i=3):t.m.foldl (mvB i (axX (eF s t))) (if i=1 then s.b1 else if i=2 then s.b2 else s.b3)=kK s t i:=by
 have hv:∀m∈t.m,axX (eF s t) m=(fun f=>sl s f) m.f:=fun m _=>rfl
 rw [awz h hi _ (fun f=>sl s f) hv]
 have e1:sl s 1=s.b1:=rfl
 have e2:sl s 2=s.b2:=rfl
 have e3:sl s 3=s.b3:=rfl
 have a0:=eI h (f:=0)
 have a1:=eI h (f:=1)
 have a2:=eI h (f:=2)
 have a3:=eI h (f:=3)
 have z:∀f:Int,(f=1∨f=2∨f=3)→bzB s.b1 s.b2 s.b3 f=true→act t.m f=-1:=by
  intro f hf hz
  unfold act
  cases hm:mAt t.m f with
  | none=>rfl
  | some m=>rw [at_nz h g.four hf hm]at hz;cases hz
 have p0:pl s t 0=pT (act t.m 0) true 0:=eJ h 0 true (.inl rfl)
 have p1:pl s t 1=pT (act t.m 1) (s.b1==0) 1:=eJ h 1 _ (.inr rfl)
 have p2:pl s t 2=pT (act t.m 2) (s.b2==0) 2:=eJ h 2 _ (.inr rfl)
 have p3:pl s t 3=pT (act t.m 3) (s.b3==0) 3:=eJ h 3 _ (.inr rfl)
 have ho:=g.order
 have ho':awW (pl s t 0) (pl s t 1) (pl s t 2) (pl s t 3)=false:=ho
 rw [p0,p1,p2,p3]at ho'
 unfold kK
 rw [p0,p1,p2,p3]
 simp only [e1,e2,e3]
 refine ak9 ?_ ?_ ?_ ?_ (by simpa using hi) (fun hb=>z 1 (by simp) (by simp [bzB,hb])) (fun hb=>z 2 (by simp) (by simp [bzB,hb])) (fun hb=>z 3 (by simp) (by simp [bzB,hb])) ho'
 · simp;omega
 · simp;omega
 · simp;omega
 · simp;omega
def ay4 (n:Int):Int:=IntKind.i64.wrap (n.tmod 9+1)
def f6 (s:St) (t:Pl):Int:=((f7 (outsI s t) t.l t.m).length:Nat)
def mvd (s:St) (t:Pl):St:=⟨s.inn,s.half,outsI s t,if t.e=[]then(eR s t).1.1 else 0,if t.e=[]then(eR s t).1.2.1 else 0,kK s t 1,kK s t 2,kK s t 3,
 if ¬t.e=[]∧s.half=0 then ay4 s.n0 else s.n0,if ¬t.e=[]∧s.half=1 then ay4 s.n1 else s.n1,if s.half=0 then IntKind.i64.wrap (s.c0+f6 s t)else s.c0,if s.half=1 then IntKind.i64.wrap (s.c1+f6 s t)else s.c1,s.over⟩
end
end
end Go.Ev
namespace Go.Ev
open Go.RowKit Go.Proofs
set_option maxRecDepth 100000
set_option maxHeartbeats 8000000
set_option linter.unusedSimpArgs false
noncomputable section
def decI (x:St):Bool:=decide (9≤x.inn)&&((x.half==1)&&decide (x.c0<x.c1))
def endI (x:St):St:=⟨x.inn,x.half,0,0,0,0,0,0,x.n0,x.n1,x.c0,x.c1,true⟩
def lastI (x:St):Bool:=!decide (x.inn<9)&&(decide (x.c0<x.c1)||((x.half==1)&&(!(x.c0==x.c1)||(x.inn==30))))
def p7 (x:St):St:=⟨bif x.half==1 then IntKind.i64.wrap (x.inn+1)else x.inn,IntKind.i64.wrap (1-x.half),0,0,0,0,0,0,x.n0,x.n1,x.c0,x.c1,x.over⟩
def nxt (x:St):St:=bif decI x then endI x else bif x.outs==3 then(bif lastI x then endI x else p7 x)else x
theorem s177 (x:St):ayg (x,())=some (decide (x.c0<x.c1)):=rfl
theorem s120 (x:St):awC (x,())=some (decI x):=by
 show Ez120 x=_
 unfold Ez120 Tz120 decI
 simp only [TS,w6]
 rw [s177,obind_some]
 cases decide (9≤x.inn)<;>cases(x.half==1)<;>rfl
theorem s148 (x:St):axw (x,())=some (endI x):=rfl
theorem s176 (x:St):Sz176 (x,())=some (lastI x):=by
 show Ez176 x=_
 unfold Ez176 Tz176 lastI
 simp only [TS,w6]
 rw [s177,obind_some]
 cases decide (x.inn<9)<;>cases decide (x.c0<x.c1)<;>cases(x.half==1)<;>cases(x.c0==x.c1)<;>rfl
theorem s149 (x:St):ako (x,())=some (bif lastI x then endI x else p7 x):=by
 show Ez149 x=_
 unfold Ez149 Tz149
 simp only [TS,w6]
 rw [s176,obind_some,s148]
 have e:ayh (x,())=some (⟨x.inn,x.half,0,0,0,0,0,0,x.n0,x.n1,x.c0,x.c1,x.over⟩:St):=rfl
 rw [e,obind_some,obind_some]
 cases lastI x with
 | true=>rfl
 | false=>
   unfold p7
   cases(x.half==1)<;>rfl
theorem v86k9 (s:Tn):∀(m:Nat) (x2 x3:Int),wU s (m+1) (.k9 x2 x3)=(wU s m (.k11 x3 x2)):=fun _ _ _=>rfl
theorem v86k11 (s:Tn):∀(m:Nat) (x5 x6:Int),wU s (m+1) (.k11 x5 x6)=(aM (s4 (s,())) fun r24=>(cond (!r24) (aM (Sz62 ((⟨s.s_inn,s.s_half,s.outs,(0:Int),(0:Int),s.s_b1,s.s_b2,s.s_b3,s.s_n0,s.s_n1,x5,x6,s.s_over⟩:St),())) fun r25=>(aM (ayj (r25,())) fun r26=>(cond (s.s_half==(0:Int)) (wU s m (.k17 s.s_n1 x5 x6 r26 (0:Int) (0:Int))) (cond (s.s_half==(1:Int)) (wU s m (.k17 r26 x5 x6 s.s_n0 (0:Int) (0:Int))) none)))) (wU s m (.k17 s.s_n1 x5 x6 s.s_n0 s.k0 s.k1)))):=fun _ _ _=>rfl
theorem v86k17 (s:Tn):∀(m:Nat) (x10 x11 x12 x13 x14 x15:Int),wU s (m+1) (.k17 x10 x11 x12 x13 x14 x15)=(aM (akp (s,())) fun r27=>(aM (awC ((⟨s.s_inn,s.s_half,s.outs,x14,x15,r27.1,r27.2.1,r27.2.2.1,x13,x10,x11,x12,s.s_over⟩:St),())) fun r28=>(cond r28 (aM (axw ((⟨s.s_inn,s.s_half,s.outs,x14,x15,r27.1,r27.2.1,r27.2.2.1,x13,x10,x11,x12,s.s_over⟩:St),())) fun r29=>(some r29)) (cond (s.outs==(3:Int)) (aM (ako ((⟨s.s_inn,s.s_half,s.outs,x14,x15,r27.1,r27.2.1,r27.2.2.1,x13,x10,x11,x12,s.s_over⟩:St),())) fun r30=>(some r30)) (some (⟨s.s_inn,s.s_half,s.outs,x14,x15,r27.1,r27.2.1,r27.2.2.1,x13,x10,x11,x12,s.s_over⟩:St)))))):=fun _ _ _ _ _ _ _=>rfl
section
variable {s:St}{t:Pl}
theorem s86 (h:aC t.m=0) (hs:s.half=0∨s.half=1) (g:gH s t):Sz86 (eF s t,())=some (nxt (mvd s t)):=by
 have e89:axH (eF s t,())=some (f7 (outsI s t) t.l t.m):=s89 (s:=eF s t) h
 have b1:=wM h g (i:=1) (by simp)
 have b2:=wM h g (i:=2) (by simp)
 have b3:=wM h g (i:=3) (by simp)
 have e147:akp (eF s t,())=some (kK s t 1,kK s t 2,kK s t 3,()):=by
  rw [s147 (s:=eF s t) h hs]
  rw [←b1,←b2,←b3];rfl
 have e62:∀x:St,x.half=s.half→Sz62 (x,())=some (if s.half=0 then x.n0 else x.n1):=by
  intro x hx
  show Ez62 x=_
  unfold Ez62 Tz62
  simp only [TS,w6]
  rw [hx]
  rcases hs with hs|hs<;>simp [hs]
 have e146:∀n:Int,ayj (n,())=some (ay4 n):=fun _=>rfl
 have e145:s4 (eF s t,())=some (decide (t.e=[])):=rfl
 show Ez86 (t.m.length+64) (eF s t)=_
 unfold Ez86 Tz86
 simp only [TS,w6]
 rw [e89,show t.m.length+64=(t.m.length+61)+3 from rfl]
 generalize t.m.length+61=n
 have fin:∀x10 x11 x12 x13 x14 x15:Int,(⟨s.inn,s.half,outsI s t,x14,x15,kK s t 1,kK s t 2,kK s t 3,x13,x10,x11,x12,s.over⟩:St)=mvd s t→wU (eF s t) (n+1) (.k17 x10 x11 x12 x13 x14 x15)=some (nxt (mvd s t)):=by
  intro x10 x11 x12 x13 x14 x15 hx
  rw [v86k17,e147,obind_some]
  show(aM (awC ((⟨s.inn,s.half,outsI s t,x14,x15,kK s t 1,kK s t 2,kK s t 3,x13,x10,x11,x12,s.over⟩:St),())) fun r28=>(cond r28 (aM (axw ((⟨s.inn,s.half,outsI s t,x14,x15,kK s t 1,kK s t 2,kK s t 3,x13,x10,x11,x12,s.over⟩:St),())) fun r29=>(some r29)) (cond (outsI s t==(3:Int)) (aM (ako ((⟨s.inn,s.half,outsI s t,x14,x15,kK s t 1,kK s t 2,kK s t 3,x13,x10,x11,x12,s.over⟩:St),())) fun r30=>(some r30)) (some (⟨s.inn,s.half,outsI s t,x14,x15,kK s t 1,kK s t 2,kK s t 3,x13,x10,x11,x12,s.over⟩:St)))))=_
  rw [hx,s120,obind_some,s148,obind_some,s149,obind_some]
  have ho:(mvd s t).outs=outsI s t:=rfl
  unfold nxt
  rw [ho]
  cases decI (mvd s t)<;>cases(outsI s t==3)<;>rfl
 rcases hs with hs|hs<;>by_cases he:t.e=[] <;>
  simp only [show(eF s t).s_half=s.half from rfl,show(eF s t).s_c0=s.c0 from rfl,show(eF s t).s_c1=s.c1 from rfl,hs,obind_some,show n+3=(n+2)+1 from rfl,v86k9,show n+2=(n+1)+1 from rfl,v86k11,e145,he,decide_true,decide_false,Bool.not_true,Bool.not_false,cond_true,cond_false,show((0:Int)==0)=true from rfl,show((1:Int)==0)=false from rfl,show((1:Int)==1)=true from rfl] <;>
  (try rw [e62 _ (by first|exact hs.symm|rfl),obind_some,e146,obind_some])<;>(try simp only [hs,if_true,if_false,show((1:Int)=0)=False from by simp])<;>refine fin _ _ _ _ _ _ ?_<;>simp [mvd,hs,he,f6,eR,eF]
end
end
end Go.Ev
