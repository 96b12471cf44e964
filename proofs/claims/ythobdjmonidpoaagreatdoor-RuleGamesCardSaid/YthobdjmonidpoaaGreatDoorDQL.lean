import Derived.Test.YthobdjmonidpoaaGreatDoorDQK
set_option linter.unusedSimpArgs false
set_option linter.unusedVariables false
namespace Go.Ev
open Go.RowKit Go.Proofs
set_option maxRecDepth 100000
set_option maxHeartbeats 8000000
set_option linter.unusedSimpArgs false
noncomputable section
section
variable {s:St}{t:Pl}
theorem jQ {l:List Mv}(h:aB l=0) {f:Int}:act l f=-1∨act l f=0∨(f<act l f∧act l f≤4∧1≤act l f):=by
 unfold act
 cases hm:mAt l f with
 | none=>exact .inl rfl
 | some m=>
   obtain⟨hf,hv⟩:=oV h hm
   have hr:=fR hv
   cases ho:m.o with
   | true=>exact .inr (.inl (by simp [ho]))
   | false=>
     have:=safe_lt hv ho
     refine .inr (.inr ?_)
     simp [ho]
     omega
theorem iN (h:aB t.m=0) (f:Int) (e:Bool) (he:f=0∨e=bzB s.b1 s.b2 s.b3 f):pl s t f=pT (act t.m f) e f:=by
 unfold pl placeB pT act
 cases hm:mAt t.m f with
 | none=>
   simp only [if_true]
   split
   · rfl
   · rename_i hf
     rcases he with he|he
     · exact absurd he hf
     · rw [he];cases bzB s.b1 s.b2 s.b3 f<;>rfl
 | some m=>
   simp only
   cases ho:m.o with
   | true=>simp
   | false=>
     simp only [Bool.false_eq_true,if_false]
     split
     · rename_i h1
       have:=fR (oV h hm).2
       omega
     · rfl
theorem wK (h:aB t.m=0) (g:iG s t) {i:Int}(hi:i=1∨i=2∨i=3):t.m.foldl (mvB i (awc (fQ s t))) (if i=1 then s.b1 else if i=2 then s.b2 else s.b3)=iQ s t i:=by
 have hv:∀m∈t.m,awc (fQ s t) m=(fun f=>sl s f) m.f:=fun m _=>rfl
 rw [ayA h hi _ (fun f=>sl s f) hv]
 have e1:sl s 1=s.b1:=rfl
 have e2:sl s 2=s.b2:=rfl
 have e3:sl s 3=s.b3:=rfl
 have a0:=jQ h (f:=0)
 have a1:=jQ h (f:=1)
 have a2:=jQ h (f:=2)
 have a3:=jQ h (f:=3)
 have z:∀f:Int,(f=1∨f=2∨f=3)→bzB s.b1 s.b2 s.b3 f=true→act t.m f=-1:=by
  intro f hf hz
  unfold act
  cases hm:mAt t.m f with
  | none=>rfl
  | some m=>rw [at_nz h g.four hf hm]at hz;cases hz
 have p0:pl s t 0=pT (act t.m 0) true 0:=iN h 0 true (.inl rfl)
 have p1:pl s t 1=pT (act t.m 1) (s.b1==0) 1:=iN h 1 _ (.inr rfl)
 have p2:pl s t 2=pT (act t.m 2) (s.b2==0) 2:=iN h 2 _ (.inr rfl)
 have p3:pl s t 3=pT (act t.m 3) (s.b3==0) 3:=iN h 3 _ (.inr rfl)
 have ho:=g.order
 have ho':av7 (pl s t 0) (pl s t 1) (pl s t 2) (pl s t 3)=false:=ho
 rw [p0,p1,p2,p3]at ho'
 unfold iQ
 rw [p0,p1,p2,p3]
 simp only [e1,e2,e3]
 refine akf ?_ ?_ ?_ ?_ (by simpa using hi) (fun hb=>z 1 (by simp) (by simp [bzB,hb])) (fun hb=>z 2 (by simp) (by simp [bzB,hb])) (fun hb=>z 3 (by simp) (by simp [bzB,hb])) ho'
 · simp;omega
 · simp;omega
 · simp;omega
 · simp;omega
def aw0 (n:Int):Int:=IntKind.i64.wrap (n.tmod 9+1)
def runsN (s:St) (t:Pl):Int:=((oS (outsI s t) t.l t.m).length:Nat)
def mvd (s:St) (t:Pl):St:=⟨s.inn,s.half,outsI s t,if t.e=[]then(iD s t).1.1 else 0,if t.e=[]then(iD s t).1.2.1 else 0,iQ s t 1,iQ s t 2,iQ s t 3,
 if ¬t.e=[]∧s.half=0 then aw0 s.n0 else s.n0,if ¬t.e=[]∧s.half=1 then aw0 s.n1 else s.n1,if s.half=0 then IntKind.i64.wrap (s.c0+runsN s t)else s.c0,if s.half=1 then IntKind.i64.wrap (s.c1+runsN s t)else s.c1,s.over⟩
theorem s95 (h:aB t.m=0) (hs:s.half=0∨s.half=1) (hl:t.p.length<9223372036854775808):Sz95 (s,t,())=some (mvd s t):=by
 have e39:=s39 (s:=s) h hs
 have e59:aqv (t,())=some ((t.m.countP (·.o):Nat):Int):=by
  obtain⟨p,e,b,l⟩:=t
  exact av6 (bF h)
 have e154:∀n:Int,axz (n,())=some (aw0 n):=fun _=>rfl
 have hlen:((oS (outsI s t) t.l t.m).map (sltM s)).length=(oS (outsI s t) t.l t.m).length:=by simp
 show Ez95 (t.m.length+64) s t=_
 unfold Ez95 Tz95
 simp only [TS,w6]
 rw [s29 hl,obind_some,show t.m.length+64=(t.m.length+54)+5+5 from rfl]
 generalize t.m.length+54=n
 have e22:=fun a b c d e f g=>lp22 h hs (n+1) a b c d e f g
 have uk7:∀(m:Nat) (x2 x3:Int),eI s t (m+1) (.k7 x2 x3)=(eI s t m (.k11 x2 x3)):=fun _ _ _=>rfl
 have uk11:∀(m:Nat) (x4 x5:Int),eI s t (m+1) (.k11 x4 x5)=(cond (!decide (t.e=[])) (eI s t m (.k13)) (aX (aqv (t,())) fun r37=>(eI s t m (.k17 (IntKind.i64.wrap (s.outs+r37)) x4 x5 s.n1 s.n0)))):=fun _ _ _=>rfl
 have uk13:∀(m:Nat),eI s t (m+1) (.k13)=(cond (s.half==(0:Int)) (aX (axz (s.n0,())) fun r41=>(cond (s.half==(0:Int)) (aX (aqv (t,())) fun r43=>(eI s t m (.k17 (IntKind.i64.wrap (s.outs+r43)) (0:Int) (0:Int) s.n1 r41))) (cond (s.half==(1:Int)) (aX (aqv (t,())) fun r42=>(eI s t m (.k17 (IntKind.i64.wrap (s.outs+r42)) (0:Int) (0:Int) r41 s.n0))) none))) (cond (s.half==(1:Int)) (aX (axz (s.n1,())) fun r38=>(cond (s.half==(0:Int)) (aX (aqv (t,())) fun r40=>(eI s t m (.k17 (IntKind.i64.wrap (s.outs+r40)) (0:Int) (0:Int) s.n1 r38))) (cond (s.half==(1:Int)) (aX (aqv (t,())) fun r39=>(eI s t m (.k17 (IntKind.i64.wrap (s.outs+r39)) (0:Int) (0:Int) r38 s.n0))) none))) none)):=fun _=>rfl
 have uk17:∀(m:Nat) (x7 x8 x9 x12 x14:Int),eI s t (m+1) (.k17 x7 x8 x9 x12 x14)=(cond (s.half==(0:Int)) (aX (Sz39 (s,t,())) fun r45=>(cond (s.half==(0:Int)) (eI s t m (.k22 x7 x8 x9 x14 x12 s.c1 (IntKind.i64.wrap (s.c0+((r45.length:Nat):Int))) (0:Int) (0:Int) (0:Int) (0:Int))) (cond (s.half==(1:Int)) (eI s t m (.k22 x7 x8 x9 x14 x12 (IntKind.i64.wrap (s.c0+((r45.length:Nat):Int))) s.c0 (0:Int) (0:Int) (0:Int) (0:Int))) none))) (cond (s.half==(1:Int)) (aX (Sz39 (s,t,())) fun r44=>(cond (s.half==(0:Int)) (eI s t m (.k22 x7 x8 x9 x14 x12 s.c1 (IntKind.i64.wrap (s.c1+((r44.length:Nat):Int))) (0:Int) (0:Int) (0:Int) (0:Int))) (cond (s.half==(1:Int)) (eI s t m (.k22 x7 x8 x9 x14 x12 (IntKind.i64.wrap (s.c1+((r44.length:Nat):Int))) s.c0 (0:Int) (0:Int) (0:Int) (0:Int))) none))) none)):=fun _ _ _ _ _ _=>rfl
 rw [show n+5+5=(n+9)+1 from rfl,uk7,show n+9=(n+8)+1 from rfl,uk11,show n+8=(n+7)+1 from rfl,uk13]
 have v17:∀(m:Nat) (a b c d e:Int),eI s t (m+6) (.k17 a b c d e)=some (⟨s.inn,s.half,a,b,c,iQ s t 1,iQ s t 2,iQ s t 3,e,d,if s.half=0 then IntKind.i64.wrap (s.c0+runsN s t)else s.c0,if s.half=1 then IntKind.i64.wrap (s.c1+runsN s t)else s.c1,s.over⟩:St):=by
  intro m a b c d e
  rw [show m+6=(m+5)+1 from rfl,uk17,e39]
  simp only [obind_some,hlen]
  rw [lp22 h hs,lp22 h hs,lp22 h hs,lp22 h hs]
  rcases hs with hs|hs<;>simp [hs,runsN]
 have w1:∀a b c d e:Int,eI s t (n+7) (.k17 a b c d e)=_:=v17 (n+1)
 have w2:∀a b c d e:Int,eI s t (n+8) (.k17 a b c d e)=_:=v17 (n+2)
 simp only [e59,e154,obind_some,w1,w2]
 unfold mvd outsI
 rcases hs with hs|hs<;>by_cases he:t.e=[]<;>simp [hs,he,iD]
end
end
end Go.Ev
