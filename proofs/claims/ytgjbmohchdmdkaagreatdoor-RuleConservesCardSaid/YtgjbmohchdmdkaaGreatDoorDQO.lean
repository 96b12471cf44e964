import Derived.Test.YtgjbmohchdmdkaaGreatDoorDQM
set_option linter.unusedSimpArgs false
set_option linter.unusedVariables false
namespace Go.Ev
open Go.RowKit Go.Proofs
set_option maxRecDepth 100000
set_option maxHeartbeats 8000000
set_option linter.unusedSimpArgs false
noncomputable section
def jC (x:St):Int:=bif decI x then 2 else bif x.outs==3 then(bif lastI x then 2 else 1)else 0
section
variable {s:St}{t:Pl}
theorem s92 (h:aB t.m=0) (hs:s.half=0∨s.half=1) (hv:s.over=false) (g:eP s t):bxg (d8 s t,())=some (jC (mvd s t)):=by
 show Ez92 (d8 s t)=_
 unfold Ez92 Tz92
 simp only [TS,w6]
 rw [s86 h hs g,obind_some]
 unfold nxt jC
 have w0:IntKind.i64.wrap (1-0)=1:=by decide
 have w1:IntKind.i64.wrap (1-1)=0:=by decide
 have ho:(mvd s t).over=false:=hv
 have hh:(mvd s t).half=s.half:=rfl
 have ht:(d8 s t).s_half=s.half:=rfl
 rw [ht]
 generalize mvd s t=x at *
 cases decI x with
 | true=>rfl
 | false=>
   cases(x.outs==3)with
   | true=>
     cases lastI x with
     | true=>rfl
     | false=>
       simp only [cond_true,cond_false,rW,ho,hh]
       rcases hs with hs|hs<;>simp [hs,w0,w1,wr0,wr1]
   | false=>
     simp only [cond_false,ho,hh]
     simp
theorem s67 (x:St):Sz67 (x,())=some (decI x):=by
 show Ez67 x=_
 unfold Ez67 Tz67 decI
 simp only [TS,w6]
 cases decide (9≤x.inn)<;>cases(x.half==1)<;>rfl
theorem s41 (h:aB t.m=0) (hs:s.half=0∨s.half=1) (hl:t.p.length<9223372036854775808) (g:eP s t):Sz41 (s,t,())=some (jC (mvd s t)):=by
 show Ez41 s t=_
 unfold Ez41 Tz41
 simp only [TS,w6]
 rw [s95 h hs hl,obind_some,s67,obind_some]
 have hh:(mvd s t).half=s.half:=rfl
 have ho:(mvd s t).outs≤3:=g.outs
 unfold jC lastI
 generalize mvd s t=x at *
 cases hd:decI x with
 | true=>rfl
 | false =>
   unfold decI at hd
   have e3:decide (x.outs<3)=!(x.outs==3):=by rw [Bool.eq_iff_iff];simp;omega
   rw [e3]
   cases(x.outs==3)with
   | false=>rfl
   | true =>
     simp only [cond_true,cond_false,Bool.not_true]
     rw [hh]at hd ⊢
     by_cases h9:(9:Int)≤x.inn
     · have d1:decide ((9:Int)≤x.inn)=true:=by simpa using h9
       have d2:decide (x.inn<9)=false:=by simp;omega
       rw [d1]at hd ⊢
       rw [d2]
       rcases hs with hs|hs
       · simp only [hs]
         cases decide (x.c0<x.c1)<;>rfl
       · simp only [hs]at hd ⊢
         have hc:decide (x.c0<x.c1)=false:=by simpa using hd
         rw [hc]
         cases(x.c0==x.c1)<;>cases(x.inn==30)<;>rfl
     · have d1:decide ((9:Int)≤x.inn)=false:=by simpa using h9
       have d2:decide (x.inn<9)=true:=by simp;omega
       have d3:(x.inn==30)=false:=by simp;omega
       rw [d1,d2,d3]
       rcases hs with hs|hs<;>simp [hs]
def zSt:St:=⟨0,0,0,0,0,0,0,0,0,0,0,0,false⟩
def ayv (s:St) (t:Pl):Bool:=decide (9999<(if s.half=0 then IntKind.i64.wrap (s.c0+runsN s t)else IntKind.i64.wrap (s.c1+runsN s t)))
end
end
end Go.Ev
namespace Go.Ev
open Go.RowKit Go.Proofs
set_option maxRecDepth 100000
set_option maxHeartbeats 8000000
set_option linter.unusedSimpArgs false
noncomputable section
def qZ (s:St) (t:Pl):Int:=if stE s≠0 then stE s else if playE t.p t.e t.m≠0 then playE t.p t.e t.m else if s.over=true then 20 else 0
def okP (t:Pl):Prop:=okPl t=true∧bW t.p=true∧bW t.e=true∧t.p.length<9223372036854775808
section
variable {s:St}{t:Pl}
theorem s60 (ok:okP t):d7 (s,(((),()),((t,()),()),((),()),()),())=some (qZ s t):=by
 have e18:S18 (s,())=some (stE s):=rfl
 have e141:Sz141 (s,t,())=some (playE t.p t.e t.m):=by
  show Ez141 s t=_
  unfold Ez141 Tz141 S142
  simp only [TS,w6]
  rw [if_pos ⟨ok.1,ok.2.1,ok.2.2.1⟩];rfl
 have e61:Sz61 (s,())=some (if s.over=true then 20 else 0):=by
  show Ez61 s=_
  unfold Ez61 Tz61
  simp only [TS,w6]
  cases s.over<;>rfl
 have j:∀n,cZ s (((),()),((t,()),()),((),()),()) (n+4) (.k4 0)=some (qZ s t):=by
  intro n
  unfold qZ
  generalize stE s=a at *
  generalize playE t.p t.e t.m=b at *
  by_cases ha:a=0<;>by_cases hb:b=0<;>cases ho:s.over<;>simp [oD,cX,TS,w6,e18,e141,e61,obind_some,ha,hb,ho,wr0,wr1,wr2,wr3,cond_ite]
 show f6 64 s _=_
 unfold f6 fW
 simp only [TS,w6]
 exact j 60
theorem playE_zero (h:playE t.p t.e t.m=0):t.p.length≤24∧vEv t.e∧aB t.m=0:=by
 unfold playE at h
 simp only [dM]at h
 by_cases h1:nI t.p=0
 · by_cases h2:tA t.e=0
   · by_cases h3:aB t.m=0
     · refine ⟨?_,vEv_of h2,h3⟩
       unfold nI at h1
       split at h1
       · assumption
       · cases h1
     · simp [h1,h2,h3]at h
   · simp [h1,h2]at h
 · simp [h1]at h
theorem j0 (h:qZ s t=0):stE s=0∧playE t.p t.e t.m=0∧s.over=false:=by
 unfold qZ at h
 by_cases h1:stE s=0
 · by_cases h2:playE t.p t.e t.m=0
   · cases ho:s.over with
     | false=>exact⟨h1,h2,rfl⟩
     | true=>simp [h1,h2,ho]at h
   · simp [h1,h2]at h
 · simp [h1]at h
def accR (s:St) (t:Pl) (k:Int):Option Tn×Int×Int×Unit:=if qZ s t≠0 then(none,0,qZ s t,())else if k≠0 then(none,k,18,())else if ayv s t=true then(none,0,4,())else(some (d8 s t),0,0,())
theorem s85 (ok:okP t) {k:Int}(hk:qZ s t=0→yZ (d8 s t,())=some k):Sz85 (s,t,())=some (accR s t k):=by
 have u:∀n,Ez85J s t (n+1) .k3=(aH (d7 (s,(((),()),((t,()),()),((),()),()),())) fun r6=>(cond (!(r6==(0:Int))) (some (none,(0:Int),r6,())) (aH (bjZ (s,t,())) fun r7=>(aH (yZ (r7,())) fun r8=>(cond (!(r8==(0:Int))) (some (none,r8,(18:Int),())) (cond (s.half==(0:Int)) (aH (ajL (r7,())) fun r10=>(cond (decide ((9999:Int)<(IntKind.i64.wrap (s.c0+((r10.length:Nat):Int))))) (some (none,(0:Int),(4:Int),())) (some ((some r7),(0:Int),(0:Int),())))) (cond (s.half==(1:Int)) (aH (ajL (r7,())) fun r9=>(cond (decide ((9999:Int)<(IntKind.i64.wrap (s.c1+((r9.length:Nat):Int))))) (some (none,(0:Int),(4:Int),())) (some ((some r7),(0:Int),(0:Int),())))) none))))))):=fun _=>rfl
 show Ez85J s t ((t.m.length+63)+1) .k3=_
 rw [u,s60 ok,obind_some]
 unfold accR
 by_cases he:qZ s t=0
 · obtain ⟨h1,h2,h3⟩:=j0 he
   obtain⟨p1,p2,p3⟩:=playE_zero h2
   have hs:=(oW h1).half
   have e89:ajL (d8 s t,())=some (dA (outsI s t) t.l t.m):=s89 (s:=d8 s t) p3
   rw [s143 p3 ok.2.1,obind_some,hk he,obind_some,e89]
   have c:(!(qZ s t==0))=false:=by simp [he]
   rw [c,cond_false,if_neg (by simp [he])]
   by_cases hk0:k=0
   · have c2:(!(k==0))=false:=by simp [hk0]
     rw [c2,cond_false,if_neg (by simp [hk0])]
     unfold ayv runsN
     rcases hs with hs|hs<;>simp [hs,cond_ite,obind_some]<;>split<;>rfl
   · have c2:(!(k==0))=true:=by simp [hk0]
     rw [c2,cond_true,if_pos hk0]
 · have c:(!(qZ s t==0))=true:=by simp [he]
   rw [c,cond_true,if_pos he]
end
end
end Go.Ev
