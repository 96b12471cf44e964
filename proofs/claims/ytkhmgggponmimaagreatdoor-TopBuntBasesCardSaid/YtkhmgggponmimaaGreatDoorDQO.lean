import Derived.Test.YtkhmgggponmimaaGreatDoorDQM
set_option linter.unusedSimpArgs false
set_option linter.unusedVariables false
namespace Go.Ev
open Go.RowKit Go.Proofs
set_option maxRecDepth 100000
set_option maxHeartbeats 8000000
set_option linter.unusedSimpArgs false
noncomputable section
def rI (x:St):Int:=bif decI x then 2 else bif x.outs==3 then(bif lastI x then 2 else 1)else 0
section
variable {s:St}{t:Pl}
theorem s92 (h:aC t.m=0) (hs:s.half=0∨s.half=1) (hv:s.over=false) (g:gH s t):Sz92 (eF s t,())=some (rI (mvd s t)):=by
 show Ez92 (eF s t)=_
 unfold Ez92 Tz92
 simp only [TS,w6]
 rw [s86 h hs g,obind_some]
 unfold nxt rI
 have w0:IntKind.i64.wrap (1-0)=1:=by decide
 have w1:IntKind.i64.wrap (1-1)=0:=by decide
 have ho:(mvd s t).over=false:=hv
 have hh:(mvd s t).half=s.half:=rfl
 have ht:(eF s t).s_half=s.half:=rfl
 rw [ht]
 generalize mvd s t=x at *
 cases decI x with
 | true=>rfl
 | false=>
   cases(x.outs==3)with
   | true=>
     cases lastI x with
     | true=>rfl
     | false=>
       simp only [cond_true,cond_false,p7,ho,hh]
       rcases hs with hs|hs<;>simp [hs,w0,w1,wr0,wr1]
   | false=>
     simp only [cond_false,ho,hh]
     simp
def bq3 (s:St) (t:Pl):Bool:=decide (9999<(if s.half=0 then IntKind.i64.wrap (s.c0+f6 s t)else IntKind.i64.wrap (s.c1+f6 s t)))
end
end
end Go.Ev
namespace Go.Ev
open Go.RowKit Go.Proofs
set_option maxRecDepth 100000
set_option maxHeartbeats 8000000
set_option linter.unusedSimpArgs false
noncomputable section
def sM (s:St) (t:Pl):Int:=if stE s≠0 then stE s else if playE t.p t.e t.m≠0 then playE t.p t.e t.m else if s.over=true then 20 else 0
def okP (t:Pl):Prop:=ax0 t=true∧aS t.p=true∧aS t.e=true∧t.p.length<9223372036854775808
section
variable {s:St}{t:Pl}
theorem s60 (ok:okP t):dV (s,(((),()),((t,()),()),((),()),()),())=some (sM s t):=by
 have e18:S18 (s,())=some (stE s):=rfl
 have e141:Sz141 (s,t,())=some (playE t.p t.e t.m):=by
  show Ez141 s t=_
  unfold Ez141 Tz141 azR
  simp only [TS,w6]
  rw [if_pos ⟨ok.1,ok.2.1,ok.2.2.1⟩];rfl
 have e61:Sz61 (s,())=some (if s.over=true then 20 else 0):=by
  show Ez61 s=_
  unfold Ez61 Tz61
  simp only [TS,w6]
  cases s.over<;>rfl
 have j:∀n,cV s (((),()),((t,()),()),((),()),()) (n+4) (.k4 0)=some (sM s t):=by
  intro n
  unfold sM
  generalize stE s=a at *
  generalize playE t.p t.e t.m=b at *
  by_cases ha:a=0<;>by_cases hb:b=0<;>cases ho:s.over<;>simp [mS,cT,TS,w6,e18,e141,e61,obind_some,ha,hb,ho,wr0,wr1,wr2,wr3,cond_ite]
 show fP 64 s _=_
 unfold fP fL
 simp only [TS,w6]
 exact j 60
theorem playE_zero (h:playE t.p t.e t.m=0):t.p.length≤24∧vEv t.e∧aC t.m=0:=by
 unfold playE at h
 simp only [jF]at h
 by_cases h1:xS t.p=0
 · by_cases h2:t0 t.e=0
   · by_cases h3:aC t.m=0
     · refine ⟨?_,vEv_of h2,h3⟩
       unfold xS at h1
       split at h1
       · assumption
       · cases h1
     · simp [h1,h2,h3]at h
   · simp [h1,h2]at h
 · simp [h1]at h
theorem jG (h:sM s t=0):stE s=0∧playE t.p t.e t.m=0∧s.over=false:=by
 unfold sM at h
 by_cases h1:stE s=0
 · by_cases h2:playE t.p t.e t.m=0
   · cases ho:s.over with
     | false=>exact⟨h1,h2,rfl⟩
     | true=>simp [h1,h2,ho]at h
   · simp [h1,h2]at h
 · simp [h1]at h
def accR (s:St) (t:Pl) (k:Int):Option Tn×Int×Int×Unit:=if sM s t≠0 then(none,0,sM s t,())else if k≠0 then(none,k,18,())else if bq3 s t=true then(none,0,4,())else(some (eF s t),0,0,())
theorem s85 (ok:okP t) {k:Int}(hk:sM s t=0→s5 (eF s t,())=some k):Sz85 (s,t,())=some (accR s t k):=by
 have u:∀n,Ez85J s t (n+1) .k3=(aM (dV (s,(((),()),((t,()),()),((),()),()),())) fun r6=>(cond (!(r6==(0:Int))) (some (none,(0:Int),r6,())) (aM (ayk (s,t,())) fun r7=>(aM (s5 (r7,())) fun r8=>(cond (!(r8==(0:Int))) (some (none,r8,(18:Int),())) (cond (s.half==(0:Int)) (aM (axH (r7,())) fun r10=>(cond (decide ((9999:Int)<(IntKind.i64.wrap (s.c0+((r10.length:Nat):Int))))) (some (none,(0:Int),(4:Int),())) (some ((some r7),(0:Int),(0:Int),())))) (cond (s.half==(1:Int)) (aM (axH (r7,())) fun r9=>(cond (decide ((9999:Int)<(IntKind.i64.wrap (s.c1+((r9.length:Nat):Int))))) (some (none,(0:Int),(4:Int),())) (some ((some r7),(0:Int),(0:Int),())))) none))))))):=fun _=>rfl
 show Ez85J s t ((t.m.length+63)+1) .k3=_
 rw [u,s60 ok,obind_some]
 unfold accR
 by_cases he:sM s t=0
 · obtain ⟨h1,h2,h3⟩:=jG he
   obtain⟨p1,p2,p3⟩:=playE_zero h2
   have hs:=(vO h1).half
   have e89:axH (eF s t,())=some (f7 (outsI s t) t.l t.m):=s89 (s:=eF s t) p3
   rw [s143 p3 ok.2.1,obind_some,hk he,obind_some,e89]
   have c:(!(sM s t==0))=false:=by simp [he]
   rw [c,cond_false,if_neg (by simp [he])]
   by_cases hk0:k=0
   · have c2:(!(k==0))=false:=by simp [hk0]
     rw [c2,cond_false,if_neg (by simp [hk0])]
     unfold bq3 f6
     rcases hs with hs|hs<;>simp [hs,cond_ite,obind_some]<;>split<;>rfl
   · have c2:(!(k==0))=true:=by simp [hk0]
     rw [c2,cond_true,if_pos hk0]
 · have c:(!(sM s t==0))=true:=by simp [he]
   rw [c,cond_true,if_pos he]
end
end
end Go.Ev
