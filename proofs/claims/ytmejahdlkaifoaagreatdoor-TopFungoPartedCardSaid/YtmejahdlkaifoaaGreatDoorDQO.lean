import Derived.Test.YtmejahdlkaifoaaGreatDoorDQN
set_option linter.unusedSimpArgs false
set_option linter.unusedVariables false
namespace Go.Ev
open Go.RowKit Go.Proofs
set_option maxRecDepth 100000
set_option maxHeartbeats 8000000
set_option linter.unusedSimpArgs false
noncomputable section
def iM (s:St) (t:Pl):Int:=if stE s≠0 then stE s else if playE t.p t.e t.m≠0 then playE t.p t.e t.m else if s.over=true then 20 else 0
def okP (t:Pl):Prop:=okPl t=true∧aW t.p=true∧aW t.e=true∧t.p.length<9223372036854775808
section
variable {s:St}{t:Pl}
theorem s60 (ok:okP t):dY (s,(((),()),((t,()),()),((),()),()),())=some (iM s t):=by
 have e18:S18 (s,())=some (stE s):=rfl
 have e141:Sz141 (s,t,())=some (playE t.p t.e t.m):=by
  show Ez141 s t=_
  unfold Ez141 Tz141 S142
  simp only [TS,w6]
  rw [if_pos ⟨ok.1,ok.2.1,ok.2.2.1⟩];rfl
 have e61:Sz61 (s,())=some (if s.over=true then 20 else 0):=by
  show Ez61 s=_
  unfold Ez61 Tz61
  simp only [TS,w6]
  cases s.over<;>rfl
 have j:∀n,cY s (((),()),((t,()),()),((),()),()) (n+4) (.k4 0)=some (iM s t):=by
  intro n
  unfold iM
  generalize stE s=a at *
  generalize playE t.p t.e t.m=b at *
  by_cases ha:a=0<;>by_cases hb:b=0<;>cases ho:s.over<;>simp [nA,cW,TS,w6,e18,e141,e61,obind_some,ha,hb,ho,wr0,wr1,wr2,wr3,cond_ite]
 show fR 64 s _=_
 unfold fR fM
 simp only [TS,w6]
 exact j 60
theorem s65 (a b:Int):Sz65 ([a,b],())=some (if a≠0 then a else b):=by
 have j:∀n,bqs [a,b] (n+3) (.k4 0)=some (if a≠0 then a else b):=by
  intro n
  by_cases ha:a=0<;>by_cases hb:b=0<;>simp [Ez65J_s,bqX,TS,w6,inR,ha,hb,wr0,wr1,wr2,cond_ite]
 show Ez65 (2+64) [a,b]=_
 unfold Ez65 Tz65
 simp only [TS,w6]
 exact j 63
theorem playE_zero (h:playE t.p t.e t.m=0):t.p.length≤24∧vEv t.e∧aB t.m=0:=by
 unfold playE at h
 simp only [cE]at h
 by_cases h1:dP t.p=0
 · by_cases h2:kW t.e=0
   · by_cases h3:aB t.m=0
     · refine ⟨?_,vEv_of h2,h3⟩
       unfold dP at h1
       split at h1
       · assumption
       · cases h1
     · simp [h1,h2,h3]at h
   · simp [h1,h2]at h
 · simp [h1]at h
theorem mS (h:iM s t=0):stE s=0∧playE t.p t.e t.m=0∧s.over=false:=by
 unfold iM at h
 by_cases h1:stE s=0
 · by_cases h2:playE t.p t.e t.m=0
   · cases ho:s.over with
     | false=>exact⟨h1,h2,rfl⟩
     | true=>simp [h1,h2,ho]at h
   · simp [h1,h2]at h
 · simp [h1]at h
theorem c_ok (h:stE s=0):s.c0≤9999∧s.c1≤9999:=by
 have:=(mF h).2.2.1
 simp [nuB,inB]at this
 omega
def accR (s:St) (t:Pl) (k:Int):Option Tn×Int×Int×Unit:=if iM s t≠0 then(none,0,iM s t,())else if k≠0 then(none,k,18,())else if axh s t=true then(none,0,4,())else(some (cC s t),0,0,())
theorem s85 (ok:okP t) {k:Int}(hk:iM s t=0→m7 (cC s t,())=some k):Sz85 (s,t,())=some (accR s t k):=by
 have u:∀n,Ez85J s t (n+1) .k3=(aH (dY (s,(((),()),((t,()),()),((),()),()),())) fun r6=>(cond (!(r6==(0:Int))) (some (none,(0:Int),r6,())) (aH (bqd (s,t,())) fun r7=>(aH (m7 (r7,())) fun r8=>(cond (!(r8==(0:Int))) (some (none,r8,(18:Int),())) (cond (s.half==(0:Int)) (aH (ayG (r7,())) fun r10=>(cond (decide ((9999:Int)<(IntKind.i64.wrap (s.c0+((r10.length:Nat):Int))))) (some (none,(0:Int),(4:Int),())) (some ((some r7),(0:Int),(0:Int),())))) (cond (s.half==(1:Int)) (aH (ayG (r7,())) fun r9=>(cond (decide ((9999:Int)<(IntKind.i64.wrap (s.c1+((r9.length:Nat):Int))))) (some (none,(0:Int),(4:Int),())) (some ((some r7),(0:Int),(0:Int),())))) none))))))):=fun _=>rfl
 show Ez85J s t ((t.m.length+63)+1) .k3=_
 rw [u,s60 ok,obind_some]
 unfold accR
 by_cases he:iM s t=0
 · obtain ⟨h1,h2,h3⟩:=mS he
   obtain⟨p1,p2,p3⟩:=playE_zero h2
   have hs:=(wB h1).half
   have e89:ayG (cC s t,())=some (qT (outsI s t) t.l t.m):=s89 (s:=cC s t) p3
   rw [s143 p3 ok.2.1,obind_some,hk he,obind_some,e89]
   have c:(!(iM s t==0))=false:=by simp [he]
   rw [c,cond_false,if_neg (by simp [he])]
   by_cases hk0:k=0
   · have c2:(!(k==0))=false:=by simp [hk0]
     rw [c2,cond_false,if_neg (by simp [hk0])]
     unfold axh runsN
     rcases hs with hs|hs<;>simp [hs,cond_ite,obind_some]<;>split<;>rfl
   · have c2:(!(k==0))=true:=by simp [hk0]
     rw [c2,cond_true,if_pos hk0]
 · have c:(!(iM s t==0))=true:=by simp [he]
   rw [c,cond_true,if_pos he]
end
end
end Go.Ev
