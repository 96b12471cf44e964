import Derived.Test.YthobdjmonidpoaaGreatDoorDQN
set_option linter.unusedSimpArgs false
set_option linter.unusedVariables false
namespace Go.Ev
open Go.RowKit Go.Proofs
set_option maxRecDepth 100000
set_option maxHeartbeats 8000000
set_option linter.unusedSimpArgs false
noncomputable section
def oG (s:St) (t:Pl):Int:=if stE s≠0 then stE s else if playE t.p t.e t.m≠0 then playE t.p t.e t.m else if s.over=true then 20 else 0
def okP (t:Pl):Prop:=avb t=true∧a7 t.p=true∧a7 t.e=true∧t.p.length<9223372036854775808
section
variable {s:St}{t:Pl}
theorem s60 (ok:okP t):dS (s,(((),()),((t,()),()),((),()),()),())=some (oG s t):=by
 have e18:S18 (s,())=some (stE s):=rfl
 have e141:Sz141 (s,t,())=some (playE t.p t.e t.m):=by
  show Ez141 s t=_
  unfold Ez141 Tz141 S142
  simp only [TS,w6]
  rw [if_pos ⟨ok.1,ok.2.1,ok.2.2.1⟩];rfl
 have e61:Sz61 (s,())=some (if s.over=true then 20 else 0):=by
  show Ez61 s=_
  unfold Ez61 Tz61
  simp only [TS,w6]
  cases s.over<;>rfl
 have j:∀n,cX s (((),()),((t,()),()),((),()),()) (n+4) (.k4 0)=some (oG s t):=by
  intro n
  unfold oG
  generalize stE s=a at *
  generalize playE t.p t.e t.m=b at *
  by_cases ha:a=0<;>by_cases hb:b=0<;>cases ho:s.over<;>simp [mK,cV,TS,w6,e18,e141,e61,obind_some,ha,hb,ho,wr0,wr1,wr2,wr3,cond_ite]
 show fP 64 s _=_
 unfold fP fK
 simp only [TS,w6]
 exact j 60
theorem playE_zero (h:playE t.p t.e t.m=0):t.p.length≤24∧vEv t.e∧aB t.m=0:=by
 unfold playE at h
 simp only [dU]at h
 by_cases h1:lV t.p=0
 · by_cases h2:rE t.e=0
   · by_cases h3:aB t.m=0
     · refine ⟨?_,vEv_of h2,h3⟩
       unfold lV at h1
       split at h1
       · assumption
       · cases h1
     · simp [h1,h2,h3]at h
   · simp [h1,h2]at h
 · simp [h1]at h
theorem rF (h:oG s t=0):stE s=0∧playE t.p t.e t.m=0∧s.over=false:=by
 unfold oG at h
 by_cases h1:stE s=0
 · by_cases h2:playE t.p t.e t.m=0
   · cases ho:s.over with
     | false=>exact⟨h1,h2,rfl⟩
     | true=>simp [h1,h2,ho]at h
   · simp [h1,h2]at h
 · simp [h1]at h
theorem c_ok (h:stE s=0):s.c0≤9999∧s.c1≤9999:=by
 have:=(ajW h).2.2.1
 simp [nuB,inB]at this
 omega
def accR (s:St) (t:Pl) (k:Int):Option Tn×Int×Int×Unit:=if oG s t≠0 then(none,0,oG s t,())else if k≠0 then(none,k,18,())else if azY s t=true then(none,0,4,())else(some (fQ s t),0,0,())
theorem s85 (ok:okP t) {k:Int}(hk:oG s t=0→azB (fQ s t,())=some k):Sz85 (s,t,())=some (accR s t k):=by
 have u:∀n,Ez85J s t (n+1) .k3=(aX (dS (s,(((),()),((t,()),()),((),()),()),())) fun r6=>(cond (!(r6==(0:Int))) (some (none,(0:Int),r6,())) (aX (ayo (s,t,())) fun r7=>(aX (azB (r7,())) fun r8=>(cond (!(r8==(0:Int))) (some (none,r8,(18:Int),())) (cond (s.half==(0:Int)) (aX (aw1 (r7,())) fun r10=>(cond (decide ((9999:Int)<(IntKind.i64.wrap (s.c0+((r10.length:Nat):Int))))) (some (none,(0:Int),(4:Int),())) (some ((some r7),(0:Int),(0:Int),())))) (cond (s.half==(1:Int)) (aX (aw1 (r7,())) fun r9=>(cond (decide ((9999:Int)<(IntKind.i64.wrap (s.c1+((r9.length:Nat):Int))))) (some (none,(0:Int),(4:Int),())) (some ((some r7),(0:Int),(0:Int),())))) none))))))):=fun _=>rfl
 show Ez85J s t ((t.m.length+63)+1) .k3=_
 rw [u,s60 ok,obind_some]
 unfold accR
 by_cases he:oG s t=0
 · obtain ⟨h1,h2,h3⟩:=rF he
   obtain⟨p1,p2,p3⟩:=playE_zero h2
   have hs:=(aq4 h1).half
   have e89:aw1 (fQ s t,())=some (oS (outsI s t) t.l t.m):=s89 (s:=fQ s t) p3
   rw [s143 p3 ok.2.1,obind_some,hk he,obind_some,e89]
   have c:(!(oG s t==0))=false:=by simp [he]
   rw [c,cond_false,if_neg (by simp [he])]
   by_cases hk0:k=0
   · have c2:(!(k==0))=false:=by simp [hk0]
     rw [c2,cond_false,if_neg (by simp [hk0])]
     unfold azY runsN
     rcases hs with hs|hs<;>simp [hs,cond_ite,obind_some]<;>split<;>rfl
   · have c2:(!(k==0))=true:=by simp [hk0]
     rw [c2,cond_true,if_pos hk0]
 · have c:(!(oG s t==0))=true:=by simp [he]
   rw [c,cond_true,if_pos he]
end
end
end Go.Ev
namespace Go.Ev
open Go.RowKit Go.Proofs
set_option maxRecDepth 100000
set_option maxHeartbeats 8000000
set_option linter.unusedSimpArgs false
noncomputable section
def ayE (s:St) (t:Pl) (k:Int):Int:=if oG s t≠0 then oG s t else if k≠0 then 18 else if azY s t=true then 4 else 0
def numA (s:St) (t:Pl) (k:Int):Int:=if oG s t≠0 then 0 else k
section
variable {s:St}{t:Pl}{k:Int}
theorem avS {o:Int}{b:Bool}{l:List Mv}:(oS o b l).length≤l.length∧∀m∈oS o b l,m∈l:=by
 unfold oS
 split
 · simp
 · exact⟨List.length_filter_le _ _,fun m hm=>(List.mem_filter.1 hm).1⟩
theorem acc_cases (s:St) (t:Pl) (k:Int):(ayE s t k≠0∧accR s t k=(none,numA s t k,ayE s t k,()) )∨(ayE s t k=0∧oG s t=0∧k=0∧accR s t k=(some (fQ s t),0,0,())):=by
 unfold accR ayE numA
 by_cases h1:oG s t=0
 · by_cases h2:k=0
   · cases h3:azY s t with
     | true=>left;simp [h1,h2]
     | false=>right;simp [h1,h2]
   · left;simp [h1,h2]
 · left;simp [h1]
end
end
end Go.Ev
namespace Go.Ev
open Go.RowKit Go.Proofs
set_option maxRecDepth 100000
set_option maxHeartbeats 8000000
set_option linter.unusedSimpArgs false
noncomputable section
def lfR (a:Int) (c:Bool) (p f:Int):List Int:=bif(p==a)&&(decide (a<4)||!c)then [f]else []
def lfRa (a:Int) (c:Bool) (p0 p1 p2 p3:Int):List Int:=lfR a c p3 3++(lfR a c p2 2++(lfR a c p1 1++lfR a c p0 0))
def lfRs (c:Bool) (p0 p1 p2 p3:Int):List Int:=lfRa 4 c p0 p1 p2 p3++(lfRa 3 c p0 p1 p2 p3++(lfRa 2 c p0 p1 p2 p3++lfRa 1 c p0 p1 p2 p3))
section
variable {s:St}{t:Pl}
end
end
end Go.Ev
