import Derived.Test.YtfhpbcklkijaoaaGreatDoorDQM
set_option linter.unusedSimpArgs false
set_option linter.unusedVariables false
namespace Go.Ev
open Go.RowKit Go.Proofs
set_option maxRecDepth 100000
set_option maxHeartbeats 8000000
set_option linter.unusedSimpArgs false
noncomputable section
section
variable {s:St}{t:Pl}
def bqd (s:St) (t:Pl):Bool:=decide (9999<(if s.half=0 then IntKind.i64.wrap (s.c0+eO s t)else IntKind.i64.wrap (s.c1+eO s t)))
end
end
end Go.Ev
namespace Go.Ev
open Go.RowKit Go.Proofs
set_option maxRecDepth 100000
set_option maxHeartbeats 8000000
set_option linter.unusedSimpArgs false
noncomputable section
def vZ (s:St) (t:Pl):Int:=if stE s≠0 then stE s else if playE t.p t.e t.m≠0 then playE t.p t.e t.m else if s.over=true then 20 else 0
def okP (t:Pl):Prop:=aw6 t=true∧aV t.p=true∧aV t.e=true∧t.p.length<9223372036854775808
section
variable {s:St}{t:Pl}
theorem s60 (ok:okP t):dP (s,(((),()),((t,()),()),((),()),()),())=some (vZ s t):=by
 have e18:S18 (s,())=some (stE s):=rfl
 have e141:Sz141 (s,t,())=some (playE t.p t.e t.m):=by
  show Ez141 s t=_
  unfold Ez141 Tz141 S142
  simp only [TS,w6]
  rw [if_pos ⟨ok.1,ok.2.1,ok.2.2.1⟩];rfl
 have e61:Sz61 (s,())=some (if s.over=true then 20 else 0):=by
  show Ez61 s=_
  unfold Ez61 Tz61
  simp only [TS,w6]
  cases s.over<;>rfl
 have j:∀n,cR s (((),()),((t,()),()),((),()),()) (n+4) (.k4 0)=some (vZ s t):=by
  intro n
  unfold vZ
  generalize stE s=a at *
  generalize playE t.p t.e t.m=b at *
  by_cases ha:a=0<;>by_cases hb:b=0<;>cases ho:s.over<;>simp [mS,cP,TS,w6,e18,e141,e61,obind_some,ha,hb,ho,wr0,wr1,wr2,wr3,cond_ite]
 show fP 64 s _=_
 unfold fP fL
 simp only [TS,w6]
 exact j 60
theorem playE_zero (h:playE t.p t.e t.m=0):t.p.length≤24∧vEv t.e∧aC t.m=0:=by
 unfold playE at h
 simp only [dY]at h
 by_cases h1:xX t.p=0
 · by_cases h2:t7 t.e=0
   · by_cases h3:aC t.m=0
     · refine ⟨?_,vEv_of h2,h3⟩
       unfold xX at h1
       split at h1
       · assumption
       · cases h1
     · simp [h1,h2,h3]at h
   · simp [h1,h2]at h
 · simp [h1]at h
theorem rJ (h:vZ s t=0):stE s=0∧playE t.p t.e t.m=0∧s.over=false:=by
 unfold vZ at h
 by_cases h1:stE s=0
 · by_cases h2:playE t.p t.e t.m=0
   · cases ho:s.over with
     | false=>exact⟨h1,h2,rfl⟩
     | true=>simp [h1,h2,ho]at h
   · simp [h1,h2]at h
 · simp [h1]at h
def accR (s:St) (t:Pl) (k:Int):Option Tn×Int×Int×Unit:=if vZ s t≠0 then(none,0,vZ s t,())else if k≠0 then(none,k,18,())else if bqd s t=true then(none,0,4,())else(some (cN s t),0,0,())
theorem s85 (ok:okP t) {k:Int}(hk:vZ s t=0→zY (cN s t,())=some k):Sz85 (s,t,())=some (accR s t k):=by
 have u:∀n,Ez85J s t (n+1) .k3=(aO (dP (s,(((),()),((t,()),()),((),()),()),())) fun r6=>(cond (!(r6==(0:Int))) (some (none,(0:Int),r6,())) (aO (ayt (s,t,())) fun r7=>(aO (zY (r7,())) fun r8=>(cond (!(r8==(0:Int))) (some (none,r8,(18:Int),())) (cond (s.half==(0:Int)) (aO (axT (r7,())) fun r10=>(cond (decide ((9999:Int)<(IntKind.i64.wrap (s.c0+((r10.length:Nat):Int))))) (some (none,(0:Int),(4:Int),())) (some ((some r7),(0:Int),(0:Int),())))) (cond (s.half==(1:Int)) (aO (axT (r7,())) fun r9=>(cond (decide ((9999:Int)<(IntKind.i64.wrap (s.c1+((r9.length:Nat):Int))))) (some (none,(0:Int),(4:Int),())) (some ((some r7),(0:Int),(0:Int),())))) none))))))):=fun _=>rfl
 show Ez85J s t ((t.m.length+63)+1) .k3=_
 rw [u,s60 ok,obind_some]
 unfold accR
 by_cases he:vZ s t=0
 · obtain ⟨h1,h2,h3⟩:=rJ he
   obtain⟨p1,p2,p3⟩:=playE_zero h2
   have hs:=(aqb h1).half
   have e89:axT (cN s t,())=some (iR (outsI s t) t.l t.m):=s89 (s:=cN s t) p3
   rw [s143 p3 ok.2.1,obind_some,hk he,obind_some,e89]
   have c:(!(vZ s t==0))=false:=by simp [he]
   rw [c,cond_false,if_neg (by simp [he])]
   by_cases hk0:k=0
   · have c2:(!(k==0))=false:=by simp [hk0]
     rw [c2,cond_false,if_neg (by simp [hk0])]
     unfold bqd eO
     rcases hs with hs|hs<;>simp [hs,cond_ite,obind_some]<;>split<;>rfl
   · have c2:(!(k==0))=true:=by simp [hk0]
     rw [c2,cond_true,if_pos hk0]
 · have c:(!(vZ s t==0))=true:=by simp [he]
   rw [c,cond_true,if_pos he]
end
end
end Go.Ev
namespace Go.Ev
open Go.RowKit Go.Proofs
set_option maxRecDepth 100000
set_option maxHeartbeats 8000000
set_option linter.unusedSimpArgs false
noncomputable section
def errA (s:St) (t:Pl) (k:Int):Int:=if vZ s t≠0 then vZ s t else if k≠0 then 18 else if bqd s t=true then 4 else 0
def numA (s:St) (t:Pl) (k:Int):Int:=if vZ s t≠0 then 0 else k
section
variable {s:St}{t:Pl}{k:Int}
theorem avU {o:Int}{b:Bool}{l:List Mv}:(iR o b l).length≤l.length∧∀m∈iR o b l,m∈l:=by
 unfold iR
 split
 · simp
 · exact⟨List.length_filter_le _ _,fun m hm=>(List.mem_filter.1 hm).1⟩
theorem acc_cases (s:St) (t:Pl) (k:Int):(errA s t k≠0∧accR s t k=(none,numA s t k,errA s t k,()) )∨(errA s t k=0∧vZ s t=0∧k=0∧accR s t k=(some (cN s t),0,0,())):=by
 unfold accR errA numA
 by_cases h1:vZ s t=0
 · by_cases h2:k=0
   · cases h3:bqd s t with
     | true=>left;simp [h1,h2]
     | false=>right;simp [h1,h2]
   · left;simp [h1,h2]
 · left;simp [h1]
end
end
end Go.Ev
