import Derived.Test.YthobdjmonidpoaaGreatDoorDQM
set_option linter.unusedSimpArgs false
set_option linter.unusedVariables false
namespace Go.Ev
open Go.RowKit Go.Proofs
set_option maxRecDepth 100000
set_option maxHeartbeats 8000000
set_option linter.unusedSimpArgs false
noncomputable section
def vU (x:St):Int:=bif decI x then 2 else bif x.outs==3 then(bif lastI x then 2 else 1)else 0
section
variable {s:St}{t:Pl}
theorem s92 (h:aB t.m=0) (hs:s.half=0∨s.half=1) (hv:s.over=false) (g:iG s t):Sz92 (fQ s t,())=some (vU (mvd s t)):=by
 show Ez92 (fQ s t)=_
 unfold Ez92 Tz92
 simp only [TS,w6]
 rw [s86 h hs g,obind_some]
 unfold nxt vU
 have w0:IntKind.i64.wrap (1-0)=1:=by decide
 have w1:IntKind.i64.wrap (1-1)=0:=by decide
 have ho:(mvd s t).over=false:=hv
 have hh:(mvd s t).half=s.half:=rfl
 have ht:(fQ s t).s_half=s.half:=rfl
 rw [ht]
 generalize mvd s t=x at *
 cases decI x with
 | true=>rfl
 | false=>
   cases(x.outs==3)with
   | true=>
     cases lastI x with
     | true=>rfl
     | false=>
       simp only [cond_true,cond_false,oQ,ho,hh]
       rcases hs with hs|hs<;>simp [hs,w0,w1,wr0,wr1]
   | false=>
     simp only [cond_false,ho,hh]
     simp
theorem s67 (x:St):Sz67 (x,())=some (decI x):=by
 show Ez67 x=_
 unfold Ez67 Tz67 decI
 simp only [TS,w6]
 cases decide (9≤x.inn)<;>cases(x.half==1)<;>rfl
theorem s41 (h:aB t.m=0) (hs:s.half=0∨s.half=1) (hl:t.p.length<9223372036854775808) (g:iG s t):Sz41 (s,t,())=some (vU (mvd s t)):=by
 show Ez41 s t=_
 unfold Ez41 Tz41
 simp only [TS,w6]
 rw [s95 h hs hl,obind_some,s67,obind_some]
 have hh:(mvd s t).half=s.half:=rfl
 have ho:(mvd s t).outs≤3:=g.outs
 unfold vU lastI
 generalize mvd s t=x at *
 cases hd:decI x with
 | true=>rfl
 | false =>
   unfold decI at hd
   have e3:decide (x.outs<3)=!(x.outs==3):=by rw [Bool.eq_iff_iff];simp;omega
   rw [e3]
   cases(x.outs==3)with
   | false=>rfl
   | true =>
     simp only [cond_true,cond_false,Bool.not_true]
     rw [hh]at hd ⊢
     by_cases h9:(9:Int)≤x.inn
     · have d1:decide ((9:Int)≤x.inn)=true:=by simpa using h9
       have d2:decide (x.inn<9)=false:=by simp;omega
       rw [d1]at hd ⊢
       rw [d2]
       rcases hs with hs|hs
       · simp only [hs]
         cases decide (x.c0<x.c1)<;>rfl
       · simp only [hs]at hd ⊢
         have hc:decide (x.c0<x.c1)=false:=by simpa using hd
         rw [hc]
         cases(x.c0==x.c1)<;>cases(x.inn==30)<;>rfl
     · have d1:decide ((9:Int)≤x.inn)=false:=by simpa using h9
       have d2:decide (x.inn<9)=true:=by simp;omega
       have d3:(x.inn==30)=false:=by simp;omega
       rw [d1,d2,d3]
       rcases hs with hs|hs<;>simp [hs]
theorem wr_half (hs:s.half=0∨s.half=1):(IntKind.i64.wrap (1-s.half)==0)=(s.half==1):=by
 have w0:IntKind.i64.wrap (1-0)=1:=by decide
 have w1:IntKind.i64.wrap (1-1)=0:=by decide
 rcases hs with hs|hs<;>simp [hs,w0,w1,wr0,wr1]
def zSt:St:=⟨0,0,0,0,0,0,0,0,0,0,0,0,false⟩
def azY (s:St) (t:Pl):Bool:=decide (9999<(if s.half=0 then IntKind.i64.wrap (s.c0+runsN s t)else IntKind.i64.wrap (s.c1+runsN s t)))
theorem s38 (h:aB t.m=0) (hs:s.half=0∨s.half=1) (hv:s.over=false) (hc:s.c0≤9999∧s.c1≤9999) (hl:t.p.length<9223372036854775808) {k:Int}(hk:Sz94 (s,t,())=some k) (g:k=0→iG s t) :
  Sz38 (s,t,())=some (if k≠0 then(zSt,k,18,())else if azY s t=true then(zSt,0,4,())else(nxt (mvd s t),0,0,())):=by
 show Ez38 s t=_
 unfold Ez38 Tz38
 simp only [TS,w6]
 rw [hv,hk,obind_some,s95 h hs hl,obind_some]
 by_cases hk0:k=0
 · subst hk0
   have g:=g rfl
   rw [s41 h hs hl g,obind_some]
   have c0:(mvd s t).c0=if s.half=0 then IntKind.i64.wrap (s.c0+runsN s t)else s.c0:=rfl
   have c1:(mvd s t).c1=if s.half=1 then IntKind.i64.wrap (s.c1+runsN s t)else s.c1:=rfl
   have hh:(mvd s t).half=s.half:=rfl
   have hbig:(decide ((9999:Int)<(mvd s t).c0)||decide ((9999:Int)<(mvd s t).c1))=azY s t:=by
    rw [c0,c1]
    unfold azY
    have n0:¬(9999:Int)<s.c0:=by omega
    have n1:¬(9999:Int)<s.c1:=by omega
    rcases hs with hs|hs<;>simp [hs,n0,n1]
   have tail:(cond (vU (mvd s t)==(0:Int)) (some (mvd s t,(0:Int),(0:Int),())) (cond (vU (mvd s t)==(2:Int)) (some (ayH (mvd s t),(0:Int),(0:Int),())) (cond ((IntKind.i64.wrap ((1:Int)-(mvd s t).half))==(0:Int)) (some ((⟨(IntKind.i64.wrap ((mvd s t).inn+(1:Int))),(IntKind.i64.wrap ((1:Int)-(mvd s t).half)),(0:Int),(0:Int),(0:Int),(0:Int),(0:Int),(0:Int),(mvd s t).n0,(mvd s t).n1,(mvd s t).c0,(mvd s t).c1,(mvd s t).over⟩:St),(0:Int),(0:Int),())) (some ((⟨(mvd s t).inn,(IntKind.i64.wrap ((1:Int)-(mvd s t).half)),(0:Int),(0:Int),(0:Int),(0:Int),(0:Int),(0:Int),(mvd s t).n0,(mvd s t).n1,(mvd s t).c0,(mvd s t).c1,(mvd s t).over⟩:St),(0:Int),(0:Int),())))))=some (nxt (mvd s t),0,0,()):=by
    have wh:(IntKind.i64.wrap (1-(mvd s t).half)==0)=((mvd s t).half==1):=wr_half hs
    rw [wh]
    unfold vU nxt oQ
    generalize mvd s t=x
    cases decI x<;>cases(x.outs==3)<;>cases lastI x<;>cases(x.half==1)<;>rfl
   show(cond (decide ((9999:Int)<(mvd s t).c0)) (some (zSt,(0:Int),(4:Int),())) (cond (decide ((9999:Int)<(mvd s t).c1)) (some (zSt,(0:Int),(4:Int),())) (cond (vU (mvd s t)==(0:Int)) (some (mvd s t,(0:Int),(0:Int),())) (cond (vU (mvd s t)==(2:Int)) (some (ayH (mvd s t),(0:Int),(0:Int),())) (cond ((IntKind.i64.wrap ((1:Int)-(mvd s t).half))==(0:Int)) (some ((⟨(IntKind.i64.wrap ((mvd s t).inn+(1:Int))),(IntKind.i64.wrap ((1:Int)-(mvd s t).half)),(0:Int),(0:Int),(0:Int),(0:Int),(0:Int),(0:Int),(mvd s t).n0,(mvd s t).n1,(mvd s t).c0,(mvd s t).c1,(mvd s t).over⟩:St),(0:Int),(0:Int),())) (some ((⟨(mvd s t).inn,(IntKind.i64.wrap ((1:Int)-(mvd s t).half)),(0:Int),(0:Int),(0:Int),(0:Int),(0:Int),(0:Int),(mvd s t).n0,(mvd s t).n1,(mvd s t).c0,(mvd s t).c1,(mvd s t).over⟩:St),(0:Int),(0:Int),())))))))=_
   rw [tail,←hbig]
   simp only [ne_eq,not_true_eq_false,if_false]
   cases decide ((9999:Int)<(mvd s t).c0)<;>cases decide ((9999:Int)<(mvd s t).c1)<;>rfl
 · have e:(!(k==(0:Int)))=true:=by simpa using hk0
   rw [e]
   simp only [cond_true,cond_false]
   rw [if_pos hk0];rfl
end
end
end Go.Ev
