import Derived.Test.YthobdjmonidpoaaGreatDoorDQL
set_option linter.unusedSimpArgs false
set_option linter.unusedVariables false
namespace Go.Ev
open Go.RowKit Go.Proofs
set_option maxRecDepth 100000
set_option maxHeartbeats 8000000
set_option linter.unusedSimpArgs false
noncomputable section
def decI (x:St):Bool:=decide (9≤x.inn)&&((x.half==1)&&decide (x.c0<x.c1))
def ayH (x:St):St:=⟨x.inn,x.half,0,0,0,0,0,0,x.n0,x.n1,x.c0,x.c1,true⟩
def lastI (x:St):Bool:=!decide (x.inn<9)&&(decide (x.c0<x.c1)||((x.half==1)&&(!(x.c0==x.c1)||(x.inn==30))))
def oQ (x:St):St:=⟨bif x.half==1 then IntKind.i64.wrap (x.inn+1)else x.inn,IntKind.i64.wrap (1-x.half),0,0,0,0,0,0,x.n0,x.n1,x.c0,x.c1,x.over⟩
def nxt (x:St):St:=bif decI x then ayH x else bif x.outs==3 then(bif lastI x then ayH x else oQ x)else x
theorem s177 (x:St):ayj (x,())=some (decide (x.c0<x.c1)):=rfl
theorem s120 (x:St):awA (x,())=some (decI x):=by
 show Ez120 x=_
 unfold Ez120 Tz120 decI
 simp only [TS,w6]
 rw [s177,obind_some]
 cases decide (9≤x.inn)<;>cases(x.half==1)<;>rfl
theorem s148 (x:St):azA (x,())=some (ayH x):=rfl
theorem s176 (x:St):Sz176 (x,())=some (lastI x):=by
 show Ez176 x=_
 unfold Ez176 Tz176 lastI
 simp only [TS,w6]
 rw [s177,obind_some]
 cases decide (x.inn<9)<;>cases decide (x.c0<x.c1)<;>cases(x.half==1)<;>cases(x.c0==x.c1)<;>rfl
theorem s149 (x:St):aky (x,())=some (bif lastI x then ayH x else oQ x):=by
 show Ez149 x=_
 unfold Ez149 Tz149
 simp only [TS,w6]
 rw [s176,obind_some,s148]
 have e:ayk (x,())=some (⟨x.inn,x.half,0,0,0,0,0,0,x.n0,x.n1,x.c0,x.c1,x.over⟩:St):=rfl
 rw [e,obind_some,obind_some]
 cases lastI x with
 | true=>rfl
 | false=>
   unfold oQ
   cases(x.half==1)<;>rfl
theorem v86k9 (s:Tn):∀(m:Nat) (x2 x3:Int),wP s (m+1) (.k9 x2 x3)=(wP s m (.k11 x3 x2)):=fun _ _ _=>rfl
theorem v86k11 (s:Tn):∀(m:Nat) (x5 x6:Int),wP s (m+1) (.k11 x5 x6)=(aX (tB (s,())) fun r24=>(cond (!r24) (aX (Sz62 ((⟨s.s_inn,s.s_half,s.outs,(0:Int),(0:Int),s.s_b1,s.s_b2,s.s_b3,s.s_n0,s.s_n1,x5,x6,s.s_over⟩:St),())) fun r25=>(aX (ayn (r25,())) fun r26=>(cond (s.s_half==(0:Int)) (wP s m (.k17 s.s_n1 x5 x6 r26 (0:Int) (0:Int))) (cond (s.s_half==(1:Int)) (wP s m (.k17 r26 x5 x6 s.s_n0 (0:Int) (0:Int))) none)))) (wP s m (.k17 s.s_n1 x5 x6 s.s_n0 s.k0 s.k1)))):=fun _ _ _=>rfl
theorem v86k17 (s:Tn):∀(m:Nat) (x10 x11 x12 x13 x14 x15:Int),wP s (m+1) (.k17 x10 x11 x12 x13 x14 x15)=(aX (akz (s,())) fun r27=>(aX (awA ((⟨s.s_inn,s.s_half,s.outs,x14,x15,r27.1,r27.2.1,r27.2.2.1,x13,x10,x11,x12,s.s_over⟩:St),())) fun r28=>(cond r28 (aX (azA ((⟨s.s_inn,s.s_half,s.outs,x14,x15,r27.1,r27.2.1,r27.2.2.1,x13,x10,x11,x12,s.s_over⟩:St),())) fun r29=>(some r29)) (cond (s.outs==(3:Int)) (aX (aky ((⟨s.s_inn,s.s_half,s.outs,x14,x15,r27.1,r27.2.1,r27.2.2.1,x13,x10,x11,x12,s.s_over⟩:St),())) fun r30=>(some r30)) (some (⟨s.s_inn,s.s_half,s.outs,x14,x15,r27.1,r27.2.1,r27.2.2.1,x13,x10,x11,x12,s.s_over⟩:St)))))):=fun _ _ _ _ _ _ _=>rfl
section
variable {s:St}{t:Pl}
theorem s86 (h:aB t.m=0) (hs:s.half=0∨s.half=1) (g:iG s t):Sz86 (fQ s t,())=some (nxt (mvd s t)):=by
 have e89:aw1 (fQ s t,())=some (oS (outsI s t) t.l t.m):=s89 (s:=fQ s t) h
 have b1:=wK h g (i:=1) (by simp)
 have b2:=wK h g (i:=2) (by simp)
 have b3:=wK h g (i:=3) (by simp)
 have e147:akz (fQ s t,())=some (iQ s t 1,iQ s t 2,iQ s t 3,()):=by
  rw [s147 (s:=fQ s t) h hs]
  rw [←b1,←b2,←b3];rfl
 have e62:∀x:St,x.half=s.half→Sz62 (x,())=some (if s.half=0 then x.n0 else x.n1):=by
  intro x hx
  show Ez62 x=_
  unfold Ez62 Tz62
  simp only [TS,w6]
  rw [hx]
  rcases hs with hs|hs<;>simp [hs]
 have e146:∀n:Int,ayn (n,())=some (aw0 n):=fun _=>rfl
 have e145:tB (fQ s t,())=some (decide (t.e=[])):=rfl
 show Ez86 (t.m.length+64) (fQ s t)=_
 unfold Ez86 Tz86
 simp only [TS,w6]
 rw [e89,show t.m.length+64=(t.m.length+61)+3 from rfl]
 generalize t.m.length+61=n
 have fin:∀x10 x11 x12 x13 x14 x15:Int,(⟨s.inn,s.half,outsI s t,x14,x15,iQ s t 1,iQ s t 2,iQ s t 3,x13,x10,x11,x12,s.over⟩:St)=mvd s t→wP (fQ s t) (n+1) (.k17 x10 x11 x12 x13 x14 x15)=some (nxt (mvd s t)):=by
  intro x10 x11 x12 x13 x14 x15 hx
  rw [v86k17,e147,obind_some]
  show(aX (awA ((⟨s.inn,s.half,outsI s t,x14,x15,iQ s t 1,iQ s t 2,iQ s t 3,x13,x10,x11,x12,s.over⟩:St),())) fun r28=>(cond r28 (aX (azA ((⟨s.inn,s.half,outsI s t,x14,x15,iQ s t 1,iQ s t 2,iQ s t 3,x13,x10,x11,x12,s.over⟩:St),())) fun r29=>(some r29)) (cond (outsI s t==(3:Int)) (aX (aky ((⟨s.inn,s.half,outsI s t,x14,x15,iQ s t 1,iQ s t 2,iQ s t 3,x13,x10,x11,x12,s.over⟩:St),())) fun r30=>(some r30)) (some (⟨s.inn,s.half,outsI s t,x14,x15,iQ s t 1,iQ s t 2,iQ s t 3,x13,x10,x11,x12,s.over⟩:St)))))=_
  rw [hx,s120,obind_some,s148,obind_some,s149,obind_some]
  have ho:(mvd s t).outs=outsI s t:=rfl
  unfold nxt
  rw [ho]
  cases decI (mvd s t)<;>cases(outsI s t==3)<;>rfl
 rcases hs with hs|hs<;>by_cases he:t.e=[] <;>
  simp only [show(fQ s t).s_half=s.half from rfl,show(fQ s t).s_c0=s.c0 from rfl,show(fQ s t).s_c1=s.c1 from rfl,hs,obind_some,show n+3=(n+2)+1 from rfl,v86k9,show n+2=(n+1)+1 from rfl,v86k11,e145,he,decide_true,decide_false,Bool.not_true,Bool.not_false,cond_true,cond_false,show((0:Int)==0)=true from rfl,show((1:Int)==0)=false from rfl,show((1:Int)==1)=true from rfl] <;>
  (try rw [e62 _ (by first|exact hs.symm|rfl),obind_some,e146,obind_some])<;>(try simp only [hs,if_true,if_false,show((1:Int)=0)=False from by simp])<;>refine fin _ _ _ _ _ _ ?_<;>simp [mvd,hs,he,runsN,iD,fQ]
end
end
end Go.Ev
