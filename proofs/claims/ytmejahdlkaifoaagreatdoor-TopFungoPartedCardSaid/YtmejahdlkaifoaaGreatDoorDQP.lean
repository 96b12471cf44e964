import Derived.Test.YtmejahdlkaifoaaGreatDoorDQO
set_option linter.unusedSimpArgs false
set_option linter.unusedVariables false
namespace Go.Ev
open Go.RowKit Go.Proofs
set_option maxRecDepth 100000
set_option maxHeartbeats 8000000
set_option linter.unusedSimpArgs false
noncomputable section
def rR (s:St) (t:Pl) (k:Int):Int:=if iM s t≠0 then iM s t else if k≠0 then 18 else if axh s t=true then 4 else 0
def bjU (s:St) (t:Pl) (k:Int):Int:=if iM s t≠0 then 0 else k
section
variable {s:St}{t:Pl}{k:Int}
theorem acc_cases (s:St) (t:Pl) (k:Int):(rR s t k≠0∧accR s t k=(none,bjU s t k,rR s t k,()) )∨(rR s t k=0∧iM s t=0∧k=0∧accR s t k=(some (cC s t),0,0,())):=by
 unfold accR rR bjU
 by_cases h1:iM s t=0
 · by_cases h2:k=0
   · cases h3:axh s t with
     | true=>left;simp [h1,h2]
     | false=>right;simp [h1,h2]
   · left;simp [h1,h2]
 · left;simp [h1]
theorem s32 (ok:okP t) (hk:iM s t=0→m7 (cC s t,())=some k) (hg:k=0→iM s t=0→pW s t):ayH (s,t,())=some (if rR s t k≠0 then(zSt,bjU s t k,rR s t k,())else(nxt (mvd s t),0,0,())):=by
 show Ez32 s t=_
 unfold Ez32 Tz32
 simp only [TS,w6]
 rw [s85 ok hk,obind_some]
 rcases acc_cases s t k with⟨h1,h2⟩ | ⟨h1,h2,h3,h4⟩
 · rw [h2,if_pos h1]
   have c:(!(rR s t k==0))=true:=by simpa using h1
   show cond (!(rR s t k==0)) _ _=_
   rw [c];rfl
 · rw [h4,if_neg (by simpa using h1)]
   obtain⟨e1,e2,e3⟩:=mS h2
   show(aH (Sz86 (cC s t,())) fun r8=>(some (r8,(0:Int),(0:Int),())))=_
   rw [s86 (playE_zero e2).2.2 (wB e1).half (hg h3 h2)];rfl
theorem s37 (ok:okP t) (hk:iM s t=0→Sz94 (s,t,())=some k) (hg:k=0→iM s t=0→pW s t):Sz37 (s,t,())=some (bjU s t k,rR s t k,()):=by
 have e17:S17 (s,())=some (stE s):=rfl
 have e58:S58 (t,())=some (playE t.p t.e t.m):=by
  unfold S58;rw [if_pos ok.1]
 show Ez37 s t=_
 unfold Ez37 Tz37
 simp only [TS,w6]
 rw [e17,obind_some,e58,obind_some,s65,obind_some]
 by_cases h1:stE s=0
 · by_cases h2:playE t.p t.e t.m=0
   · have c:(!((if stE s≠0 then stE s else playE t.p t.e t.m)==(0:Int)))=false:=by simp [h1,h2]
     rw [c,cond_false]
     cases ho:s.over with
     | true=>
       have e38:Sz38 (s,t,())=some (zSt,0,20,()):=by
        show Ez38 s t=_
        unfold Ez38 Tz38
        simp only [TS,w6]
        rw [ho];rfl
       have ec:iM s t=20:=by simp [iM,h1,h2,ho]
       rw [e38]
       simp [bjU,rR,ec,obind_some]
     | false=>
       have ec:iM s t=0:=by simp [iM,h1,h2,ho]
       rw [s38 (playE_zero h2).2.2 (wB h1).half ho (c_ok h1) ok.2.2.2 (hk ec) (fun h=>hg h ec),obind_some]
       unfold bjU rR
       simp only [ec]
       by_cases h3:k=0
       · cases h4:axh s t<;>simp [h3]
       · simp [h3]
   · have c:(!((if stE s≠0 then stE s else playE t.p t.e t.m)==(0:Int)))=true:=by simp [h1,h2]
     have ec:iM s t=playE t.p t.e t.m:=by simp [iM,h1,h2]
     rw [c,cond_true]
     simp [bjU,rR,ec,h1,h2]
 · have c:(!((if stE s≠0 then stE s else playE t.p t.e t.m)==(0:Int)))=true:=by simp [h1]
   have ec:iM s t=stE s:=by simp [iM,h1]
   rw [c,cond_true]
   simp [bjU,rR,ec,h1]
end
end
end Go.Ev
