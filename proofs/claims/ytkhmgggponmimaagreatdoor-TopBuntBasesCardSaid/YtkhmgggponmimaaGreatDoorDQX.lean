import Derived.Test.YtkhmgggponmimaaGreatDoorDQP
set_option linter.unusedSimpArgs false
set_option linter.unusedVariables false
namespace Go.Ev
open Go.RowKit Go.Proofs
set_option maxRecDepth 100000
set_option maxHeartbeats 8000000
set_option linter.unusedSimpArgs false
set_option linter.unusedVariables false
noncomputable section
theorem awc {a:Tn}:s5 (a,())=aM (aym (a,())) fun r=>cond r (some (1:Int)) (aM (awB (a,())) fun r=>cond r (some 2) (aM (awA (a,())) fun r=>cond r (some 3) (aM (akz (a,())) fun r=>cond r (some 4) (aM (aky (a,())) fun r=>cond r (some 5) (aM (akx (a,())) fun r=>cond r (some 6) (aM (akw (a,())) fun r=>cond r (some 7) (aM (akv (a,())) fun r=>cond r (some 8) (aM (aku (a,())) fun r=>cond r (some 9) (aM (akt (a,())) fun r=>cond r (some 10) (aM (aks (a,())) fun r=>cond r (some 11) (aM (akr (a,())) fun r=>cond r (some 12) (aM (akq (a,())) fun r=>cond r (some 13) (some 0))))))))))))):=by
 show Ez144 (a.p_m.length+64) a=_
 unfold Ez144 Tz144
 simp only [TS,w6]
 have e74:Sz74 ()=Ez74:=rfl
 rw [e74]
 unfold Ez74 Tz74
 simp only [TS,w6]
 rw [obind_some,show a.p_m.length+64=(a.p_m.length+50)+14 from rfl]
 generalize a.p_m.length+50=n
 rw [u144_0 a (n+13),u144_1 a (n+12),u144_2 a (n+11),u144_3 a (n+10),u144_4 a (n+9),u144_5 a (n+8),u144_6 a (n+7),u144_7 a (n+6),u144_8 a (n+5),u144_9 a (n+4),u144_10 a (n+3),u144_11 a (n+2),u144_12 a (n+1),u144_13 a n]
theorem m5 {x:Option Bool}{b:Bool}{k:Int}{A:Option Int}{F:Prop}(hx:x=some b) (hk:k≠0) (h:b=false→∃j,A=some j∧(j=0→F)):∃j,(aM x fun r=>cond r (some k) A)=some j∧(j=0→F):=by
 subst hx
 cases b with
 | true=>exact⟨k,rfl,fun h0=>absurd h0 hk⟩
 | false=>exact h rfl
theorem prog_ok {s:St}{t:Pl}(h:aC t.m=0) (hv:vEv t.e) (hb:aS t.p=true) (hl:t.p.length<9223372036854775808):∃k,s5 (eF s t,())=some k∧(k=0→gH s t):=by
 rw [awc]
 refine m5 (b:=!((eR s t).2.2.1==0)) rfl (by decide) fun g1=>?_
 have g1':(eR s t).2.2.1=0:=by simpa using g1
 have hk:=ak1 g1'
 refine m5 (r2_p (s:=eF s t) hv hl hk) (by decide) fun g2=>?_
 refine m5 (r3_p (s:=eF s t) h) (by decide) fun g3=>?_
 have g3':(mAt t.m 0).isSome=!decide (t.e=[]):=by
  have g3:((mAt t.m 0).isSome==decide (t.e=[]))=false:=g3
  revert g3
  cases(mAt t.m 0).isSome<;>cases decide (t.e=[])<;>decide
 refine m5 (r4_p (s:=eF s t) h) (by decide) fun g4=>?_
 refine m5 (r5_p (s:=eF s t) h hv g3') (by decide) fun g5=>?_
 have g5':∀m,mAt t.m 0=some m→batFits t.e m=true:=by
  intro m hm
  have g5:(match mAt t.m 0 with
   | some m=>!batFits t.e m
   | none=>false)=false:=g5
  rw [hm]at g5
  simpa using g5
 refine m5 (r6_p (s:=eF s t) h hv) (by decide) fun g6=>?_
 refine m5 (r7_p (s:=eF s t) hv) (by decide) fun g7=>?_
 refine m5 (r8_p (s:=eF s t) h hv) (by decide) fun g8=>?_
 refine m5 (r9_p (s:=eF s t) h) (by decide) fun g9=>?_
 refine m5 (r10_p (s:=eF s t) h hv) (by decide) fun g10=>?_
 refine m5 (r11_p (s:=eF s t) h) (by decide) fun g11=>?_
 refine m5 (b:=decide (3<outsI s t)) r12_p (by decide) fun g12=>?_
 have g12':outsI s t≤3:=by simp at g12;exact g12
 refine m5 (r13_p (s:=eF s t) h) (by decide) fun g13=>?_
 exact⟨0,rfl,fun _=>⟨g1',g3',g4,g5',g11,g12',g13,by have g2:(!aqn (askC ((eR s t).1.1,(eR s t).1.2.1) t.p) t.e)=false:=g2;simpa using g2⟩⟩
def brk (s:St) (t:Pl):Int:=(s5 (eF s t,())).getD 0
theorem yZ {s:St}{t:Pl}(ok:okP t):(sM s t=0→s5 (eF s t,())=some (brk s t))∧(brk s t=0→sM s t=0→gH s t):=by
 by_cases hc:sM s t=0
 · obtain ⟨e1,e2,e3⟩:=jG hc
   obtain⟨p1,p2,p3⟩:=playE_zero e2
   obtain⟨k,a,c⟩:=prog_ok (s:=s) p3 p2 ok.2.1 (by omega)
   have e:brk s t=k:=by unfold brk;rw [a];rfl
   rw [e]
   exact⟨fun _=>a,fun h _=>c h⟩
 · exact⟨fun h=>absurd h hc,fun _ h=>absurd h hc⟩
end
end Go.Ev
