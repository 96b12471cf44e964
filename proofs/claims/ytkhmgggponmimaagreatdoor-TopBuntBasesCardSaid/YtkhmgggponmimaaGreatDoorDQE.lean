import Derived.Test.YtkhmgggponmimaaGreatDoorDQD
set_option linter.unusedSimpArgs false
set_option linter.unusedVariables false
namespace Go.Ev
open Go.RowKit Go.Proofs
set_option maxRecDepth 100000
set_option maxHeartbeats 8000000
set_option linter.unusedSimpArgs false
noncomputable section
def outsI (s:St) (t:Pl):Int:=IntKind.i64.wrap (s.outs+((t.m.countP (·.o):Nat):Int))
def eF (s:St) (t:Pl):Tn:=⟨s.inn,s.half,s.outs,s.balls,s.strikes,s.b1,s.b2,s.b3,s.n0,s.n1,s.c0,s.c1,s.over,t.p,t.e,t.l,t.m,(eR s t).1.1,(eR s t).1.2.1,(eR s t).2.2.1==0,outsI s t,true,!(s.b1==0),!(s.b1==0)&&!(s.b2==0),!(s.b1==0)&&(!(s.b2==0)&&!(s.b3==0))⟩
theorem s143 {s:St}{t:Pl}(h:aC t.m=0) (hb:aS t.p=true):ayk (s,t,())=some (eF s t):=by
 show Ez143 (t.m.length+64) s t=_
 unfold Ez143 Tz143
 simp only [TS,w6]
 have e:S81 (s.balls,s.strikes,t.p,())=some (eR s t):=by unfold S81;rw [if_pos hb];rfl
 rw [e,obind_some,outs_p (dI h),obind_some,s63,obind_some]
 rfl
theorem u144_0 (s:Tn) (n:Nat) (x0 x1 x2 x3 x4 x5 x6 x7 x8 x9 x10 x11 x12:List Nat):bA s (n+1) (.k6_0 x0 x1 x2 x3 x4 x5 x6 x7 x8 x9 x10 x11 x12)=aM (aym (s,())) fun r=>cond r (some (1:Int)) (bA s n (.k6_1 x0 x1 x2 x3 x4 x5 x6 x7 x8 x9 x10 x11 x12)):=rfl
theorem u144_1 (s:Tn) (n:Nat) (x0 x1 x2 x3 x4 x5 x6 x7 x8 x9 x10 x11 x12:List Nat):bA s (n+1) (.k6_1 x0 x1 x2 x3 x4 x5 x6 x7 x8 x9 x10 x11 x12)=aM (awB (s,())) fun r=>cond r (some (2:Int)) (bA s n (.k6_2 x0 x1 x2 x3 x4 x5 x6 x7 x8 x9 x10 x11 x12)):=rfl
theorem u144_2 (s:Tn) (n:Nat) (x0 x1 x2 x3 x4 x5 x6 x7 x8 x9 x10 x11 x12:List Nat):bA s (n+1) (.k6_2 x0 x1 x2 x3 x4 x5 x6 x7 x8 x9 x10 x11 x12)=aM (awA (s,())) fun r=>cond r (some (3:Int)) (bA s n (.k6_3 x0 x1 x2 x3 x4 x5 x6 x7 x8 x9 x10 x11 x12)):=rfl
theorem u144_3 (s:Tn) (n:Nat) (x0 x1 x2 x3 x4 x5 x6 x7 x8 x9 x10 x11 x12:List Nat):bA s (n+1) (.k6_3 x0 x1 x2 x3 x4 x5 x6 x7 x8 x9 x10 x11 x12)=aM (akz (s,())) fun r=>cond r (some (4:Int)) (bA s n (.k6_4 x0 x1 x2 x3 x4 x5 x6 x7 x8 x9 x10 x11 x12)):=rfl
theorem u144_4 (s:Tn) (n:Nat) (x0 x1 x2 x3 x4 x5 x6 x7 x8 x9 x10 x11 x12:List Nat):bA s (n+1) (.k6_4 x0 x1 x2 x3 x4 x5 x6 x7 x8 x9 x10 x11 x12)=aM (aky (s,())) fun r=>cond r (some (5:Int)) (bA s n (.k6_5 x0 x1 x2 x3 x4 x5 x6 x7 x8 x9 x10 x11 x12)):=rfl
theorem u144_5 (s:Tn) (n:Nat) (x0 x1 x2 x3 x4 x5 x6 x7 x8 x9 x10 x11 x12:List Nat):bA s (n+1) (.k6_5 x0 x1 x2 x3 x4 x5 x6 x7 x8 x9 x10 x11 x12)=aM (akx (s,())) fun r=>cond r (some (6:Int)) (bA s n (.k6_6 x0 x1 x2 x3 x4 x5 x6 x7 x8 x9 x10 x11 x12)):=rfl
theorem u144_6 (s:Tn) (n:Nat) (x0 x1 x2 x3 x4 x5 x6 x7 x8 x9 x10 x11 x12:List Nat):bA s (n+1) (.k6_6 x0 x1 x2 x3 x4 x5 x6 x7 x8 x9 x10 x11 x12)=aM (akw (s,())) fun r=>cond r (some (7:Int)) (bA s n (.k6_7 x0 x1 x2 x3 x4 x5 x6 x7 x8 x9 x10 x11 x12)):=rfl
theorem u144_7 (s:Tn) (n:Nat) (x0 x1 x2 x3 x4 x5 x6 x7 x8 x9 x10 x11 x12:List Nat):bA s (n+1) (.k6_7 x0 x1 x2 x3 x4 x5 x6 x7 x8 x9 x10 x11 x12)=aM (akv (s,())) fun r=>cond r (some (8:Int)) (bA s n (.k6_8 x0 x1 x2 x3 x4 x5 x6 x7 x8 x9 x10 x11 x12)):=rfl
theorem u144_8 (s:Tn) (n:Nat) (x0 x1 x2 x3 x4 x5 x6 x7 x8 x9 x10 x11 x12:List Nat):bA s (n+1) (.k6_8 x0 x1 x2 x3 x4 x5 x6 x7 x8 x9 x10 x11 x12)=aM (aku (s,())) fun r=>cond r (some (9:Int)) (bA s n (.k6_9 x0 x1 x2 x3 x4 x5 x6 x7 x8 x9 x10 x11 x12)):=rfl
theorem u144_9 (s:Tn) (n:Nat) (x0 x1 x2 x3 x4 x5 x6 x7 x8 x9 x10 x11 x12:List Nat):bA s (n+1) (.k6_9 x0 x1 x2 x3 x4 x5 x6 x7 x8 x9 x10 x11 x12)=aM (akt (s,())) fun r=>cond r (some (10:Int)) (bA s n (.k6_10 x0 x1 x2 x3 x4 x5 x6 x7 x8 x9 x10 x11 x12)):=rfl
theorem u144_10 (s:Tn) (n:Nat) (x0 x1 x2 x3 x4 x5 x6 x7 x8 x9 x10 x11 x12:List Nat):bA s (n+1) (.k6_10 x0 x1 x2 x3 x4 x5 x6 x7 x8 x9 x10 x11 x12)=aM (aks (s,())) fun r=>cond r (some (11:Int)) (bA s n (.k6_11 x0 x1 x2 x3 x4 x5 x6 x7 x8 x9 x10 x11 x12)):=rfl
theorem u144_11 (s:Tn) (n:Nat) (x0 x1 x2 x3 x4 x5 x6 x7 x8 x9 x10 x11 x12:List Nat):bA s (n+1) (.k6_11 x0 x1 x2 x3 x4 x5 x6 x7 x8 x9 x10 x11 x12)=aM (akr (s,())) fun r=>cond r (some (12:Int)) (bA s n (.k6_12 x0 x1 x2 x3 x4 x5 x6 x7 x8 x9 x10 x11 x12)):=rfl
theorem u144_12 (s:Tn) (n:Nat) (x0 x1 x2 x3 x4 x5 x6 x7 x8 x9 x10 x11 x12:List Nat):bA s (n+1) (.k6_12 x0 x1 x2 x3 x4 x5 x6 x7 x8 x9 x10 x11 x12)=aM (akq (s,())) fun r=>cond r (some (13:Int)) (bA s n (.k6_13 x0 x1 x2 x3 x4 x5 x6 x7 x8 x9 x10 x11 x12)):=rfl
theorem u144_13 (s:Tn) (n:Nat) (x0 x1 x2 x3 x4 x5 x6 x7 x8 x9 x10 x11 x12:List Nat):bA s (n+1) (.k6_13 x0 x1 x2 x3 x4 x5 x6 x7 x8 x9 x10 x11 x12)=some 0:=rfl
section
variable {s:St}{t:Pl}
theorem evIn1 {e:List Nat}{x:Nat}:evIn e [x]=decide (e=[x]):=by
 rw [Bool.eq_iff_iff,vU,decide_eq_true_eq]
 constructor
 · rintro⟨y,rfl,hy⟩;simp at hy;rw [hy]
 · intro h;exact⟨x,h,by simp⟩
end
end
end Go.Ev
