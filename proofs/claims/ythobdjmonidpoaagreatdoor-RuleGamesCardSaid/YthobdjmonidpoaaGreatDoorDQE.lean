import Derived.Test.YthobdjmonidpoaaGreatDoorDQD
set_option linter.unusedSimpArgs false
set_option linter.unusedVariables false
namespace Go.Ev
open Go.RowKit Go.Proofs
set_option maxRecDepth 100000
set_option maxHeartbeats 8000000
set_option linter.unusedSimpArgs false
noncomputable section
def outsI (s:St) (t:Pl):Int:=IntKind.i64.wrap (s.outs+((t.m.countP (·.o):Nat):Int))
def fQ (s:St) (t:Pl):Tn:=⟨s.inn,s.half,s.outs,s.balls,s.strikes,s.b1,s.b2,s.b3,s.n0,s.n1,s.c0,s.c1,s.over,t.p,t.e,t.l,t.m,(iD s t).1.1,(iD s t).1.2.1,(iD s t).2.2.1==0,outsI s t,true,!(s.b1==0),!(s.b1==0)&&!(s.b2==0),!(s.b1==0)&&(!(s.b2==0)&&!(s.b3==0))⟩
theorem s143 {s:St}{t:Pl}(h:aB t.m=0) (hb:a7 t.p=true):ayo (s,t,())=some (fQ s t):=by
 show Ez143 (t.m.length+64) s t=_
 unfold Ez143 Tz143
 simp only [TS,w6]
 have e:S81 (s.balls,s.strikes,t.p,())=some (iD s t):=by unfold S81;rw [if_pos hb];rfl
 rw [e,obind_some,outs_p (bF h),obind_some,s63,obind_some]
 rfl
theorem u144_0 (s:Tn) (n:Nat) (x0 x1 x2 x3 x4 x5 x6 x7 x8 x9 x10 x11 x12:List Nat):bE s (n+1) (.k6_0 x0 x1 x2 x3 x4 x5 x6 x7 x8 x9 x10 x11 x12)=aX (Sz122 (s,())) fun r=>cond r (some (1:Int)) (bE s n (.k6_1 x0 x1 x2 x3 x4 x5 x6 x7 x8 x9 x10 x11 x12)):=rfl
theorem u144_1 (s:Tn) (n:Nat) (x0 x1 x2 x3 x4 x5 x6 x7 x8 x9 x10 x11 x12:List Nat):bE s (n+1) (.k6_1 x0 x1 x2 x3 x4 x5 x6 x7 x8 x9 x10 x11 x12)=aX (bqB (s,())) fun r=>cond r (some (2:Int)) (bE s n (.k6_2 x0 x1 x2 x3 x4 x5 x6 x7 x8 x9 x10 x11 x12)):=rfl
theorem u144_2 (s:Tn) (n:Nat) (x0 x1 x2 x3 x4 x5 x6 x7 x8 x9 x10 x11 x12:List Nat):bE s (n+1) (.k6_2 x0 x1 x2 x3 x4 x5 x6 x7 x8 x9 x10 x11 x12)=aX (bqA (s,())) fun r=>cond r (some (3:Int)) (bE s n (.k6_3 x0 x1 x2 x3 x4 x5 x6 x7 x8 x9 x10 x11 x12)):=rfl
theorem u144_3 (s:Tn) (n:Nat) (x0 x1 x2 x3 x4 x5 x6 x7 x8 x9 x10 x11 x12:List Nat):bE s (n+1) (.k6_3 x0 x1 x2 x3 x4 x5 x6 x7 x8 x9 x10 x11 x12)=aX (ayz (s,())) fun r=>cond r (some (4:Int)) (bE s n (.k6_4 x0 x1 x2 x3 x4 x5 x6 x7 x8 x9 x10 x11 x12)):=rfl
theorem u144_4 (s:Tn) (n:Nat) (x0 x1 x2 x3 x4 x5 x6 x7 x8 x9 x10 x11 x12:List Nat):bE s (n+1) (.k6_4 x0 x1 x2 x3 x4 x5 x6 x7 x8 x9 x10 x11 x12)=aX (ayy (s,())) fun r=>cond r (some (5:Int)) (bE s n (.k6_5 x0 x1 x2 x3 x4 x5 x6 x7 x8 x9 x10 x11 x12)):=rfl
theorem u144_5 (s:Tn) (n:Nat) (x0 x1 x2 x3 x4 x5 x6 x7 x8 x9 x10 x11 x12:List Nat):bE s (n+1) (.k6_5 x0 x1 x2 x3 x4 x5 x6 x7 x8 x9 x10 x11 x12)=aX (ayx (s,())) fun r=>cond r (some (6:Int)) (bE s n (.k6_6 x0 x1 x2 x3 x4 x5 x6 x7 x8 x9 x10 x11 x12)):=rfl
theorem u144_6 (s:Tn) (n:Nat) (x0 x1 x2 x3 x4 x5 x6 x7 x8 x9 x10 x11 x12:List Nat):bE s (n+1) (.k6_6 x0 x1 x2 x3 x4 x5 x6 x7 x8 x9 x10 x11 x12)=aX (ayw (s,())) fun r=>cond r (some (7:Int)) (bE s n (.k6_7 x0 x1 x2 x3 x4 x5 x6 x7 x8 x9 x10 x11 x12)):=rfl
theorem u144_7 (s:Tn) (n:Nat) (x0 x1 x2 x3 x4 x5 x6 x7 x8 x9 x10 x11 x12:List Nat):bE s (n+1) (.k6_7 x0 x1 x2 x3 x4 x5 x6 x7 x8 x9 x10 x11 x12)=aX (ayv (s,())) fun r=>cond r (some (8:Int)) (bE s n (.k6_8 x0 x1 x2 x3 x4 x5 x6 x7 x8 x9 x10 x11 x12)):=rfl
theorem u144_8 (s:Tn) (n:Nat) (x0 x1 x2 x3 x4 x5 x6 x7 x8 x9 x10 x11 x12:List Nat):bE s (n+1) (.k6_8 x0 x1 x2 x3 x4 x5 x6 x7 x8 x9 x10 x11 x12)=aX (ayu (s,())) fun r=>cond r (some (9:Int)) (bE s n (.k6_9 x0 x1 x2 x3 x4 x5 x6 x7 x8 x9 x10 x11 x12)):=rfl
theorem u144_9 (s:Tn) (n:Nat) (x0 x1 x2 x3 x4 x5 x6 x7 x8 x9 x10 x11 x12:List Nat):bE s (n+1) (.k6_9 x0 x1 x2 x3 x4 x5 x6 x7 x8 x9 x10 x11 x12)=aX (ayt (s,())) fun r=>cond r (some (10:Int)) (bE s n (.k6_10 x0 x1 x2 x3 x4 x5 x6 x7 x8 x9 x10 x11 x12)):=rfl
theorem u144_10 (s:Tn) (n:Nat) (x0 x1 x2 x3 x4 x5 x6 x7 x8 x9 x10 x11 x12:List Nat):bE s (n+1) (.k6_10 x0 x1 x2 x3 x4 x5 x6 x7 x8 x9 x10 x11 x12)=aX (ays (s,())) fun r=>cond r (some (11:Int)) (bE s n (.k6_11 x0 x1 x2 x3 x4 x5 x6 x7 x8 x9 x10 x11 x12)):=rfl
theorem u144_11 (s:Tn) (n:Nat) (x0 x1 x2 x3 x4 x5 x6 x7 x8 x9 x10 x11 x12:List Nat):bE s (n+1) (.k6_11 x0 x1 x2 x3 x4 x5 x6 x7 x8 x9 x10 x11 x12)=aX (ayr (s,())) fun r=>cond r (some (12:Int)) (bE s n (.k6_12 x0 x1 x2 x3 x4 x5 x6 x7 x8 x9 x10 x11 x12)):=rfl
theorem u144_12 (s:Tn) (n:Nat) (x0 x1 x2 x3 x4 x5 x6 x7 x8 x9 x10 x11 x12:List Nat):bE s (n+1) (.k6_12 x0 x1 x2 x3 x4 x5 x6 x7 x8 x9 x10 x11 x12)=aX (ayq (s,())) fun r=>cond r (some (13:Int)) (bE s n (.k6_13 x0 x1 x2 x3 x4 x5 x6 x7 x8 x9 x10 x11 x12)):=rfl
theorem u144_13 (s:Tn) (n:Nat) (x0 x1 x2 x3 x4 x5 x6 x7 x8 x9 x10 x11 x12:List Nat):bE s (n+1) (.k6_13 x0 x1 x2 x3 x4 x5 x6 x7 x8 x9 x10 x11 x12)=some 0:=rfl
theorem u94 (s:St) (t:Pl) (n:Nat) (k:Int) (hk:k≤13):awH s t (n+1) (.k4 k)=aX (iS (s,t,k,())) fun r=>cond r (some k) (awH s t n (.k4 (IntKind.i64.wrap (k+1)))):=by
 have e:decide (k≤(13:Int))=true:=by simpa using hk
 have u:awH s t (n+1) (.k4 k)=(cond (decide (k≤(13:Int))) (aX (iS (s,t,k,())) fun r4=>(cond r4 (some k) (awH s t n (.k4 (IntKind.i64.wrap (k+(1:Int))))))) (some (0:Int))):=rfl
 rw [u,e,cond_true]
def two (A B:Option Int) (F:Prop):Prop:=∃k,A=some k∧B=some k∧(k=0→F)∧0≤k∧k≤13
theorem b8 {x y:Option Bool}{b:Bool}{k:Int}{A B:Option Int}{F:Prop}(hx:x=some b) (hy:y=some b) (hk:k≠0∧0≤k∧k≤13) (h:b=false→two A B F):two (aX x fun r=>cond r (some k) A) (aX y fun r=>cond r (some k) B) F:=by
 rw [hx,hy,obind_some,obind_some]
 cases b with
 | true=>exact⟨k,rfl,rfl,fun h=>absurd h hk.1,hk.2⟩
 | false=>exact h rfl
section
variable {s:St}{t:Pl}
theorem evIn1 {e:List Nat}{x:Nat}:evIn e [x]=decide (e=[x]):=by
 rw [Bool.eq_iff_iff,pM,decide_eq_true_eq]
 constructor
 · rintro⟨y,rfl,hy⟩;simp at hy;rw [hy]
 · intro h;exact⟨x,h,by simp⟩
theorem evAw {e:List Nat}:evIn e [87,72,73]=award e:=by
 rw [Bool.eq_iff_iff,pM]
 simp only [award,Bool.or_eq_true,decide_eq_true_eq]
 constructor
 · rintro⟨y,rfl,hy⟩;simpa using hy
 · rintro(h|h|h)<;>exact⟨_,h,by simp⟩
theorem base0 {u:Int}{x:Bool}(h9:u≠9) (h10:u≠10) (h11:u≠11):sZ s t u x=false:=by
 simp [sZ,chkB,oR,h9,h10,h11]
theorem anyF {l:List Mv}{u:Int}(h4:u≠4) (h8:u≠8):l.any (chkR s t u)=false:=by
 have:chkR s t u=fun _=>false:=by funext m;simp [chkR,h4,h8]
 rw [this];simp
theorem eq4 (h:aB t.m=0) (hv:vEv t.e) (hl:t.p.length<9223372036854775808):iS (s,t,4,())=some (t.m.any (c4 s.b1 s.b2 s.b3)):=by
 rw [rrL h hv hl (by simp),base0 (by decide) (by decide) (by decide),Bool.or_false]
 rfl
theorem eq8 (h:aB t.m=0) (hv:vEv t.e) (hl:t.p.length<9223372036854775808):iS (s,t,8,())=some (t.m.any (c8 (fQ s t))):=by
 rw [rrL h hv hl (by simp),base0 (by decide) (by decide) (by decide),Bool.or_false]
 rfl
theorem eq11 (h:aB t.m=0) (hv:vEv t.e) (hl:t.p.length<9223372036854775808):iS (s,t,11,())=some (av7 (placeB t.m s.b1 s.b2 s.b3 0) (placeB t.m s.b1 s.b2 s.b3 1) (placeB t.m s.b1 s.b2 s.b3 2) (placeB t.m s.b1 s.b2 s.b3 3)):=by
 rw [rrL h hv hl (by simp),anyF (by decide) (by decide),Bool.false_or]
 simp [sZ,chkB,oR]
theorem uW {l:List Mv}(h:aB l=0) {i:Int}(hi:i=0∨i=1∨i=2∨i=3):l.any (safeAt i)=match mAt l i with
  | some m=>!m.o
  | none=>false:=by
 rcases hi with rfl|rfl|rfl|rfl<;>refine sh_cases h ?_ ?_ ?_ ?_ ?_ ?_ ?_ ?_ ?_ ?_ ?_ ?_ ?_ ?_ ?_ ?_<;>intros<;>(try simp only [vMv]at *)<;>simp_all [mAt,safeAt]
theorem eq10 (h:aB t.m=0) (hv:vEv t.e) (hl:t.p.length<9223372036854775808) (h3:(mAt t.m 0).isSome=!decide (t.e=[])) (h5:∀m,mAt t.m 0=some m→batFits t.e m=true) :
  iS (s,t,10,())=some (evIn t.e [87,72,73]&&(wtB t.m 0 true||(wtB t.m 1 (!(s.b1==0))||(wtB t.m 2 (!(s.b1==0)&&!(s.b2==0))||wtB t.m 3 (!(s.b1==0)&&(!(s.b2==0)&&!(s.b3==0))))))):=by
 rw [rrL h hv hl (by simp),anyF (by decide) (by decide),Bool.false_or,evAw]
 have w0:award t.e=true→wtB t.m 0 true=false:=by
  intro ha
  unfold wtB
  rw [uW h (by simp)]
  cases hm:mAt t.m 0 with
  | none=>
    rw [hm]at h3
    have:t.e=[]:=by simpa using h3
    rw [this]at ha
    cases ha
  | some m=>
    have hf:=h5 m hm
    simp only [award,Bool.or_eq_true,decide_eq_true_eq]at ha
    unfold batFits at hf
    have n75:¬t.e=[75]:=by rcases ha with ha|ha|ha<;>simp [ha]
    rw [if_neg n75,if_pos ha]at hf
    simp at hf
    simp [hf.1.1]
 simp only [sZ,chkB,oR,wtB,fcS,fcdB,bzB]at w0 ⊢
 rw [uW h (i:=1) (by simp),uW h (i:=2) (by simp),uW h (i:=3) (by simp)]
 cases ha:award t.e with
 | false=>simp
 | true=>
   have w0:=w0 ha
   rw [w0]
   cases(s.b1==0)<;>cases(s.b2==0)<;>cases(s.b3==0)<;>cases mAt t.m 1<;>cases mAt t.m 2<;>cases mAt t.m 3<;>simp
end
end
end Go.Ev
