import Derived.Test.YtmejahdlkaifoaaGreatDoorDQ8
set_option linter.unusedSimpArgs false
set_option linter.unusedVariables false
namespace Go.Ev
open Go.RowKit Go.Proofs
set_option maxRecDepth 100000
set_option maxHeartbeats 8000000
set_option linter.unusedSimpArgs false
noncomputable section
theorem q7 {l:List Mv}(h:aB l=0):∀m∈l,mvE m=0:=by
 refine sh_cases h ?_ ?_ ?_ ?_ ?_ ?_ ?_ ?_ ?_ ?_ ?_ ?_ ?_ ?_ ?_ ?_<;>intros<;>simp only [vMv,List.mem_cons,List.not_mem_nil,or_false]at *<;>rename_i hx<;>(try exact hx.elim)<;>(try (rcases hx with rfl|rfl|rfl|rfl))<;>(try (rcases hx with rfl|rfl|rfl))<;>(try (rcases hx with rfl|rfl))<;>(try subst hx)<;>simp_all
def bzB (b1 b2 b3:Int) (f:Int):Bool:=if f=1 then b1==0 else if f=2 then b2==0 else b3==0
def fcS (s:St) (f:Int):Bool:=fcdB (!(s.b1==0)) (!(s.b1==0)&&!(s.b2==0)) (!(s.b1==0)&&(!(s.b2==0)&&!(s.b3==0))) f
def chk4 (s:St) (m:Mv):Bool:=decide (0<m.f)&&bzB s.b1 s.b2 s.b3 m.f
def chk8 (s:St) (t:Pl) (m:Mv):Bool:=decide (0<m.f)&&!wayB t.e t.p (fcS s m.f) (batIn t.m [99]) (batIn t.m [99,107]) m
def chkR (s:St) (t:Pl) (u:Int) (m:Mv):Bool:=if u=4 then chk4 s m else if u=8 then chk8 s t m else false
def balk (m:Mv):Bool:=decide (m.h=[107])&&!m.o
section
variable {s:St}{t:Pl}{u:Int}
theorem st44 (h:aB t.m=0) (hv:vEv t.e) (n k:Nat) (x:Bool) {m:Mv}(hm:t.m[k]? = some m):aC s t u (n+4) (.k44 x (k:Int))=cond (chkR s t u m) (some true) (aC s t u n (.k44 (x||balk m) ((k+1:Nat):Int))):=by
 have hlen:=bK h
 have hk:k<t.m.length:=(List.getElem?_eq_some_iff.1 hm).1
 have hmv:=q7 h m (List.mem_of_getElem? hm)
 have hr:=gI hmv
 have c1:decide ((k:Int)<((t.m.length:Nat):Int))=true:=by simp;omega
 have c2:inR (k:Int) t.m.length=true:=iL (by omega) (by omega)
 have w4:IntKind.i64.wrap ((k:Int)+1)=(k:Int)+1:=by rw [cG]<;>omega
 have hg:t.m[k]?.getD mv0=m:=by rw [hm];rfl
 have q8:¬m.f=0→bq5 (s,t,(⟨m.f,m.t,m.o,m.h,m.b⟩:Mv),())=some (wayB t.e t.p (fcS s m.f) (batIn t.m [99]) (batIn t.m [99,107]) m):=fun hf=>s202 h hv hmv hf
 have rest:∀y:Bool,aC s t u (n+3) (.k51 y (k:Int))=cond (chkR s t u m) (some true) (aC s t u n (.k44 y ((k+1:Nat):Int))):=by
  intro y
  by_cases hf:m.f=0
  · simp [Ez153J_s,Tz153J,TS,w6,c2,hg,hf,w4,chkR,chk4,chk8]
  · have hp:decide (0<m.f)=true:=by simp;omega
    have hp':0<m.f:=by omega
    have h4:m.f=1∨m.f=2∨m.f=3:=by omega
    by_cases hu4:u=4
    · subst hu4
      rcases h4 with h4|h4|h4<;>simp [Ez153J_s,Tz153J,TS,w6,c2,hg,h4,w4,wr0,wr1,wr2,chkR,chk4,bzB]
    · by_cases hu8:u=8
      · subst hu8
        have q8:=q8 hf
        simp [Ez153J_s,Tz153J,TS,w6,c2,hg,hp',w4,q8,chkR,chk8,obind_some]
      · have e4:(u==4)=false:=by simpa using hu4
        have e8:(u==8)=false:=by simpa using hu8
        simp [Ez153J_s,Tz153J,TS,w6,c2,hg,hp',w4,e4,e8,hu4,hu8,chkR]
 have e0:aC s t u (n+4) (.k44 x (k:Int))=aC s t u (n+3) (.k51 (x||balk m) (k:Int)):=by
  have c1':decide (k<t.m.length)=true:=by simpa using hk
  have u1:aC s t u (n+4) (.k44 x (k:Int))=(cond (decide ((k:Int)<((t.m.length:Nat):Int))) (cond x (aC s t u (n+3) (.k51 true k)) (cond (inR (k:Int) t.m.length) (cond (decide (((t.m.getD (k:Int).toNat mv0).h)=[107])) (cond (inR (k:Int) t.m.length) (aC s t u (n+3) (.k51 (!(t.m.getD (k:Int).toNat mv0).o) k)) none) (aC s t u (n+3) (.k51 false k))) none)) (aC s t u (n+3) (.k61 x))):=rfl
  rw [u1,c1,c2,Int.toNat_natCast,aR hm]
  unfold balk
  cases x<;>by_cases hh:m.h=[107]<;>simp [hh]
 rw [e0,rest]
theorem lp44 (h:aB t.m=0) (hv:vEv t.e):∀(j k n:Nat) (x:Bool),t.m.length=k+j→aC s t u (n+4*j+1) (.k44 x (k:Int))=cond ((t.m.drop k).any (chkR s t u)) (some true) (aC s t u n (.k61 (x||(t.m.drop k).any balk)))
 | 0,k,n,x,hl=>by
   have c1:decide ((k:Int)<((t.m.length:Nat):Int))=false:=by simp;omega
   rw [List.drop_eq_nil_of_le (by omega)]
   show aC s t u (n+1) _=_
   simp only [Ez153J_s,Tz153J,TS,w6,c1,cond_false,List.any_nil,Bool.or_false]
 | j + 1,k,n,x,hl=>by
   have hk:k<t.m.length:=by omega
   obtain⟨m,hm⟩:∃m,t.m[k]? = some m:=⟨t.m[k],List.getElem?_eq_getElem hk⟩
   have ih:=lp44 h hv j (k+1) n (x||balk m) (by omega)
   have hd:t.m.drop k=m::t.m.drop (k+1):=by
    obtain⟨h1,h2⟩:=List.getElem?_eq_some_iff.1 hm
    rw [List.drop_eq_getElem_cons h1,h2]
   rw [show n+4*(j+1)+1=(n+4*j+1)+4 by omega,st44 h hv _ k x hm,ih,hd]
   simp only [List.any_cons,Bool.or_assoc]
   cases chkR s t u m<;>rfl
end
end
end Go.Ev
