import Derived.Test.YthobdjmonidpoaaGreatDoorDQ9
set_option linter.unusedSimpArgs false
set_option linter.unusedVariables false
namespace Go.Ev
open Go.RowKit Go.Proofs
set_option maxRecDepth 100000
set_option maxHeartbeats 8000000
set_option linter.unusedSimpArgs false
noncomputable section
theorem aqU (k:Int):∀l:List Mv,match mAt l k with
  | none=>mvIx l k=-1
  | some m=>∃j:Nat,mvIx l k=(j:Int)∧l[j]? = some m
 | []=>rfl
 | a :: r=>by
   have ih:=aqU k r
   unfold mAt at ih ⊢
   cases ha:(a.f==k)with
   | true=>
     simp only [List.find?_cons,ha,mvIx,cond_true]
     exact⟨0,rfl,rfl⟩
   | false=>
     simp only [List.find?_cons,ha,mvIx,cond_false]
     cases hr:r.find? (fun m=>m.f==k)with
     | none=>
       rw [hr]at ih
       simp only at ih ⊢
       rw [ih];rfl
     | some m=>
       rw [hr]at ih
       simp only at ih ⊢
       obtain⟨j,h1,h2⟩:=ih
       refine⟨j+1,?_,by simpa using h2⟩
       rw [h1];rfl
def award (e:List Nat):Bool:=decide (e=[87])||(decide (e=[72])||decide (e=[73]))
def chkB (s:St) (t:Pl) (u:Int) (x:Bool) (i:Int):Bool:=if u=9 then x&&!(match mAt t.m i with
  | some m=>(!m.o&&evIn m.h [107])&&(m.t==IntKind.i64.wrap (i+1))
  | none=>false)
 else if u=10 then award t.e&&(fcS s i&&(match mAt t.m i with
  | some m=>m.o
  | none=>true))
 else false
section
variable {s:St}{t:Pl}{u:Int}
theorem st71 (h:aB t.m=0) (n:Nat) (x:Bool) {i:Int}(hi:i=1∨i=2∨i=3):aC s t u (n+2) (.k71 (mvIx t.m i) i x)=cond (chkB s t u x i) (some true) (aC s t u n (.k62 (IntKind.i64.wrap (i+1)) x)):=by
 have hx:=aqU i t.m
 have aw:∀A:Bool→Option Bool,(cond (decide (t.e=[87])) (A true) (cond (decide (t.e=[72])) (A true) (A (decide (t.e=[73])))))=A (award t.e):=by
  intro A
  unfold award
  cases decide (t.e=[87])<;>cases decide (t.e=[72])<;>rfl
 have k77:∀aw':Bool,(aw'=award t.e)→aC s t u (n+1) (.k77 i (mvIx t.m i) aw' x)=cond (if u=10 then award t.e&&(fcS s i&&(match mAt t.m i with
  | some m=>m.o
  | none=>true))else false) (some true) (aC s t u n (.k62 (IntKind.i64.wrap (i+1)) x)):=by
  rintro _ rfl
  by_cases hu:u=10
  · subst hu
    have q:=s25 s
    cases hm:mAt t.m i with
    | none=>
      rw [hm]at hx
      simp only at hx
      rcases hi with rfl|rfl|rfl<;>simp [Ez153J_s,Tz153J,TS,w6,hx,q,obind_some,fcS,fcdB]<;>cases award t.e<;>cases(s.b1==0)<;>cases(s.b2==0)<;>cases(s.b3==0)<;>rfl
    | some m=>
      rw [hm]at hx
      obtain⟨j,h1,h2⟩:=hx
      have hj:j<t.m.length:=(List.getElem?_eq_some_iff.1 h2).1
      have hl:=bF h
      have c2:inR (j:Int) t.m.length=true:=fE (by omega) (by omega)
      have c3:¬((j:Int)<0):=by omega
      have hg:t.m[j]?.getD mv0=m:=by rw [h2];rfl
      rcases hi with rfl|rfl|rfl<;>simp [Ez153J_s,Tz153J,TS,w6,h1,c2,c3,hg,q,obind_some,fcS,fcdB]<;>cases award t.e<;>cases(s.b1==0)<;>cases(s.b2==0)<;>cases(s.b3==0)<;>cases m.o<;>rfl
  · have e10:(u==10)=false:=by simpa using hu
    simp [Ez153J_s,Tz153J,TS,w6,e10,hu]
 by_cases hu:u=9
 · subst hu
   have k77:∀aw',aw'=award t.e→aC s t 9 (n+1) (.k77 i (mvIx t.m i) aw' x)=aC s t 9 n (.k62 (IntKind.i64.wrap (i+1)) x):=fun aw' ha=>k77 aw' ha
   cases x with
   | false=>
     have u1:aC s t 9 (n+2) (.k71 (mvIx t.m i) i false)=(cond (decide (t.e=[87])) (aC s t 9 (n+1) (.k77 i (mvIx t.m i) true false)) (cond (decide (t.e=[72])) (aC s t 9 (n+1) (.k77 i (mvIx t.m i) true false)) (aC s t 9 (n+1) (.k77 i (mvIx t.m i) (decide (t.e=[73])) false)))):=rfl
     rw [u1,aw (fun b=>aC s t 9 (n+1) (.k77 i (mvIx t.m i) b false)),k77 _ rfl]
     simp [chkB]
   | true=>
     have u1:aC s t 9 (n+2) (.k71 (mvIx t.m i) i true)=(cond (decide (mvIx t.m i<(0:Int))) (some true) (cond (inR (mvIx t.m i) t.m.length) (aX (fL ((t.m.getD (mvIx t.m i).toNat mv0),false,[107],())) fun r80=>(cond (!r80) (some true) (cond (inR (mvIx t.m i) t.m.length) (cond (!((t.m.getD (mvIx t.m i).toNat mv0).t==(IntKind.i64.wrap (i+(1:Int))))) (some true) (cond (decide (t.e=[87])) (aC s t 9 (n+1) (.k77 i (mvIx t.m i) true true)) (cond (decide (t.e=[72])) (aC s t 9 (n+1) (.k77 i (mvIx t.m i) true true)) (aC s t 9 (n+1) (.k77 i (mvIx t.m i) (decide (t.e=[73])) true))))) none))) none)):=rfl
     rw [u1,aw (fun b=>aC s t 9 (n+1) (.k77 i (mvIx t.m i) b true)),k77 _ rfl]
     cases hm:mAt t.m i with
     | none=>
       rw [hm]at hx
       simp only at hx
       simp [hx,chkB,hm]
     | some m=>
       rw [hm]at hx
       obtain⟨j,h1,h2⟩:=hx
       have hj:j<t.m.length:=(List.getElem?_eq_some_iff.1 h2).1
       have hl:=bF h
       have c2:inR (j:Int) t.m.length=true:=fE (by omega) (by omega)
       have c3:decide ((j:Int)<0)=false:=by simp
       have hmv:=qM h m (List.mem_of_getElem? h2)
       rw [h1,c2,c3,Int.toNat_natCast,aW h2,ajg (by simp) hmv,obind_some]
       simp only [chkB,hm,if_true]
       have e2:∀b:Bool,(b==false)=!b:=by decide
       rw [e2]
       cases(!m.o&&evIn m.h [107])<;>cases(m.t==IntKind.i64.wrap (i+1))<;>rfl
 · have e9:(u==9)=false:=by simpa using hu
   have u1:aC s t u (n+2) (.k71 (mvIx t.m i) i x)=(cond (decide (t.e=[87])) (aC s t u (n+1) (.k77 i (mvIx t.m i) true x)) (cond (decide (t.e=[72])) (aC s t u (n+1) (.k77 i (mvIx t.m i) true x)) (aC s t u (n+1) (.k77 i (mvIx t.m i) (decide (t.e=[73])) x)))):=by
    simp only [Ez153J_s,Tz153J,TS,w6,e9,cond_false]
   rw [u1,aw (fun b=>aC s t u (n+1) (.k77 i (mvIx t.m i) b x)),k77 _ rfl]
   unfold chkB
   rw [if_neg hu]
end
end
end Go.Ev
