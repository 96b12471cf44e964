import Derived.Test.YtgjbmohchdmdkaaGreatDoorDQS
import Derived.Test.YtgjbmohchdmdkaaGreatDoorDCA
set_option linter.unusedSimpArgs false
set_option linter.unusedVariables false
namespace Go.Ev
open Go.RowKit Go.Proofs
set_option maxRecDepth 100000
set_option maxHeartbeats 8000000
set_option linter.unusedSimpArgs false
noncomputable section
theorem lp26 (l:List Int) (hl:l.length<1000000):∀(j k n:Nat),l.length=k+j→Ez26J l l (n+j+1) (.k8 (k:Int))=some true
 | 0,k,n,hk=>by
   have c1:decide ((k:Int)<((l.length:Nat):Int))=false:=by simp;omega
   simp only [ayo,bjO,TS,w6,c1,cond_false]
 | j+1,k,n,hk=>by
   have ih:=lp26 l hl j (k+1) n (by omega)
   have c1:decide ((k:Int)<((l.length:Nat):Int))=true:=by simp;omega
   have c2:inR (k:Int) l.length=true:=f8 (by omega) (by omega)
   have w4:IntKind.i64.wrap ((k:Int)+1)=((k+1:Nat):Int):=by rw [bH]<;>omega
   rw [show n+(j+1)+1=(n+j+1)+1 from rfl]
   generalize n+j+1=N at ih ⊢
   simp only [ayo,bjO,TS,w6,c1,c2,cond_true,w4,ih,beq_self_eq_true,Bool.not_true,cond_false]
def shM (m:Mv):Bool:=decide (m.h.length≤20)&&decide (m.b.length≤40)
def shP (t:Pl):Bool:=decide (t.p.length≤26)&&(decide (t.e.length≤20)&&(decide (t.m.length≤6)&&t.m.all shM))
theorem lp84 (t:Pl) (hl:t.m.length≤6):∀(j k n:Nat),t.m.length=k+j→ayk t (n+j+1) (.k8 (k:Int))=some ((t.m.drop k).all shM)
 | 0,k,n,hk=>by
   have c1:decide ((k:Int)<((t.m.length:Nat):Int))=false:=by simp;omega
   rw [List.drop_eq_nil_of_le (by omega)]
   simp only [ayj,ayZ,TS,w6,c1,cond_false,List.all_nil]
 | j+1,k,n,hlk=>by
   have hk:k<t.m.length:=by omega
   obtain⟨m,hm⟩:∃m,t.m[k]? = some m:=⟨t.m[k],List.getElem?_eq_getElem hk⟩
   have ih:=lp84 t hl j (k+1) n (by omega)
   have c1:decide ((k:Int)<((t.m.length:Nat):Int))=true:=by simp;omega
   have c2:inR (k:Int) t.m.length=true:=f8 (by omega) (by omega)
   have w4:IntKind.i64.wrap ((k:Int)+1)=((k+1:Nat):Int):=by rw [bH]<;>omega
   have a1:decide ((20:Int)<((m.h.length:Nat):Int))=!decide (m.h.length≤20):=by rw [Bool.eq_iff_iff];simp;omega
   have a2:decide ((40:Int)<((m.b.length:Nat):Int))=!decide (m.b.length≤40):=by rw [Bool.eq_iff_iff];simp;omega
   rw [bA hm,show n+(j+1)+1=(n+j+1)+1 from rfl]
   generalize n+j+1=N at ih ⊢
   simp only [ayj,ayZ,TS,w6,c1,c2,cond_true,Int.toNat_natCast,aQ hm,w4,ih,List.all_cons,shM,a1,a2]
   cases decide (m.h.length≤20)<;>cases decide (m.b.length≤40)<;>rfl
theorem s31 (t:Pl):Sz31 (t,())=some (shP t):=by
 have e84:Sz84 (t,())=some (shP t):=by
  show Ez84 (t.m.length+64) t=_
  unfold Ez84 Tz84 shP
  simp only [TS,w6]
  have a1:decide ((26:Int)<((t.p.length:Nat):Int))=!decide (t.p.length≤26):=by rw [Bool.eq_iff_iff];simp;omega
  have a2:decide ((20:Int)<((t.e.length:Nat):Int))=!decide (t.e.length≤20):=by rw [Bool.eq_iff_iff];simp;omega
  have a3:decide ((6:Int)<((t.m.length:Nat):Int))=!decide (t.m.length≤6):=by rw [Bool.eq_iff_iff];simp;omega
  rw [a1,a2,a3]
  by_cases h:t.m.length≤6
  · have e:=lp84 t h t.m.length 0 63 (by omega)
    rw [←jV,List.drop_zero]at e
    have e':ayk t (t.m.length+64) (.k8 0)=some (t.m.all shM):=e
    rw [e']
    cases decide (t.p.length≤26)<;>cases decide (t.e.length≤20)<;>simp [h]
  · cases decide (t.p.length≤26)<;>cases decide (t.e.length≤20)<;>simp [h]
 show Ez31 t=_
 unfold Ez31 Tz31
 simp only [TS,w6]
 rw [e84,obind_some]
end
end Go.Ev
namespace Go.Ev
open Go.RowKit Go.Proofs
set_option maxRecDepth 100000
set_option maxHeartbeats 8000000
set_option linter.unusedSimpArgs false
noncomputable section
def nb (b:Int):Int:=if b=0 then 0 else 1
structure avr (s:St):Prop where
 f1:s.b1≠0→0≤sinC s.b1 (batC s)∧sinC s.b1 (batC s)≤s.outs
 f2:s.b2≠0→nb s.b1≤sinC s.b2 (batC s)∧sinC s.b2 (batC s)≤nb s.b1+s.outs
 f3:s.b3≠0→nb s.b1+nb s.b2≤sinC s.b3 (batC s)∧sinC s.b3 (batC s)≤nb s.b1+nb s.b2+s.outs
 l12:s.b1≠0→s.b2≠0→sinC s.b1 (batC s)<sinC s.b2 (batC s)
 l13:s.b1≠0→s.b3≠0→sinC s.b1 (batC s)<sinC s.b3 (batC s)
 l23:s.b2≠0→s.b3≠0→sinC s.b2 (batC s)<sinC s.b3 (batC s)
abbrev okF (o lo la x:Int):Prop:=lo≤x∧x≤lo+o∧la<x
theorem azt {s:St}{slot lo la:Int}:m7 s slot (some (lo,la))=if slot=0 then some (lo,la)else if lo≤sinC slot (batC s)∧sinC slot (batC s)≤lo+s.outs∧la<sinC slot (batC s)then some (lo+1,sinC slot (batC s))else none:=by
 simp only [m7]
 split
 · rfl
 · by_cases h:lo≤sinC slot (batC s)∧sinC slot (batC s)≤lo+s.outs∧la<sinC slot (batC s)
   · rw [if_pos h,if_pos]
     simp [inB];omega
   · rw [if_neg h,if_neg]
     simp [inB];omega
theorem akP {s:St}{slot lo la:Int}:m7 s slot (some (lo,la))=if slot=0∨okF s.outs lo la (sinC slot (batC s))then some (lo+nb slot,if slot=0 then la else sinC slot (batC s))else none:=by
 rw [azt]
 unfold nb okF
 by_cases h:slot=0
 · simp [h]
 · simp only [h,if_false,false_or]
theorem akQ {s:St}{slot lo la:Int}{A:Prop} [Decidable A]:m7 s slot (if A then some (lo,la)else none)=if A∧(slot=0∨okF s.outs lo la (sinC slot (batC s)))then some (lo+nb slot,if slot=0 then la else sinC slot (batC s))else none:=by
 by_cases h:A
 · rw [if_pos h,akP]
   simp only [h,true_and]
 · rw [if_neg h,if_neg (fun q=>h q.1)];rfl
theorem fit_iff (s:St):fitB s=true↔avr s:=by
 have h1:=l8 s.b1 (batC s)
 unfold fitB
 simp only [ajq,bsC]
 rw [akP,akQ,akQ]
 simp only [Option.isSome_ite]
 constructor
 · rintro ⟨⟨a1,a2⟩,a3⟩
   simp only [okF,Int.zero_add]at a1 a2 a3
   refine⟨fun z=>?_,fun z=>?_,fun z=>?_,fun z y=>?_,fun z y=>?_,fun z y=>?_⟩
   · have:=a1.resolve_left z;omega
   · have:=a2.resolve_left z;omega
   · have:=a3.resolve_left z;omega
   · have:=a2.resolve_left y;rw [if_neg z]at this;omega
   · have w:=a3.resolve_left y
     by_cases x:s.b2=0
     · rw [if_pos x,if_neg z]at w;omega
     · have v:=a2.resolve_left x
       rw [if_neg x]at w;rw [if_neg z]at v;omega
   · have w:=a3.resolve_left y
     rw [if_neg z]at w;omega
 · rintro ⟨f1,f2,f3,l12,l13,l23⟩
   simp only [okF,Int.zero_add]
   refine⟨⟨?_,?_⟩,?_⟩
   · by_cases z:s.b1=0
     · exact .inl z
     · have:=f1 z;exact .inr (by omega)
   · by_cases z:s.b2=0
     · exact .inl z
     · have w:=f2 z
       refine .inr ⟨w.1,w.2,?_⟩
       by_cases y:s.b1=0
       · rw [if_pos y];have:=l8 s.b2 (batC s);omega
       · rw [if_neg y];exact l12 y z
   · by_cases z:s.b3=0
     · exact .inl z
     · have w:=f3 z
       refine .inr ⟨w.1,w.2,?_⟩
       by_cases x:s.b2=0
       · rw [if_pos x]
         by_cases y:s.b1=0
         · rw [if_pos y];have:=l8 s.b3 (batC s);omega
         · rw [if_neg y];exact l13 y z
       · rw [if_neg x];exact l23 x z
end
end Go.Ev
