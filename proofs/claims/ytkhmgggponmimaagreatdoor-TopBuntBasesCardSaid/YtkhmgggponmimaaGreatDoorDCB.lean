import Derived.Test.YtkhmgggponmimaaGreatDoorDCA
import Derived.Test.YtkhmgggponmimaaGreatDoorDQS
set_option linter.unusedSimpArgs false
set_option linter.unusedVariables false
namespace Go.Ev
open Go.RowKit Go.Proofs
set_option maxRecDepth 100000
set_option maxHeartbeats 8000000
set_option linter.unusedSimpArgs false
noncomputable section
def nb (b:Int):Int:=if b=0 then 0 else 1
structure awY (s:St):Prop where
 f1:s.b1≠0→0≤sinC s.b1 (batC s)∧sinC s.b1 (batC s)≤s.outs
 f2:s.b2≠0→nb s.b1≤sinC s.b2 (batC s)∧sinC s.b2 (batC s)≤nb s.b1+s.outs
 f3:s.b3≠0→nb s.b1+nb s.b2≤sinC s.b3 (batC s)∧sinC s.b3 (batC s)≤nb s.b1+nb s.b2+s.outs
 l12:s.b1≠0→s.b2≠0→sinC s.b1 (batC s)<sinC s.b2 (batC s)
 l13:s.b1≠0→s.b3≠0→sinC s.b1 (batC s)<sinC s.b3 (batC s)
 l23:s.b2≠0→s.b3≠0→sinC s.b2 (batC s)<sinC s.b3 (batC s)
abbrev okF (o lo la x:Int):Prop:=lo≤x∧x≤lo+o∧la<x
theorem axV {s:St}{slot lo la:Int}:sP s slot (some (lo,la))=if slot=0 then some (lo,la)else if lo≤sinC slot (batC s)∧sinC slot (batC s)≤lo+s.outs∧la<sinC slot (batC s)then some (lo+1,sinC slot (batC s))else none:=by
 simp only [sP]
 split
 · rfl
 · by_cases h:lo≤sinC slot (batC s)∧sinC slot (batC s)≤lo+s.outs∧la<sinC slot (batC s)
   · rw [if_pos h,if_pos]
     simp [inB];omega
   · rw [if_neg h,if_neg]
     simp [inB];omega
theorem azb {s:St}{slot lo la:Int}:sP s slot (some (lo,la))=if slot=0∨okF s.outs lo la (sinC slot (batC s))then some (lo+nb slot,if slot=0 then la else sinC slot (batC s))else none:=by
 rw [axV]
 unfold nb okF
 by_cases h:slot=0
 · simp [h]
 · simp only [h,if_false,false_or]
theorem azc {s:St}{slot lo la:Int}{A:Prop} [Decidable A]:sP s slot (if A then some (lo,la)else none)=if A∧(slot=0∨okF s.outs lo la (sinC slot (batC s)))then some (lo+nb slot,if slot=0 then la else sinC slot (batC s))else none:=by
 by_cases h:A
 · rw [if_pos h,azb]
   simp only [h,true_and]
 · rw [if_neg h,if_neg (fun q=>h q.1)];rfl
theorem fit_iff (s:St):ayC s=true↔awY s:=by
 have h1:=qC s.b1 (batC s)
 unfold ayC
 simp only [avu,bsC]
 rw [azb,azc,azc]
 simp only [Option.isSome_ite]
 constructor
 · rintro ⟨⟨a1,a2⟩,a3⟩
   simp only [okF,Int.zero_add]at a1 a2 a3
   refine⟨fun z=>?_,fun z=>?_,fun z=>?_,fun z y=>?_,fun z y=>?_,fun z y=>?_⟩
   · have:=a1.resolve_left z;omega
   · have:=a2.resolve_left z;omega
   · have:=a3.resolve_left z;omega
   · have:=a2.resolve_left y;rw [if_neg z]at this;omega
   · have w:=a3.resolve_left y
     by_cases x:s.b2=0
     · rw [if_pos x,if_neg z]at w;omega
     · have v:=a2.resolve_left x
       rw [if_neg x]at w;rw [if_neg z]at v;omega
   · have w:=a3.resolve_left y
     rw [if_neg z]at w;omega
 · rintro ⟨f1,f2,f3,l12,l13,l23⟩
   simp only [okF,Int.zero_add]
   refine⟨⟨?_,?_⟩,?_⟩
   · by_cases z:s.b1=0
     · exact .inl z
     · have:=f1 z;exact .inr (by omega)
   · by_cases z:s.b2=0
     · exact .inl z
     · have w:=f2 z
       refine .inr ⟨w.1,w.2,?_⟩
       by_cases y:s.b1=0
       · rw [if_pos y];have:=qC s.b2 (batC s);omega
       · rw [if_neg y];exact l12 y z
   · by_cases z:s.b3=0
     · exact .inl z
     · have w:=f3 z
       refine .inr ⟨w.1,w.2,?_⟩
       by_cases x:s.b2=0
       · rw [if_pos x]
         by_cases y:s.b1=0
         · rw [if_pos y];have:=qC s.b3 (batC s);omega
         · rw [if_neg y];exact l13 y z
       · rw [if_neg x];exact l23 x z
end
end Go.Ev
