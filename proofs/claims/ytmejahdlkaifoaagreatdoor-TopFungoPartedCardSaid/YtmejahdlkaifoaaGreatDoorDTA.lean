import Derived.Test.YtmejahdlkaifoaaGreatDoorDQP
import Derived.Test.YtmejahdlkaifoaaGreatDoorDT1
set_option linter.unusedSimpArgs false
set_option linter.unusedVariables false
namespace Go.Ev
open Go.RowKit Go.Proofs
set_option maxRecDepth 100000
set_option maxHeartbeats 4000000
set_option linter.unusedSimpArgs false
set_option linter.unusedVariables false
noncomputable section
theorem bqL {c0 c1:Cnt}{l:List Nat}:∀ {d:Bool},l≠[]→cnt c0 d l=.inl (c1,false)→d=false∧∃y,l[l.length-1]? = some y∧lastP y=false:=by
 induction l generalizing c0 with
 | nil=>intro d h;exact absurd rfl h
 | cons x l ih=>
   intro d _ h
   simp only [cnt]at h
   by_cases hd:(d||!isP x)=true
   · simp [hd]at h
   · rw [if_neg hd]at h
     have hd0:d=false:=by cases d<;>simp_all
     refine⟨hd0,?_⟩
     cases l with
     | nil=>
       simp only [cnt,Sum.inl.injEq,Prod.mk.injEq]at h
       refine⟨x,rfl,?_⟩
       have:=h.2
       unfold doneC at this
       simp only [Bool.or_eq_false_iff]at this
       exact this.2
     | cons z l'=>
       cases hc:cnt (stepC c0 x) (doneC c0 x) (z::l')with
       | inr k=>rw [hc]at h;simp at h
       | inl r=>
         rw [hc]at h
         simp only [Sum.inl.injEq]at h
         subst h
         obtain⟨_,y,hy,hl⟩:=ih (by simp) hc
         exact⟨y,by simpa using hy,hl⟩
theorem cnt_sep {c0 c2:Cnt}{d2:Bool}{a b:List Nat}(hb:b≠[]) (h:cnt c0 false (a++b)=.inl (c2,d2)):∃c1,cnt c0 false a=.inl (c1,false)∧cnt c1 false b=.inl (c2,d2):=by
 rw [oA]at h
 cases ha:cnt c0 false a with
 | inr k=>rw [ha]at h;simp at h
 | inl r =>
   obtain⟨c1,d1⟩:=r
   rw [ha]at h
   simp only at h
   cases hc:cnt c1 d1 b with
   | inr k=>rw [hc]at h;simp at h
   | inl r2=>
     rw [hc]at h
     simp only [Sum.inl.injEq]at h
     subst h
     have hd:d1=false:=by
      cases b with
      | nil=>exact absurd rfl hb
      | cons x l=>
        cases d1 with
        | false=>rfl
        | true=>simp [cnt]at hc
     subst hd
     exact⟨c1,rfl,hc⟩
theorem pit_app {a b:List Nat}(h:bL (a++b)=true):bL a=true∧bL b=true:=by
 induction a with
 | nil=>exact⟨rfl,h⟩
 | cons x a ih=>
   simp only [List.cons_append,bL,Bool.and_eq_true]at h
   obtain⟨⟨h1,h2⟩,h3⟩:=h
   obtain⟨i1,i2⟩:=ih h3
   refine⟨?_,i2⟩
   simp only [bL,Bool.and_eq_true]
   refine⟨⟨h1,?_⟩,i1⟩
   simp only [Bool.or_eq_true]at h2 ⊢
   rcases h2 with h2|h2
   · exact .inl h2
   · right
     simp only [List.isEmpty_iff,List.append_eq_nil_iff]at h2 ⊢
     exact h2.1
theorem awX {a b:List Nat}(h:aW (a++b)=true):aW a=true∧aW b=true:=by
 unfold aW at *
 rw [List.all_append,Bool.and_eq_true]at h
 exact h
theorem ajw {a b:List Nat}(hb:b≠[]) (z:Nat):avQ (a++b) [z]=avQ b [z]:=by
 have hl:0<b.length:=List.length_pos_iff.2 hb
 obtain⟨y,hy⟩:∃y,b[b.length-1]? = some y:=⟨_,List.getElem?_eq_getElem (by omega)⟩
 rw [suf1 hy hl]
 refine suf1 ?_ (by simp;omega)
 rw [List.getElem?_append_right (by simp;omega),List.length_append]
 rw [show a.length+b.length-1-a.length=b.length-1 by omega];exact hy
theorem xC {c:Cnt}{a b:List Nat}(hb:b≠[]):askC c (a++b)=askC c b:=by
 unfold askC
 rw [ajw hb,ajw hb]
theorem aw5 {c0 c1:Cnt}{l:List Nat}(hl:l≠[]) (h:cnt c0 false l=.inl (c1,false)) (ho:c1.1≤3∧c1.2≤2):askC c1 l=[]:=by
 obtain⟨_,y,hy,hp⟩:=bqL hl h
 have hpos:0<l.length:=List.length_pos_iff.2 hl
 unfold askC
 rw [if_neg (by omega),if_neg (by omega),suf1 hy hpos,suf1 hy hpos]
 unfold lastP at hp
 simp only [Bool.or_eq_false_iff,beq_eq_false_iff_ne]at hp
 rw [if_neg (by simpa using hp.2),if_neg (by simpa using hp.1)]
theorem zK:∀ {l:List Nat}{c c':Cnt}{d d':Bool},okC c d→cnt c d l=.inl (c',d')→okC c' d'
 | [],c,c',d,d',h,e=>by
   simp only [cnt,Sum.inl.injEq,Prod.mk.injEq]at e
   obtain⟨rfl,rfl⟩:=e
   exact h
 | x :: l,c,c',d,d',h,e=>by
   simp only [cnt]at e
   by_cases hd:(d||!isP x)=true
   · simp [hd]at e
   · rw [if_neg hd]at e
     have hd0:d=false:=by cases d<;>simp_all
     subst hd0
     cases hc:cnt (stepC c x) (doneC c x) l with
     | inr k=>rw [hc]at e;simp at e
     | inl r=>
       rw [hc]at e
       simp only [Sum.inl.injEq]at e
       subst e
       exact zK (vG h) hc
structure bjj (s:St) (a b:List Nat) (c1 c2:Cnt):Prop where
 one:oB s.balls s.strikes a=((c1.1,c1.2,()),0,0,())
 two:oB c1.1 c1.2 b=((c2.1,c2.2,()),0,0,())
 all:oB s.balls s.strikes (a++b)=((c2.1,c2.2,()),0,0,())
 in1:0≤c1.1∧c1.1≤3∧0≤c1.2∧c1.2≤2
 ask:a≠[]→askC c1 a=[]
theorem part_of {s:St}{a b:List Nat}(hb:b≠[]) (h:(oB s.balls s.strikes (a++b)).2.2.1=0):∃c1 c2,bjj s a b c1 c2:=by
 unfold oB at h
 split at h
 · rename_i hin
   split at h
   · rename_i hl
     cases hc:cnt (s.balls,s.strikes) false (a++b)with
     | inr k=>rw [hc]at h;simp [ayE]at h
     | inl r=>
       obtain⟨c2,d2⟩:=r
       obtain⟨c1,h1,h2⟩:=cnt_sep hb hc
       rw [List.length_append]at hl
       have ok0:okC (s.balls,s.strikes) false:=by unfold okC;simp only;omega
       have ok1:=zK ok0 h1
       have hi:0≤c1.1∧c1.1≤3∧0≤c1.2∧c1.2≤2:=by
        unfold okC at ok1
        have:=ok1.2.2.2.2 rfl
        omega
       refine⟨c1,c2,?_,?_,?_,hi,fun ha=>aw5 ha h1 ⟨hi.2.1,hi.2.2.2⟩⟩
       · unfold oB
         rw [if_pos hin,if_pos (by omega),h1];rfl
       · unfold oB
         rw [if_pos (by omega),if_pos (by omega)]
         show ayE (cnt c1 false b)=_
         rw [h2];rfl
       · unfold oB
         rw [if_pos hin,if_pos (by rw [List.length_append];omega),hc];rfl
   · simp at h
 · simp at h
end
end Go.Ev
