import Derived.Test.YtfhpbcklkijaoaaGreatDoorH4
import Derived.Test.YtfhpbcklkijaoaaGreatDoorDCE
set_option linter.unusedSimpArgs false
set_option linter.unusedVariables false
namespace Go.Ev
open Go.RowKit Go.Proofs
set_option maxRecDepth 20000
set_option maxHeartbeats 8000000
set_option linter.unusedVariables false
noncomputable section
section
variable {s:St}{t:Pl}
theorem avT (h:aC t.m=0):(iR (outsI s t) t.l t.m).map (sltM s)=(bif nP s t then zR t else []).map (sl s):=by
 have e:(t.m.filter rnM).map (sltM s)=(zR t).map (sl s):=by rw [←runs_T h,List.map_map];rfl
 unfold iR nP
 by_cases ho:outsI s t=3
 · cases t.l<;>cases hc:t.m.any clM<;>simp [ho,e]
 · have this:(outsI s t==3)=false:=by simpa using ho
   rw [if_neg (fun q=>ho q.1),this,e];rfl
theorem len3b (a b c:Int):((([a,b,c].filter (fun b=>!(b==0))).length:Nat):Int)=nb a+(nb b+nb c):=by
 unfold nb
 by_cases h1:a=0<;>by_cases h2:b=0<;>by_cases h3:c=0<;>simp [h1,h2,h3]
theorem akn (h:aC t.m=0) (g:fR s t):((allT (act t.m 0) (s.b1==0) (s.b2==0) (s.b3==0):Nat):Int)=nb s.b1+(nb s.b2+nb s.b3)+(if t.e=[]then 0 else 1):=by
 have e1:=uK (b:=s.b1)
 have e2:=uK (b:=s.b2)
 have e3:=uK (b:=s.b3)
 have eT:=tT h g
 unfold allT
 rw [Int.natCast_add,Int.natCast_add,Int.natCast_add,e1,e2,e3,eT];omega
theorem bal_0 (h:aC t.m=0) (g:fR s t) (G:Good s) (ho:¬outsI s t=3) :
  nb s.b1+(nb s.b2+nb s.b3)+(if t.e=[]then 0 else 1)=nb (mvd s t).b1+(nb (mvd s t).b2+nb (mvd s t).b3)+eO s t+((t.m.countP (·.o):Nat):Int):=by
 have hc:nP s t=true:=by unfold nP;simp [ho]
 have eR:=avT (s:=s) h
 rw [hc,cond_true]at eR
 have Z:=w7 (zfin h g true).1
 have hlen:=Z.len
 have la:=akn h g
 have l3:=len3b (fQ s t 1) (fQ s t 2) (fQ s t 3)
 rw [bases_T h g G,List.length_map]at l3
 have lR:=congrArg List.length eR
 rw [List.length_map,List.length_map]at lR
 rw [List.length_append]at hlen
 have ho':=ajb h
 show _=nb (fQ s t 1)+(nb (fQ s t 2)+nb (fQ s t 3))+((iR (outsI s t) t.l t.m).length:Nat)+_
 rw [lR,ho',←l3,←la,←hlen]
 simp only [Int.natCast_add]
theorem bal_1 (h:aC t.m=0) (g:fR s t) :
  nb s.b1+(nb s.b2+nb s.b3)+(if t.e=[]then 0 else 1)=eO s t+((t.m.countP (·.o):Nat):Int)+(((yB s t).length:Nat):Int):=by
 have eR:=avT (s:=s) h
 have Z:=w7 (zfin h g (nP s t)).2.1
 have hlen:=Z.len
 have la:=akn h g
 have lR:=congrArg List.length eR
 rw [List.length_map,List.length_map]at lR
 rw [List.length_append]at hlen
 have ho':=ajb h
 have lL:(yB s t).length=(lfRs (nP s t) (pl s t 0) (pl s t 1) (pl s t 2) (pl s t 3)).length:=by unfold yB;rw [List.length_map]
 show _=(((iR (outsI s t) t.l t.m).length:Nat):Int)+_+_
 rw [lR,ho',lL,←la,←hlen]
 simp only [Int.natCast_add];omega
end
def tsR (L:List Pl) (a:Nat):Nat→Int
 | 0=>0
 | n+1=>tsR L a n+(if(L.getD (a+n) pl0).e=[]then 0 else 1)
def osR (L:List Pl) (a:Nat):Nat→Int
 | 0=>0
 | n+1=>osR L a n+(((L.getD (a+n) pl0).m.countP (·.o):Nat):Int)
theorem azi (L:List Pl) (a:Nat):∀n,0≤tsR L a n∧tsR L a n≤n
 | 0=>by simp [tsR]
 | n+1=>by
   have:=azi L a n
   unfold tsR
   split<;>omega
structure Cur (L:List Pl) (k:Nat) (h:Hf) (a i:Nat):Prop where
 le:a≤i
 side:h.side=((k % 2:Nat):Int)
 inn:h.inn=((k / 2+1:Nat):Int)
 frm:h.frm=(a:Int)
 turns:h.turns=tsR L a (i-a)
 outs:h.outs=osR L a (i-a)
 runs:0≤h.runs∧h.runs≤4*((i-a:Nat):Int)
structure Fin1 (L:List Pl) (k:Nat) (h:Hf) (a b:Nat):Prop where
 cur:Cur L k h a b
 lt:a<b
 to:h.to=(b:Int)
 sum:h.turns=h.runs+h.outs+h.left
 o3:0≤h.outs∧h.outs≤3
 l4:0≤h.left∧h.left≤4
def Ch (L:List Pl):Nat→Nat→List Hf→Nat→Prop
 | _,a,[],e=>a=e
 | k,a,h::l,e=>∃b,Fin1 L k h a b∧Ch L (k+1) b l e
theorem rY {L:List Pl}:∀ {l:List Hf}{k a e:Nat}{h:Hf},Ch L k a (l++[h]) e↔∃m,Ch L k a l m∧Fin1 L (k+l.length) h m e
 | [], k,a,e,h=>by
   constructor
   · rintro ⟨b,F,rfl⟩
     exact⟨a,rfl,F⟩
   · rintro ⟨m,rfl,F⟩
     exact⟨e,F,rfl⟩
 | x :: l,k,a,e,h=>by
   have ih:=fun b=>rY (L:=L) (l:=l) (k:=k+1) (a:=b) (e:=e) (h:=h)
   constructor
   · rintro ⟨b,F,hb⟩
     obtain⟨m,h1,h2⟩:=(ih b).1 hb
     exact⟨m,⟨b,F,h1⟩,by rw [List.length_cons,show k+(l.length+1)=k+1+l.length by omega];exact h2⟩
   · rintro ⟨m,⟨b,F,h1⟩,h2⟩
     rw [List.length_cons,show k+(l.length+1)=k+1+l.length by omega]at h2
     exact⟨b,F,(ih b).2 ⟨m,h1,h2⟩⟩
theorem ch_le {L:List Pl}:∀ {l:List Hf}{k a e:Nat},Ch L k a l e→a+l.length≤e
 | [],_,_,_,h=>by cases h;simp
 | x::l,k,a,e,⟨b,F,h⟩=>by
   have:=ch_le h
   have:=F.lt
   rw [List.length_cons];omega
def xF (q:Int):List Hf→Int
 | []=>0
 | h::l=>(if h.side=q then h.runs else 0)+xF q l
theorem iY {q:Int}:∀ {l:List Hf}{h:Hf},xF q (l++[h])=xF q l+(if h.side=q then h.runs else 0)
 | [],h=>by simp [xF]
 | x::l,h=>by
   show _+xF q (l++[h])=_+xF q l+_
   rw [iY];omega
structure BI (L:List Pl) (i:Nat) (acc:List Hf) (x:St):Prop where
 ok:stE x=0
 ch:Ch L 0 0 acc i
 three:∀h∈acc.dropLast,h.outs=3
 c0:x.c0=xF 0 acc
 c1:x.c1=xF 1 acc
 now:x.over=true∨(x.half=((acc.length % 2:Nat):Int)∧x.inn=((acc.length / 2+1:Nat):Int)∧x.outs=0∧x.b1=0∧x.b2=0∧x.b3=0∧∀h,acc.getLast? = some h→h.outs=3) ∨
  ∃pre h,acc=pre++[h]∧x.half=h.side∧x.inn=h.inn∧h.outs=x.outs∧h.turns=h.runs+h.outs+(nb x.b1+(nb x.b2+nb x.b3))
structure PU (L:List Pl) (i:Nat) (pre:List Hf) (h:Hf) (x:St):Prop where
 ok:stE x=0
 ch:∃a,Ch L 0 0 pre a∧Cur L pre.length h a i
 three:∀y∈pre,y.outs=3
 half:x.half=h.side
 inn:x.inn=h.inn
 outs:h.outs=x.outs
 bal:h.turns=h.runs+h.outs+(nb x.b1+(nb x.b2+nb x.b3))
 c0:x.c0=xF 0 pre+(if h.side=0 then h.runs else 0)
 c1:x.c1=xF 1 pre+(if h.side=1 then h.runs else 0)
theorem ayd (L:List Pl):BI L 0 [] bC:=
 ⟨aj0,rfl,fun _ h=>(by cases h),rfl,rfl,.inr (.inl ⟨rfl,rfl,rfl,rfl,rfl,rfl,fun _ h=>by cases h⟩)⟩
theorem pu_of {L:List Pl}{i:Nat}{acc:List Hf}{x:St}(B:BI L i acc x) (hv:x.over=false):∃pre h,withH acc i x=pre++[h]∧PU L i pre h x:=by
 rcases B.now with h|⟨n1,n2,n3,n4,n5,n6,n7⟩ | ⟨pre,h,rfl,n2,n3,n4,n5⟩
 · rw [hv]at h;cases h
 · have z0:nb 0=0:=rfl
   have ho:o9 acc x=true:=by
    unfold o9
    cases hl:acc.getLast? with
    | none=>rfl
    | some h=>
      obtain⟨pre,rfl⟩:∃pre,acc=pre++[h]:=by
       obtain⟨ys,e⟩:=List.getLast?_eq_some_iff.1 hl
       exact⟨ys,e⟩
      obtain⟨m,_,F⟩:=rY.1 B.ch
      have s1:=F.cur.side
      rw [List.length_append,List.length_singleton]at n1
      have:(h.side==x.half)=false:=by rw [beq_eq_false_iff_ne];omega
      show(!(h.inn==x.inn)||!(h.side==x.half))=true
      rw [this];simp
   refine⟨acc,⟨x.inn,x.half,(i:Nat),0,0,0,0,0⟩,by unfold withH;rw [if_pos ho],B.ok,⟨i,B.ch,?_⟩,?_,rfl,rfl,n3.symm,?_,?_,?_⟩
   · exact⟨Nat.le_refl _,n1,n2,rfl,by rw [Nat.sub_self];rfl,by rw [Nat.sub_self];rfl,by simp⟩
   · intro y hy
     rcases List.eq_nil_or_concat acc with rfl|⟨pre,h,rfl⟩
     · cases hy
     · rw [List.concat_eq_append]at hy
       have t3:=B.three
       rw [List.concat_eq_append,List.dropLast_concat]at t3
       rcases List.mem_append.1 hy with hy|hy
       · exact t3 y hy
       · rw [List.mem_singleton.1 hy]
         exact n7 h (by simp)
   · rw [n4,n5,n6,z0];rfl
   · rw [B.c0];simp
   · rw [B.c1];simp
 · obtain ⟨m,h1,F⟩:=rY.1 B.ch
   rw [Nat.zero_add]at F
   have ho:o9 (pre++[h]) x=false:=by
    unfold o9
    rw [List.getLast?_concat]
    show(!(h.inn==x.inn)||!(h.side==x.half))=false
    rw [n2,n3];simp
   have t3:=B.three
   rw [List.dropLast_concat]at t3
   exact⟨pre,h,by unfold withH;rw [if_neg (by rw [ho];simp)],B.ok,⟨m,h1,F.cur⟩,t3,n2,n3,n4,n5,by rw [B.c0,iY],by rw [B.c1,iY]⟩
theorem awi {acc pre:List Hf}{h:Hf}{i:Nat}{s:St}{t:Pl}(e:withH acc i s=pre++[h]):sV acc i s t=pre++[longS h i s t]:=by
 unfold sV
 rw [e]
 simp
end
end Go.Ev
