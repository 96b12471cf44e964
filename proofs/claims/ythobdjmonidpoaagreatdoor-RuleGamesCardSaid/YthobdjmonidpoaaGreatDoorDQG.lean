import Derived.Test.YthobdjmonidpoaaGreatDoorDQE
set_option linter.unusedSimpArgs false
set_option linter.unusedVariables false
namespace Go.Ev
open Go.RowKit Go.Proofs
set_option maxRecDepth 100000
set_option maxHeartbeats 8000000
set_option linter.unusedSimpArgs false
noncomputable section
section
variable {s:St}{t:Pl}
theorem bk_balk {m:Mv}(hm:mvE m=0):bk9 m=balk m:=by
 have hr:=fR hm
 unfold bk9 balk
 by_cases hf:m.f=0
 · have hw:=axF hm hf
   obtain⟨f,tt,o,hh,b⟩:=m
   dsimp only at hw hf ⊢
   subst hf
   simp only [List.mem_cons,List.not_mem_nil,or_false,Prod.mk.injEq]at hw
   rcases hw with⟨rfl,rfl⟩ | ⟨rfl,rfl⟩ | ⟨rfl,rfl⟩ | ⟨rfl,rfl⟩ | ⟨rfl,rfl⟩ | ⟨rfl,rfl⟩ | ⟨rfl,rfl⟩ | ⟨rfl,rfl⟩ | ⟨rfl,rfl⟩ | ⟨rfl,rfl⟩ | ⟨rfl,rfl⟩<;>rfl
 · have hw:=jZ hm hf
   have hp:decide (0<m.f)=true:=by simp;omega
   rw [hp]
   obtain⟨f,tt,o,hh,b⟩:=m
   dsimp only at hw ⊢
   simp only [List.mem_cons,List.not_mem_nil,or_false,Prod.mk.injEq]at hw
   rcases hw with⟨rfl,rfl⟩ | ⟨rfl,rfl⟩ | ⟨rfl,rfl⟩ | ⟨rfl,rfl⟩ | ⟨rfl,rfl⟩ | ⟨rfl,rfl⟩ | ⟨rfl,rfl⟩ | ⟨rfl,rfl⟩ | ⟨rfl,rfl⟩ | ⟨rfl,rfl⟩ | ⟨rfl,rfl⟩<;>rfl
theorem any_bk {l:List Mv}(h:aB l=0):l.any bk9=l.any balk:=by
 have hv:=qM h
 clear h
 induction l with
 | nil=>rfl
 | cons a l ih=>
   rw [List.any_cons,List.any_cons,bk_balk (hv a List.mem_cons_self),ih fun m hm=>hv m (List.mem_cons_of_mem _ hm)]
def kB (l:List Mv) (i:Int):Bool:=match mAt l i with
 | some m=>st9 m
 | none=>false
def b2n (b:Bool):Nat:=bif b then 1 else 0
theorem cb9 (a:Mv) (l:List Mv):(a::l).countP st9=l.countP st9+b2n (st9 a):=by
 rw [List.countP_cons]
 cases st9 a<;>rfl
theorem z9 {m:Mv}(h:m.f=0):st9 m=false:=by
 unfold st9;rw [h];rfl
theorem b0n:b2n false=0:=rfl
theorem bin (b:Bool):(if b=true then 1 else 0)=b2n b:=by cases b<;>rfl
theorem ayW {l:List Mv}(h:aB l=0):l.countP st9=b2n (kB l 3)+(b2n (kB l 2)+b2n (kB l 1)):=by
 refine sh_cases h ?_ ?_ ?_ ?_ ?_ ?_ ?_ ?_ ?_ ?_ ?_ ?_ ?_ ?_ ?_ ?_<;>intros<;>(try simp only [vMv]at *)<;>simp_all [kB,mAt,cb9,z9,b0n,bin]<;>(try omega)
theorem at_nz {l:List Mv}{b1 b2 b3:Int}(h:aB l=0) (h4:l.any (c4 b1 b2 b3)=false) {i:Int}(hi:i=1∨i=2∨i=3) {m:Mv}(hm:mAt l i=some m):bzB b1 b2 b3 i=false:=by
 have hf:=(oV h hm).1
 have h2:=List.mem_of_find?_eq_some hm
 rw [List.any_eq_false]at h4
 have h5:=h4 m h2
 unfold c4 at h5
 rw [hf]at h5
 have hp:decide (0<i)=true:=by simp;omega
 rw [hp]at h5
 simpa using h5
theorem eq9 (h:aB t.m=0) (hv:vEv t.e) (hl:t.p.length<9223372036854775808) (h4:t.m.any (c4 s.b1 s.b2 s.b3)=false) :
  iS (s,t,9,())=some (t.m.any bk9&&decide (((t.m.countP st9:Nat):Int)<((nz s.b1+(nz s.b2+nz s.b3):Nat):Int))):=by
 rw [rrL h hv hl (by simp),anyF (by decide) (by decide),Bool.false_or,any_bk h,ayW h]
 have g:∀i:Int,(i=1∨i=2∨i=3)→chkB s t 9 (t.m.any balk) i=(t.m.any balk&&!kB t.m i)∧(bzB s.b1 s.b2 s.b3 i=true→kB t.m i=false):=by
  intro i hi
  unfold kB chkB
  rw [if_pos rfl]
  cases hm:mAt t.m i with
  | none=>exact⟨rfl,fun _=>rfl⟩
  | some m=>
    have hz:=at_nz h h4 hi hm
    obtain⟨hf,hmv⟩:=oV h hm
    have hne:¬m.f=0:=by omega
    have hw:=jZ hmv hne
    have hp:decide (0<m.f)=true:=by simp;omega
    refine⟨?_,fun hz'=>by rw [hz]at hz';cases hz'⟩
    have e:((!m.o&&evIn m.h [107])&&(m.t==IntKind.i64.wrap (i+1)))=st9 m:=by
     unfold st9
     rw [hp,←hf]
     clear hz hm hmv hne hp hf
     obtain⟨f,tt,o,hh,b⟩:=m
     dsimp only at hw ⊢
     simp only [List.mem_cons,List.not_mem_nil,or_false,Prod.mk.injEq]at hw
     rcases hw with⟨rfl,rfl⟩ | ⟨rfl,rfl⟩ | ⟨rfl,rfl⟩ | ⟨rfl,rfl⟩ | ⟨rfl,rfl⟩ | ⟨rfl,rfl⟩ | ⟨rfl,rfl⟩ | ⟨rfl,rfl⟩ | ⟨rfl,rfl⟩ | ⟨rfl,rfl⟩ | ⟨rfl,rfl⟩<;>simp [evIn,hasC]
    simp only
    rw [e]
 obtain⟨a1,z1⟩:=g 1 (by simp)
 obtain⟨a2,z2⟩:=g 2 (by simp)
 obtain⟨a3,z3⟩:=g 3 (by simp)
 have t0:oR s t 9=false:=rfl
 unfold sZ
 rw [a1,a2,a3,t0]
 generalize kB t.m 1=c1 at *
 generalize kB t.m 2=c2 at *
 generalize kB t.m 3=c3 at *
 have y1:bzB s.b1 s.b2 s.b3 1=(s.b1==0):=rfl
 have y2:bzB s.b1 s.b2 s.b3 2=(s.b2==0):=rfl
 have y3:bzB s.b1 s.b2 s.b3 3=(s.b3==0):=rfl
 rw [y1]at z1
 rw [y2]at z2
 rw [y3]at z3
 rw [y1,y2,y3]
 unfold nz
 generalize (s.b1==0)=d1 at *
 generalize (s.b2==0)=d2 at *
 generalize (s.b3==0)=d3 at *
 generalize t.m.any balk=bb
 clear g a1 a2 a3 t0 y1 y2 y3 h4
 revert z1 z2 z3
 cases bb<;>cases d1<;>cases d2<;>cases d3<;>cases c1<;>cases c2<;>cases c3<;>decide
end
end
end Go.Ev
namespace Go.Ev
open Go.RowKit Go.Proofs
set_option maxRecDepth 100000
set_option maxHeartbeats 8000000
set_option linter.unusedSimpArgs false
noncomputable section
structure iG (s:St) (t:Pl):Prop where
 cnt:(iD s t).2.2.1=0
 has:(mAt t.m 0).isSome=!decide (t.e=[])
 four:t.m.any (c4 s.b1 s.b2 s.b3)=false
 fits:∀m,mAt t.m 0=some m→batFits t.e m=true
 order:av7 (placeB t.m s.b1 s.b2 s.b3 0) (placeB t.m s.b1 s.b2 s.b3 1) (placeB t.m s.b1 s.b2 s.b3 2) (placeB t.m s.b1 s.b2 s.b3 3)=false
 outs:outsI s t≤3
 late:(t.l&&(decide (outsI s t<3)||(((t.m.countP rnM:Nat):Int)==0)))=false
 asks:s8 (askC ((iD s t).1.1,(iD s t).1.2.1) t.p) t.e=true
theorem akb {s:St}{t:Pl}(h:aB t.m=0) (hv:vEv t.e) (hb:a7 t.p=true) (hl:t.p.length<9223372036854775808):two (azB (fQ s t,())) (Sz94 (s,t,())) (iG s t):=by
 show two (Ez144 (t.m.length+64) (fQ s t)) (Ez94 (t.m.length+64) s t) _
 unfold Ez144 Tz144 Ez94 Tz94
 simp only [TS,w6]
 have e74:Sz74 ()=Ez74:=rfl
 rw [e74]
 unfold Ez74 Tz74
 simp only [TS,w6]
 rw [obind_some,show t.m.length+64=(t.m.length+50)+14 from rfl]
 generalize t.m.length+50=n
 have w2:IntKind.i64.wrap (1+1)=2:=by decide
 have w3:IntKind.i64.wrap (2+1)=3:=by decide
 have w4:IntKind.i64.wrap (3+1)=4:=by decide
 have w5:IntKind.i64.wrap (4+1)=5:=by decide
 have w6:IntKind.i64.wrap (5+1)=6:=by decide
 have w7:IntKind.i64.wrap (6+1)=7:=by decide
 have w8:IntKind.i64.wrap (7+1)=8:=by decide
 have w9:IntKind.i64.wrap (8+1)=9:=by decide
 have w10:IntKind.i64.wrap (9+1)=10:=by decide
 have w11:IntKind.i64.wrap (10+1)=11:=by decide
 have w12:IntKind.i64.wrap (11+1)=12:=by decide
 have w13:IntKind.i64.wrap (12+1)=13:=by decide
 have w14:IntKind.i64.wrap (13+1)=14:=by decide
 rw [show n+14=(n+13)+1 from rfl,u144_0,u94 s t _ 1 (by decide),w2]
 refine b8 (b:=!((iD s t).2.2.1==0)) rfl (rr1 h hl) (by decide) fun g1=>?_
 have g1':(iD s t).2.2.1=0:=by simpa using g1
 have hk:=ak6 g1'
 rw [show n+13=(n+12)+1 from rfl,u144_1,u94 s t _ 2 (by decide),w3]
 refine b8 (r2_p (s:=fQ s t) hv hl hk) (rr2 h hl) (by decide) fun g2=>?_
 rw [show n+12=(n+11)+1 from rfl,u144_2,u94 s t _ 3 (by decide),w4]
 refine b8 (r3_p (s:=fQ s t) h) ((rr3 h hl).trans (congrArg some ?_)) (by decide) fun g3=>?_
 · show (!((mAt t.m 0).isSome==(!decide (t.e=[]))))=((mAt t.m 0).isSome==decide (t.e=[]))
   cases(mAt t.m 0).isSome<;>cases decide (t.e=[])<;>rfl
 have g3':(mAt t.m 0).isSome=!decide (t.e=[]):=by
  have g3:((mAt t.m 0).isSome==decide (t.e=[]))=false:=g3
  revert g3
  cases(mAt t.m 0).isSome<;>cases decide (t.e=[])<;>decide
 rw [show n+11=(n+10)+1 from rfl,u144_3,u94 s t _ 4 (by decide),w5]
 refine b8 (r4_p (s:=fQ s t) h) (eq4 h hv hl) (by decide) fun g4=>?_
 rw [show n+10=(n+9)+1 from rfl,u144_4,u94 s t _ 5 (by decide),w6]
 refine b8 (r5_p (s:=fQ s t) h hv g3') (rr5 h hl) (by decide) fun g5=>?_
 have g5':∀m,mAt t.m 0=some m→batFits t.e m=true:=by
  intro m hm
  have g5:(match mAt t.m 0 with
   | some m=>!batFits t.e m
   | none=>false)=false:=g5
  rw [hm]at g5
  simpa using g5
 rw [show n+9=(n+8)+1 from rfl,u144_5,u94 s t _ 6 (by decide),w7]
 refine b8 (r6_p (s:=fQ s t) h hv) ((rr6 h hl g3').trans (congrArg some ?_)) (by decide) fun g6=>?_
 · show _=(evIn t.e [75]&&_)
   rw [evIn1];rfl
 rw [show n+8=(n+7)+1 from rfl,u144_6,u94 s t _ 7 (by decide),w8]
 refine b8 (r7_p (s:=fQ s t) hv) ((rr7 h hl).trans (congrArg some ?_)) (by decide) fun g7=>?_
 · show _=(evIn t.e [89]&&_)
   rw [evIn1];rfl
 rw [show n+7=(n+6)+1 from rfl,u144_7,u94 s t _ 8 (by decide),w9]
 refine b8 (r8_p (s:=fQ s t) h hv) (eq8 h hv hl) (by decide) fun g8=>?_
 rw [show n+6=(n+5)+1 from rfl,u144_8,u94 s t _ 9 (by decide),w10]
 refine b8 (r9_p (s:=fQ s t) h) (eq9 h hv hl g4) (by decide) fun g9=>?_
 rw [show n+5=(n+4)+1 from rfl,u144_9,u94 s t _ 10 (by decide),w11]
 refine b8 (r10_p (s:=fQ s t) h hv) (eq10 h hv hl g3' g5') (by decide) fun g10=>?_
 rw [show n+4=(n+3)+1 from rfl,u144_10,u94 s t _ 11 (by decide),w12]
 refine b8 (r11_p (s:=fQ s t) h) (eq11 h hv hl) (by decide) fun g11=>?_
 rw [show n+3=(n+2)+1 from rfl,u144_11,u94 s t _ 12 (by decide),w13]
 refine b8 (b:=decide (3<outsI s t)) r12_p (rr12 h hl) (by decide) fun g12=>?_
 have g12':outsI s t≤3:=by simp at g12;exact g12
 rw [show n+2=(n+1)+1 from rfl,u144_12,u94 s t _ 13 (by decide),w14]
 refine b8 (r13_p (s:=fQ s t) h) ((rr13 h hl).trans (congrArg some ?_)) (by decide) fun g13=>?_
 · show (t.l&&(!(outsI s t==3)||_))=(t.l&&(decide (outsI s t<3)||_))
   have:(!(outsI s t==3))=decide (outsI s t<3):=by rw [Bool.eq_iff_iff];simp;omega
   rw [this];rfl
 refine⟨0,u144_13 _ _ _ _ _ _ _ _ _ _ _ _ _ _ _,rfl,fun _=>⟨g1',g3',g4,g5',g11,g12',g13,by have g2:(!s8 (askC ((iD s t).1.1,(iD s t).1.2.1) t.p) t.e)=false:=g2;simpa using g2⟩,by decide,by decide⟩
end
end Go.Ev
