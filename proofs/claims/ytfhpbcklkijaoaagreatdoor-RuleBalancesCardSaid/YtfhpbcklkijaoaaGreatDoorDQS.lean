import Derived.Test.YtfhpbcklkijaoaaGreatDoorDQP
set_option linter.unusedSimpArgs false
set_option linter.unusedVariables false
namespace Go.Ev
open Go.RowKit Go.Proofs
set_option maxRecDepth 100000
set_option maxHeartbeats 8000000
set_option linter.unusedSimpArgs false
noncomputable section
def lfP (hr:Bool) (p f:Int):List Int:=bif !(p==0)&&!(hr&&(p==4))then [f]else []
def lfR (a:Int) (c:Bool) (p f:Int):List Int:=bif(p==a)&&(decide (a<4)||!c)then [f]else []
def bq1 (hr:Bool) (p0 p1 p2 p3:Int):List Int:=lfP hr p3 3++(lfP hr p2 2++(lfP hr p1 1++lfP hr p0 0))
def lfRa (a:Int) (c:Bool) (p0 p1 p2 p3:Int):List Int:=lfR a c p3 3++(lfR a c p2 2++(lfR a c p1 1++lfR a c p0 0))
def lfRs (c:Bool) (p0 p1 p2 p3:Int):List Int:=lfRa 4 c p0 p1 p2 p3++(lfRa 3 c p0 p1 p2 p3++(lfRa 2 c p0 p1 p2 p3++lfRa 1 c p0 p1 p2 p3))
def chkL (p0 p1 p2 p3:Int) (c:Bool):Bool:=aw5 p0 p1 p2 p3||((bq1 c p0 p1 p2 p3==lfRs c p0 p1 p2 p3)&&((p0==4)||((p1==4)||((p2==4)||((p3==4)||(bq1 (!c) p0 p1 p2 p3==bq1 c p0 p1 p2 p3))))))
theorem aya:([0,1,2,3,4].all fun p0=>[0,1,2,3,4].all fun p1=>[0,1,2,3,4].all fun p2=>[0,1,2,3,4].all fun p3=>[true,false].all fun c=>chkL p0 p1 p2 p3 c)=true:=by kernel_rfl
section
variable {s:St}{t:Pl}
theorem st93 {tn:Tn}(hs:tn.s_half=0∨tn.s_half=1) (n:Nat) (hr:Bool) (p0 p1 p2 p3:Int) (l:List Int) (hl:l.length≤20) {i p:Int}(hi:(i=0∧p=p3)∨(i=1∧p=p2)∨(i=2∧p=p1)∨(i=3∧p=p0)) :
  ajS tn (n+1) (.k8 hr p0 p1 p2 p3 i l)=ajS tn n (.k8 hr p0 p1 p2 p3 (IntKind.i64.wrap (i+1)) (l++(lfP hr p (3-i)).map (xH tn.s_half tn.s_n0 tn.s_n1 tn.s_b1 tn.s_b2 tn.s_b3))):=by
 have c3:Nat.ble (8*(l.length+1)) 1000000=true:=by rw [Nat.ble_eq];omega
 have q:∀i:Int,(i=0∨i=1∨i=2∨i=3)→mT (tn,i,())=some (xH tn.s_half tn.s_n0 tn.s_n1 tn.s_b1 tn.s_b2 tn.s_b3 i):=fun i hi=>s91 hs hi
 have q0:=q 0 (by simp)
 have q1:=q 1 (by simp)
 have q2:=q 2 (by simp)
 have q3:=q 3 (by simp)
 have w0:IntKind.i64.wrap (3-0)=3:=by decide
 have w1:IntKind.i64.wrap (3-1)=2:=by decide
 have w2:IntKind.i64.wrap (3-2)=1:=by decide
 have w3:IntKind.i64.wrap (3-3)=0:=by decide
 rcases hi with⟨rfl,rfl⟩ | ⟨rfl,rfl⟩ | ⟨rfl,rfl⟩ | ⟨rfl,rfl⟩
 · simp only [wV,ajH,TS,w6,List.length_map,w0,q3,obind_some,c3,cond_true,lfP]
   cases hr<;>cases(p==0)<;>cases(p==4)<;>simp
 · simp only [wV,ajH,TS,w6,List.length_map,w1,q2,obind_some,c3,cond_true,lfP]
   cases hr<;>cases(p==0)<;>cases(p==4)<;>simp
 · simp only [wV,ajH,TS,w6,List.length_map,w2,q1,obind_some,c3,cond_true,lfP]
   cases hr<;>cases(p==0)<;>cases(p==4)<;>simp
 · simp only [wV,ajH,TS,w6,List.length_map,w3,q0,obind_some,c3,cond_true,lfP]
   cases hr<;>cases(p==0)<;>cases(p==4)<;>simp
theorem lp93 {tn:Tn}(hs:tn.s_half=0∨tn.s_half=1) (n:Nat) (hr:Bool) (p0 p1 p2 p3:Int):ajS tn (n+5) (.k8 hr p0 p1 p2 p3 0 [])=some ((bq1 hr p0 p1 p2 p3).map (xH tn.s_half tn.s_n0 tn.s_n1 tn.s_b1 tn.s_b2 tn.s_b3)):=by
 have w1:IntKind.i64.wrap (0+1)=1:=by decide
 have w2:IntKind.i64.wrap (1+1)=2:=by decide
 have w3:IntKind.i64.wrap (2+1)=3:=by decide
 have w4:IntKind.i64.wrap (3+1)=4:=by decide
 have ln:∀(p f:Int),(lfP hr p f).length≤1:=by
  intro p f
  unfold lfP
  cases(!(p==0)&&!(hr&&(p==4)))<;>simp
 have l3:=ln p3 3
 have l2:=ln p2 2
 have l1:=ln p1 1
 rw [show n+5=(n+4)+1 from rfl,st93 hs _ hr p0 p1 p2 p3 [] (by simp) (.inl ⟨rfl,rfl⟩),w1]
 rw [show n+4=(n+3)+1 from rfl,st93 hs _ hr p0 p1 p2 p3 _ (by simp;omega) (.inr (.inl ⟨rfl,rfl⟩)),w2]
 rw [show n+3=(n+2)+1 from rfl,st93 hs _ hr p0 p1 p2 p3 _ (by simp;omega) (.inr (.inr (.inl ⟨rfl,rfl⟩))),w3]
 rw [show n+2=(n+1)+1 from rfl,st93 hs _ hr p0 p1 p2 p3 _ (by simp;omega) (.inr (.inr (.inr ⟨rfl,rfl⟩))),w4]
 have u:∀x,ajS tn (n+1) (.k8 hr p0 p1 p2 p3 4 x)=some x:=fun _=>rfl
 rw [u]
 simp [bq1]
end
end
end Go.Ev
namespace Go.Ev
open Go.RowKit Go.Proofs
set_option maxRecDepth 100000
set_option maxHeartbeats 8000000
set_option linter.unusedSimpArgs false
noncomputable section
section
variable {s:St}{t:Pl}
def yB (s:St) (t:Pl):List Int:=(lfRs (nP s t) (pl s t 0) (pl s t 1) (pl s t 2) (pl s t 3)).map (sl s)
theorem awy {x:Int}(h:0≤x∧x≤4):x∈[0,1,2,3,4]:=by simp;omega
theorem awq (h:aC t.m=0) {i:Int}(hi:0≤i∧i≤3):0≤pl s t i∧pl s t i≤4:=by
 refine⟨i9 h hi.1,?_⟩
 unfold pl placeB
 split
 · rename_i m hm
   have:=iS (xY h hm).2
   split<;>omega
 · split
   · omega
   · split<;>omega
theorem mI (h:aC t.m=0) {i:Int}(hi:0≤i∧i≤3) (hp:pl s t i=4):decide ((0:Int)<(((iR (outsI s t) t.l t.m).length:Nat):Int))=nP s t:=by
 have hf:∃m∈t.m,rnM m=true:=by
  unfold pl placeB at hp
  cases hm:mAt t.m i with
  | none=>
    rw [hm]at hp
    simp only at hp
    split at hp
    · omega
    · split at hp<;>omega
  | some m=>
    rw [hm]at hp
    simp only at hp
    cases ho:m.o with
    | true=>rw [ho]at hp;simp at hp
    | false=>
      rw [ho]at hp
      refine⟨m,List.mem_of_find?_eq_some hm,?_⟩
      have hp:m.t=4:=by simpa using hp
      simp [rnM,ho,hp]
 have hne:0<(t.m.filter rnM).length:=by
  obtain⟨m,h1,h2⟩:=hf
  exact List.length_pos_of_mem (List.mem_filter.2 ⟨h1,h2⟩)
 have hd:decide ((0:Int)<(((t.m.filter rnM).length:Nat):Int))=true:=decide_eq_true (by omega)
 unfold iR nP
 by_cases ho:outsI s t=3
 · have hO:(outsI s t==3)=true:=by simpa using ho
   rw [hO]
   by_cases hc:t.l=true∨t.m.any clM=true
   · rw [if_pos ⟨ho,hc⟩]
     rcases hc with hc|hc<;>rw [hc]<;>simp
   · rw [if_neg fun h=>hc h.2,hd]
     have h1:t.l=false:=by cases hl:t.l<;>simp_all
     have h2:t.m.any clM=false:=by cases hl:t.m.any clM<;>simp_all
     rw [h1,h2];rfl
 · have hO:(outsI s t==3)=false:=by simpa using ho
   rw [if_neg fun h=>ho h.1,hd,hO];rfl
theorem left_eq (h:aC t.m=0) (g:fR s t):(bq1 (decide ((0:Int)<(((iR (outsI s t) t.l t.m).length:Nat):Int))) (pl s t 0) (pl s t 1) (pl s t 2) (pl s t 3)).map (sl s)=yB s t:=by
 have hb:∀b:Bool,b∈[true,false]:=by decide
 have c:=List.all_eq_true.1 (List.all_eq_true.1 (List.all_eq_true.1 (List.all_eq_true.1 (List.all_eq_true.1 aya (pl s t 0) (awy (awq h (by omega)))) (pl s t 1) (awy (awq h (by omega)))) (pl s t 2) (awy (awq h (by omega)))) (pl s t 3) (awy (awq h (by omega)))) (nP s t) (hb _)
 have ho:aw5 (pl s t 0) (pl s t 1) (pl s t 2) (pl s t 3)=false:=g.order
 unfold chkL at c
 rw [ho]at c
 simp only [Bool.false_or,Bool.and_eq_true,Bool.or_eq_true,beq_iff_eq]at c
 obtain⟨c1,c2⟩:=c
 unfold yB
 rw [←c1]
 congr 1
 have same:∀ {x:Bool},x=nP s t→bq1 x (pl s t 0) (pl s t 1) (pl s t 2) (pl s t 3)=bq1 (nP s t) (pl s t 0) (pl s t 1) (pl s t 2) (pl s t 3):=by rintro _ rfl;rfl
 rcases c2 with c2|c2|c2|c2|c2
 · exact same (mI h (by omega) c2)
 · exact same (mI h (by omega) c2)
 · exact same (mI h (by omega) c2)
 · exact same (mI h (by omega) c2)
 · cases hx:decide ((0:Int)<(((iR (outsI s t) t.l t.m).length:Nat):Int))<;>cases hc:nP s t<;>rw [hc]at c2<;>first|rfl|exact c2|exact c2.symm
theorem s93 (h:aC t.m=0) (hs:s.half=0∨s.half=1) (g:fR s t):Sz93 (cN s t,())=some (yB s t):=by
 have e152:akx (cN s t,())=some (pl s t 0,pl s t 1,pl s t 2,pl s t 3,()):=s152 (s:=cN s t) h
 have e89:axT (cN s t,())=some (iR (outsI s t) t.l t.m):=s89 (s:=cN s t) h
 show Ez93 (t.m.length+64) (cN s t)=_
 unfold Ez93 Tz93
 simp only [TS,w6]
 rw [e152,obind_some,e89,obind_some,show t.m.length+64=(t.m.length+59)+5 from rfl]
 refine(lp93 (tn:=cN s t) hs _ _ _ _ _ _).trans ?_
 rw [←left_eq h g];rfl
end
end
end Go.Ev
