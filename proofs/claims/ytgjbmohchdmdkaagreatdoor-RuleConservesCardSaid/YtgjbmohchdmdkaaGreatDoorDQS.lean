import Derived.Test.YtgjbmohchdmdkaaGreatDoorDQP
set_option linter.unusedSimpArgs false
set_option linter.unusedVariables false
namespace Go.Ev
open Go.RowKit Go.Proofs
set_option maxRecDepth 100000
set_option maxHeartbeats 8000000
set_option linter.unusedSimpArgs false
noncomputable section
def lfP (hr:Bool) (p f:Int):List Int:=bif !(p==0)&&!(hr&&(p==4))then [f]else []
def lfR (a:Int) (c:Bool) (p f:Int):List Int:=bif(p==a)&&(decide (a<4)||!c)then [f]else []
def bxO (hr:Bool) (p0 p1 p2 p3:Int):List Int:=lfP hr p3 3++(lfP hr p2 2++(lfP hr p1 1++lfP hr p0 0))
def lfRa (a:Int) (c:Bool) (p0 p1 p2 p3:Int):List Int:=lfR a c p3 3++(lfR a c p2 2++(lfR a c p1 1++lfR a c p0 0))
def lfRs (c:Bool) (p0 p1 p2 p3:Int):List Int:=lfRa 4 c p0 p1 p2 p3++(lfRa 3 c p0 p1 p2 p3++(lfRa 2 c p0 p1 p2 p3++lfRa 1 c p0 p1 p2 p3))
def chkL (p0 p1 p2 p3:Int) (c:Bool):Bool:=avC p0 p1 p2 p3||((bxO c p0 p1 p2 p3==lfRs c p0 p1 p2 p3)&&((p0==4)||((p1==4)||((p2==4)||((p3==4)||(bxO (!c) p0 p1 p2 p3==bxO c p0 p1 p2 p3))))))
theorem bjF:([0,1,2,3,4].all fun p0=>[0,1,2,3,4].all fun p1=>[0,1,2,3,4].all fun p2=>[0,1,2,3,4].all fun p3=>[true,false].all fun c=>chkL p0 p1 p2 p3 c)=true:=by kernel_rfl
section
variable {s:St}{t:Pl}
theorem st93 {tn:Tn}(hs:tn.s_half=0∨tn.s_half=1) (n:Nat) (hr:Bool) (p0 p1 p2 p3:Int) (l:List Int) (hl:l.length≤20) {i p:Int}(hi:(i=0∧p=p3)∨(i=1∧p=p2)∨(i=2∧p=p1)∨(i=3∧p=p0)) :
  axb tn (n+1) (.k8 hr p0 p1 p2 p3 i l)=axb tn n (.k8 hr p0 p1 p2 p3 (IntKind.i64.wrap (i+1)) (l++(lfP hr p (3-i)).map (slotI tn.s_half tn.s_n0 tn.s_n1 tn.s_b1 tn.s_b2 tn.s_b3))):=by
 have c3:Nat.ble (8*(l.length+1)) 1000000=true:=by rw [Nat.ble_eq];omega
 have q:∀i:Int,(i=0∨i=1∨i=2∨i=3)→n9 (tn,i,())=some (slotI tn.s_half tn.s_n0 tn.s_n1 tn.s_b1 tn.s_b2 tn.s_b3 i):=fun i hi=>s91 hs hi
 have q0:=q 0 (by simp)
 have q1:=q 1 (by simp)
 have q2:=q 2 (by simp)
 have q3:=q 3 (by simp)
 have w0:IntKind.i64.wrap (3-0)=3:=by decide
 have w1:IntKind.i64.wrap (3-1)=2:=by decide
 have w2:IntKind.i64.wrap (3-2)=1:=by decide
 have w3:IntKind.i64.wrap (3-3)=0:=by decide
 rcases hi with⟨rfl,rfl⟩ | ⟨rfl,rfl⟩ | ⟨rfl,rfl⟩ | ⟨rfl,rfl⟩
 · simp only [zA,axV,TS,w6,List.length_map,w0,q3,obind_some,c3,cond_true,lfP]
   cases hr<;>cases(p==0)<;>cases(p==4)<;>simp
 · simp only [zA,axV,TS,w6,List.length_map,w1,q2,obind_some,c3,cond_true,lfP]
   cases hr<;>cases(p==0)<;>cases(p==4)<;>simp
 · simp only [zA,axV,TS,w6,List.length_map,w2,q1,obind_some,c3,cond_true,lfP]
   cases hr<;>cases(p==0)<;>cases(p==4)<;>simp
 · simp only [zA,axV,TS,w6,List.length_map,w3,q0,obind_some,c3,cond_true,lfP]
   cases hr<;>cases(p==0)<;>cases(p==4)<;>simp
theorem lp93 {tn:Tn}(hs:tn.s_half=0∨tn.s_half=1) (n:Nat) (hr:Bool) (p0 p1 p2 p3:Int):axb tn (n+5) (.k8 hr p0 p1 p2 p3 0 [])=some ((bxO hr p0 p1 p2 p3).map (slotI tn.s_half tn.s_n0 tn.s_n1 tn.s_b1 tn.s_b2 tn.s_b3)):=by
 have w1:IntKind.i64.wrap (0+1)=1:=by decide
 have w2:IntKind.i64.wrap (1+1)=2:=by decide
 have w3:IntKind.i64.wrap (2+1)=3:=by decide
 have w4:IntKind.i64.wrap (3+1)=4:=by decide
 have ln:∀(p f:Int),(lfP hr p f).length≤1:=by
  intro p f
  unfold lfP
  cases(!(p==0)&&!(hr&&(p==4)))<;>simp
 have l3:=ln p3 3
 have l2:=ln p2 2
 have l1:=ln p1 1
 rw [show n+5=(n+4)+1 from rfl,st93 hs _ hr p0 p1 p2 p3 [] (by simp) (.inl ⟨rfl,rfl⟩),w1]
 rw [show n+4=(n+3)+1 from rfl,st93 hs _ hr p0 p1 p2 p3 _ (by simp;omega) (.inr (.inl ⟨rfl,rfl⟩)),w2]
 rw [show n+3=(n+2)+1 from rfl,st93 hs _ hr p0 p1 p2 p3 _ (by simp;omega) (.inr (.inr (.inl ⟨rfl,rfl⟩))),w3]
 rw [show n+2=(n+1)+1 from rfl,st93 hs _ hr p0 p1 p2 p3 _ (by simp;omega) (.inr (.inr (.inr ⟨rfl,rfl⟩))),w4]
 have u:∀x,axb tn (n+1) (.k8 hr p0 p1 p2 p3 4 x)=some x:=fun _=>rfl
 rw [u]
 simp [bxO]
theorem st40 (h:aB t.m=0) (hs:s.half=0∨s.half=1) (n:Nat) (l:List Int) (a:Int) (hl:l.length≤20) {f:Int}(hf:f=0∨f=1∨f=2∨f=3) :
  iW s t (n+1) (.k16 f l a)=iW s t n (.k16 (IntKind.i64.wrap (f-1)) (l++(lfR a (cntsB s t) (pl s t f) f).map (sl s)) a):=by
 have c3:Nat.ble (8*(l.length+1)) 1000000=true:=by rw [Nat.ble_eq];omega
 have q1:bxf (s,t,f,())=some (pl s t f):=s98 h hf
 have q2:Sz97 (s,f,())=some (sl s f):=s97 hs hf
 have c1:decide ((0:Int)≤f)=true:=by simp;omega
 generalize hN:n=N
 simp only [Ez40J_s,Tz40J,TS,w6,List.length_map,c1,c3,q1,q2,s96 h,obind_some,cond_true,lfR]
 cases(pl s t f==a)<;>cases decide (a<4)<;>cases cntsB s t<;>simp
end
end
end Go.Ev
namespace Go.Ev
open Go.RowKit Go.Proofs
set_option maxRecDepth 100000
set_option maxHeartbeats 8000000
set_option linter.unusedSimpArgs false
noncomputable section
section
variable {s:St}{t:Pl}
def rowL (s:St) (t:Pl) (a:Int):List Int:=lfRa a (cntsB s t) (pl s t 0) (pl s t 1) (pl s t 2) (pl s t 3)
theorem mB (a:Int) (c:Bool) (p f:Int):(lfR a c p f).length≤1:=by
 unfold lfR
 cases((p==a)&&(decide (a<4)||!c))<;>simp
theorem bqO (h:aB t.m=0) (hs:s.half=0∨s.half=1) (n:Nat) (l:List Int) (a:Int) (hl:l.length≤16):iW s t (n+5) (.k16 3 l a)=iW s t n (.k10 (IntKind.i64.wrap (a-1)) (l++(rowL s t a).map (sl s))):=by
 have w3:IntKind.i64.wrap (3-1)=2:=by decide
 have w2:IntKind.i64.wrap (2-1)=1:=by decide
 have w1:IntKind.i64.wrap (1-1)=0:=by decide
 have w0:IntKind.i64.wrap (0-1)=-1:=by decide
 have l3:=mB a (cntsB s t) (pl s t 3) 3
 have l2:=mB a (cntsB s t) (pl s t 2) 2
 have l1:=mB a (cntsB s t) (pl s t 1) 1
 rw [show n+5=(n+4)+1 from rfl,st40 h hs _ l a (by omega) (by simp),w3]
 rw [show n+4=(n+3)+1 from rfl,st40 h hs _ _ a (by simp;omega) (by simp),w2]
 rw [show n+3=(n+2)+1 from rfl,st40 h hs _ _ a (by simp;omega) (by simp),w1]
 rw [show n+2=(n+1)+1 from rfl,st40 h hs _ _ a (by simp;omega) (by simp),w0]
 have u:∀x,iW s t (n+1) (.k16 (-1) x a)=iW s t n (.k10 (IntKind.i64.wrap (a-1)) x):=fun _=>rfl
 rw [u]
 simp [rowL,lfRa]
theorem xE (a:Int):(rowL s t a).length≤4:=by
 have l3:=mB a (cntsB s t) (pl s t 3) 3
 have l2:=mB a (cntsB s t) (pl s t 2) 2
 have l1:=mB a (cntsB s t) (pl s t 1) 1
 have l0:=mB a (cntsB s t) (pl s t 0) 0
 simp [rowL,lfRa]
 omega
theorem lp40 (h:aB t.m=0) (hs:s.half=0∨s.half=1) (n:Nat):iW s t (n+25) (.k10 4 [])=some ((lfRs (cntsB s t) (pl s t 0) (pl s t 1) (pl s t 2) (pl s t 3)).map (sl s)):=by
 have w4:IntKind.i64.wrap (4-1)=3:=by decide
 have w3:IntKind.i64.wrap (3-1)=2:=by decide
 have w2:IntKind.i64.wrap (2-1)=1:=by decide
 have w1:IntKind.i64.wrap (1-1)=0:=by decide
 have u4:∀m x,iW s t (m+1) (.k10 4 x)=iW s t m (.k16 3 x 4):=fun _ _=>rfl
 have u3:∀m x,iW s t (m+1) (.k10 3 x)=iW s t m (.k16 3 x 3):=fun _ _=>rfl
 have u2:∀m x,iW s t (m+1) (.k10 2 x)=iW s t m (.k16 3 x 2):=fun _ _=>rfl
 have u1:∀m x,iW s t (m+1) (.k10 1 x)=iW s t m (.k16 3 x 1):=fun _ _=>rfl
 have u0:∀m x,iW s t (m+1) (.k10 0 x)=some x:=fun _ _=>rfl
 have l4:=xE (s:=s) (t:=t) 4
 have l3:=xE (s:=s) (t:=t) 3
 have l2:=xE (s:=s) (t:=t) 2
 rw [show n+25=(n+24)+1 from rfl,u4,show n+24=(n+19)+5 from rfl,bqO h hs _ _ _ (by simp),w4]
 rw [show n+19=(n+18)+1 from rfl,u3,show n+18=(n+13)+5 from rfl,bqO h hs _ _ _ (by simp;omega),w3]
 rw [show n+13=(n+12)+1 from rfl,u2,show n+12=(n+7)+5 from rfl,bqO h hs _ _ _ (by simp;omega),w2]
 rw [show n+7=(n+6)+1 from rfl,u1,show n+6=(n+1)+5 from rfl,bqO h hs _ _ _ (by simp;omega),w1,u0]
 simp [lfRs,rowL]
def sO (s:St) (t:Pl):List Int:=(lfRs (cntsB s t) (pl s t 0) (pl s t 1) (pl s t 2) (pl s t 3)).map (sl s)
theorem s40 (h:aB t.m=0) (hs:s.half=0∨s.half=1) (hl:t.p.length<9223372036854775808) (g:eP s t):Sz40 (s,t,())=some (if jC (mvd s t)=0 then []else sO s t):=by
 show Ez40 (t.m.length+64) s t=_
 unfold Ez40 Tz40
 simp only [TS,w6]
 rw [s41 h hs hl g,obind_some,show t.m.length+64=(t.m.length+39)+25 from rfl,lp40 h hs]
 by_cases he:jC (mvd s t)=0
 · rw [if_pos he,he];rfl
 · have c:(jC (mvd s t)==0)=false:=by simpa using he
   rw [if_neg he,c];rfl
theorem bq3 {x:Int}(h:0≤x∧x≤4):x∈[0,1,2,3,4]:=by simp;omega
theorem bqR (h:aB t.m=0) {i:Int}(hi:0≤i∧i≤3):0≤pl s t i∧pl s t i≤4:=by
 refine⟨gU h hi.1,?_⟩
 unfold pl placeB
 split
 · rename_i m hm
   have:=fE (oS h hm).2
   split<;>omega
 · split
   · omega
   · split<;>omega
theorem nO (h:aB t.m=0) {i:Int}(hi:0≤i∧i≤3) (hp:pl s t i=4):decide ((0:Int)<(((dA (outsI s t) t.l t.m).length:Nat):Int))=cntsB s t:=by
 have hf:∃m∈t.m,rnM m=true:=by
  unfold pl placeB at hp
  cases hm:mAt t.m i with
  | none=>
    rw [hm]at hp
    simp only at hp
    split at hp
    · omega
    · split at hp<;>omega
  | some m=>
    rw [hm]at hp
    simp only at hp
    cases ho:m.o with
    | true=>rw [ho]at hp;simp at hp
    | false=>
      rw [ho]at hp
      refine⟨m,List.mem_of_find?_eq_some hm,?_⟩
      have hp:m.t=4:=by simpa using hp
      simp [rnM,ho,hp]
 have hne:0<(t.m.filter rnM).length:=by
  obtain⟨m,h1,h2⟩:=hf
  exact List.length_pos_of_mem (List.mem_filter.2 ⟨h1,h2⟩)
 have hd:decide ((0:Int)<(((t.m.filter rnM).length:Nat):Int))=true:=decide_eq_true (by omega)
 unfold dA cntsB
 by_cases ho:outsI s t=3
 · have hO:(outsI s t==3)=true:=by simpa using ho
   rw [hO]
   by_cases hc:t.l=true∨t.m.any clM=true
   · rw [if_pos ⟨ho,hc⟩]
     rcases hc with hc|hc<;>rw [hc]<;>simp
   · rw [if_neg fun h=>hc h.2,hd]
     have h1:t.l=false:=by cases hl:t.l<;>simp_all
     have h2:t.m.any clM=false:=by cases hl:t.m.any clM<;>simp_all
     rw [h1,h2];rfl
 · have hO:(outsI s t==3)=false:=by simpa using ho
   rw [if_neg fun h=>ho h.1,hd,hO];rfl
theorem left_eq (h:aB t.m=0) (g:eP s t):(bxO (decide ((0:Int)<(((dA (outsI s t) t.l t.m).length:Nat):Int))) (pl s t 0) (pl s t 1) (pl s t 2) (pl s t 3)).map (sl s)=sO s t:=by
 have hb:∀b:Bool,b∈[true,false]:=by decide
 have c:=List.all_eq_true.1 (List.all_eq_true.1 (List.all_eq_true.1 (List.all_eq_true.1 (List.all_eq_true.1 bjF (pl s t 0) (bq3 (bqR h (by omega)))) (pl s t 1) (bq3 (bqR h (by omega)))) (pl s t 2) (bq3 (bqR h (by omega)))) (pl s t 3) (bq3 (bqR h (by omega)))) (cntsB s t) (hb _)
 have ho:avC (pl s t 0) (pl s t 1) (pl s t 2) (pl s t 3)=false:=g.order
 unfold chkL at c
 rw [ho]at c
 simp only [Bool.false_or,Bool.and_eq_true,Bool.or_eq_true,beq_iff_eq]at c
 obtain⟨c1,c2⟩:=c
 unfold sO
 rw [←c1]
 congr 1
 have same:∀ {x:Bool},x=cntsB s t→bxO x (pl s t 0) (pl s t 1) (pl s t 2) (pl s t 3)=bxO (cntsB s t) (pl s t 0) (pl s t 1) (pl s t 2) (pl s t 3):=by rintro _ rfl;rfl
 rcases c2 with c2|c2|c2|c2|c2
 · exact same (nO h (by omega) c2)
 · exact same (nO h (by omega) c2)
 · exact same (nO h (by omega) c2)
 · exact same (nO h (by omega) c2)
 · cases hx:decide ((0:Int)<(((dA (outsI s t) t.l t.m).length:Nat):Int))<;>cases hc:cntsB s t<;>rw [hc]at c2<;>first|rfl|exact c2|exact c2.symm
theorem s93 (h:aB t.m=0) (hs:s.half=0∨s.half=1) (g:eP s t):Sz93 (d8 s t,())=some (sO s t):=by
 have e152:ay5 (d8 s t,())=some (pl s t 0,pl s t 1,pl s t 2,pl s t 3,()):=s152 (s:=d8 s t) h
 have e89:ajL (d8 s t,())=some (dA (outsI s t) t.l t.m):=s89 (s:=d8 s t) h
 show Ez93 (t.m.length+64) (d8 s t)=_
 unfold Ez93 Tz93
 simp only [TS,w6]
 rw [e152,obind_some,e89,obind_some,show t.m.length+64=(t.m.length+59)+5 from rfl]
 refine(lp93 (tn:=d8 s t) hs _ _ _ _ _ _).trans ?_
 rw [←left_eq h g];rfl
theorem s35 {k:Int}(ok:okP t) (hk:qZ s t=0→yZ (d8 s t,())=some k) (hg:k=0→qZ s t=0→eP s t):Sz35 (s,t,())=some (if oG s t k≠0 then([],oG s t k,())else(if jC (mvd s t)=0 then []else sO s t,0,())):=by
 show Ez35 s t=_
 unfold Ez35 Tz35
 simp only [TS,w6]
 rw [s85 ok hk,obind_some]
 rcases acc_cases s t k with⟨h1,h2⟩ | ⟨h1,h2,h3,h4⟩
 · rw [h2,if_pos h1]
   have c:(!(oG s t k==0))=true:=by simpa using h1
   show cond (!(oG s t k==0)) _ _=_
   rw [c];rfl
 · rw [h4,if_neg (by simpa using h1)]
   obtain⟨e1,e2,e3⟩:=j0 h2
   have hm:=(playE_zero e2).2.2
   have g:=hg h3 h2
   show(aH (bxg (d8 s t,())) fun r11=>(cond (r11==(0:Int)) (some ([],(0:Int),())) (aH (Sz93 (d8 s t,())) fun r12=>(some (r12,(0:Int),())))))=_
   rw [s92 hm (oW e1).half e3 g,obind_some,s93 hm (oW e1).half g,obind_some]
   by_cases he:jC (mvd s t)=0
   · rw [if_pos he,he];rfl
   · have c:(jC (mvd s t)==0)=false:=by simpa using he
     rw [if_neg he,c];rfl
end
end
end Go.Ev
