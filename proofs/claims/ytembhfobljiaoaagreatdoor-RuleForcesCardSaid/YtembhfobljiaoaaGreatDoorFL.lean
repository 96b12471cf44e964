import Derived.Test.YtembhfobljiaoaaGreatDoorFM
set_option linter.unusedSimpArgs false
set_option linter.unusedVariables false
namespace Go.Ev
open Go.RowKit Go.Proofs
set_option maxRecDepth 100000
set_option maxHeartbeats 8000000
set_option linter.unusedSimpArgs false
set_option linter.unusedVariables false
noncomputable section
def x0 (s:St):St:=⟨s.inn,s.half,s.outs,0,s.strikes,s.b1,s.b2,s.b3,s.n0,s.n1,s.c0,s.c1,s.over⟩
theorem x0_ok {s:St}(h:stE s=0) (ho:s.over=false):stE (x0 s)=0:=by
 obtain⟨h1,h2,h3,h4,h5⟩:=aqn h
 have n3:ajw (x0 s)=0:=by
  unfold ajw at h3 ⊢
  have hn:nuB s 2=true:=by
   cases hq:nuB s 2 with
   | true=>rfl
   | false=>rw [hq]at h3;simp at h3
  have:nuB (x0 s) 2=true:=by
   revert hn
   simp only [nuB,baB,cnB,x0,inB,Bool.and_eq_true,decide_eq_true_eq]
   intro h
   simp_all
  rw [if_pos this]
 have e1:ak4 (x0 s)=0:=h1
 have e2:oJ (x0 s)=0:=h2
 have e4:av5 (x0 s)=0:=by
  unfold av5 at h4 ⊢
  have:(x0 s).over=false:=ho
  rw [this]
  rw [ho]at h4
  exact h4
 have e5:ak2 (x0 s)=0:=h5
 unfold stE ajn
 rw [e1,e2,n3,e4,e5];rfl
theorem aqo {s:St}(h:stE s=0):(s.half=0∨s.half=1)∧(0≤s.outs∧s.outs≤2)∧(0≤s.strikes∧s.strikes≤2)∧(0≤s.c0∧s.c0≤9999)∧(0≤s.c1∧s.c1≤9999):=by
 obtain⟨h1,h2,h3,h4,h5⟩:=aqn h
 have hn:nuB s 2=true:=by
  unfold ajw at h3
  cases hq:nuB s 2 with
  | true=>rfl
  | false=>rw [hq]at h3;simp at h3
 have hh:inB s.half 0 1=true:=by
  unfold oJ at h2
  cases hq:inB s.half 0 1 with
  | true=>rfl
  | false=>rw [hq]at h2;simp at h2
 simp only [nuB,baB,cnB,inB,Bool.and_eq_true,decide_eq_true_eq]at hn hh
 refine⟨by omega,by omega,by omega,by omega,by omega⟩
section
variable {s:St}{g1 g2 g3:Bool}
def fz1 (s:St):Bool:=!(s.b1==0)
def fz2 (s:St):Bool:=!(s.b1==0)&&!(s.b2==0)
def fz3 (s:St):Bool:=!(s.b1==0)&&(!(s.b2==0)&&!(s.b3==0))
theorem azI (ho:0≤s.outs∧s.outs≤2):((j8 (outsI s (wkP g1 g2 g3)) (wkP g1 g2 g3).l (wkP g1 g2 g3).m).length:Int)=if g3=true then 1 else 0:=by
 rw [zB ho]
 unfold j8
 rw [if_neg (by omega)]
 cases g1<;>cases g2<;>cases g3<;>rfl
theorem wk_big (h:stE s=0) (hc:(if s.half=0 then s.c0 else s.c1)<9999):bigB s (wkP g1 g2 g3)=false:=by
 obtain⟨h1,h2,h3,h4,h5⟩:=aqo h
 unfold bigB zL
 rw [azI h2]
 have:(if g3=true then(1:Int)else 0)=0∨(if g3=true then(1:Int)else 0)=1:=by cases g3<;>simp
 generalize (if g3=true then(1:Int)else 0)=r at this
 rcases h1 with h1|h1
 · rw [h1]at hc ⊢
   rw [if_pos rfl]at hc ⊢
   have e:IntKind.i64.wrap (s.c0+r)=s.c0+r:=by rw [dP]<;>omega
   rw [e,decide_eq_false_iff_not];omega
 · rw [h1]at hc ⊢
   rw [if_neg (by decide)]at hc ⊢
   have e:IntKind.i64.wrap (s.c1+r)=s.c1+r:=by rw [dP]<;>omega
   rw [e,decide_eq_false_iff_not];omega
theorem zE (h:stE s=0) (hv:s.over=false):o9 s (wkP g1 g2 g3)=0:=by
 unfold o9
 rw [h,(zC g1 g2 g3).2.2.1,hv];rfl
theorem zF (h:stE s=0) (hb:s.balls=0):brk s (wkP g1 g2 g3)=(if(g1&&(s.b1==0)||(g2&&(s.b2==0)||g3&&(s.b3==0)))=true then 4
  else if(g1&&(s.b1==0)||(g2&&((s.b1==0)||(s.b2==0))||g3&&((s.b1==0)||((s.b2==0)||(s.b3==0)))))=true then 8
  else if(!g1&&!(s.b1==0)||(!g2&&(!(s.b1==0)&&!(s.b2==0))||!g3&&(!(s.b1==0)&&(!(s.b2==0)&&!(s.b3==0)))))=true then 10 else 0):=by
 obtain⟨_,h2,h3,_⟩:=aqo h
 unfold brk
 rw [wk_brk hb h3 h2];rfl
theorem wk_full (h:stE s=0) (hv:s.over=false) (hb:s.balls=0) (hc:(if s.half=0 then s.c0 else s.c1)<9999):eE s (wkP (fz1 s) (fz2 s) (fz3 s))=0:=by
 unfold eE wB
 rw [zE h hv,zF h hb,wk_big h hc]
 unfold fz1 fz2 fz3
 cases(s.b1==0)<;>cases(s.b2==0)<;>cases(s.b3==0)<;>rfl
theorem wk_less (h:stE s=0) (hv:s.over=false) (hb:s.balls=0) (h1:g1=true→fz1 s=true) (h2:g2=true→fz2 s=true) (h3:g3=true→fz3 s=true) (hne:g1=false∧fz1 s=true∨g2=false∧fz2 s=true∨g3=false∧fz3 s=true):eE s (wkP g1 g2 g3)=18∧nN s (wkP g1 g2 g3)=10:=by
 have hk:brk s (wkP g1 g2 g3)=10:=by
  rw [zF h hb]
  revert h1 h2 h3 hne
  unfold fz1 fz2 fz3
  cases(s.b1==0)<;>cases(s.b2==0)<;>cases(s.b3==0)<;>cases g1<;>cases g2<;>cases g3<;>simp
 unfold eE nN wB numA
 rw [zE h hv,hk];exact⟨rfl,rfl⟩
theorem zD (h:stE s=0) (hv:s.over=false) (hb:s.balls=0) (h1:g1=true→(s.b1==0)=false) (h2:g2=true→(s.b2==0)=false) (h3:g3=true→(s.b3==0)=false) (hne:g1=true∧fz1 s=false∨g2=true∧fz2 s=false∨g3=true∧fz3 s=false):eE s (wkP g1 g2 g3)=18∧nN s (wkP g1 g2 g3)=8:=by
 have hk:brk s (wkP g1 g2 g3)=8:=by
  rw [zF h hb]
  revert h1 h2 h3 hne
  unfold fz1 fz2 fz3
  cases(s.b1==0)<;>cases(s.b2==0)<;>cases(s.b3==0)<;>cases g1<;>cases g2<;>cases g3<;>simp
 unfold eE nN wB numA
 rw [zE h hv,hk];exact⟨rfl,rfl⟩
theorem wk_next (h:stE s=0):(nxt (mvd s (wkP (fz1 s) (fz2 s) (fz3 s)))).over=true∨(nxt (mvd s (wkP (fz1 s) (fz2 s) (fz3 s)))).b1=(if s.half=0 then s.n0 else s.n1)∧(nxt (mvd s (wkP (fz1 s) (fz2 s) (fz3 s)))).outs=s.outs:=by
 obtain⟨h1,h2,h3,h4,h5⟩:=aqo h
 have ho:(mvd s (wkP (fz1 s) (fz2 s) (fz3 s))).outs=s.outs:=zB h2
 have hb:(mvd s (wkP (fz1 s) (fz2 s) (fz3 s))).b1=(if s.half=0 then s.n0 else s.n1):=by
  show oG s (wkP (fz1 s) (fz2 s) (fz3 s)) 1=_
  unfold oG pl sl ajq s8 placeB bzB wkP fz1 fz2 fz3
  cases(s.b1==0)<;>cases(s.b2==0)<;>cases(s.b3==0)<;>simp [mvG,mAt]
 generalize mvd s (wkP (fz1 s) (fz2 s) (fz3 s))=y at *
 unfold nxt
 cases decI y with
 | true=>exact .inl rfl
 | false=>
 have:(y.outs==3)=false:=by rw [ho];simp;omega
 rw [this]
 exact .inr ⟨hb,ho⟩
end
end
end Go.Ev
namespace Go.Ev
open Go.RowKit Go.Proofs
set_option maxRecDepth 100000
set_option maxHeartbeats 8000000
set_option linter.unusedSimpArgs false
set_option linter.unusedVariables false
noncomputable section
def F17:List EVal→Option EVal:=fOf A17 cI S17
theorem fn17:FnT 4 F17:=K17.ok
theorem aSt (s:St):V.cs (Row.v (Row.cons (Cod.agg rSt) Row.nil) (s,()))=[.agg (eSt s)]:=by
 show V.cs [V.agg (rSt.v s)]=_
 simp only [V.cs,V.c,akc]
theorem e17 (s:St):F17 [.agg (eSt s)]=some (.int .i64 (stE s)):=by
 have e:V.cs (A17.v (s,()))=[.agg (eSt s)]:=aSt s
 rw [←e]
 unfold F17 fOf
 rw [A17.rt,Option.bind_some]
 show some ((cI.v (stE s)).c)=_
 simp only [cI,ax2,V.c]
def FA:List EVal→Option EVal:=fOf Aw27 cB Sw27
theorem fnA:FnT 5 FA:=Kw27.ok
theorem eA:FA []=some (.bool true):=by
 have e:V.cs (Aw27.v ())=[]:=by show V.cs []=_;rw [V.cs]
 rw [←e]
 unfold FA fOf
 rw [Aw27.rt,Option.bind_some];rfl
def F16:List EVal→Option EVal:=fOf Az16 (Cod.tup (Row.cons (Cod.agg (Row.cons cB (Row.cons cB (Row.cons cB (Row.cons cB Row.nil))))) (Row.cons cI Row.nil))) Sz16
theorem fn16:FnT 6 F16:=Kz16.ok
theorem s16 {s:St}(h:stE s=0) (hv:s.over=false):Sz16 (s,())=some ((true,fz1 s,fz2 s,fz3 s,()),0,()):=by
 have e60:kW (s,(((),()),((),()),()),())=some 0:=by
  have e18:S18 (s,())=some (stE s):=rfl
  have e61:Sz61 (s,())=some 0:=by show(Tz61 s).d noE=_;unfold Tz61;rw [hv];rfl
  show kY 64 s (((),()),((),()),())=_
  unfold kY kV
  simp only [sR,fO,TS,w6,e18,e61,h,obind_some,wr0,wr1,wr2]
  rfl
 show Ez16 s=_
 unfold Ez16 Tz16
 simp only [TS,w6,e60,obind_some,s63]
 rfl
theorem e16 {s:St}(h:stE s=0) (hv:s.over=false):F16 [.agg (eSt s)]=some (.tup [.agg [.bool true,.bool (fz1 s),.bool (fz2 s),.bool (fz3 s)],.int .i64 0]):=by
 have e:V.cs (Az16.v (s,()))=[.agg (eSt s)]:=aSt s
 rw [←e]
 unfold F16 fOf
 rw [Az16.rt,Option.bind_some,s16 h hv]
 show some ((V.tup [V.agg [V.bool true,V.bool (fz1 s),V.bool (fz2 s),V.bool (fz3 s)],V.int .i64 0]).c)=_
 simp only [V.c,V.cs]
def F33:List EVal→Option EVal:=fOf A33 (Cod.agg rPl) S33
theorem fn33:FnT 8 F33:=K33.ok
theorem e33 {t:Pl}(h1:okPl t=true) (h2:rD t.m=true):F33 [.agg (ajt t)]=some (.agg (ajt t)):=by
 have e:V.cs (A33.v (t,()))=[.agg (ajt t)]:=vPl_1 t
 rw [←e]
 unfold F33 fOf
 rw [A33.rt,Option.bind_some]
 have:S33 (t,())=some t:=by unfold S33;rw [if_pos ⟨h1,h2⟩]
 rw [this]
 show some (((Cod.agg rPl).v t).c)=_
 rw [vPl_c];rfl
def F32:List EVal→Option EVal:=fOf Az32 (Cod.tup (Row.cons (Cod.agg rSt) (Row.cons cI (Row.cons cI Row.nil)))) Sz32
theorem fn32:FnT 7 F32:=Kz32.ok
def apS (s:St) (t:Pl):St:=if eE s t≠0 then zSt else nxt (mvd s t)
def apN (s:St) (t:Pl):Int:=if eE s t≠0 then nN s t else 0
theorem e32 {s:St}{t:Pl}(ok:okP t):F32 [.agg (eSt s),.agg (ajt t)]=some (.tup [.agg (eSt (apS s t)),.int .i64 (apN s t),.int .i64 (eE s t)]):=by
 have e:V.cs (Az32.v (s,t,()))=[.agg (eSt s),.agg (ajt t)]:=a85
 rw [←e]
 unfold F32 fOf
 rw [Az32.rt,Option.bind_some,s32 ok (avz ok).1 (avz ok).2]
 have h1:wB s t (brk s t)=eE s t:=rfl
 have h2:numA s t (brk s t)=nN s t:=rfl
 rw [h1,h2]
 unfold apS apN
 by_cases h:eE s t=0
 · rw [h]
   show some ((V.tup [V.agg (rSt.v _),V.int .i64 _,V.int .i64 _]).c)=_
   simp only [V.c,V.cs,akc];rfl
 · rw [if_pos h,if_pos h,if_pos h]
   show some ((V.tup [V.agg (rSt.v _),V.int .i64 _,V.int .i64 _]).c)=_
   simp only [V.c,V.cs,akc]
def F34:List EVal→Option EVal:=fOf Az34 (Cod.tup (Row.cons (Cod.list 0 lK) (Row.cons cI Row.nil))) Sz34
theorem fn34:FnT 9 F34:=Kz34.ok
theorem vIs_c (l:List Int):((Cod.list 0 lK).v l).c=.lsl (oK l):=by
 have h1:(V.el (l.map lK.v)).c=((Cod.list 0 lK).v l).c:=c9
 refine h1.symm.trans ?_
 rw [V.c,V.css_map,List.map_map,oK]
 exact congrArg EVal.lsl (List.map_congr_left fun x _=>by
  show V.cs [V.int .i64 x]=_
  simp only [V.cs,V.c])
theorem e34 {s:St}{t:Pl}(ok:okP t) (h:eE s t=0):F34 [.agg (eSt s),.agg (ajt t)]=some (.tup [.lsl (oK ((j8 (outsI s t) t.l t.m).map (sltM s))),.int .i64 0]):=by
 have e:V.cs (Az34.v (s,t,()))=[.agg (eSt s),.agg (ajt t)]:=a85
 rw [←e]
 unfold F34 fOf
 rw [Az34.rt,Option.bind_some,s34 ok (avz ok).1]
 have h1:wB s t (brk s t)=eE s t:=rfl
 rw [h1,h,if_neg (by decide)]
 show some ((V.tup [(Cod.list 0 lK).v _,V.int .i64 _]).c)=_
 simp only [V.c,V.cs,vIs_c]
end
end Go.Ev
namespace Go.Ev
open Go.RowKit Go.Proofs
set_option linter.defProp false
def TF3FL:=Ai (Ai (Ai (Ai (Ai (Ai (@Tryz.underlying3) (Ai (@sz3) (@info3))) (Ai (@I3s) (Ai (@I3b) (@zero3)))) (Ai (Ai (@grow3) (Ai (@Tryz.underlying4) (@sz4))) (Ai (@info4) (Ai (@I4s) (@I4b))))) (Ai (Ai (Ai (@zero4) (Ai (@grow4) (@Tryz.underlying9))) (Ai (@sz9) (Ai (@info9) (@I9s)))) (Ai (Ai (@I9b) (Ai (@zero9) (@grow9))) (Ai (Ai (@Tryz.underlying22) (@sz22)) (Ai (@info22) (@I22s)))))) (Ai (Ai (Ai (Ai (@I22b) (Ai (@zero22) (@grow22))) (Ai (@Tryz.underlying23) (Ai (@sz23) (@info23)))) (Ai (Ai (@I23s) (Ai (@I23b) (@zero23))) (Ai (Ai (@grow23) (@Tryz.underlying25)) (Ai (@sz25) (@fok25))))) (Ai (Ai (Ai (@info25) (Ai (@I25s) (@I25b))) (Ai (@zero25) (Ai (@grow25) (@Tryz.underlying28)))) (Ai (Ai (@sz28) (Ai (@fok28) (@info28))) (Ai (Ai (@I28s) (@I28b)) (Ai (@zero28) (@grow28))))))) (Ai (Ai (Ai (Ai (Ai (@Tryz.underlying29) (Ai (@sz29) (@info29))) (Ai (@I29s) (Ai (@I29b) (@zero29)))) (Ai (Ai (@grow29) (Ai (@Tryz.underlying30) (@sz30))) (Ai (@info30) (Ai (@I30s) (@I30b))))) (Ai (Ai (Ai (@zero30) (Ai (@grow30) (@Tryz.underlying33))) (Ai (@sz33) (Ai (@info33) (@I33s)))) (Ai (Ai (@I33b) (Ai (@zero33) (@grow33))) (Ai (Ai (@Tryz.underlying35) (@sz35)) (Ai (@fok35) (@info35)))))) (Ai (Ai (Ai (Ai (@I35s) (Ai (@I35b) (@zero35))) (Ai (@grow35) (Ai (@Tryz.underlying36) (@sz36)))) (Ai (Ai (@info36) (Ai (@I36s) (@I36b))) (Ai (Ai (@zero36) (@grow36)) (Ai (@Tryz.underlying38) (@sz38))))) (Ai (Ai (Ai (@fok38) (Ai (@info38) (@I38s))) (Ai (@I38b) (Ai (@zero38) (@grow38)))) (Ai (Ai (@call4) (Ai (@call5) (@call6))) (Ai (Ai (@call7) (@call8)) (Ai (@call9) (@Tryz.results3)))))))
set_option maxRecDepth 20000
set_option maxHeartbeats 8000000
def seqs:List Code→Code→Code
 | [],c=>c
 | a::l,c=>.seq a (seqs l c)
section
variable {A:Option Nat}{P:Program}{g:G}{K:aQ}
def wpL (A:Option Nat) (P:Program) (g:G) (K:aQ) (c:Code):List Code→EFr→H→dR→Prop
 | [],f,h,Q=>Top A P g K c f h Q
 | a::l,f,h,Q=>wp A P g K a f h (seqQ (wpL A P g K c l) Q)
theorem wpL_nil {c:Code}{f:EFr}{h:H}{Q:dR}:wpL A P g K c [] f h Q=Top A P g K c f h Q:=rfl
theorem wpL_cons {a c:Code}{l:List Code}{f:EFr}{h:H}{Q:dR}:wpL A P g K c (a::l) f h Q=wp A P g K a f h (seqQ (wpL A P g K c l) Q):=rfl
theorem Top.pre (hng:jD P) {c:Code}:∀(l:List Code) {f:EFr}{h:H}{Q:dR},wpL A P g K c l f h Q→Top A P g K (seqs l c) f h Q
 | [],_,_,_,H1=>H1
 | a::l,f,h,Q,H1=>by
   refine Top.seq ((aO hng _ _ _ _ H1).mono ?_)
   intro e f' h' hq
   cases e with
   | normal=>exact Top.pre hng l hq
   | ret=>exact hq
   | exit i=>exact hq
theorem Top.join {x y:Code}{f:EFr}{h:H}{Q:dR}{σ:Type}(hng:jD P) (F2:σ→EFr) (H2:σ→H)
  (H1:∀R:dR,(∀s f1 h1,View A P f1 h1 (F2 s) (H2 s)→R .normal f1 h1)→wp A P g K x f h R) (H3:∀s,Top A P g K y (F2 s) (H2 s) Q):Top A P g K (.seq x y) f h Q:=
 Top.seq (aO hng _ _ _ _ (H1 _ fun s _ _ v=>Top.view v (H3 s)))
end
def eMn (m:Mv):List EVal:=[.int .i64 m.f,.int .i64 m.t,.bool m.o,.str m.h,.nilslice]
def i9 (l:List Mv):List EVal:=(l.map eMn).flatten
theorem tW (q:Mv) (l:List Mv):i9 (q::l)=eMn q++i9 l:=by simp [i9]
theorem oB (l:List Mv):(i9 l).length=l.length*5:=by
 induction l with
 | nil=>rfl
 | cons q l ih=>rw [tW,List.length_append,ih,List.length_cons];show 5+_=_;omega
theorem axY (l:List Mv) (q:Mv):i9 (l++[q])=i9 l++eMn q:=by simp [i9]
theorem axX (l:List Mv):(i9 l).take (l.length*5)=i9 l:=by rw [←oB l,List.take_length]
theorem gU {l:List Mv}(h:∀m∈l,m.b=[]):keepL (i9 l)=some (aH l).flatten:=by
 induction l with
 | nil=>rfl
 | cons q l ih=>
   have hq:q.b=[]:=h q (by simp)
   rw [tW]
   have e:aH (q::l)=kA q::aH l:=by simp [aH]
   rw [e,List.flatten_cons]
   refine fK ?_ (ih fun m hm=>h m (by simp [hm]))
   unfold kA eMn
   rw [hq];rfl
theorem dX (l:List Mv):chunk 5 l.length (aH l).flatten=aH l:=by
 induction l with
 | nil=>rfl
 | cons q l ih=>
   have e:aH (q::l)=kA q::aH l:=by simp [aH]
   rw [e,List.flatten_cons]
   show(kA q++(aH l).flatten).take 5::chunk 5 l.length ((kA q++(aH l).flatten).drop 5)=_
   rw [List.take_left' (l₁:=kA q) (i:=5) rfl,List.drop_left' (l₁:=kA q) (i:=5) rfl,ih]
theorem movesF_length (l:List Mv):(aH l).flatten.length=l.length*5:=by
 induction l with
 | nil=>rfl
 | cons q l ih=>
   have e:aH (q::l)=kA q::aH l:=by simp [aH]
   rw [e,List.flatten_cons,List.length_append,ih,List.length_cons];show 5+_=_;omega
def NL (c7:Nat) (v:EVal) (ps:List Mv) (N:Nat) (l:List (Nat×Option cT)):Prop:=
 (v=.nilslice∧ps=[])∨∃id,c7<id∧id<N∧v=.slice id 0 ps.length (.slack 0)∧lookG l id=some (.row (i9 ps) 38 0 0 true)
theorem oF {c7:Nat}{v:EVal}{ps:List Mv}{N:Nat}{l:List (Nat×Option cT)}(h:NL c7 v ps N l):v.cells=[v]∧v.one=true∧allOne [v]=true∧v.kept=false:=by
 rcases h with⟨rfl,rfl⟩ | ⟨id,_,_,rfl,_⟩<;>exact⟨rfl,rfl,rfl,rfl⟩
theorem rV {c7 j:Nat}{v:EVal}{ps:List Mv}{N:Nat}{l:List (Nat×Option cT)}{x:Option cT}(hj:j≤c7) (h:NL c7 v ps N l):NL c7 v ps N ((j,x)::l):=by
 rcases h with h|⟨id,h1,h2,h3,h4⟩
 · exact .inl h
 · exact .inr ⟨id,h1,h2,h3,by rw [lookG.eq_2,if_neg (by omega)];exact h4⟩
theorem jY {c7:Nat}{v:EVal}{ps:List Mv}{a b:Int}{N:Nat}{l:List (Nat×Option cT)}(h:NL c7 v ps N l) (hc:c7<N) (hN:N<15000) (hlen:ps.length≤1000) :
  ∃v2 l2,eAppend Tryz.prog (mkH (N+1) ((N,some (.row [.int .i64 a,.int .i64 b,.bool false,.str [97],.nilslice] 38 0 0 false))::l) 0 []) 33 v (.slice N 0 1 (.exact 1))=some (v2,mkH (N+1+1) l2 0 [])∧NL c7 v2 (ps++[⟨a,b,false,[97],[]⟩]) (N+1+1) l2∧∀i,i≤c7→lookG l2 i=lookG l i:=by
 have hN0:N<16000:=by omega
 rcases h with⟨rfl,rfl⟩ | ⟨id,hlo2,hid,rfl,hl⟩
 · have g1:decide (64*1≤1000000)=true:=by decide
   refine⟨.slice (N+1) 0 1 (.slack 0),(N+1,some (.row (eMn ⟨a,b,false,[97],[]⟩) 38 0 0 true))::(N,some (.row [.int .i64 a,.int .i64 b,.bool false,.str [97],.nilslice] 38 0 0 false))::l,?_,.inr ⟨N+1,by omega,by omega,rfl,by simp [lookG,i9,eMn]⟩,?_⟩
   · simp only [SS,TF3FL,kcall,setRange,repl,isNextM,eConvert,eField,eSlice,eBuild,eBuildSlice,Nat.reduceLT,Nat.reduceEqDiff,Nat.reduceAdd,Nat.reduceMul,Nat.reduceSub,Nat.reduceLeDiff,Nat.reduceBEq,reduceCtorEq,hN0,g1]
     rfl
   · intro i hi
     rw [lookG.eq_2,if_neg (by omega),lookG.eq_2,if_neg (by omega)]
 · have hid0:id<16000:=by omega
   have g1:decide (64*(ps.length+1)≤1000000)=true:=by simp;omega
   have g3:((ps.length+1)*5≤ps.length*5)=False:=by simp only [eq_iff_iff,iff_false];omega
   have g4:(N=id)=False:=by simp only [eq_iff_iff,iff_false];omega
   have g5:(id=N)=False:=by simp only [eq_iff_iff,iff_false];omega
   refine⟨.slice (N+1) 0 (ps.length+1) (.slack 0),(N+1,some (.row (i9 ps++eMn ⟨a,b,false,[97],[]⟩) 38 0 0 true))::(id,none)::(N,some (.row [.int .i64 a,.int .i64 b,.bool false,.str [97],.nilslice] 38 0 0 false))::l,?_,.inr ⟨N+1,by omega,by omega,by simp,by rw [axY];simp [lookG]⟩,?_⟩
   · simp only [SS,TF3FL,kcall,setRange,repl,isNextM,eConvert,eField,eSlice,eBuild,eBuildSlice,Nat.reduceLT,Nat.reduceEqDiff,Nat.reduceAdd,Nat.reduceMul,Nat.reduceSub,Nat.reduceLeDiff,Nat.reduceBEq,reduceCtorEq,hN0,hid0,hl,g1,g3,g4,g5,oB,axX]
     rfl
   · intro i hi
     rw [lookG.eq_2,if_neg (by omega),lookG.eq_2,if_neg (by omega),lookG.eq_2,if_neg (by omega)]
def up (φ:Nat→Bool):Nat→List Mv
 | 0=>[]
 | n+1=>up φ n++(if φ (3-n)=true then [⟨((3-n:Nat):Int),((3-n:Nat):Int)+1,false,[97],[]⟩]else [])
theorem up4 {φ:Nat→Bool}(h:φ 0=true):up φ 4=mvG (φ 1) (φ 2) (φ 3):=by
 unfold up up up up up mvG
 simp only [Nat.sub_self,h,if_true,List.nil_append,List.append_assoc]
 cases φ 1<;>cases φ 2<;>cases φ 3<;>rfl
theorem aqh (φ:Nat→Bool) (n:Nat):(up φ n).length≤n:=by
 induction n with
 | zero=>exact Nat.le_refl 0
 | succ n ih=>
   unfold up
   rw [List.length_append]
   by_cases h:φ (3-n)=true
   · rw [if_pos h];simp;omega
   · rw [if_neg h];simp;omega
theorem up_b (φ:Nat→Bool) (n:Nat):∀m∈up φ n,m.b=[]:=by
 induction n with
 | zero=>intro m h;cases h
 | succ n ih=>
   intro m hm
   unfold up at hm
   rcases List.mem_append.1 hm with h|h
   · exact ih m h
   · by_cases hf:φ (3-n)=true
     · rw [if_pos hf]at h;simp at h;rw [h]
     · rw [if_neg hf]at h;cases h
theorem mv_less {f1 f2 f3:Bool}{i:Nat}{m:Mv}(hm:(mvG f1 f2 f3)[i]? = some m) (h0:m.f≠0):∃g1 g2 g3,(mvG f1 f2 f3).take i++(mvG f1 f2 f3).drop (i+1)=mvG g1 g2 g3∧(g1=true→f1=true)∧(g2=true→f2=true)∧(g3=true→f3=true)∧(g1=false∧f1=true∨g2=false∧f2=true∨g3=false∧f3=true)∧i+1<(mvG f1 f2 f3).length:=by
 have hi:i<4:=by
  have:=(List.getElem?_eq_some_iff.1 hm).1
  have h4:(mvG f1 f2 f3).length≤4:=by cases f1<;>cases f2<;>cases f3<;>decide
  omega
 have hi4:i=0∨i=1∨i=2∨i=3:=by omega
 revert h0 hm
 cases f1<;>cases f2<;>cases f3<;>rcases hi4 with rfl|rfl|rfl|rfl<;>intro hm h0<;>simp [mvG]at hm<;>(try subst hm)<;>(try (exact absurd rfl h0))
 all_goals first
  | exact⟨false,false,false,rfl,by decide,by decide,by decide,by decide,by decide⟩
  | exact⟨true,false,false,rfl,by decide,by decide,by decide,by decide,by decide⟩
  | exact⟨false,true,false,rfl,by decide,by decide,by decide,by decide,by decide⟩
  | exact⟨false,false,true,rfl,by decide,by decide,by decide,by decide,by decide⟩
  | exact⟨true,true,false,rfl,by decide,by decide,by decide,by decide,by decide⟩
  | exact⟨true,false,true,rfl,by decide,by decide,by decide,by decide,by decide⟩
  | exact⟨false,true,true,rfl,by decide,by decide,by decide,by decide,by decide⟩
theorem lens_moves (l:List Mv):aZ 5 (aH l)=true:=by
 unfold aZ
 simp only [List.all_eq_true,beq_iff_eq]
 intro x hx
 obtain⟨q,_,rfl⟩:=List.mem_map.1 hx
 rfl
theorem allOne_moves (l:List Mv):allOne (aH l).flatten=true:=by
 induction l with
 | nil=>rfl
 | cons q l ih=>
   have e:aH (q::l)=kA q::aH l:=by simp [aH]
   rw [e,List.flatten_cons]
   exact ih
theorem qE (l:List Mv):keepL (aH l).flatten=some (aH l).flatten:=by
 induction l with
 | nil=>rfl
 | cons q l ih=>
   have e:aH (q::l)=kA q::aH l:=by simp [aH]
   rw [e,List.flatten_cons]
   exact fK (rfl:keepL (kA q)=some (kA q)) ih
theorem moves_len (l:List Mv):(aH l).length=l.length:=by simp [aH]
theorem moves_take (l:List Mv) (n:Nat):(aH l).take n=aH (l.take n):=by simp [aH,List.map_take]
theorem moves_drop (l:List Mv) (n:Nat):(aH l).drop n=aH (l.drop n):=by simp [aH,List.map_drop]
theorem avC (l:List Mv) (i:Nat):(aH l)[i]? = (l[i]?).map kA:=by simp [aH]
theorem mv_ne (a b c:Bool):mvG a b c≠[]:=by cases a<;>cases b<;>cases c<;>simp [mvG]
theorem fz_b {s:St}:(fz1 s=true→(s.b1==0)=false)∧(fz2 s=true→(s.b2==0)=false)∧(fz3 s=true→(s.b3==0)=false):=by
 unfold fz1 fz2 fz3
 cases(s.b1==0)<;>cases(s.b2==0)<;>cases(s.b3==0)<;>simp
end Go.Ev
