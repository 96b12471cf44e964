import Derived.Test.YtembhfobljiaoaaGreatDoorFL
set_option linter.unusedSimpArgs false
set_option linter.unusedVariables false
namespace Go.Ev
open Go.RowKit Go.Proofs
set_option linter.defProp false
def TF3FN:=Ai (Ai (Ai (Ai (Ai (Ai (@Tryz.underlying3) (Ai (@sz3) (@info3))) (Ai (@I3s) (Ai (@I3b) (@zero3)))) (Ai (Ai (@grow3) (Ai (@Tryz.underlying4) (@sz4))) (Ai (@info4) (Ai (@I4s) (@I4b))))) (Ai (Ai (Ai (@zero4) (Ai (@grow4) (@Tryz.underlying9))) (Ai (@sz9) (Ai (@info9) (@I9s)))) (Ai (Ai (@I9b) (Ai (@zero9) (@grow9))) (Ai (Ai (@Tryz.underlying22) (@sz22)) (Ai (@info22) (@I22s)))))) (Ai (Ai (Ai (Ai (@I22b) (Ai (@zero22) (@grow22))) (Ai (@Tryz.underlying23) (Ai (@sz23) (@info23)))) (Ai (Ai (@I23s) (Ai (@I23b) (@zero23))) (Ai (Ai (@grow23) (@Tryz.underlying25)) (Ai (@sz25) (@fok25))))) (Ai (Ai (Ai (@info25) (Ai (@I25s) (@I25b))) (Ai (@zero25) (Ai (@grow25) (@Tryz.underlying28)))) (Ai (Ai (@sz28) (Ai (@fok28) (@info28))) (Ai (Ai (@I28s) (@I28b)) (Ai (@zero28) (@grow28))))))) (Ai (Ai (Ai (Ai (Ai (@Tryz.underlying29) (Ai (@sz29) (@info29))) (Ai (@I29s) (Ai (@I29b) (@zero29)))) (Ai (Ai (@grow29) (Ai (@Tryz.underlying30) (@sz30))) (Ai (@info30) (Ai (@I30s) (@I30b))))) (Ai (Ai (Ai (@zero30) (Ai (@grow30) (@Tryz.underlying33))) (Ai (@sz33) (Ai (@info33) (@I33s)))) (Ai (Ai (@I33b) (Ai (@zero33) (@grow33))) (Ai (Ai (@Tryz.underlying35) (@sz35)) (Ai (@fok35) (@info35)))))) (Ai (Ai (Ai (Ai (@I35s) (Ai (@I35b) (@zero35))) (Ai (@grow35) (Ai (@Tryz.underlying36) (@sz36)))) (Ai (Ai (@info36) (Ai (@I36s) (@I36b))) (Ai (Ai (@zero36) (@grow36)) (Ai (@Tryz.underlying38) (@sz38))))) (Ai (Ai (Ai (@fok38) (Ai (@info38) (@I38s))) (Ai (@I38b) (Ai (@zero38) (@grow38)))) (Ai (Ai (@call4) (Ai (@call5) (@call6))) (Ai (Ai (@call7) (@call8)) (Ai (@call9) (@Tryz.results3)))))))
set_option maxRecDepth 20000
set_option maxHeartbeats 8000000
noncomputable abbrev KF:sP:=[(4,F17),(5,FA),(6,F16),(7,F32),(8,F33),(9,F34)]
def Aq3:Row (St×Unit):=Row.cons (Cod.agg rSt) Row.nil
def Sq3 (_:St×Unit):Option Bool:=some true
def frB:Nat→Int
 | 0=>3
 | 1=>2
 | 2=>1
 | 3=>0
 | _=>-1
def fphi (f1 f2 f3:Bool):Nat→Bool
 | 0=>true
 | 1=>f1
 | 2=>f2
 | _=>f3
theorem fn3 : FnT 3 (fOf Aq3 cB Sq3):=by
 refine Fn.intro mixed noNG Tryz.func3 rfl KF (by simp only [KF,List.forall_mem_cons];exact⟨fn17,fnA,fn16,fn32,fn33,fn34,fun _ h=>by cases h⟩) ?_
 intro args v hF
 obtain⟨⟨s,⟨⟩⟩,r,rfl,hs,rfl⟩:=qR hF
 cases hs
 rw [show V.cs (Aq3.v (s,()))=[.agg (eSt s)]from aSt s]
 have cb:(cB.v true).c=.bool true:=by simp only [cB,V.c]
 rw [cb]
 intro Q hV
 have hQ:=Viewed.of hV
 clear hF
 refine Top.view (View.start (n:=225) rfl (by simp)) (Top.pre noNG [_,_,_,_,_,_,_,_,_,_,_,_] ?_)
 have m0:decide (128≤0 % 1024)=false:=by decide
 have h17:=e17 s
 have s1:eSt s=[.int .i64 s.inn,.int .i64 s.half,.int .i64 s.outs,.int .i64 s.balls,.int .i64 s.strikes,.int .i64 s.b1,.int .i64 s.b2,.int .i64 s.b3,.int .i64 s.n0,.int .i64 s.n1,.int .i64 s.c0,.int .i64 s.c1,.bool s.over]:=rfl
 simp only [s1]at h17 ⊢
 by_cases hbad:stE s=0
 rotate_left
 · have q1:(stE s==0)=false:=by simpa using hbad
   ((try simp only [aP,SS,TF3FN,kcall,setRange,repl,isNextM,eConvert,eField,eSlice,eBuild,eBuildSlice,Nat.reduceLT,Nat.reduceEqDiff,Nat.reduceAdd,Nat.reduceMul,Nat.reduceSub,Nat.reduceLeDiff,Nat.reduceBEq,reduceCtorEq,wpL_cons,h17,eA,m0,q1]);(repeat' ((first|apply aE|apply aD|apply aG|apply aF|apply aB|apply aA)<;>intro h<;>simp only [h,SS,TF3FN,kcall,setRange,repl,isNextM,eConvert,eField,eSlice,eBuild,eBuildSlice,Nat.reduceLT,Nat.reduceEqDiff,Nat.reduceAdd,Nat.reduceMul,Nat.reduceSub,Nat.reduceLeDiff,Nat.reduceBEq,reduceCtorEq,wpL_cons,h17,eA,m0,q1])))
   (refine hQ _ _ _ (vD (by first|exact .inl rfl|exact .inr rfl) ?_);simp only [SS,TF3FN,kcall,setRange,repl,isNextM,eConvert,eField,eSlice,eBuild,eBuildSlice,Nat.reduceLT,Nat.reduceEqDiff,Nat.reduceAdd,Nat.reduceMul,Nat.reduceSub,Nat.reduceLeDiff,Nat.reduceBEq,reduceCtorEq])
 rw [hbad]at h17
 have q2:((0:Int)==0)=true:=rfl
 cases hov:s.over with
 | true=>
   rw [hov]at h17
   ((try simp only [aP,SS,TF3FN,kcall,setRange,repl,isNextM,eConvert,eField,eSlice,eBuild,eBuildSlice,Nat.reduceLT,Nat.reduceEqDiff,Nat.reduceAdd,Nat.reduceMul,Nat.reduceSub,Nat.reduceLeDiff,Nat.reduceBEq,reduceCtorEq,wpL_cons,h17,eA,m0,q2,hov]);(repeat' ((first|apply aE|apply aD|apply aG|apply aF|apply aB|apply aA)<;>intro h<;>simp only [h,SS,TF3FN,kcall,setRange,repl,isNextM,eConvert,eField,eSlice,eBuild,eBuildSlice,Nat.reduceLT,Nat.reduceEqDiff,Nat.reduceAdd,Nat.reduceMul,Nat.reduceSub,Nat.reduceLeDiff,Nat.reduceBEq,reduceCtorEq,wpL_cons,h17,eA,m0,q2,hov])))
   (refine hQ _ _ _ (vD (by first|exact .inl rfl|exact .inr rfl) ?_);simp only [SS,TF3FN,kcall,setRange,repl,isNextM,eConvert,eField,eSlice,eBuild,eBuildSlice,Nat.reduceLT,Nat.reduceEqDiff,Nat.reduceAdd,Nat.reduceMul,Nat.reduceSub,Nat.reduceLeDiff,Nat.reduceBEq,reduceCtorEq])
 | false=>
 rw [hov]at h17
 obtain⟨hh,ho,hk,hc0,hc1⟩:=aqo hbad
 obtain⟨h,hsh,hh2⟩:∃h:Nat,s.half=h∧h<2:=⟨s.half.toNat,by omega,by omega⟩
 simp only [hsh]at h17
 have b2:((h:Int)<((2:Nat):Int))=True:=by simp only [eq_iff_iff,iff_true];omega
 have h01:h=0∨h=1:=by omega
 obtain⟨sc,hsc,hscv⟩:∃sc,([.int .i64 s.inn,.int .i64 (h:Nat),.int .i64 s.outs,.int .i64 s.balls,.int .i64 s.strikes,.int .i64 s.b1,.int .i64 s.b2,.int .i64 s.b3,.int .i64 s.n0,.int .i64 s.n1,.int .i64 s.c0,.int .i64 s.c1,.bool false]:List EVal)[10+h]? = some (.int .i64 sc)∧sc=(if s.half=0 then s.c0 else s.c1):=by
  rcases h01 with rfl|rfl
  · exact⟨s.c0,rfl,by rw [if_pos (by omega)]⟩
  · exact⟨s.c1,rfl,by rw [if_neg (by omega)]⟩
 obtain⟨nx,hnx,hnxv⟩:∃nx,([.int .i64 s.inn,.int .i64 (h:Nat),.int .i64 s.outs,.int .i64 s.balls,.int .i64 s.strikes,.int .i64 s.b1,.int .i64 s.b2,.int .i64 s.b3,.int .i64 s.n0,.int .i64 s.n1,.int .i64 s.c0,.int .i64 s.c1,.bool false]:List EVal)[8+h]? = some (.int .i64 nx)∧nx=(if s.half=0 then s.n0 else s.n1):=by
  rcases h01 with rfl|rfl
  · exact⟨s.n0,rfl,by rw [if_pos (by omega)]⟩
  · exact⟨s.n1,rfl,by rw [if_neg (by omega)]⟩
 by_cases hbig:sc<9999
 rotate_left
 · have q3:decide ((9999:Int)≤sc)=true:=by simp;omega
   ((try simp only [aP,SS,TF3FN,kcall,setRange,repl,isNextM,eConvert,eField,eSlice,eBuild,eBuildSlice,Nat.reduceLT,Nat.reduceEqDiff,Nat.reduceAdd,Nat.reduceMul,Nat.reduceSub,Nat.reduceLeDiff,Nat.reduceBEq,reduceCtorEq,wpL_cons,h17,eA,m0,q2,hov,hsh,b2,hsc,q3]);(repeat' ((first|apply aE|apply aD|apply aG|apply aF|apply aB|apply aA)<;>intro h<;>simp only [h,SS,TF3FN,kcall,setRange,repl,isNextM,eConvert,eField,eSlice,eBuild,eBuildSlice,Nat.reduceLT,Nat.reduceEqDiff,Nat.reduceAdd,Nat.reduceMul,Nat.reduceSub,Nat.reduceLeDiff,Nat.reduceBEq,reduceCtorEq,wpL_cons,h17,eA,m0,q2,hov,hsh,b2,hsc,q3])))
   (refine hQ _ _ _ (vD (by first|exact .inl rfl|exact .inr rfl) ?_);simp only [SS,TF3FN,kcall,setRange,repl,isNextM,eConvert,eField,eSlice,eBuild,eBuildSlice,Nat.reduceLT,Nat.reduceEqDiff,Nat.reduceAdd,Nat.reduceMul,Nat.reduceSub,Nat.reduceLeDiff,Nat.reduceBEq,reduceCtorEq])
 have q3:decide ((9999:Int)≤sc)=false:=by simp;omega
 have hx:=x0_ok hbad hov
 have hxv:(x0 s).over=false:=hov
 have hxb:(x0 s).balls=0:=rfl
 have hxc:(if(x0 s).half=0 then(x0 s).c0 else(x0 s).c1)<9999:=by
  show(if s.half=0 then s.c0 else s.c1)<9999
  omega
 have hxs:eSt (x0 s)=[.int .i64 s.inn,.int .i64 (h:Nat),.int .i64 s.outs,.int .i64 0,.int .i64 s.strikes,.int .i64 s.b1,.int .i64 s.b2,.int .i64 s.b3,.int .i64 s.n0,.int .i64 s.n1,.int .i64 s.c0,.int .i64 s.c1,.bool false]:=by
  show([.int .i64 s.inn,.int .i64 s.half,.int .i64 s.outs,.int .i64 0,.int .i64 s.strikes,.int .i64 s.b1,.int .i64 s.b2,.int .i64 s.b3,.int .i64 s.n0,.int .i64 s.n1,.int .i64 s.c0,.int .i64 s.c1,.bool s.over]:List EVal)=_
  rw [hsh,hov]
 have h16:=e16 hx hxv
 rw [hxs]at h16
 obtain⟨f1,hf1⟩:∃f1,f1=fz1 (x0 s):=⟨_,rfl⟩
 obtain⟨f2,hf2⟩:∃f2,f2=fz2 (x0 s):=⟨_,rfl⟩
 obtain⟨f3,hf3⟩:∃f3,f3=fz3 (x0 s):=⟨_,rfl⟩
 rw [←hf1,←hf2,←hf3]at h16
 have d0:((0:Int)<((4:Nat):Int))=True:=by simp
 have d1:((1:Int)<((4:Nat):Int))=True:=by simp
 have d2:((2:Int)<((4:Nat):Int))=True:=by simp
 have d3:((3:Int)<((4:Nat):Int))=True:=by simp
 have c1:((0:Int)≤1)=True:=by simp
 have c2:((0:Int)≤2)=True:=by simp
 have c3:((0:Int)≤3)=True:=by simp
 have k1:Int.toNat 1=1:=rfl
 have k2:Int.toNat 2=2:=rfl
 have k3:Int.toNat 3=3:=rfl
 ((try simp only [aP,SS,TF3FN,kcall,setRange,repl,isNextM,eConvert,eField,eSlice,eBuild,eBuildSlice,Nat.reduceLT,Nat.reduceEqDiff,Nat.reduceAdd,Nat.reduceMul,Nat.reduceSub,Nat.reduceLeDiff,Nat.reduceBEq,reduceCtorEq,wpL_cons,h17,eA,m0,q2,hov,hsh,b2,hsc,q3,h16,d0]);(repeat' ((first|apply aE|apply aD|apply aG|apply aF|apply aB|apply aA)<;>intro h<;>simp only [h,SS,TF3FN,kcall,setRange,repl,isNextM,eConvert,eField,eSlice,eBuild,eBuildSlice,Nat.reduceLT,Nat.reduceEqDiff,Nat.reduceAdd,Nat.reduceMul,Nat.reduceSub,Nat.reduceLeDiff,Nat.reduceBEq,reduceCtorEq,wpL_cons,h17,eA,m0,q2,hov,hsh,b2,hsc,q3,h16,d0])))
 have u1:UInt8.toNat 66=66:=rfl
 have u2:UInt8.toNat 87=87:=rfl
 have u3:UInt8.toNat 97=97:=rfl
 simp only [u1,u2]
 refine fV (Top.loop (I:=fun q:{ q:Nat×Nat×EVal×List (Nat×Option cT) // q.1≤4∧4≤q.2.1∧q.2.1≤4+2*q.1∧NL 3 q.2.2.1 (up (fphi f1 f2 f3) q.1) q.2.1 q.2.2.2∧lookG q.2.2.2 3=some (.row [.str [66,66,66,66],.str [87],.bool false,q.2.2.1] 35 0 0 false)∧lookG q.2.2.2 2=some (.row [.bool true,.bool f1,.bool f2,.bool f3] 29 0 0 false)∧lookG q.2.2.2 1=some (.row [.int .i64 s.inn,.int .i64 (h:Nat),.int .i64 s.outs,.int .i64 0,.int .i64 s.strikes,.int .i64 s.b1,.int .i64 s.b2,.int .i64 s.b3,.int .i64 s.n0,.int .i64 s.n1,.int .i64 s.c0,.int .i64 s.c1,.bool false] 28 0 0 false)∧lookG q.2.2.2 0=some (.row [.int .i64 s.inn,.int .i64 (h:Nat),.int .i64 s.outs,.int .i64 s.balls,.int .i64 s.strikes,.int .i64 s.b1,.int .i64 s.b2,.int .i64 s.b3,.int .i64 s.n0,.int .i64 s.n1,.int .i64 s.c0,.int .i64 s.c1,.bool false] 25 0 0 false) }=>
   (mkF 225 [(8,.int .i64 (frB q.1.1)),(7,.int .i64 ((up (fphi f1 f2 f3) q.1.1).length:Nat)),(6,.ptr 3 0),(4,.ptr 2 0),(3,.ptr 1 0),(2,.bool false),(1,.ptr 0 0)],mkH q.1.2.1 q.1.2.2.2 0 [])) (μ:=fun q=>4-q.1.1) ⟨(0,4,.nilslice,_),by simp,by simp,by simp,.inl ⟨rfl,rfl⟩,by simp [lookG],by simp [lookG],by simp [lookG],by simp [lookG]⟩ (View.sub (by simp [look,up,frB])) ?_)
 rintro⟨⟨n,N,v,l⟩,hn,n1,n2,hNL,l3,l2,l1,l0⟩
 dsimp only at hn n1 n2 hNL l3 l2 l1 l0
 refine aO noNG _ _ _ _ ?_
 dsimp only
 by_cases hlt:n<4
 rotate_left
 · obtain rfl:n=4:=by omega
   have w4:frB 4=-1:=rfl
   have g0:decide ((0:Int)≤-1)=false:=by decide
   have hM:up (fphi f1 f2 f3) 4=mvG f1 f2 f3:=up4 rfl
   rw [hM]at hNL
   have hMb:∀m∈mvG f1 f2 f3,m.b=[]:=by rw [←hM];exact up_b _ _
   obtain⟨id,i1,i2,rfl,lk⟩:∃id,3<id∧id<N∧v=.slice id 0 (mvG f1 f2 f3).length (.slack 0)∧lookG l id=some (.row (i9 (mvG f1 f2 f3)) 38 0 0 true):=by
    rcases hNL with⟨_,h0⟩ | h0
    · exfalso;revert h0;cases f1<;>cases f2<;>cases f3<;>simp [mvG]
    · exact h0
   obtain⟨wok,wcp,_,wme⟩:=zC f1 f2 f3
   have hrow:ajt (wkP f1 f2 f3)=[.str [66,66,66,66],.str [87],.bool false,.lsl (aH (mvG f1 f2 f3))]:=rfl
   have h33:=e33 wok.1 wcp
   have hE:eE (x0 s) (wkP f1 f2 f3)=0:=by rw [hf1,hf2,hf3];exact wk_full hx hxv hxb hxc
   have h32:=e32 (s:=x0 s) wok
   have h34:=e34 (s:=x0 s) wok hE
   have ap1:apS (x0 s) (wkP f1 f2 f3)=nxt (mvd (x0 s) (wkP f1 f2 f3)):=by unfold apS;rw [if_neg (by simp [hE])]
   have ap2:apN (x0 s) (wkP f1 f2 f3)=0:=by unfold apN;rw [if_neg (by simp [hE])]
   have hnext:=wk_next hx
   rw [←hf1,←hf2,←hf3]at hnext
   rw [ap1,ap2,hE]at h32
   generalize nxt (mvd (x0 s) (wkP f1 f2 f3))=y at h32 hnext
   rw [hrow]at h33 h32 h34
   rw [hxs]at h32 h34
   simp only [eSt]at h32
   have hR:=azI (s:=x0 s) (g1:=f1) (g2:=f2) (g3:=f3) ho
   generalize hRl:(j8 (outsI (x0 s) (wkP f1 f2 f3)) (wkP f1 f2 f3).l (wkP f1 f2 f3).m).map (sltM (x0 s))=rl at h34
   have hrl:((oK rl).length:Int)=if f3=true then 1 else 0:=by rw [xS,←hRl,List.length_map];exact hR
   have hlen:(((mvG f1 f2 f3).length:Int)==4)=f3:=by
    have z1:f3=true→f2=true∧f1=true:=by
     rw [hf1,hf2,hf3]
     unfold fz1 fz2 fz3
     simp
     intro a b c;exact⟨⟨a,b⟩,a⟩
    revert z1
    cases f1<;>cases f2<;>cases f3<;>simp [mvG]
   have r1:(((oK rl).length:Int)==1)=f3:=by rw [hrl];cases f3<;>rfl
   have r2:decide ((1:Int)<((oK rl).length:Int))=false:=by rw [hrl];cases f3<;>decide
   ((try simp only [aP,SS,TF3FN,kcall,setRange,repl,isNextM,eConvert,eField,eSlice,eBuild,eBuildSlice,Nat.reduceLT,Nat.reduceEqDiff,Nat.reduceAdd,Nat.reduceMul,Nat.reduceSub,Nat.reduceLeDiff,Nat.reduceBEq,reduceCtorEq,w4,g0,hM]);(repeat' ((first|apply aE|apply aD|apply aG|apply aF|apply aB|apply aA)<;>intro h<;>simp only [h,SS,TF3FN,kcall,setRange,repl,isNextM,eConvert,eField,eSlice,eBuild,eBuildSlice,Nat.reduceLT,Nat.reduceEqDiff,Nat.reduceAdd,Nat.reduceMul,Nat.reduceSub,Nat.reduceLeDiff,Nat.reduceBEq,reduceCtorEq,w4,g0,hM])))
   refine fW (Top.view (View.trans (View.fz (sz:=5) (len:=(mvG f1 f2 f3).length) (fl2:=[(7,.int .i64 ((mvG f1 f2 f3).length:Nat)),(6,.ptr 3 0),(4,.ptr 2 0),(3,.ptr 1 0),(2,.bool false),(1,.ptr 0 0)]) (l2:=[((3:Nat),some (cT.row [.str [66,66,66,66],.str [87],.bool false,.lsl (aH (mvG f1 f2 f3))] 35 0 0 false)),(2,some (.row [.bool true,.bool f1,.bool f2,.bool f3] 29 0 0 false)),(1,some (.row [.int .i64 s.inn,.int .i64 (h:Nat),.int .i64 s.outs,.int .i64 0,.int .i64 s.strikes,.int .i64 s.b1,.int .i64 s.b2,.int .i64 s.b3,.int .i64 s.n0,.int .i64 s.n1,.int .i64 s.c0,.int .i64 s.c1,.bool false] 28 0 0 false)),(0,some (.row [.int .i64 s.inn,.int .i64 (h:Nat),.int .i64 s.outs,.int .i64 s.balls,.int .i64 s.strikes,.int .i64 s.b1,.int .i64 s.b2,.int .i64 s.b3,.int .i64 s.n0,.int .i64 s.n1,.int .i64 s.c0,.int .i64 s.c1,.bool false] 25 0 0 false))]) (k2:=[]) id (by omega) lk (gU hMb) (movesF_length _) ?_ ?_ (by simp)) (View.drop (N:=4) (fl2:=[(7,.int .i64 ((mvG f1 f2 f3).length:Nat)),(6,.ptr 3 0),(4,.ptr 2 0),(3,.ptr 1 0),(2,.bool false),(1,.ptr 0 0)]) (l2:=[((3:Nat),some (cT.row [.str [66,66,66,66],.str [87],.bool false,.lsl (aH (mvG f1 f2 f3))] 35 0 0 false)),(2,some (.row [.bool true,.bool f1,.bool f2,.bool f3] 29 0 0 false)),(1,some (.row [.int .i64 s.inn,.int .i64 (h:Nat),.int .i64 s.outs,.int .i64 0,.int .i64 s.strikes,.int .i64 s.b1,.int .i64 s.b2,.int .i64 s.b3,.int .i64 s.n0,.int .i64 s.n1,.int .i64 s.c0,.int .i64 s.c1,.bool false] 28 0 0 false)),(0,some (.row [.int .i64 s.inn,.int .i64 (h:Nat),.int .i64 s.outs,.int .i64 s.balls,.int .i64 s.strikes,.int .i64 s.b1,.int .i64 s.b2,.int .i64 s.b3,.int .i64 s.n0,.int .i64 s.n1,.int .i64 s.c0,.int .i64 s.c1,.bool false] 25 0 0 false))]) (k2:=[]) (by simp [look,below]) (by simp [lookG,belowO,below,a9]) (by simp))) (Top.draw mixed noNG (by kernel_rfl) ?_))
   · intro q hq
     simp only [List.mem_cons,List.not_mem_nil,or_false]at hq
     rcases hq with rfl|rfl|rfl|rfl|rfl|rfl<;>exact⟨by simp,_,by simp [look],.inl rfl⟩
   · intro q hq
     simp only [List.mem_cons,List.not_mem_nil,or_false]at hq
     rcases hq with rfl|rfl|rfl|rfl
     · exact⟨by simp,by show 3≠id;omega,_,rfl,.inr ⟨_,_,_,_,_,_,l3,rfl,by rw [dX];exact⟨.inl rfl,.inl rfl,.inl rfl,.inr ⟨.slack 0,rfl,rfl,rfl⟩,trivial⟩⟩⟩
     · exact⟨by simp,by show 2≠id;omega,_,rfl,.inl l2⟩
     · exact⟨by simp,by show 1≠id;omega,_,rfl,.inl l1⟩
     · exact⟨by simp,by show 0≠id;omega,_,rfl,.inl l0⟩
   ((try simp only [aP,SS,TF3FN,kcall,setRange,repl,isNextM,eConvert,eField,eSlice,eBuild,eBuildSlice,Nat.reduceLT,Nat.reduceEqDiff,Nat.reduceAdd,Nat.reduceMul,Nat.reduceSub,Nat.reduceLeDiff,Nat.reduceBEq,reduceCtorEq,h33,h32]);(repeat' ((first|apply aE|apply aD|apply aG|apply aF|apply aB|apply aA)<;>intro h<;>simp only [h,SS,TF3FN,kcall,setRange,repl,isNextM,eConvert,eField,eSlice,eBuild,eBuildSlice,Nat.reduceLT,Nat.reduceEqDiff,Nat.reduceAdd,Nat.reduceMul,Nat.reduceSub,Nat.reduceLeDiff,Nat.reduceBEq,reduceCtorEq,h33,h32])))
   refine⟨by kernel_rfl,?_⟩
   ((try simp only [aP,SS,TF3FN,kcall,setRange,repl,isNextM,eConvert,eField,eSlice,eBuild,eBuildSlice,Nat.reduceLT,Nat.reduceEqDiff,Nat.reduceAdd,Nat.reduceMul,Nat.reduceSub,Nat.reduceLeDiff,Nat.reduceBEq,reduceCtorEq]);(repeat' ((first|apply aE|apply aD|apply aG|apply aF|apply aB|apply aA)<;>intro h<;>simp only [h,SS,TF3FN,kcall,setRange,repl,isNextM,eConvert,eField,eSlice,eBuild,eBuildSlice,Nat.reduceLT,Nat.reduceEqDiff,Nat.reduceAdd,Nat.reduceMul,Nat.reduceSub,Nat.reduceLeDiff,Nat.reduceBEq,reduceCtorEq])))
   refine fW (Top.draw mixed noNG (by kernel_rfl) ?_)
   ((try simp only [aP,SS,TF3FN,kcall,setRange,repl,isNextM,eConvert,eField,eSlice,eBuild,eBuildSlice,Nat.reduceLT,Nat.reduceEqDiff,Nat.reduceAdd,Nat.reduceMul,Nat.reduceSub,Nat.reduceLeDiff,Nat.reduceBEq,reduceCtorEq,h33,h34]);(repeat' ((first|apply aE|apply aD|apply aG|apply aF|apply aB|apply aA)<;>intro h<;>simp only [h,SS,TF3FN,kcall,setRange,repl,isNextM,eConvert,eField,eSlice,eBuild,eBuildSlice,Nat.reduceLT,Nat.reduceEqDiff,Nat.reduceAdd,Nat.reduceMul,Nat.reduceSub,Nat.reduceLeDiff,Nat.reduceBEq,reduceCtorEq,h33,h34])))
   refine⟨by kernel_rfl,?_⟩
   have nb:∀b:Bool,lV Tryz.prog .neq 4 (.bool b) (.bool b)=some (.bool false):=by
    intro b
    simp only [lV,eqX,Tryz.underlying4]
    cases b<;>rfl
   ((try simp only [aP,SS,TF3FN,kcall,setRange,repl,isNextM,eConvert,eField,eSlice,eBuild,eBuildSlice,Nat.reduceLT,Nat.reduceEqDiff,Nat.reduceAdd,Nat.reduceMul,Nat.reduceSub,Nat.reduceLeDiff,Nat.reduceBEq,reduceCtorEq,wpL_cons,wpL_nil,q2,r1,r2,hlen,nb]);(repeat' ((first|apply aE|apply aD|apply aG|apply aF|apply aB|apply aA)<;>intro h<;>simp only [h,SS,TF3FN,kcall,setRange,repl,isNextM,eConvert,eField,eSlice,eBuild,eBuildSlice,Nat.reduceLT,Nat.reduceEqDiff,Nat.reduceAdd,Nat.reduceMul,Nat.reduceSub,Nat.reduceLeDiff,Nat.reduceBEq,reduceCtorEq,wpL_cons,wpL_nil,q2,r1,r2,hlen,nb])))
   refine Top.join (σ:=Unit) noNG (fun _=>mkF 225 [(6,.ptr 3 0),(4,.ptr 2 0),(3,.ptr 1 0),(2,.bool false),(1,.ptr 0 0)]) (fun _=>mkH 4 [((3:Nat),some (cT.row [.str [66,66,66,66],.str [87],.bool false,.lsl (aH (mvG f1 f2 f3))] 35 0 0 false)),(2,some (.row [.bool true,.bool f1,.bool f2,.bool f3] 29 0 0 false)),(1,some (.row [.int .i64 s.inn,.int .i64 (h:Nat),.int .i64 s.outs,.int .i64 0,.int .i64 s.strikes,.int .i64 s.b1,.int .i64 s.b2,.int .i64 s.b3,.int .i64 s.n0,.int .i64 s.n1,.int .i64 s.c0,.int .i64 s.c1,.bool false] 28 0 0 false)),(0,some (.row [.int .i64 s.inn,.int .i64 (h:Nat),.int .i64 s.outs,.int .i64 s.balls,.int .i64 s.strikes,.int .i64 s.b1,.int .i64 s.b2,.int .i64 s.b3,.int .i64 s.n0,.int .i64 s.n1,.int .i64 s.c0,.int .i64 s.c1,.bool false] 25 0 0 false))] 0 []) ?_ ?_
   · intro R hRn
     have d03:((0:Int)<((3:Nat):Int))=True:=by simp
     have nxo:y.over=true∨y.over=false∧y.b1=nx∧y.outs=s.outs:=by
      cases hyo:y.over with
      | true=>exact .inl rfl
      | false=>
        rcases hnext with h1|⟨h1,h2⟩
        · rw [hyo]at h1;cases h1
        · exact .inr ⟨rfl,by rw [h1,hnxv];rfl,h2⟩
     rcases nxo with hyo|⟨hyo,hy1,hy2⟩
     · ((try simp only [aP,SS,TF3FN,kcall,setRange,repl,isNextM,eConvert,eField,eSlice,eBuild,eBuildSlice,Nat.reduceLT,Nat.reduceEqDiff,Nat.reduceAdd,Nat.reduceMul,Nat.reduceSub,Nat.reduceLeDiff,Nat.reduceBEq,reduceCtorEq]);(repeat' ((first|apply aE|apply aD|apply aG|apply aF|apply aB|apply aA)<;>intro h<;>simp only [h,SS,TF3FN,kcall,setRange,repl,isNextM,eConvert,eField,eSlice,eBuild,eBuildSlice,Nat.reduceLT,Nat.reduceEqDiff,Nat.reduceAdd,Nat.reduceMul,Nat.reduceSub,Nat.reduceLeDiff,Nat.reduceBEq,reduceCtorEq])))
       refine fW (Top.draw mixed noNG (by kernel_rfl) ?_)
       ((try simp only [aP,SS,TF3FN,kcall,setRange,repl,isNextM,eConvert,eField,eSlice,eBuild,eBuildSlice,Nat.reduceLT,Nat.reduceEqDiff,Nat.reduceAdd,Nat.reduceMul,Nat.reduceSub,Nat.reduceLeDiff,Nat.reduceBEq,reduceCtorEq,hyo,b2,hnx]);(repeat' ((first|apply aE|apply aD|apply aG|apply aF|apply aB|apply aA)<;>intro h<;>simp only [h,SS,TF3FN,kcall,setRange,repl,isNextM,eConvert,eField,eSlice,eBuild,eBuildSlice,Nat.reduceLT,Nat.reduceEqDiff,Nat.reduceAdd,Nat.reduceMul,Nat.reduceSub,Nat.reduceLeDiff,Nat.reduceBEq,reduceCtorEq,hyo,b2,hnx])))
       refine⟨by kernel_rfl,?_⟩
       ((try simp only [aP,SS,TF3FN,kcall,setRange,repl,isNextM,eConvert,eField,eSlice,eBuild,eBuildSlice,Nat.reduceLT,Nat.reduceEqDiff,Nat.reduceAdd,Nat.reduceMul,Nat.reduceSub,Nat.reduceLeDiff,Nat.reduceBEq,reduceCtorEq]);(repeat' ((first|apply aE|apply aD|apply aG|apply aF|apply aB|apply aA)<;>intro h<;>simp only [h,SS,TF3FN,kcall,setRange,repl,isNextM,eConvert,eField,eSlice,eBuild,eBuildSlice,Nat.reduceLT,Nat.reduceEqDiff,Nat.reduceAdd,Nat.reduceMul,Nat.reduceSub,Nat.reduceLeDiff,Nat.reduceBEq,reduceCtorEq])))
       exact hRn () _ _ (View.drop (by simp [look,below]) (by simp [lookG,belowO,below,a9]) (by simp))
     · ((try simp only [aP,SS,TF3FN,kcall,setRange,repl,isNextM,eConvert,eField,eSlice,eBuild,eBuildSlice,Nat.reduceLT,Nat.reduceEqDiff,Nat.reduceAdd,Nat.reduceMul,Nat.reduceSub,Nat.reduceLeDiff,Nat.reduceBEq,reduceCtorEq]);(repeat' ((first|apply aE|apply aD|apply aG|apply aF|apply aB|apply aA)<;>intro h<;>simp only [h,SS,TF3FN,kcall,setRange,repl,isNextM,eConvert,eField,eSlice,eBuild,eBuildSlice,Nat.reduceLT,Nat.reduceEqDiff,Nat.reduceAdd,Nat.reduceMul,Nat.reduceSub,Nat.reduceLeDiff,Nat.reduceBEq,reduceCtorEq])))
       refine fW (Top.draw mixed noNG (by kernel_rfl) ?_)
       ((try simp only [aP,SS,TF3FN,kcall,setRange,repl,isNextM,eConvert,eField,eSlice,eBuild,eBuildSlice,Nat.reduceLT,Nat.reduceEqDiff,Nat.reduceAdd,Nat.reduceMul,Nat.reduceSub,Nat.reduceLeDiff,Nat.reduceBEq,reduceCtorEq,hyo,hy1,hy2,b2,hnx,d03]);(repeat' ((first|apply aE|apply aD|apply aG|apply aF|apply aB|apply aA)<;>intro h<;>simp only [h,SS,TF3FN,kcall,setRange,repl,isNextM,eConvert,eField,eSlice,eBuild,eBuildSlice,Nat.reduceLT,Nat.reduceEqDiff,Nat.reduceAdd,Nat.reduceMul,Nat.reduceSub,Nat.reduceLeDiff,Nat.reduceBEq,reduceCtorEq,hyo,hy1,hy2,b2,hnx,d03])))
       refine⟨by kernel_rfl,?_⟩
       ((try simp only [aP,SS,TF3FN,kcall,setRange,repl,isNextM,eConvert,eField,eSlice,eBuild,eBuildSlice,Nat.reduceLT,Nat.reduceEqDiff,Nat.reduceAdd,Nat.reduceMul,Nat.reduceSub,Nat.reduceLeDiff,Nat.reduceBEq,reduceCtorEq]);(repeat' ((first|apply aE|apply aD|apply aG|apply aF|apply aB|apply aA)<;>intro h<;>simp only [h,SS,TF3FN,kcall,setRange,repl,isNextM,eConvert,eField,eSlice,eBuild,eBuildSlice,Nat.reduceLT,Nat.reduceEqDiff,Nat.reduceAdd,Nat.reduceMul,Nat.reduceSub,Nat.reduceLeDiff,Nat.reduceBEq,reduceCtorEq])))
       exact hRn () _ _ (View.drop (by simp [look,below]) (by simp [lookG,belowO,below,a9]) (by simp))
   intro _
   clear hnext h32 h34 hrl r1 r2 hRl hR
   refine aO noNG _ _ _ _ ?_
   have hM4:(mvG f1 f2 f3).length≤4:=by cases f1<;>cases f2<;>cases f3<;>decide
   ((try simp only [aP,SS,TF3FN,kcall,setRange,repl,isNextM,eConvert,eField,eSlice,eBuild,eBuildSlice,Nat.reduceLT,Nat.reduceEqDiff,Nat.reduceAdd,Nat.reduceMul,Nat.reduceSub,Nat.reduceLeDiff,Nat.reduceBEq,reduceCtorEq,moves_len]);(repeat' ((first|apply aE|apply aD|apply aG|apply aF|apply aB|apply aA)<;>intro h<;>simp only [h,SS,TF3FN,kcall,setRange,repl,isNextM,eConvert,eField,eSlice,eBuild,eBuildSlice,Nat.reduceLT,Nat.reduceEqDiff,Nat.reduceAdd,Nat.reduceMul,Nat.reduceSub,Nat.reduceLeDiff,Nat.reduceBEq,reduceCtorEq,moves_len])))
   refine fV (Top.loop (I:=fun q:{ i:Nat // i≤(mvG f1 f2 f3).length }=>(mkF 225 [(137,.int .i64 (q.1:Nat)),(136,.int .i64 ((mvG f1 f2 f3).length:Nat)),(135,.lsl (aH (mvG f1 f2 f3))),(6,.ptr 3 0),(4,.ptr 2 0),(3,.ptr 1 0),(2,.bool false),(1,.ptr 0 0)],mkH 4 [((3:Nat),some (cT.row [.str [66,66,66,66],.str [87],.bool false,.lsl (aH (mvG f1 f2 f3))] 35 0 0 false)),(2,some (.row [.bool true,.bool f1,.bool f2,.bool f3] 29 0 0 false)),(1,some (.row [.int .i64 s.inn,.int .i64 (h:Nat),.int .i64 s.outs,.int .i64 0,.int .i64 s.strikes,.int .i64 s.b1,.int .i64 s.b2,.int .i64 s.b3,.int .i64 s.n0,.int .i64 s.n1,.int .i64 s.c0,.int .i64 s.c1,.bool false] 28 0 0 false)),(0,some (.row [.int .i64 s.inn,.int .i64 (h:Nat),.int .i64 s.outs,.int .i64 s.balls,.int .i64 s.strikes,.int .i64 s.b1,.int .i64 s.b2,.int .i64 s.b3,.int .i64 s.n0,.int .i64 s.n1,.int .i64 s.c0,.int .i64 s.c1,.bool false] 25 0 0 false))] 0 [])) (μ:=fun q=>(mvG f1 f2 f3).length-q.1) ⟨0,by omega⟩ (View.sub (by simp [look])) ?_)
   rintro⟨i,hi⟩
   dsimp only
   refine Top.pre noNG [_,_] ?_
   by_cases hil:i<(mvG f1 f2 f3).length
   rotate_left
   · obtain rfl:i=(mvG f1 f2 f3).length:=by omega
     have q5:decide (((mvG f1 f2 f3).length:Int)<((mvG f1 f2 f3).length:Int))=false:=by simp
     ((try simp only [aP,SS,TF3FN,kcall,setRange,repl,isNextM,eConvert,eField,eSlice,eBuild,eBuildSlice,Nat.reduceLT,Nat.reduceEqDiff,Nat.reduceAdd,Nat.reduceMul,Nat.reduceSub,Nat.reduceLeDiff,Nat.reduceBEq,reduceCtorEq,wpL_cons,wpL_nil,q5]);(repeat' ((first|apply aE|apply aD|apply aG|apply aF|apply aB|apply aA)<;>intro h<;>simp only [h,SS,TF3FN,kcall,setRange,repl,isNextM,eConvert,eField,eSlice,eBuild,eBuildSlice,Nat.reduceLT,Nat.reduceEqDiff,Nat.reduceAdd,Nat.reduceMul,Nat.reduceSub,Nat.reduceLeDiff,Nat.reduceBEq,reduceCtorEq,wpL_cons,wpL_nil,q5])))
     refine fV (Top.loop (I:=fun q:{ c:Nat // 1≤c∧c≤4 }=>(mkF 225 [(20,.int .i64 (q.1:Nat)),(6,.ptr 3 0),(4,.ptr 2 0),(3,.ptr 1 0),(2,.bool false),(1,.ptr 0 0)],mkH 4 [((3:Nat),some (cT.row [.str [66,66,66,66],.str [87],.bool false,.lsl (aH (mvG f1 f2 f3))] 35 0 0 false)),(2,some (.row [.bool true,.bool f1,.bool f2,.bool f3] 29 0 0 false)),(1,some (.row [.int .i64 s.inn,.int .i64 (h:Nat),.int .i64 s.outs,.int .i64 0,.int .i64 s.strikes,.int .i64 s.b1,.int .i64 s.b2,.int .i64 s.b3,.int .i64 s.n0,.int .i64 s.n1,.int .i64 s.c0,.int .i64 s.c1,.bool false] 28 0 0 false)),(0,some (.row [.int .i64 s.inn,.int .i64 (h:Nat),.int .i64 s.outs,.int .i64 s.balls,.int .i64 s.strikes,.int .i64 s.b1,.int .i64 s.b2,.int .i64 s.b3,.int .i64 s.n0,.int .i64 s.n1,.int .i64 s.c0,.int .i64 s.c1,.bool false] 25 0 0 false))] 0 [])) (μ:=fun q=>4-q.1) ⟨1,by omega,by omega⟩ (View.drop (by simp [look,below]) (by simp [lookG,belowO,below,a9]) (by simp)) ?_)
     rintro⟨c,hc1',hc2'⟩
     dsimp only
     refine Top.pre noNG [_] ?_
     have hc:c=4∨c=1∨c=2∨c=3:=by omega
     rcases hc with rfl|rfl|rfl|rfl
     · have g4:decide (((4:Nat):Int)<4)=false:=by decide
       ((try simp only [aP,SS,TF3FN,kcall,setRange,repl,isNextM,eConvert,eField,eSlice,eBuild,eBuildSlice,Nat.reduceLT,Nat.reduceEqDiff,Nat.reduceAdd,Nat.reduceMul,Nat.reduceSub,Nat.reduceLeDiff,Nat.reduceBEq,reduceCtorEq,wpL_cons,wpL_nil,g4,eA]);(repeat' ((first|apply aE|apply aD|apply aG|apply aF|apply aB|apply aA)<;>intro h<;>simp only [h,SS,TF3FN,kcall,setRange,repl,isNextM,eConvert,eField,eSlice,eBuild,eBuildSlice,Nat.reduceLT,Nat.reduceEqDiff,Nat.reduceAdd,Nat.reduceMul,Nat.reduceSub,Nat.reduceLeDiff,Nat.reduceBEq,reduceCtorEq,wpL_cons,wpL_nil,g4,eA])))
       (refine hQ _ _ _ (vD (by first|exact .inl rfl|exact .inr rfl) ?_);simp only [SS,TF3FN,kcall,setRange,repl,isNextM,eConvert,eField,eSlice,eBuild,eBuildSlice,Nat.reduceLT,Nat.reduceEqDiff,Nat.reduceAdd,Nat.reduceMul,Nat.reduceSub,Nat.reduceLeDiff,Nat.reduceBEq,reduceCtorEq])
     · have g4:decide (((1:Nat):Int)<4)=true:=by decide
       have g5:IntKind.i64.wrap (((1:Nat):Int)-1)=((0:Nat):Int):=by decide
       have g6:IntKind.i64.wrap (((1:Nat):Int)+1)=((1+1:Nat):Int):=by decide
       have g7:(((1:Nat):Int)<((4:Nat):Int))=True:=by simp
       have g8:(((0:Nat):Int)<((3:Nat):Int))=True:=by simp
       have g9:((0:Int)<((3:Nat):Int))=True:=by simp
       ((try simp only [aP,SS,TF3FN,kcall,setRange,repl,isNextM,eConvert,eField,eSlice,eBuild,eBuildSlice,Nat.reduceLT,Nat.reduceEqDiff,Nat.reduceAdd,Nat.reduceMul,Nat.reduceSub,Nat.reduceLeDiff,Nat.reduceBEq,reduceCtorEq,wpL_cons,wpL_nil,g4]);(repeat' ((first|apply aE|apply aD|apply aG|apply aF|apply aB|apply aA)<;>intro h<;>simp only [h,SS,TF3FN,kcall,setRange,repl,isNextM,eConvert,eField,eSlice,eBuild,eBuildSlice,Nat.reduceLT,Nat.reduceEqDiff,Nat.reduceAdd,Nat.reduceMul,Nat.reduceSub,Nat.reduceLeDiff,Nat.reduceBEq,reduceCtorEq,wpL_cons,wpL_nil,g4])))
       refine Top.seq (Top.block (Top.pre noNG [_,_,_] ?_))
       cases f1 with
       | true=>
         ((try simp only [aP,SS,TF3FN,kcall,setRange,repl,isNextM,eConvert,eField,eSlice,eBuild,eBuildSlice,Nat.reduceLT,Nat.reduceEqDiff,Nat.reduceAdd,Nat.reduceMul,Nat.reduceSub,Nat.reduceLeDiff,Nat.reduceBEq,reduceCtorEq,wpL_cons,wpL_nil,g7]);(repeat' ((first|apply aE|apply aD|apply aG|apply aF|apply aB|apply aA)<;>intro h<;>simp only [h,SS,TF3FN,kcall,setRange,repl,isNextM,eConvert,eField,eSlice,eBuild,eBuildSlice,Nat.reduceLT,Nat.reduceEqDiff,Nat.reduceAdd,Nat.reduceMul,Nat.reduceSub,Nat.reduceLeDiff,Nat.reduceBEq,reduceCtorEq,wpL_cons,wpL_nil,g7])))
         refine aO noNG _ _ _ _ ?_
         ((try simp only [aP,SS,TF3FN,kcall,setRange,repl,isNextM,eConvert,eField,eSlice,eBuild,eBuildSlice,Nat.reduceLT,Nat.reduceEqDiff,Nat.reduceAdd,Nat.reduceMul,Nat.reduceSub,Nat.reduceLeDiff,Nat.reduceBEq,reduceCtorEq,g6]);(repeat' ((first|apply aE|apply aD|apply aG|apply aF|apply aB|apply aA)<;>intro h<;>simp only [h,SS,TF3FN,kcall,setRange,repl,isNextM,eConvert,eField,eSlice,eBuild,eBuildSlice,Nat.reduceLT,Nat.reduceEqDiff,Nat.reduceAdd,Nat.reduceMul,Nat.reduceSub,Nat.reduceLeDiff,Nat.reduceBEq,reduceCtorEq,g6])))
         exact⟨⟨1+1,by omega,by omega⟩,by show 4-(1+1)<4-1;omega,View.drop (by simp [look,below]) (by simp [lookG,belowO,below,a9]) (by simp)⟩
       | false=>
       by_cases hb0:s.b1=0
       · have q7:(s.b1==0)=true:=by simp [hb0]
         ((try simp only [aP,SS,TF3FN,kcall,setRange,repl,isNextM,eConvert,eField,eSlice,eBuild,eBuildSlice,Nat.reduceLT,Nat.reduceEqDiff,Nat.reduceAdd,Nat.reduceMul,Nat.reduceSub,Nat.reduceLeDiff,Nat.reduceBEq,reduceCtorEq,wpL_cons,wpL_nil,g5,g7,g8,g9,q7]);(repeat' ((first|apply aE|apply aD|apply aG|apply aF|apply aB|apply aA)<;>intro h<;>simp only [h,SS,TF3FN,kcall,setRange,repl,isNextM,eConvert,eField,eSlice,eBuild,eBuildSlice,Nat.reduceLT,Nat.reduceEqDiff,Nat.reduceAdd,Nat.reduceMul,Nat.reduceSub,Nat.reduceLeDiff,Nat.reduceBEq,reduceCtorEq,wpL_cons,wpL_nil,g5,g7,g8,g9,q7])))
         refine aO noNG _ _ _ _ ?_
         ((try simp only [aP,SS,TF3FN,kcall,setRange,repl,isNextM,eConvert,eField,eSlice,eBuild,eBuildSlice,Nat.reduceLT,Nat.reduceEqDiff,Nat.reduceAdd,Nat.reduceMul,Nat.reduceSub,Nat.reduceLeDiff,Nat.reduceBEq,reduceCtorEq,g6]);(repeat' ((first|apply aE|apply aD|apply aG|apply aF|apply aB|apply aA)<;>intro h<;>simp only [h,SS,TF3FN,kcall,setRange,repl,isNextM,eConvert,eField,eSlice,eBuild,eBuildSlice,Nat.reduceLT,Nat.reduceEqDiff,Nat.reduceAdd,Nat.reduceMul,Nat.reduceSub,Nat.reduceLeDiff,Nat.reduceBEq,reduceCtorEq,g6])))
         exact⟨⟨1+1,by omega,by omega⟩,by show 4-(1+1)<4-1;omega,View.drop (by simp [look,below]) (by simp [lookG,belowO,below,a9]) (by simp)⟩
       have q7:(s.b1==0)=false:=by simp [hb0]
       obtain⟨wokg,wcpg,_,wmeg⟩:=zC true f2 f3
       obtain⟨eg1,eg2⟩:=zD (s:=x0 s) (g1:=true) (g2:=f2) (g3:=f3) hx hxv hxb (by intro _;exact q7) (by exact fun e=>(fz_b (s:=x0 s)).2.1 (hf2.symm.trans e)) (by exact fun e=>(fz_b (s:=x0 s)).2.2 (hf3.symm.trans e)) (by exact .inl ⟨rfl,hf1.symm⟩)
       have h32g:=e32 (s:=x0 s) wokg
       rw [show apS (x0 s) (wkP true f2 f3)=zSt by unfold apS;rw [if_pos (by rw [eg1];decide)],show apN (x0 s) (wkP true f2 f3)=8 by unfold apN;rw [if_pos (by rw [eg1];decide),eg2],eg1,show ajt (wkP true f2 f3)=[.str [66,66,66,66],.str [87],.bool false,.lsl (aH (mvG true f2 f3))]from rfl,hxs]at h32g
       simp only [eSt]at h32g
       ((try simp only [aP,SS,TF3FN,kcall,setRange,repl,isNextM,eConvert,eField,eSlice,eBuild,eBuildSlice,Nat.reduceLT,Nat.reduceEqDiff,Nat.reduceAdd,Nat.reduceMul,Nat.reduceSub,Nat.reduceLeDiff,Nat.reduceBEq,reduceCtorEq,wpL_cons,wpL_nil,g5,g7,g8,g9,q7]);(repeat' ((first|apply aE|apply aD|apply aG|apply aF|apply aB|apply aA)<;>intro h<;>simp only [h,SS,TF3FN,kcall,setRange,repl,isNextM,eConvert,eField,eSlice,eBuild,eBuildSlice,Nat.reduceLT,Nat.reduceEqDiff,Nat.reduceAdd,Nat.reduceMul,Nat.reduceSub,Nat.reduceLeDiff,Nat.reduceBEq,reduceCtorEq,wpL_cons,wpL_nil,g5,g7,g8,g9,q7])))
       simp only [u1,u2]
       refine fV (Top.loop (I:=fun q:{ q:Nat×Nat×EVal×List (Nat×Option cT) // q.1≤4∧5≤q.2.1∧q.2.1≤5+2*q.1∧NL 4 q.2.2.1 (up (fphi true f2 f3) q.1) q.2.1 q.2.2.2∧lookG q.2.2.2 4=some (.row [.str [66,66,66,66],.str [87],.bool false,q.2.2.1] 35 0 0 false)∧lookG q.2.2.2 3=some (.row [.str [66,66,66,66],.str [87],.bool false,.lsl (aH (mvG false f2 f3))] 35 0 0 false)∧lookG q.2.2.2 2=some (.row [.bool true,.bool false,.bool f2,.bool f3] 29 0 0 false)∧lookG q.2.2.2 1=some (.row [.int .i64 s.inn,.int .i64 (h:Nat),.int .i64 s.outs,.int .i64 0,.int .i64 s.strikes,.int .i64 s.b1,.int .i64 s.b2,.int .i64 s.b3,.int .i64 s.n0,.int .i64 s.n1,.int .i64 s.c0,.int .i64 s.c1,.bool false] 28 0 0 false)∧lookG q.2.2.2 0=some (.row [.int .i64 s.inn,.int .i64 (h:Nat),.int .i64 s.outs,.int .i64 s.balls,.int .i64 s.strikes,.int .i64 s.b1,.int .i64 s.b2,.int .i64 s.b3,.int .i64 s.n0,.int .i64 s.n1,.int .i64 s.c0,.int .i64 s.c1,.bool false] 25 0 0 false) }=>
        (mkF 225 [(22,.int .i64 (frB q.1.1)),(21,.ptr 4 0),(20,.int .i64 ((1:Nat):Int)),(6,.ptr 3 0),(4,.ptr 2 0),(3,.ptr 1 0),(2,.bool false),(1,.ptr 0 0)],mkH q.1.2.1 q.1.2.2.2 0 [])) (μ:=fun q=>4-q.1.1) ⟨(0,5,.nilslice,_),by simp,by simp,by simp,.inl ⟨rfl,rfl⟩,by simp [lookG],by simp [lookG],by simp [lookG],by simp [lookG],by simp [lookG]⟩ (View.sub (by simp [look,up,frB])) ?_)
       rintro⟨⟨n,N,v,l⟩,hn,n1,n2,hNL,l4,l3,l2,l1,l0⟩
       dsimp only at hn n1 n2 hNL l4 l3 l2 l1 l0
       refine aO noNG _ _ _ _ ?_
       dsimp only
       by_cases hlt:n<4
       rotate_left
       · obtain rfl:n=4:=by omega
         have w4:frB 4=-1:=rfl
         have g0:decide ((0:Int)≤-1)=false:=by decide
         have hM:up (fphi true f2 f3) 4=mvG true f2 f3:=up4 rfl
         rw [hM]at hNL
         have hMb:∀m∈mvG true f2 f3,m.b=[]:=by rw [←hM];exact up_b _ _
         obtain⟨id,i1,i2,rfl,lk⟩:∃id,4<id∧id<N∧v=.slice id 0 (mvG true f2 f3).length (.slack 0)∧lookG l id=some (.row (i9 (mvG true f2 f3)) 38 0 0 true):=by
          rcases hNL with⟨_,h0⟩ | h0
          · exact absurd h0 (mv_ne _ _ _)
          · exact h0
         ((try simp only [aP,SS,TF3FN,kcall,setRange,repl,isNextM,eConvert,eField,eSlice,eBuild,eBuildSlice,Nat.reduceLT,Nat.reduceEqDiff,Nat.reduceAdd,Nat.reduceMul,Nat.reduceSub,Nat.reduceLeDiff,Nat.reduceBEq,reduceCtorEq,wpL_cons,wpL_nil,w4,g0]);(repeat' ((first|apply aE|apply aD|apply aG|apply aF|apply aB|apply aA)<;>intro h<;>simp only [h,SS,TF3FN,kcall,setRange,repl,isNextM,eConvert,eField,eSlice,eBuild,eBuildSlice,Nat.reduceLT,Nat.reduceEqDiff,Nat.reduceAdd,Nat.reduceMul,Nat.reduceSub,Nat.reduceLeDiff,Nat.reduceBEq,reduceCtorEq,wpL_cons,wpL_nil,w4,g0])))
         refine Top.view (View.trans (View.fz (sz:=5) (len:=(mvG true f2 f3).length) (fl2:=[(21,.ptr 4 0),(20,.int .i64 ((1:Nat):Int)),(6,.ptr 3 0),(4,.ptr 2 0),(3,.ptr 1 0),(2,.bool false),(1,.ptr 0 0)]) (l2:=[((4:Nat),some (cT.row [.str [66,66,66,66],.str [87],.bool false,.lsl (aH (mvG true f2 f3))] 35 0 0 false)),(3,some (.row [.str [66,66,66,66],.str [87],.bool false,.lsl (aH (mvG false f2 f3))] 35 0 0 false)),(2,some (.row [.bool true,.bool false,.bool f2,.bool f3] 29 0 0 false)),(1,some (.row [.int .i64 s.inn,.int .i64 (h:Nat),.int .i64 s.outs,.int .i64 0,.int .i64 s.strikes,.int .i64 s.b1,.int .i64 s.b2,.int .i64 s.b3,.int .i64 s.n0,.int .i64 s.n1,.int .i64 s.c0,.int .i64 s.c1,.bool false] 28 0 0 false)),(0,some (.row [.int .i64 s.inn,.int .i64 (h:Nat),.int .i64 s.outs,.int .i64 s.balls,.int .i64 s.strikes,.int .i64 s.b1,.int .i64 s.b2,.int .i64 s.b3,.int .i64 s.n0,.int .i64 s.n1,.int .i64 s.c0,.int .i64 s.c1,.bool false] 25 0 0 false))]) (k2:=[]) (e:=38) (lo:=0) (hi:=0) (sl:=true) id (by omega) lk (gU hMb) (movesF_length _) ?_ ?_ (by simp)) (View.drop (A:=none) (N:=5) (fl2:=[(21,.ptr 4 0),(20,.int .i64 ((1:Nat):Int)),(6,.ptr 3 0),(4,.ptr 2 0),(3,.ptr 1 0),(2,.bool false),(1,.ptr 0 0)]) (l2:=[((4:Nat),some (cT.row [.str [66,66,66,66],.str [87],.bool false,.lsl (aH (mvG true f2 f3))] 35 0 0 false)),(3,some (.row [.str [66,66,66,66],.str [87],.bool false,.lsl (aH (mvG false f2 f3))] 35 0 0 false)),(2,some (.row [.bool true,.bool false,.bool f2,.bool f3] 29 0 0 false)),(1,some (.row [.int .i64 s.inn,.int .i64 (h:Nat),.int .i64 s.outs,.int .i64 0,.int .i64 s.strikes,.int .i64 s.b1,.int .i64 s.b2,.int .i64 s.b3,.int .i64 s.n0,.int .i64 s.n1,.int .i64 s.c0,.int .i64 s.c1,.bool false] 28 0 0 false)),(0,some (.row [.int .i64 s.inn,.int .i64 (h:Nat),.int .i64 s.outs,.int .i64 s.balls,.int .i64 s.strikes,.int .i64 s.b1,.int .i64 s.b2,.int .i64 s.b3,.int .i64 s.n0,.int .i64 s.n1,.int .i64 s.c0,.int .i64 s.c1,.bool false] 25 0 0 false))]) (k2:=[]) (by simp [look,below]) (by simp [lookG,belowO,below,a9]) (by simp))) (aO noNG _ _ _ _ ?_)
         · intro q hq
           simp only [List.mem_cons,List.not_mem_nil,or_false]at hq
           rcases hq with rfl|rfl|rfl|rfl|rfl|rfl|rfl<;>exact⟨by simp,_,by simp [look],.inl rfl⟩
         · intro q hq
           simp only [List.mem_cons,List.not_mem_nil,or_false]at hq
           rcases hq with rfl|rfl|rfl|rfl|rfl
           · exact⟨by simp,by show 4≠id;omega,_,rfl,.inr ⟨_,_,_,_,_,_,l4,rfl,by rw [dX];exact⟨.inl rfl,.inl rfl,.inl rfl,.inr ⟨.slack 0,rfl,rfl,rfl⟩,trivial⟩⟩⟩
           · exact⟨by simp,by show 3≠id;omega,_,rfl,.inl l3⟩
           · exact⟨by simp,by show 2≠id;omega,_,rfl,.inl l2⟩
           · exact⟨by simp,by show 1≠id;omega,_,rfl,.inl l1⟩
           · exact⟨by simp,by show 0≠id;omega,_,rfl,.inl l0⟩
         ((try simp only [aP,SS,TF3FN,kcall,setRange,repl,isNextM,eConvert,eField,eSlice,eBuild,eBuildSlice,Nat.reduceLT,Nat.reduceEqDiff,Nat.reduceAdd,Nat.reduceMul,Nat.reduceSub,Nat.reduceLeDiff,Nat.reduceBEq,reduceCtorEq,h32g,q2]);(repeat' ((first|apply aE|apply aD|apply aG|apply aF|apply aB|apply aA)<;>intro h<;>simp only [h,SS,TF3FN,kcall,setRange,repl,isNextM,eConvert,eField,eSlice,eBuild,eBuildSlice,Nat.reduceLT,Nat.reduceEqDiff,Nat.reduceAdd,Nat.reduceMul,Nat.reduceSub,Nat.reduceLeDiff,Nat.reduceBEq,reduceCtorEq,h32g,q2])))
         refine aO noNG _ _ _ _ ?_
         ((try simp only [aP,SS,TF3FN,kcall,setRange,repl,isNextM,eConvert,eField,eSlice,eBuild,eBuildSlice,Nat.reduceLT,Nat.reduceEqDiff,Nat.reduceAdd,Nat.reduceMul,Nat.reduceSub,Nat.reduceLeDiff,Nat.reduceBEq,reduceCtorEq,g6]);(repeat' ((first|apply aE|apply aD|apply aG|apply aF|apply aB|apply aA)<;>intro h<;>simp only [h,SS,TF3FN,kcall,setRange,repl,isNextM,eConvert,eField,eSlice,eBuild,eBuildSlice,Nat.reduceLT,Nat.reduceEqDiff,Nat.reduceAdd,Nat.reduceMul,Nat.reduceSub,Nat.reduceLeDiff,Nat.reduceBEq,reduceCtorEq,g6])))
         exact⟨⟨1+1,by omega,by omega⟩,by show 4-(1+1)<4-1;omega,View.drop (by simp [look,below]) (by simp [lookG,belowO,below,a9]) (by simp)⟩
       have hN0:N<16000:=by omega
       obtain⟨o1,o2,o3,o4⟩:=oF hNL
       obtain⟨j,hj⟩:∃j,j=3-n:=⟨_,rfl⟩
       have j4:j<4:=by omega
       have w0:frB n=(j:Int):=by
        have:n=0∨n=1∨n=2∨n=3:=by omega
        rcases this with rfl|rfl|rfl|rfl<;>subst hj<;>rfl
       have wj:IntKind.i64.wrap ((j:Int)+1)=(j:Int)+1:=by rw [dP]<;>omega
       have wj2:IntKind.i64.wrap ((j:Int)-1)=frB (n+1):=by
        have:n=0∨n=1∨n=2∨n=3:=by omega
        rcases this with rfl|rfl|rfl|rfl<;>subst hj<;>decide
       have bj:((j:Int)<((4:Nat):Int))=True:=by simp only [eq_iff_iff,iff_true];omega
       have lj:([.bool true,.bool false,.bool f2,.bool f3]:List EVal)[j]? = some (.bool (fphi false f2 f3 j)):=by
        have:j=0∨j=1∨j=2∨j=3:=by omega
        rcases this with rfl|rfl|rfl|rfl<;>rfl
       have hup:up (fphi true f2 f3) (n+1)=up (fphi true f2 f3) n++(if fphi true f2 f3 j=true then [⟨(j:Int),(j:Int)+1,false,[97],[]⟩]else []):=by rw [hj];rfl
       have hul:=aqh (fphi true f2 f3) n
       have hgj:fphi true f2 f3 j=(fphi false f2 f3 j||decide (j=1)):=by
        have:j=0∨j=1∨j=2∨j=3:=by omega
        rcases this with rfl|rfl|rfl|rfl<;>simp [fphi]
       cases hfl:fphi true f2 f3 j with
       | true=>
         rw [hfl]at hup
         rw [if_pos rfl]at hup
         obtain⟨v2,l',hap,S2,F2⟩:=jY (a:=(j:Int)) (b:=(j:Int)+1) hNL (by omega) (by omega) (by omega)
         obtain⟨p1,p2,p3,p4⟩:=oF S2
         have l42:lookG l' 4=some (.row [.str [66,66,66,66],.str [87],.bool false,v] 35 0 0 false):=(F2 4 (by omega)).trans l4
         cases hfj:fphi false f2 f3 j with
         | true=>
           rw [hfj]at lj
           ((try simp only [aP,SS,TF3FN,kcall,setRange,repl,isNextM,eConvert,eField,eSlice,eBuild,eBuildSlice,Nat.reduceLT,Nat.reduceEqDiff,Nat.reduceAdd,Nat.reduceMul,Nat.reduceSub,Nat.reduceLeDiff,Nat.reduceBEq,reduceCtorEq,w0,bj,lj,l2,l4,hN0,o1,o2,o3,o4,p1,p2,p3,p4,m0,u3,wj,wj2,↓hap,l42]);(repeat' ((first|apply aE|apply aD|apply aG|apply aF|apply aB|apply aA)<;>intro h<;>simp only [h,SS,TF3FN,kcall,setRange,repl,isNextM,eConvert,eField,eSlice,eBuild,eBuildSlice,Nat.reduceLT,Nat.reduceEqDiff,Nat.reduceAdd,Nat.reduceMul,Nat.reduceSub,Nat.reduceLeDiff,Nat.reduceBEq,reduceCtorEq,w0,bj,lj,l2,l4,hN0,o1,o2,o3,o4,p1,p2,p3,p4,m0,u3,wj,wj2,↓hap,l42])))
           refine⟨⟨(n+1,N+1+1,v2,_),by show n+1≤4;omega,by show 5≤N+1+1;omega,by show N+1+1≤5+2*(n+1);omega,by rw [hup];exact rV (j:=4) (by omega) S2,by simp only [lookG,if_true],?_,?_,?_,?_⟩,by show 4-(n+1)<4-n;omega,View.sub (by simp [look])⟩
           · rw [lookG.eq_2,if_neg (by omega)];exact(F2 3 (by omega)).trans l3
           · rw [lookG.eq_2,if_neg (by omega)];exact(F2 2 (by omega)).trans l2
           · rw [lookG.eq_2,if_neg (by omega)];exact(F2 1 (by omega)).trans l1
           · rw [lookG.eq_2,if_neg (by omega)];exact(F2 0 (by omega)).trans l0
         | false=>
           rw [hfj]at lj
           have hjc:j=1:=by rw [hgj,hfj]at hfl;simpa using hfl
           have qj:((j:Int)==((1:Nat):Int))=true:=by simp [hjc]
           ((try simp only [aP,SS,TF3FN,kcall,setRange,repl,isNextM,eConvert,eField,eSlice,eBuild,eBuildSlice,Nat.reduceLT,Nat.reduceEqDiff,Nat.reduceAdd,Nat.reduceMul,Nat.reduceSub,Nat.reduceLeDiff,Nat.reduceBEq,reduceCtorEq,w0,bj,lj,l2,l4,qj,hN0,o1,o2,o3,o4,p1,p2,p3,p4,m0,u3,wj,wj2,↓hap,l42]);(repeat' ((first|apply aE|apply aD|apply aG|apply aF|apply aB|apply aA)<;>intro h<;>simp only [h,SS,TF3FN,kcall,setRange,repl,isNextM,eConvert,eField,eSlice,eBuild,eBuildSlice,Nat.reduceLT,Nat.reduceEqDiff,Nat.reduceAdd,Nat.reduceMul,Nat.reduceSub,Nat.reduceLeDiff,Nat.reduceBEq,reduceCtorEq,w0,bj,lj,l2,l4,qj,hN0,o1,o2,o3,o4,p1,p2,p3,p4,m0,u3,wj,wj2,↓hap,l42])))
           refine⟨⟨(n+1,N+1+1,v2,_),by show n+1≤4;omega,by show 5≤N+1+1;omega,by show N+1+1≤5+2*(n+1);omega,by rw [hup];exact rV (j:=4) (by omega) S2,by simp only [lookG,if_true],?_,?_,?_,?_⟩,by show 4-(n+1)<4-n;omega,View.sub (by simp [look])⟩
           · rw [lookG.eq_2,if_neg (by omega)];exact(F2 3 (by omega)).trans l3
           · rw [lookG.eq_2,if_neg (by omega)];exact(F2 2 (by omega)).trans l2
           · rw [lookG.eq_2,if_neg (by omega)];exact(F2 1 (by omega)).trans l1
           · rw [lookG.eq_2,if_neg (by omega)];exact(F2 0 (by omega)).trans l0
       | false=>
         rw [hfl]at hup
         rw [if_neg (by decide),List.append_nil]at hup
         rw [hgj,Bool.or_eq_false_iff]at hfl
         obtain⟨hfj,hjc⟩:=hfl
         rw [hfj]at lj
         have qj:((j:Int)==((1:Nat):Int))=false:=by
          have:j≠1:=by simpa using hjc
          simp;omega
         ((try simp only [aP,SS,TF3FN,kcall,setRange,repl,isNextM,eConvert,eField,eSlice,eBuild,eBuildSlice,Nat.reduceLT,Nat.reduceEqDiff,Nat.reduceAdd,Nat.reduceMul,Nat.reduceSub,Nat.reduceLeDiff,Nat.reduceBEq,reduceCtorEq,w0,bj,lj,l2,l4,qj,hN0,m0,wj2]);(repeat' ((first|apply aE|apply aD|apply aG|apply aF|apply aB|apply aA)<;>intro h<;>simp only [h,SS,TF3FN,kcall,setRange,repl,isNextM,eConvert,eField,eSlice,eBuild,eBuildSlice,Nat.reduceLT,Nat.reduceEqDiff,Nat.reduceAdd,Nat.reduceMul,Nat.reduceSub,Nat.reduceLeDiff,Nat.reduceBEq,reduceCtorEq,w0,bj,lj,l2,l4,qj,hN0,m0,wj2])))
         exact⟨⟨(n+1,N,v,l),by show n+1≤4;omega,n1,by show N≤5+2*(n+1);omega,by rw [hup];exact hNL,l4,l3,l2,l1,l0⟩,by show 4-(n+1)<4-n;omega,View.sub (by simp [look])⟩
     · have g4:decide (((2:Nat):Int)<4)=true:=by decide
       have g5:IntKind.i64.wrap (((2:Nat):Int)-1)=((1:Nat):Int):=by decide
       have g6:IntKind.i64.wrap (((2:Nat):Int)+1)=((2+1:Nat):Int):=by decide
       have g7:(((2:Nat):Int)<((4:Nat):Int))=True:=by simp
       have g8:(((1:Nat):Int)<((3:Nat):Int))=True:=by simp
       have g9:((0:Int)<((3:Nat):Int))=True:=by simp
       ((try simp only [aP,SS,TF3FN,kcall,setRange,repl,isNextM,eConvert,eField,eSlice,eBuild,eBuildSlice,Nat.reduceLT,Nat.reduceEqDiff,Nat.reduceAdd,Nat.reduceMul,Nat.reduceSub,Nat.reduceLeDiff,Nat.reduceBEq,reduceCtorEq,wpL_cons,wpL_nil,g4]);(repeat' ((first|apply aE|apply aD|apply aG|apply aF|apply aB|apply aA)<;>intro h<;>simp only [h,SS,TF3FN,kcall,setRange,repl,isNextM,eConvert,eField,eSlice,eBuild,eBuildSlice,Nat.reduceLT,Nat.reduceEqDiff,Nat.reduceAdd,Nat.reduceMul,Nat.reduceSub,Nat.reduceLeDiff,Nat.reduceBEq,reduceCtorEq,wpL_cons,wpL_nil,g4])))
       refine Top.seq (Top.block (Top.pre noNG [_,_,_] ?_))
       cases f2 with
       | true=>
         ((try simp only [aP,SS,TF3FN,kcall,setRange,repl,isNextM,eConvert,eField,eSlice,eBuild,eBuildSlice,Nat.reduceLT,Nat.reduceEqDiff,Nat.reduceAdd,Nat.reduceMul,Nat.reduceSub,Nat.reduceLeDiff,Nat.reduceBEq,reduceCtorEq,wpL_cons,wpL_nil,g7]);(repeat' ((first|apply aE|apply aD|apply aG|apply aF|apply aB|apply aA)<;>intro h<;>simp only [h,SS,TF3FN,kcall,setRange,repl,isNextM,eConvert,eField,eSlice,eBuild,eBuildSlice,Nat.reduceLT,Nat.reduceEqDiff,Nat.reduceAdd,Nat.reduceMul,Nat.reduceSub,Nat.reduceLeDiff,Nat.reduceBEq,reduceCtorEq,wpL_cons,wpL_nil,g7])))
         refine aO noNG _ _ _ _ ?_
         ((try simp only [aP,SS,TF3FN,kcall,setRange,repl,isNextM,eConvert,eField,eSlice,eBuild,eBuildSlice,Nat.reduceLT,Nat.reduceEqDiff,Nat.reduceAdd,Nat.reduceMul,Nat.reduceSub,Nat.reduceLeDiff,Nat.reduceBEq,reduceCtorEq,g6]);(repeat' ((first|apply aE|apply aD|apply aG|apply aF|apply aB|apply aA)<;>intro h<;>simp only [h,SS,TF3FN,kcall,setRange,repl,isNextM,eConvert,eField,eSlice,eBuild,eBuildSlice,Nat.reduceLT,Nat.reduceEqDiff,Nat.reduceAdd,Nat.reduceMul,Nat.reduceSub,Nat.reduceLeDiff,Nat.reduceBEq,reduceCtorEq,g6])))
         exact⟨⟨2+1,by omega,by omega⟩,by show 4-(2+1)<4-2;omega,View.drop (by simp [look,below]) (by simp [lookG,belowO,below,a9]) (by simp)⟩
       | false=>
       by_cases hb0:s.b2=0
       · have q7:(s.b2==0)=true:=by simp [hb0]
         ((try simp only [aP,SS,TF3FN,kcall,setRange,repl,isNextM,eConvert,eField,eSlice,eBuild,eBuildSlice,Nat.reduceLT,Nat.reduceEqDiff,Nat.reduceAdd,Nat.reduceMul,Nat.reduceSub,Nat.reduceLeDiff,Nat.reduceBEq,reduceCtorEq,wpL_cons,wpL_nil,g5,g7,g8,g9,q7]);(repeat' ((first|apply aE|apply aD|apply aG|apply aF|apply aB|apply aA)<;>intro h<;>simp only [h,SS,TF3FN,kcall,setRange,repl,isNextM,eConvert,eField,eSlice,eBuild,eBuildSlice,Nat.reduceLT,Nat.reduceEqDiff,Nat.reduceAdd,Nat.reduceMul,Nat.reduceSub,Nat.reduceLeDiff,Nat.reduceBEq,reduceCtorEq,wpL_cons,wpL_nil,g5,g7,g8,g9,q7])))
         refine aO noNG _ _ _ _ ?_
         ((try simp only [aP,SS,TF3FN,kcall,setRange,repl,isNextM,eConvert,eField,eSlice,eBuild,eBuildSlice,Nat.reduceLT,Nat.reduceEqDiff,Nat.reduceAdd,Nat.reduceMul,Nat.reduceSub,Nat.reduceLeDiff,Nat.reduceBEq,reduceCtorEq,g6]);(repeat' ((first|apply aE|apply aD|apply aG|apply aF|apply aB|apply aA)<;>intro h<;>simp only [h,SS,TF3FN,kcall,setRange,repl,isNextM,eConvert,eField,eSlice,eBuild,eBuildSlice,Nat.reduceLT,Nat.reduceEqDiff,Nat.reduceAdd,Nat.reduceMul,Nat.reduceSub,Nat.reduceLeDiff,Nat.reduceBEq,reduceCtorEq,g6])))
         exact⟨⟨2+1,by omega,by omega⟩,by show 4-(2+1)<4-2;omega,View.drop (by simp [look,below]) (by simp [lookG,belowO,below,a9]) (by simp)⟩
       have q7:(s.b2==0)=false:=by simp [hb0]
       obtain⟨wokg,wcpg,_,wmeg⟩:=zC f1 true f3
       obtain⟨eg1,eg2⟩:=zD (s:=x0 s) (g1:=f1) (g2:=true) (g3:=f3) hx hxv hxb (by exact fun e=>(fz_b (s:=x0 s)).1 (hf1.symm.trans e)) (by intro _;exact q7) (by exact fun e=>(fz_b (s:=x0 s)).2.2 (hf3.symm.trans e)) (by exact .inr (.inl ⟨rfl,hf2.symm⟩))
       have h32g:=e32 (s:=x0 s) wokg
       rw [show apS (x0 s) (wkP f1 true f3)=zSt by unfold apS;rw [if_pos (by rw [eg1];decide)],show apN (x0 s) (wkP f1 true f3)=8 by unfold apN;rw [if_pos (by rw [eg1];decide),eg2],eg1,show ajt (wkP f1 true f3)=[.str [66,66,66,66],.str [87],.bool false,.lsl (aH (mvG f1 true f3))]from rfl,hxs]at h32g
       simp only [eSt]at h32g
       ((try simp only [aP,SS,TF3FN,kcall,setRange,repl,isNextM,eConvert,eField,eSlice,eBuild,eBuildSlice,Nat.reduceLT,Nat.reduceEqDiff,Nat.reduceAdd,Nat.reduceMul,Nat.reduceSub,Nat.reduceLeDiff,Nat.reduceBEq,reduceCtorEq,wpL_cons,wpL_nil,g5,g7,g8,g9,q7]);(repeat' ((first|apply aE|apply aD|apply aG|apply aF|apply aB|apply aA)<;>intro h<;>simp only [h,SS,TF3FN,kcall,setRange,repl,isNextM,eConvert,eField,eSlice,eBuild,eBuildSlice,Nat.reduceLT,Nat.reduceEqDiff,Nat.reduceAdd,Nat.reduceMul,Nat.reduceSub,Nat.reduceLeDiff,Nat.reduceBEq,reduceCtorEq,wpL_cons,wpL_nil,g5,g7,g8,g9,q7])))
       simp only [u1,u2]
       refine fV (Top.loop (I:=fun q:{ q:Nat×Nat×EVal×List (Nat×Option cT) // q.1≤4∧5≤q.2.1∧q.2.1≤5+2*q.1∧NL 4 q.2.2.1 (up (fphi f1 true f3) q.1) q.2.1 q.2.2.2∧lookG q.2.2.2 4=some (.row [.str [66,66,66,66],.str [87],.bool false,q.2.2.1] 35 0 0 false)∧lookG q.2.2.2 3=some (.row [.str [66,66,66,66],.str [87],.bool false,.lsl (aH (mvG f1 false f3))] 35 0 0 false)∧lookG q.2.2.2 2=some (.row [.bool true,.bool f1,.bool false,.bool f3] 29 0 0 false)∧lookG q.2.2.2 1=some (.row [.int .i64 s.inn,.int .i64 (h:Nat),.int .i64 s.outs,.int .i64 0,.int .i64 s.strikes,.int .i64 s.b1,.int .i64 s.b2,.int .i64 s.b3,.int .i64 s.n0,.int .i64 s.n1,.int .i64 s.c0,.int .i64 s.c1,.bool false] 28 0 0 false)∧lookG q.2.2.2 0=some (.row [.int .i64 s.inn,.int .i64 (h:Nat),.int .i64 s.outs,.int .i64 s.balls,.int .i64 s.strikes,.int .i64 s.b1,.int .i64 s.b2,.int .i64 s.b3,.int .i64 s.n0,.int .i64 s.n1,.int .i64 s.c0,.int .i64 s.c1,.bool false] 25 0 0 false) }=>
        (mkF 225 [(22,.int .i64 (frB q.1.1)),(21,.ptr 4 0),(20,.int .i64 ((2:Nat):Int)),(6,.ptr 3 0),(4,.ptr 2 0),(3,.ptr 1 0),(2,.bool false),(1,.ptr 0 0)],mkH q.1.2.1 q.1.2.2.2 0 [])) (μ:=fun q=>4-q.1.1) ⟨(0,5,.nilslice,_),by simp,by simp,by simp,.inl ⟨rfl,rfl⟩,by simp [lookG],by simp [lookG],by simp [lookG],by simp [lookG],by simp [lookG]⟩ (View.sub (by simp [look,up,frB])) ?_)
       rintro⟨⟨n,N,v,l⟩,hn,n1,n2,hNL,l4,l3,l2,l1,l0⟩
       dsimp only at hn n1 n2 hNL l4 l3 l2 l1 l0
       refine aO noNG _ _ _ _ ?_
       dsimp only
       by_cases hlt:n<4
       rotate_left
       · obtain rfl:n=4:=by omega
         have w4:frB 4=-1:=rfl
         have g0:decide ((0:Int)≤-1)=false:=by decide
         have hM:up (fphi f1 true f3) 4=mvG f1 true f3:=up4 rfl
         rw [hM]at hNL
         have hMb:∀m∈mvG f1 true f3,m.b=[]:=by rw [←hM];exact up_b _ _
         obtain⟨id,i1,i2,rfl,lk⟩:∃id,4<id∧id<N∧v=.slice id 0 (mvG f1 true f3).length (.slack 0)∧lookG l id=some (.row (i9 (mvG f1 true f3)) 38 0 0 true):=by
          rcases hNL with⟨_,h0⟩ | h0
          · exact absurd h0 (mv_ne _ _ _)
          · exact h0
         ((try simp only [aP,SS,TF3FN,kcall,setRange,repl,isNextM,eConvert,eField,eSlice,eBuild,eBuildSlice,Nat.reduceLT,Nat.reduceEqDiff,Nat.reduceAdd,Nat.reduceMul,Nat.reduceSub,Nat.reduceLeDiff,Nat.reduceBEq,reduceCtorEq,wpL_cons,wpL_nil,w4,g0]);(repeat' ((first|apply aE|apply aD|apply aG|apply aF|apply aB|apply aA)<;>intro h<;>simp only [h,SS,TF3FN,kcall,setRange,repl,isNextM,eConvert,eField,eSlice,eBuild,eBuildSlice,Nat.reduceLT,Nat.reduceEqDiff,Nat.reduceAdd,Nat.reduceMul,Nat.reduceSub,Nat.reduceLeDiff,Nat.reduceBEq,reduceCtorEq,wpL_cons,wpL_nil,w4,g0])))
         refine Top.view (View.trans (View.fz (sz:=5) (len:=(mvG f1 true f3).length) (fl2:=[(21,.ptr 4 0),(20,.int .i64 ((2:Nat):Int)),(6,.ptr 3 0),(4,.ptr 2 0),(3,.ptr 1 0),(2,.bool false),(1,.ptr 0 0)]) (l2:=[((4:Nat),some (cT.row [.str [66,66,66,66],.str [87],.bool false,.lsl (aH (mvG f1 true f3))] 35 0 0 false)),(3,some (.row [.str [66,66,66,66],.str [87],.bool false,.lsl (aH (mvG f1 false f3))] 35 0 0 false)),(2,some (.row [.bool true,.bool f1,.bool false,.bool f3] 29 0 0 false)),(1,some (.row [.int .i64 s.inn,.int .i64 (h:Nat),.int .i64 s.outs,.int .i64 0,.int .i64 s.strikes,.int .i64 s.b1,.int .i64 s.b2,.int .i64 s.b3,.int .i64 s.n0,.int .i64 s.n1,.int .i64 s.c0,.int .i64 s.c1,.bool false] 28 0 0 false)),(0,some (.row [.int .i64 s.inn,.int .i64 (h:Nat),.int .i64 s.outs,.int .i64 s.balls,.int .i64 s.strikes,.int .i64 s.b1,.int .i64 s.b2,.int .i64 s.b3,.int .i64 s.n0,.int .i64 s.n1,.int .i64 s.c0,.int .i64 s.c1,.bool false] 25 0 0 false))]) (k2:=[]) (e:=38) (lo:=0) (hi:=0) (sl:=true) id (by omega) lk (gU hMb) (movesF_length _) ?_ ?_ (by simp)) (View.drop (A:=none) (N:=5) (fl2:=[(21,.ptr 4 0),(20,.int .i64 ((2:Nat):Int)),(6,.ptr 3 0),(4,.ptr 2 0),(3,.ptr 1 0),(2,.bool false),(1,.ptr 0 0)]) (l2:=[((4:Nat),some (cT.row [.str [66,66,66,66],.str [87],.bool false,.lsl (aH (mvG f1 true f3))] 35 0 0 false)),(3,some (.row [.str [66,66,66,66],.str [87],.bool false,.lsl (aH (mvG f1 false f3))] 35 0 0 false)),(2,some (.row [.bool true,.bool f1,.bool false,.bool f3] 29 0 0 false)),(1,some (.row [.int .i64 s.inn,.int .i64 (h:Nat),.int .i64 s.outs,.int .i64 0,.int .i64 s.strikes,.int .i64 s.b1,.int .i64 s.b2,.int .i64 s.b3,.int .i64 s.n0,.int .i64 s.n1,.int .i64 s.c0,.int .i64 s.c1,.bool false] 28 0 0 false)),(0,some (.row [.int .i64 s.inn,.int .i64 (h:Nat),.int .i64 s.outs,.int .i64 s.balls,.int .i64 s.strikes,.int .i64 s.b1,.int .i64 s.b2,.int .i64 s.b3,.int .i64 s.n0,.int .i64 s.n1,.int .i64 s.c0,.int .i64 s.c1,.bool false] 25 0 0 false))]) (k2:=[]) (by simp [look,below]) (by simp [lookG,belowO,below,a9]) (by simp))) (aO noNG _ _ _ _ ?_)
         · intro q hq
           simp only [List.mem_cons,List.not_mem_nil,or_false]at hq
           rcases hq with rfl|rfl|rfl|rfl|rfl|rfl|rfl<;>exact⟨by simp,_,by simp [look],.inl rfl⟩
         · intro q hq
           simp only [List.mem_cons,List.not_mem_nil,or_false]at hq
           rcases hq with rfl|rfl|rfl|rfl|rfl
           · exact⟨by simp,by show 4≠id;omega,_,rfl,.inr ⟨_,_,_,_,_,_,l4,rfl,by rw [dX];exact⟨.inl rfl,.inl rfl,.inl rfl,.inr ⟨.slack 0,rfl,rfl,rfl⟩,trivial⟩⟩⟩
           · exact⟨by simp,by show 3≠id;omega,_,rfl,.inl l3⟩
           · exact⟨by simp,by show 2≠id;omega,_,rfl,.inl l2⟩
           · exact⟨by simp,by show 1≠id;omega,_,rfl,.inl l1⟩
           · exact⟨by simp,by show 0≠id;omega,_,rfl,.inl l0⟩
         ((try simp only [aP,SS,TF3FN,kcall,setRange,repl,isNextM,eConvert,eField,eSlice,eBuild,eBuildSlice,Nat.reduceLT,Nat.reduceEqDiff,Nat.reduceAdd,Nat.reduceMul,Nat.reduceSub,Nat.reduceLeDiff,Nat.reduceBEq,reduceCtorEq,h32g,q2]);(repeat' ((first|apply aE|apply aD|apply aG|apply aF|apply aB|apply aA)<;>intro h<;>simp only [h,SS,TF3FN,kcall,setRange,repl,isNextM,eConvert,eField,eSlice,eBuild,eBuildSlice,Nat.reduceLT,Nat.reduceEqDiff,Nat.reduceAdd,Nat.reduceMul,Nat.reduceSub,Nat.reduceLeDiff,Nat.reduceBEq,reduceCtorEq,h32g,q2])))
         refine aO noNG _ _ _ _ ?_
         ((try simp only [aP,SS,TF3FN,kcall,setRange,repl,isNextM,eConvert,eField,eSlice,eBuild,eBuildSlice,Nat.reduceLT,Nat.reduceEqDiff,Nat.reduceAdd,Nat.reduceMul,Nat.reduceSub,Nat.reduceLeDiff,Nat.reduceBEq,reduceCtorEq,g6]);(repeat' ((first|apply aE|apply aD|apply aG|apply aF|apply aB|apply aA)<;>intro h<;>simp only [h,SS,TF3FN,kcall,setRange,repl,isNextM,eConvert,eField,eSlice,eBuild,eBuildSlice,Nat.reduceLT,Nat.reduceEqDiff,Nat.reduceAdd,Nat.reduceMul,Nat.reduceSub,Nat.reduceLeDiff,Nat.reduceBEq,reduceCtorEq,g6])))
         exact⟨⟨2+1,by omega,by omega⟩,by show 4-(2+1)<4-2;omega,View.drop (by simp [look,below]) (by simp [lookG,belowO,below,a9]) (by simp)⟩
       have hN0:N<16000:=by omega
       obtain⟨o1,o2,o3,o4⟩:=oF hNL
       obtain⟨j,hj⟩:∃j,j=3-n:=⟨_,rfl⟩
       have j4:j<4:=by omega
       have w0:frB n=(j:Int):=by
        have:n=0∨n=1∨n=2∨n=3:=by omega
        rcases this with rfl|rfl|rfl|rfl<;>subst hj<;>rfl
       have wj:IntKind.i64.wrap ((j:Int)+1)=(j:Int)+1:=by rw [dP]<;>omega
       have wj2:IntKind.i64.wrap ((j:Int)-1)=frB (n+1):=by
        have:n=0∨n=1∨n=2∨n=3:=by omega
        rcases this with rfl|rfl|rfl|rfl<;>subst hj<;>decide
       have bj:((j:Int)<((4:Nat):Int))=True:=by simp only [eq_iff_iff,iff_true];omega
       have lj:([.bool true,.bool f1,.bool false,.bool f3]:List EVal)[j]? = some (.bool (fphi f1 false f3 j)):=by
        have:j=0∨j=1∨j=2∨j=3:=by omega
        rcases this with rfl|rfl|rfl|rfl<;>rfl
       have hup:up (fphi f1 true f3) (n+1)=up (fphi f1 true f3) n++(if fphi f1 true f3 j=true then [⟨(j:Int),(j:Int)+1,false,[97],[]⟩]else []):=by rw [hj];rfl
       have hul:=aqh (fphi f1 true f3) n
       have hgj:fphi f1 true f3 j=(fphi f1 false f3 j||decide (j=2)):=by
        have:j=0∨j=1∨j=2∨j=3:=by omega
        rcases this with rfl|rfl|rfl|rfl<;>simp [fphi]
       cases hfl:fphi f1 true f3 j with
       | true=>
         rw [hfl]at hup
         rw [if_pos rfl]at hup
         obtain⟨v2,l',hap,S2,F2⟩:=jY (a:=(j:Int)) (b:=(j:Int)+1) hNL (by omega) (by omega) (by omega)
         obtain⟨p1,p2,p3,p4⟩:=oF S2
         have l42:lookG l' 4=some (.row [.str [66,66,66,66],.str [87],.bool false,v] 35 0 0 false):=(F2 4 (by omega)).trans l4
         cases hfj:fphi f1 false f3 j with
         | true=>
           rw [hfj]at lj
           ((try simp only [aP,SS,TF3FN,kcall,setRange,repl,isNextM,eConvert,eField,eSlice,eBuild,eBuildSlice,Nat.reduceLT,Nat.reduceEqDiff,Nat.reduceAdd,Nat.reduceMul,Nat.reduceSub,Nat.reduceLeDiff,Nat.reduceBEq,reduceCtorEq,w0,bj,lj,l2,l4,hN0,o1,o2,o3,o4,p1,p2,p3,p4,m0,u3,wj,wj2,↓hap,l42]);(repeat' ((first|apply aE|apply aD|apply aG|apply aF|apply aB|apply aA)<;>intro h<;>simp only [h,SS,TF3FN,kcall,setRange,repl,isNextM,eConvert,eField,eSlice,eBuild,eBuildSlice,Nat.reduceLT,Nat.reduceEqDiff,Nat.reduceAdd,Nat.reduceMul,Nat.reduceSub,Nat.reduceLeDiff,Nat.reduceBEq,reduceCtorEq,w0,bj,lj,l2,l4,hN0,o1,o2,o3,o4,p1,p2,p3,p4,m0,u3,wj,wj2,↓hap,l42])))
           refine⟨⟨(n+1,N+1+1,v2,_),by show n+1≤4;omega,by show 5≤N+1+1;omega,by show N+1+1≤5+2*(n+1);omega,by rw [hup];exact rV (j:=4) (by omega) S2,by simp only [lookG,if_true],?_,?_,?_,?_⟩,by show 4-(n+1)<4-n;omega,View.sub (by simp [look])⟩
           · rw [lookG.eq_2,if_neg (by omega)];exact(F2 3 (by omega)).trans l3
           · rw [lookG.eq_2,if_neg (by omega)];exact(F2 2 (by omega)).trans l2
           · rw [lookG.eq_2,if_neg (by omega)];exact(F2 1 (by omega)).trans l1
           · rw [lookG.eq_2,if_neg (by omega)];exact(F2 0 (by omega)).trans l0
         | false=>
           rw [hfj]at lj
           have hjc:j=2:=by rw [hgj,hfj]at hfl;simpa using hfl
           have qj:((j:Int)==((2:Nat):Int))=true:=by simp [hjc]
           ((try simp only [aP,SS,TF3FN,kcall,setRange,repl,isNextM,eConvert,eField,eSlice,eBuild,eBuildSlice,Nat.reduceLT,Nat.reduceEqDiff,Nat.reduceAdd,Nat.reduceMul,Nat.reduceSub,Nat.reduceLeDiff,Nat.reduceBEq,reduceCtorEq,w0,bj,lj,l2,l4,qj,hN0,o1,o2,o3,o4,p1,p2,p3,p4,m0,u3,wj,wj2,↓hap,l42]);(repeat' ((first|apply aE|apply aD|apply aG|apply aF|apply aB|apply aA)<;>intro h<;>simp only [h,SS,TF3FN,kcall,setRange,repl,isNextM,eConvert,eField,eSlice,eBuild,eBuildSlice,Nat.reduceLT,Nat.reduceEqDiff,Nat.reduceAdd,Nat.reduceMul,Nat.reduceSub,Nat.reduceLeDiff,Nat.reduceBEq,reduceCtorEq,w0,bj,lj,l2,l4,qj,hN0,o1,o2,o3,o4,p1,p2,p3,p4,m0,u3,wj,wj2,↓hap,l42])))
           refine⟨⟨(n+1,N+1+1,v2,_),by show n+1≤4;omega,by show 5≤N+1+1;omega,by show N+1+1≤5+2*(n+1);omega,by rw [hup];exact rV (j:=4) (by omega) S2,by simp only [lookG,if_true],?_,?_,?_,?_⟩,by show 4-(n+1)<4-n;omega,View.sub (by simp [look])⟩
           · rw [lookG.eq_2,if_neg (by omega)];exact(F2 3 (by omega)).trans l3
           · rw [lookG.eq_2,if_neg (by omega)];exact(F2 2 (by omega)).trans l2
           · rw [lookG.eq_2,if_neg (by omega)];exact(F2 1 (by omega)).trans l1
           · rw [lookG.eq_2,if_neg (by omega)];exact(F2 0 (by omega)).trans l0
       | false=>
         rw [hfl]at hup
         rw [if_neg (by decide),List.append_nil]at hup
         rw [hgj,Bool.or_eq_false_iff]at hfl
         obtain⟨hfj,hjc⟩:=hfl
         rw [hfj]at lj
         have qj:((j:Int)==((2:Nat):Int))=false:=by
          have:j≠2:=by simpa using hjc
          simp;omega
         ((try simp only [aP,SS,TF3FN,kcall,setRange,repl,isNextM,eConvert,eField,eSlice,eBuild,eBuildSlice,Nat.reduceLT,Nat.reduceEqDiff,Nat.reduceAdd,Nat.reduceMul,Nat.reduceSub,Nat.reduceLeDiff,Nat.reduceBEq,reduceCtorEq,w0,bj,lj,l2,l4,qj,hN0,m0,wj2]);(repeat' ((first|apply aE|apply aD|apply aG|apply aF|apply aB|apply aA)<;>intro h<;>simp only [h,SS,TF3FN,kcall,setRange,repl,isNextM,eConvert,eField,eSlice,eBuild,eBuildSlice,Nat.reduceLT,Nat.reduceEqDiff,Nat.reduceAdd,Nat.reduceMul,Nat.reduceSub,Nat.reduceLeDiff,Nat.reduceBEq,reduceCtorEq,w0,bj,lj,l2,l4,qj,hN0,m0,wj2])))
         exact⟨⟨(n+1,N,v,l),by show n+1≤4;omega,n1,by show N≤5+2*(n+1);omega,by rw [hup];exact hNL,l4,l3,l2,l1,l0⟩,by show 4-(n+1)<4-n;omega,View.sub (by simp [look])⟩
     · have g4:decide (((3:Nat):Int)<4)=true:=by decide
       have g5:IntKind.i64.wrap (((3:Nat):Int)-1)=((2:Nat):Int):=by decide
       have g6:IntKind.i64.wrap (((3:Nat):Int)+1)=((3+1:Nat):Int):=by decide
       have g7:(((3:Nat):Int)<((4:Nat):Int))=True:=by simp
       have g8:(((2:Nat):Int)<((3:Nat):Int))=True:=by simp
       have g9:((0:Int)<((3:Nat):Int))=True:=by simp
       ((try simp only [aP,SS,TF3FN,kcall,setRange,repl,isNextM,eConvert,eField,eSlice,eBuild,eBuildSlice,Nat.reduceLT,Nat.reduceEqDiff,Nat.reduceAdd,Nat.reduceMul,Nat.reduceSub,Nat.reduceLeDiff,Nat.reduceBEq,reduceCtorEq,wpL_cons,wpL_nil,g4]);(repeat' ((first|apply aE|apply aD|apply aG|apply aF|apply aB|apply aA)<;>intro h<;>simp only [h,SS,TF3FN,kcall,setRange,repl,isNextM,eConvert,eField,eSlice,eBuild,eBuildSlice,Nat.reduceLT,Nat.reduceEqDiff,Nat.reduceAdd,Nat.reduceMul,Nat.reduceSub,Nat.reduceLeDiff,Nat.reduceBEq,reduceCtorEq,wpL_cons,wpL_nil,g4])))
       refine Top.seq (Top.block (Top.pre noNG [_,_,_] ?_))
       cases f3 with
       | true=>
         ((try simp only [aP,SS,TF3FN,kcall,setRange,repl,isNextM,eConvert,eField,eSlice,eBuild,eBuildSlice,Nat.reduceLT,Nat.reduceEqDiff,Nat.reduceAdd,Nat.reduceMul,Nat.reduceSub,Nat.reduceLeDiff,Nat.reduceBEq,reduceCtorEq,wpL_cons,wpL_nil,g7]);(repeat' ((first|apply aE|apply aD|apply aG|apply aF|apply aB|apply aA)<;>intro h<;>simp only [h,SS,TF3FN,kcall,setRange,repl,isNextM,eConvert,eField,eSlice,eBuild,eBuildSlice,Nat.reduceLT,Nat.reduceEqDiff,Nat.reduceAdd,Nat.reduceMul,Nat.reduceSub,Nat.reduceLeDiff,Nat.reduceBEq,reduceCtorEq,wpL_cons,wpL_nil,g7])))
         refine aO noNG _ _ _ _ ?_
         ((try simp only [aP,SS,TF3FN,kcall,setRange,repl,isNextM,eConvert,eField,eSlice,eBuild,eBuildSlice,Nat.reduceLT,Nat.reduceEqDiff,Nat.reduceAdd,Nat.reduceMul,Nat.reduceSub,Nat.reduceLeDiff,Nat.reduceBEq,reduceCtorEq,g6]);(repeat' ((first|apply aE|apply aD|apply aG|apply aF|apply aB|apply aA)<;>intro h<;>simp only [h,SS,TF3FN,kcall,setRange,repl,isNextM,eConvert,eField,eSlice,eBuild,eBuildSlice,Nat.reduceLT,Nat.reduceEqDiff,Nat.reduceAdd,Nat.reduceMul,Nat.reduceSub,Nat.reduceLeDiff,Nat.reduceBEq,reduceCtorEq,g6])))
         exact⟨⟨3+1,by omega,by omega⟩,by show 4-(3+1)<4-3;omega,View.drop (by simp [look,below]) (by simp [lookG,belowO,below,a9]) (by simp)⟩
       | false=>
       by_cases hb0:s.b3=0
       · have q7:(s.b3==0)=true:=by simp [hb0]
         ((try simp only [aP,SS,TF3FN,kcall,setRange,repl,isNextM,eConvert,eField,eSlice,eBuild,eBuildSlice,Nat.reduceLT,Nat.reduceEqDiff,Nat.reduceAdd,Nat.reduceMul,Nat.reduceSub,Nat.reduceLeDiff,Nat.reduceBEq,reduceCtorEq,wpL_cons,wpL_nil,g5,g7,g8,g9,q7]);(repeat' ((first|apply aE|apply aD|apply aG|apply aF|apply aB|apply aA)<;>intro h<;>simp only [h,SS,TF3FN,kcall,setRange,repl,isNextM,eConvert,eField,eSlice,eBuild,eBuildSlice,Nat.reduceLT,Nat.reduceEqDiff,Nat.reduceAdd,Nat.reduceMul,Nat.reduceSub,Nat.reduceLeDiff,Nat.reduceBEq,reduceCtorEq,wpL_cons,wpL_nil,g5,g7,g8,g9,q7])))
         refine aO noNG _ _ _ _ ?_
         ((try simp only [aP,SS,TF3FN,kcall,setRange,repl,isNextM,eConvert,eField,eSlice,eBuild,eBuildSlice,Nat.reduceLT,Nat.reduceEqDiff,Nat.reduceAdd,Nat.reduceMul,Nat.reduceSub,Nat.reduceLeDiff,Nat.reduceBEq,reduceCtorEq,g6]);(repeat' ((first|apply aE|apply aD|apply aG|apply aF|apply aB|apply aA)<;>intro h<;>simp only [h,SS,TF3FN,kcall,setRange,repl,isNextM,eConvert,eField,eSlice,eBuild,eBuildSlice,Nat.reduceLT,Nat.reduceEqDiff,Nat.reduceAdd,Nat.reduceMul,Nat.reduceSub,Nat.reduceLeDiff,Nat.reduceBEq,reduceCtorEq,g6])))
         exact⟨⟨3+1,by omega,by omega⟩,by show 4-(3+1)<4-3;omega,View.drop (by simp [look,below]) (by simp [lookG,belowO,below,a9]) (by simp)⟩
       have q7:(s.b3==0)=false:=by simp [hb0]
       obtain⟨wokg,wcpg,_,wmeg⟩:=zC f1 f2 true
       obtain⟨eg1,eg2⟩:=zD (s:=x0 s) (g1:=f1) (g2:=f2) (g3:=true) hx hxv hxb (by exact fun e=>(fz_b (s:=x0 s)).1 (hf1.symm.trans e)) (by exact fun e=>(fz_b (s:=x0 s)).2.1 (hf2.symm.trans e)) (by intro _;exact q7) (by exact .inr (.inr ⟨rfl,hf3.symm⟩))
       have h32g:=e32 (s:=x0 s) wokg
       rw [show apS (x0 s) (wkP f1 f2 true)=zSt by unfold apS;rw [if_pos (by rw [eg1];decide)],show apN (x0 s) (wkP f1 f2 true)=8 by unfold apN;rw [if_pos (by rw [eg1];decide),eg2],eg1,show ajt (wkP f1 f2 true)=[.str [66,66,66,66],.str [87],.bool false,.lsl (aH (mvG f1 f2 true))]from rfl,hxs]at h32g
       simp only [eSt]at h32g
       ((try simp only [aP,SS,TF3FN,kcall,setRange,repl,isNextM,eConvert,eField,eSlice,eBuild,eBuildSlice,Nat.reduceLT,Nat.reduceEqDiff,Nat.reduceAdd,Nat.reduceMul,Nat.reduceSub,Nat.reduceLeDiff,Nat.reduceBEq,reduceCtorEq,wpL_cons,wpL_nil,g5,g7,g8,g9,q7]);(repeat' ((first|apply aE|apply aD|apply aG|apply aF|apply aB|apply aA)<;>intro h<;>simp only [h,SS,TF3FN,kcall,setRange,repl,isNextM,eConvert,eField,eSlice,eBuild,eBuildSlice,Nat.reduceLT,Nat.reduceEqDiff,Nat.reduceAdd,Nat.reduceMul,Nat.reduceSub,Nat.reduceLeDiff,Nat.reduceBEq,reduceCtorEq,wpL_cons,wpL_nil,g5,g7,g8,g9,q7])))
       simp only [u1,u2]
       refine fV (Top.loop (I:=fun q:{ q:Nat×Nat×EVal×List (Nat×Option cT) // q.1≤4∧5≤q.2.1∧q.2.1≤5+2*q.1∧NL 4 q.2.2.1 (up (fphi f1 f2 true) q.1) q.2.1 q.2.2.2∧lookG q.2.2.2 4=some (.row [.str [66,66,66,66],.str [87],.bool false,q.2.2.1] 35 0 0 false)∧lookG q.2.2.2 3=some (.row [.str [66,66,66,66],.str [87],.bool false,.lsl (aH (mvG f1 f2 false))] 35 0 0 false)∧lookG q.2.2.2 2=some (.row [.bool true,.bool f1,.bool f2,.bool false] 29 0 0 false)∧lookG q.2.2.2 1=some (.row [.int .i64 s.inn,.int .i64 (h:Nat),.int .i64 s.outs,.int .i64 0,.int .i64 s.strikes,.int .i64 s.b1,.int .i64 s.b2,.int .i64 s.b3,.int .i64 s.n0,.int .i64 s.n1,.int .i64 s.c0,.int .i64 s.c1,.bool false] 28 0 0 false)∧lookG q.2.2.2 0=some (.row [.int .i64 s.inn,.int .i64 (h:Nat),.int .i64 s.outs,.int .i64 s.balls,.int .i64 s.strikes,.int .i64 s.b1,.int .i64 s.b2,.int .i64 s.b3,.int .i64 s.n0,.int .i64 s.n1,.int .i64 s.c0,.int .i64 s.c1,.bool false] 25 0 0 false) }=>
        (mkF 225 [(22,.int .i64 (frB q.1.1)),(21,.ptr 4 0),(20,.int .i64 ((3:Nat):Int)),(6,.ptr 3 0),(4,.ptr 2 0),(3,.ptr 1 0),(2,.bool false),(1,.ptr 0 0)],mkH q.1.2.1 q.1.2.2.2 0 [])) (μ:=fun q=>4-q.1.1) ⟨(0,5,.nilslice,_),by simp,by simp,by simp,.inl ⟨rfl,rfl⟩,by simp [lookG],by simp [lookG],by simp [lookG],by simp [lookG],by simp [lookG]⟩ (View.sub (by simp [look,up,frB])) ?_)
       rintro⟨⟨n,N,v,l⟩,hn,n1,n2,hNL,l4,l3,l2,l1,l0⟩
       dsimp only at hn n1 n2 hNL l4 l3 l2 l1 l0
       refine aO noNG _ _ _ _ ?_
       dsimp only
       by_cases hlt:n<4
       rotate_left
       · obtain rfl:n=4:=by omega
         have w4:frB 4=-1:=rfl
         have g0:decide ((0:Int)≤-1)=false:=by decide
         have hM:up (fphi f1 f2 true) 4=mvG f1 f2 true:=up4 rfl
         rw [hM]at hNL
         have hMb:∀m∈mvG f1 f2 true,m.b=[]:=by rw [←hM];exact up_b _ _
         obtain⟨id,i1,i2,rfl,lk⟩:∃id,4<id∧id<N∧v=.slice id 0 (mvG f1 f2 true).length (.slack 0)∧lookG l id=some (.row (i9 (mvG f1 f2 true)) 38 0 0 true):=by
          rcases hNL with⟨_,h0⟩ | h0
          · exact absurd h0 (mv_ne _ _ _)
          · exact h0
         ((try simp only [aP,SS,TF3FN,kcall,setRange,repl,isNextM,eConvert,eField,eSlice,eBuild,eBuildSlice,Nat.reduceLT,Nat.reduceEqDiff,Nat.reduceAdd,Nat.reduceMul,Nat.reduceSub,Nat.reduceLeDiff,Nat.reduceBEq,reduceCtorEq,wpL_cons,wpL_nil,w4,g0]);(repeat' ((first|apply aE|apply aD|apply aG|apply aF|apply aB|apply aA)<;>intro h<;>simp only [h,SS,TF3FN,kcall,setRange,repl,isNextM,eConvert,eField,eSlice,eBuild,eBuildSlice,Nat.reduceLT,Nat.reduceEqDiff,Nat.reduceAdd,Nat.reduceMul,Nat.reduceSub,Nat.reduceLeDiff,Nat.reduceBEq,reduceCtorEq,wpL_cons,wpL_nil,w4,g0])))
         refine Top.view (View.trans (View.fz (sz:=5) (len:=(mvG f1 f2 true).length) (fl2:=[(21,.ptr 4 0),(20,.int .i64 ((3:Nat):Int)),(6,.ptr 3 0),(4,.ptr 2 0),(3,.ptr 1 0),(2,.bool false),(1,.ptr 0 0)]) (l2:=[((4:Nat),some (cT.row [.str [66,66,66,66],.str [87],.bool false,.lsl (aH (mvG f1 f2 true))] 35 0 0 false)),(3,some (.row [.str [66,66,66,66],.str [87],.bool false,.lsl (aH (mvG f1 f2 false))] 35 0 0 false)),(2,some (.row [.bool true,.bool f1,.bool f2,.bool false] 29 0 0 false)),(1,some (.row [.int .i64 s.inn,.int .i64 (h:Nat),.int .i64 s.outs,.int .i64 0,.int .i64 s.strikes,.int .i64 s.b1,.int .i64 s.b2,.int .i64 s.b3,.int .i64 s.n0,.int .i64 s.n1,.int .i64 s.c0,.int .i64 s.c1,.bool false] 28 0 0 false)),(0,some (.row [.int .i64 s.inn,.int .i64 (h:Nat),.int .i64 s.outs,.int .i64 s.balls,.int .i64 s.strikes,.int .i64 s.b1,.int .i64 s.b2,.int .i64 s.b3,.int .i64 s.n0,.int .i64 s.n1,.int .i64 s.c0,.int .i64 s.c1,.bool false] 25 0 0 false))]) (k2:=[]) (e:=38) (lo:=0) (hi:=0) (sl:=true) id (by omega) lk (gU hMb) (movesF_length _) ?_ ?_ (by simp)) (View.drop (A:=none) (N:=5) (fl2:=[(21,.ptr 4 0),(20,.int .i64 ((3:Nat):Int)),(6,.ptr 3 0),(4,.ptr 2 0),(3,.ptr 1 0),(2,.bool false),(1,.ptr 0 0)]) (l2:=[((4:Nat),some (cT.row [.str [66,66,66,66],.str [87],.bool false,.lsl (aH (mvG f1 f2 true))] 35 0 0 false)),(3,some (.row [.str [66,66,66,66],.str [87],.bool false,.lsl (aH (mvG f1 f2 false))] 35 0 0 false)),(2,some (.row [.bool true,.bool f1,.bool f2,.bool false] 29 0 0 false)),(1,some (.row [.int .i64 s.inn,.int .i64 (h:Nat),.int .i64 s.outs,.int .i64 0,.int .i64 s.strikes,.int .i64 s.b1,.int .i64 s.b2,.int .i64 s.b3,.int .i64 s.n0,.int .i64 s.n1,.int .i64 s.c0,.int .i64 s.c1,.bool false] 28 0 0 false)),(0,some (.row [.int .i64 s.inn,.int .i64 (h:Nat),.int .i64 s.outs,.int .i64 s.balls,.int .i64 s.strikes,.int .i64 s.b1,.int .i64 s.b2,.int .i64 s.b3,.int .i64 s.n0,.int .i64 s.n1,.int .i64 s.c0,.int .i64 s.c1,.bool false] 25 0 0 false))]) (k2:=[]) (by simp [look,below]) (by simp [lookG,belowO,below,a9]) (by simp))) (aO noNG _ _ _ _ ?_)
         · intro q hq
           simp only [List.mem_cons,List.not_mem_nil,or_false]at hq
           rcases hq with rfl|rfl|rfl|rfl|rfl|rfl|rfl<;>exact⟨by simp,_,by simp [look],.inl rfl⟩
         · intro q hq
           simp only [List.mem_cons,List.not_mem_nil,or_false]at hq
           rcases hq with rfl|rfl|rfl|rfl|rfl
           · exact⟨by simp,by show 4≠id;omega,_,rfl,.inr ⟨_,_,_,_,_,_,l4,rfl,by rw [dX];exact⟨.inl rfl,.inl rfl,.inl rfl,.inr ⟨.slack 0,rfl,rfl,rfl⟩,trivial⟩⟩⟩
           · exact⟨by simp,by show 3≠id;omega,_,rfl,.inl l3⟩
           · exact⟨by simp,by show 2≠id;omega,_,rfl,.inl l2⟩
           · exact⟨by simp,by show 1≠id;omega,_,rfl,.inl l1⟩
           · exact⟨by simp,by show 0≠id;omega,_,rfl,.inl l0⟩
         ((try simp only [aP,SS,TF3FN,kcall,setRange,repl,isNextM,eConvert,eField,eSlice,eBuild,eBuildSlice,Nat.reduceLT,Nat.reduceEqDiff,Nat.reduceAdd,Nat.reduceMul,Nat.reduceSub,Nat.reduceLeDiff,Nat.reduceBEq,reduceCtorEq,h32g,q2]);(repeat' ((first|apply aE|apply aD|apply aG|apply aF|apply aB|apply aA)<;>intro h<;>simp only [h,SS,TF3FN,kcall,setRange,repl,isNextM,eConvert,eField,eSlice,eBuild,eBuildSlice,Nat.reduceLT,Nat.reduceEqDiff,Nat.reduceAdd,Nat.reduceMul,Nat.reduceSub,Nat.reduceLeDiff,Nat.reduceBEq,reduceCtorEq,h32g,q2])))
         refine aO noNG _ _ _ _ ?_
         ((try simp only [aP,SS,TF3FN,kcall,setRange,repl,isNextM,eConvert,eField,eSlice,eBuild,eBuildSlice,Nat.reduceLT,Nat.reduceEqDiff,Nat.reduceAdd,Nat.reduceMul,Nat.reduceSub,Nat.reduceLeDiff,Nat.reduceBEq,reduceCtorEq,g6]);(repeat' ((first|apply aE|apply aD|apply aG|apply aF|apply aB|apply aA)<;>intro h<;>simp only [h,SS,TF3FN,kcall,setRange,repl,isNextM,eConvert,eField,eSlice,eBuild,eBuildSlice,Nat.reduceLT,Nat.reduceEqDiff,Nat.reduceAdd,Nat.reduceMul,Nat.reduceSub,Nat.reduceLeDiff,Nat.reduceBEq,reduceCtorEq,g6])))
         exact⟨⟨3+1,by omega,by omega⟩,by show 4-(3+1)<4-3;omega,View.drop (by simp [look,below]) (by simp [lookG,belowO,below,a9]) (by simp)⟩
       have hN0:N<16000:=by omega
       obtain⟨o1,o2,o3,o4⟩:=oF hNL
       obtain⟨j,hj⟩:∃j,j=3-n:=⟨_,rfl⟩
       have j4:j<4:=by omega
       have w0:frB n=(j:Int):=by
        have:n=0∨n=1∨n=2∨n=3:=by omega
        rcases this with rfl|rfl|rfl|rfl<;>subst hj<;>rfl
       have wj:IntKind.i64.wrap ((j:Int)+1)=(j:Int)+1:=by rw [dP]<;>omega
       have wj2:IntKind.i64.wrap ((j:Int)-1)=frB (n+1):=by
        have:n=0∨n=1∨n=2∨n=3:=by omega
        rcases this with rfl|rfl|rfl|rfl<;>subst hj<;>decide
       have bj:((j:Int)<((4:Nat):Int))=True:=by simp only [eq_iff_iff,iff_true];omega
       have lj:([.bool true,.bool f1,.bool f2,.bool false]:List EVal)[j]? = some (.bool (fphi f1 f2 false j)):=by
        have:j=0∨j=1∨j=2∨j=3:=by omega
        rcases this with rfl|rfl|rfl|rfl<;>rfl
       have hup:up (fphi f1 f2 true) (n+1)=up (fphi f1 f2 true) n++(if fphi f1 f2 true j=true then [⟨(j:Int),(j:Int)+1,false,[97],[]⟩]else []):=by rw [hj];rfl
       have hul:=aqh (fphi f1 f2 true) n
       have hgj:fphi f1 f2 true j=(fphi f1 f2 false j||decide (j=3)):=by
        have:j=0∨j=1∨j=2∨j=3:=by omega
        rcases this with rfl|rfl|rfl|rfl<;>simp [fphi]
       cases hfl:fphi f1 f2 true j with
       | true=>
         rw [hfl]at hup
         rw [if_pos rfl]at hup
         obtain⟨v2,l',hap,S2,F2⟩:=jY (a:=(j:Int)) (b:=(j:Int)+1) hNL (by omega) (by omega) (by omega)
         obtain⟨p1,p2,p3,p4⟩:=oF S2
         have l42:lookG l' 4=some (.row [.str [66,66,66,66],.str [87],.bool false,v] 35 0 0 false):=(F2 4 (by omega)).trans l4
         cases hfj:fphi f1 f2 false j with
         | true=>
           rw [hfj]at lj
           ((try simp only [aP,SS,TF3FN,kcall,setRange,repl,isNextM,eConvert,eField,eSlice,eBuild,eBuildSlice,Nat.reduceLT,Nat.reduceEqDiff,Nat.reduceAdd,Nat.reduceMul,Nat.reduceSub,Nat.reduceLeDiff,Nat.reduceBEq,reduceCtorEq,w0,bj,lj,l2,l4,hN0,o1,o2,o3,o4,p1,p2,p3,p4,m0,u3,wj,wj2,↓hap,l42]);(repeat' ((first|apply aE|apply aD|apply aG|apply aF|apply aB|apply aA)<;>intro h<;>simp only [h,SS,TF3FN,kcall,setRange,repl,isNextM,eConvert,eField,eSlice,eBuild,eBuildSlice,Nat.reduceLT,Nat.reduceEqDiff,Nat.reduceAdd,Nat.reduceMul,Nat.reduceSub,Nat.reduceLeDiff,Nat.reduceBEq,reduceCtorEq,w0,bj,lj,l2,l4,hN0,o1,o2,o3,o4,p1,p2,p3,p4,m0,u3,wj,wj2,↓hap,l42])))
           refine⟨⟨(n+1,N+1+1,v2,_),by show n+1≤4;omega,by show 5≤N+1+1;omega,by show N+1+1≤5+2*(n+1);omega,by rw [hup];exact rV (j:=4) (by omega) S2,by simp only [lookG,if_true],?_,?_,?_,?_⟩,by show 4-(n+1)<4-n;omega,View.sub (by simp [look])⟩
           · rw [lookG.eq_2,if_neg (by omega)];exact(F2 3 (by omega)).trans l3
           · rw [lookG.eq_2,if_neg (by omega)];exact(F2 2 (by omega)).trans l2
           · rw [lookG.eq_2,if_neg (by omega)];exact(F2 1 (by omega)).trans l1
           · rw [lookG.eq_2,if_neg (by omega)];exact(F2 0 (by omega)).trans l0
         | false=>
           rw [hfj]at lj
           have hjc:j=3:=by rw [hgj,hfj]at hfl;simpa using hfl
           have qj:((j:Int)==((3:Nat):Int))=true:=by simp [hjc]
           ((try simp only [aP,SS,TF3FN,kcall,setRange,repl,isNextM,eConvert,eField,eSlice,eBuild,eBuildSlice,Nat.reduceLT,Nat.reduceEqDiff,Nat.reduceAdd,Nat.reduceMul,Nat.reduceSub,Nat.reduceLeDiff,Nat.reduceBEq,reduceCtorEq,w0,bj,lj,l2,l4,qj,hN0,o1,o2,o3,o4,p1,p2,p3,p4,m0,u3,wj,wj2,↓hap,l42]);(repeat' ((first|apply aE|apply aD|apply aG|apply aF|apply aB|apply aA)<;>intro h<;>simp only [h,SS,TF3FN,kcall,setRange,repl,isNextM,eConvert,eField,eSlice,eBuild,eBuildSlice,Nat.reduceLT,Nat.reduceEqDiff,Nat.reduceAdd,Nat.reduceMul,Nat.reduceSub,Nat.reduceLeDiff,Nat.reduceBEq,reduceCtorEq,w0,bj,lj,l2,l4,qj,hN0,o1,o2,o3,o4,p1,p2,p3,p4,m0,u3,wj,wj2,↓hap,l42])))
           refine⟨⟨(n+1,N+1+1,v2,_),by show n+1≤4;omega,by show 5≤N+1+1;omega,by show N+1+1≤5+2*(n+1);omega,by rw [hup];exact rV (j:=4) (by omega) S2,by simp only [lookG,if_true],?_,?_,?_,?_⟩,by show 4-(n+1)<4-n;omega,View.sub (by simp [look])⟩
           · rw [lookG.eq_2,if_neg (by omega)];exact(F2 3 (by omega)).trans l3
           · rw [lookG.eq_2,if_neg (by omega)];exact(F2 2 (by omega)).trans l2
           · rw [lookG.eq_2,if_neg (by omega)];exact(F2 1 (by omega)).trans l1
           · rw [lookG.eq_2,if_neg (by omega)];exact(F2 0 (by omega)).trans l0
       | false=>
         rw [hfl]at hup
         rw [if_neg (by decide),List.append_nil]at hup
         rw [hgj,Bool.or_eq_false_iff]at hfl
         obtain⟨hfj,hjc⟩:=hfl
         rw [hfj]at lj
         have qj:((j:Int)==((3:Nat):Int))=false:=by
          have:j≠3:=by simpa using hjc
          simp;omega
         ((try simp only [aP,SS,TF3FN,kcall,setRange,repl,isNextM,eConvert,eField,eSlice,eBuild,eBuildSlice,Nat.reduceLT,Nat.reduceEqDiff,Nat.reduceAdd,Nat.reduceMul,Nat.reduceSub,Nat.reduceLeDiff,Nat.reduceBEq,reduceCtorEq,w0,bj,lj,l2,l4,qj,hN0,m0,wj2]);(repeat' ((first|apply aE|apply aD|apply aG|apply aF|apply aB|apply aA)<;>intro h<;>simp only [h,SS,TF3FN,kcall,setRange,repl,isNextM,eConvert,eField,eSlice,eBuild,eBuildSlice,Nat.reduceLT,Nat.reduceEqDiff,Nat.reduceAdd,Nat.reduceMul,Nat.reduceSub,Nat.reduceLeDiff,Nat.reduceBEq,reduceCtorEq,w0,bj,lj,l2,l4,qj,hN0,m0,wj2])))
         exact⟨⟨(n+1,N,v,l),by show n+1≤4;omega,n1,by show N≤5+2*(n+1);omega,by rw [hup];exact hNL,l4,l3,l2,l1,l0⟩,by show 4-(n+1)<4-n;omega,View.sub (by simp [look])⟩
   obtain⟨m,hm⟩:∃m,(mvG f1 f2 f3)[i]? = some m:=⟨(mvG f1 f2 f3)[i],List.getElem?_eq_getElem hil⟩
   have q5:decide ((i:Int)<((mvG f1 f2 f3).length:Int))=true:=by simp;omega
   have q6:IntKind.i64.wrap ((i:Int)+1)=((i+1:Nat):Int):=by rw [pH]<;>omega
   have bi:((i:Int)<((mvG f1 f2 f3).length:Int))=True:=by simp only [eq_iff_iff,iff_true];omega
   have ri:(aH (mvG f1 f2 f3))[i]? = some [.int .i64 m.f,.int .i64 m.t,.bool m.o,.str m.h,.lsl (oK m.b)]:=by rw [avC,hm];rfl
   ((try simp only [aP,SS,TF3FN,kcall,setRange,repl,isNextM,eConvert,eField,eSlice,eBuild,eBuildSlice,Nat.reduceLT,Nat.reduceEqDiff,Nat.reduceAdd,Nat.reduceMul,Nat.reduceSub,Nat.reduceLeDiff,Nat.reduceBEq,reduceCtorEq,wpL_cons,wpL_nil,q5]);(repeat' ((first|apply aE|apply aD|apply aG|apply aF|apply aB|apply aA)<;>intro h<;>simp only [h,SS,TF3FN,kcall,setRange,repl,isNextM,eConvert,eField,eSlice,eBuild,eBuildSlice,Nat.reduceLT,Nat.reduceEqDiff,Nat.reduceAdd,Nat.reduceMul,Nat.reduceSub,Nat.reduceLeDiff,Nat.reduceBEq,reduceCtorEq,wpL_cons,wpL_nil,q5])))
   refine Top.seq (Top.block (Top.pre noNG [_,_,_,_] ?_))
   by_cases h0:m.f=0
   · have q7:(m.f==0)=true:=by simp [h0]
     ((try simp only [aP,SS,TF3FN,kcall,setRange,repl,isNextM,eConvert,eField,eSlice,eBuild,eBuildSlice,Nat.reduceLT,Nat.reduceEqDiff,Nat.reduceAdd,Nat.reduceMul,Nat.reduceSub,Nat.reduceLeDiff,Nat.reduceBEq,reduceCtorEq,wpL_cons,wpL_nil,moves_len,bi,ri,q7]);(repeat' ((first|apply aE|apply aD|apply aG|apply aF|apply aB|apply aA)<;>intro h<;>simp only [h,SS,TF3FN,kcall,setRange,repl,isNextM,eConvert,eField,eSlice,eBuild,eBuildSlice,Nat.reduceLT,Nat.reduceEqDiff,Nat.reduceAdd,Nat.reduceMul,Nat.reduceSub,Nat.reduceLeDiff,Nat.reduceBEq,reduceCtorEq,wpL_cons,wpL_nil,moves_len,bi,ri,q7])))
     refine aO noNG _ _ _ _ ?_
     ((try simp only [aP,SS,TF3FN,kcall,setRange,repl,isNextM,eConvert,eField,eSlice,eBuild,eBuildSlice,Nat.reduceLT,Nat.reduceEqDiff,Nat.reduceAdd,Nat.reduceMul,Nat.reduceSub,Nat.reduceLeDiff,Nat.reduceBEq,reduceCtorEq,q6]);(repeat' ((first|apply aE|apply aD|apply aG|apply aF|apply aB|apply aA)<;>intro h<;>simp only [h,SS,TF3FN,kcall,setRange,repl,isNextM,eConvert,eField,eSlice,eBuild,eBuildSlice,Nat.reduceLT,Nat.reduceEqDiff,Nat.reduceAdd,Nat.reduceMul,Nat.reduceSub,Nat.reduceLeDiff,Nat.reduceBEq,reduceCtorEq,q6])))
     exact⟨⟨i+1,hil⟩,by show(mvG f1 f2 f3).length-(i+1)<(mvG f1 f2 f3).length-i;omega,View.drop (by simp [look,below]) (by simp [lookG,belowO,below,a9]) (by simp)⟩
   have q7:(m.f==0)=false:=by simp [h0]
   obtain⟨g1',g2',g3',hg,hg1,hg2,hg3,hgn,hlast⟩:=mv_less hm h0
   have hlen':(mvG g1' g2' g3').length=(mvG f1 f2 f3).length-1:=by
    rw [←hg,List.length_append,List.length_take,List.length_drop];omega
   obtain⟨wokg,wcpg,_,wmeg⟩:=zC g1' g2' g3'
   obtain⟨eg1,eg2⟩:=wk_less (s:=x0 s) (g1:=g1') (g2:=g2') (g3:=g3') hx hxv hxb (by rw [←hf1];exact hg1) (by rw [←hf2];exact hg2) (by rw [←hf3];exact hg3) (by rw [←hf1,←hf2,←hf3];exact hgn)
   have h32g:=e32 (s:=x0 s) wokg
   rw [show apS (x0 s) (wkP g1' g2' g3')=zSt by unfold apS;rw [if_pos (by rw [eg1];decide)],show apN (x0 s) (wkP g1' g2' g3')=10 by unfold apN;rw [if_pos (by rw [eg1];decide),eg2],eg1,show ajt (wkP g1' g2' g3')=[.str [66,66,66,66],.str [87],.bool false,.lsl (aH (mvG g1' g2' g3'))]from rfl,hxs]at h32g
   ((try simp only [aP,SS,TF3FN,kcall,setRange,repl,isNextM,eConvert,eField,eSlice,eBuild,eBuildSlice,Nat.reduceLT,Nat.reduceEqDiff,Nat.reduceAdd,Nat.reduceMul,Nat.reduceSub,Nat.reduceLeDiff,Nat.reduceBEq,reduceCtorEq,wpL_cons,wpL_nil,moves_len,bi,ri,q7,h33]);(repeat' ((first|apply aE|apply aD|apply aG|apply aF|apply aB|apply aA)<;>intro h<;>simp only [h,SS,TF3FN,kcall,setRange,repl,isNextM,eConvert,eField,eSlice,eBuild,eBuildSlice,Nat.reduceLT,Nat.reduceEqDiff,Nat.reduceAdd,Nat.reduceMul,Nat.reduceSub,Nat.reduceLeDiff,Nat.reduceBEq,reduceCtorEq,wpL_cons,wpL_nil,moves_len,bi,ri,q7,h33])))
   refine fW (Top.drawM [] [(2,13),(7,13)] mixed noNG (fun _ h=>by cases h) (by kernel_rfl) (by kernel_rfl) ?_)
   have ble:((i:Int)≤((mvG f1 f2 f3).length:Int))=True:=by simp only [eq_iff_iff,iff_true];omega
   have ble1:(((i+1:Nat):Int)≤((mvG f1 f2 f3).length:Int))=True:=by simp only [eq_iff_iff,iff_true];omega
   have ltk:((mvG f1 f2 f3).take i).length=i:=by rw [List.length_take];omega
   have ldr:((mvG f1 f2 f3).drop (i+1)).length=(mvG f1 f2 f3).length-(i+1):=by rw [List.length_drop]
   have ks:∀a b c d,(EVal.slice a b c d).kept=false:=fun _ _ _ _=>rfl
   rcases Nat.eq_zero_or_pos i with hi0|hi0
   · subst hi0
     have lens0:aZ 5 []=true:=rfl
     have w01:IntKind.i64.wrap ((0:Int)+1)=1:=by decide
     have ble2:((1:Int)≤((mvG f1 f2 f3).length:Int))=True:=by simp only [eq_iff_iff,iff_true];omega
     have ld1:((mvG f1 f2 f3).drop 1).length=(mvG f1 f2 f3).length-1:=by rw [List.length_drop]
     have gz:((mvG f1 f2 f3).length-1≤0)=False:=by simp only [eq_iff_iff,iff_false];omega
     have gw:decide (64*((mvG f1 f2 f3).length-1)≤1000000)=true:=by simp;omega
     have hd1:(mvG f1 f2 f3).drop 1=mvG g1' g2' g3':=by rw [←hg];rfl
     ((try simp only [aP,SS,TF3FN,kcall,setRange,repl,isNextM,eConvert,eField,eSlice,eBuild,eBuildSlice,Nat.reduceLT,Nat.reduceEqDiff,Nat.reduceAdd,Nat.reduceMul,Nat.reduceSub,Nat.reduceLeDiff,Nat.reduceBEq,reduceCtorEq,WS,WM,↓kcall_miss,List.take_length,moves_len,moves_take,moves_drop,lens_moves,lens0,ble,ble1,ble2,c1,k1,ltk,ldr,ld1,gz,gw,ks,w01,q6,m0,allOne_moves,movesF_length]);(repeat' ((first|apply aE|apply aD|apply aG|apply aF|apply aB|apply aA)<;>intro h<;>simp only [h,SS,TF3FN,kcall,setRange,repl,isNextM,eConvert,eField,eSlice,eBuild,eBuildSlice,Nat.reduceLT,Nat.reduceEqDiff,Nat.reduceAdd,Nat.reduceMul,Nat.reduceSub,Nat.reduceLeDiff,Nat.reduceBEq,reduceCtorEq,WS,WM,↓kcall_miss,List.take_length,moves_len,moves_take,moves_drop,lens_moves,lens0,ble,ble1,ble2,c1,k1,ltk,ldr,ld1,gz,gw,ks,w01,q6,m0,allOne_moves,movesF_length])))
     refine⟨by kernel_rfl,?_⟩
     ((try simp only [aP,SS,TF3FN,kcall,setRange,repl,isNextM,eConvert,eField,eSlice,eBuild,eBuildSlice,Nat.reduceLT,Nat.reduceEqDiff,Nat.reduceAdd,Nat.reduceMul,Nat.reduceSub,Nat.reduceLeDiff,Nat.reduceBEq,reduceCtorEq,wpL_cons,wpL_nil]);(repeat' ((first|apply aE|apply aD|apply aG|apply aF|apply aB|apply aA)<;>intro h<;>simp only [h,SS,TF3FN,kcall,setRange,repl,isNextM,eConvert,eField,eSlice,eBuild,eBuildSlice,Nat.reduceLT,Nat.reduceEqDiff,Nat.reduceAdd,Nat.reduceMul,Nat.reduceSub,Nat.reduceLeDiff,Nat.reduceBEq,reduceCtorEq,wpL_cons,wpL_nil])))
     refine Top.view (View.fz (sz:=5) (len:=(mvG g1' g2' g3').length) (fl2:=[(16,.ptr 5 0),(137,.int .i64 ((0:Nat):Nat)),(136,.int .i64 ((mvG f1 f2 f3).length:Nat)),(135,.lsl (aH (mvG f1 f2 f3))),(6,.ptr 3 0),(4,.ptr 2 0),(3,.ptr 1 0),(2,.bool false),(1,.ptr 0 0)]) (l2:=[((5:Nat),some (cT.row [.str [66,66,66,66],.str [87],.bool false,.lsl (aH (mvG g1' g2' g3'))] 35 0 0 false)),(3,some (.row [.str [66,66,66,66],.str [87],.bool false,.lsl (aH (mvG f1 f2 f3))] 35 0 0 false)),(2,some (.row [.bool true,.bool f1,.bool f2,.bool f3] 29 0 0 false)),(1,some (.row [.int .i64 s.inn,.int .i64 (h:Nat),.int .i64 s.outs,.int .i64 0,.int .i64 s.strikes,.int .i64 s.b1,.int .i64 s.b2,.int .i64 s.b3,.int .i64 s.n0,.int .i64 s.n1,.int .i64 s.c0,.int .i64 s.c1,.bool false] 28 0 0 false)),(0,some (.row [.int .i64 s.inn,.int .i64 (h:Nat),.int .i64 s.outs,.int .i64 s.balls,.int .i64 s.strikes,.int .i64 s.b1,.int .i64 s.b2,.int .i64 s.b3,.int .i64 s.n0,.int .i64 s.n1,.int .i64 s.c0,.int .i64 s.c1,.bool false] 25 0 0 false))]) (k2:=[]) (e:=38) (lo:=0) (hi:=0) (sl:=true) 7 (by omega) (by simp [lookG,hd1]) (qE (mvG g1' g2' g3')) (movesF_length _) ?_ ?_ (by simp)) (aO noNG _ _ _ _ ?_)
     · intro q hq
       simp only [List.mem_cons,List.not_mem_nil,or_false]at hq
       rcases hq with rfl|rfl|rfl|rfl|rfl|rfl|rfl|rfl|rfl<;>exact⟨by simp,_,by simp [look],.inl rfl⟩
     · intro q hq
       simp only [List.mem_cons,List.not_mem_nil,or_false]at hq
       rcases hq with rfl|rfl|rfl|rfl|rfl
       · exact⟨by simp,by simp,_,rfl,.inr ⟨_,_,_,_,_,_,rfl,rfl,by rw [dX];exact⟨.inl rfl,.inl rfl,.inl rfl,.inr ⟨.slack 0,by rw [hlen'],rfl,rfl⟩,trivial⟩⟩⟩
       · exact⟨by simp,by simp,_,rfl,.inl rfl⟩
       · exact⟨by simp,by simp,_,rfl,.inl rfl⟩
       · exact⟨by simp,by simp,_,rfl,.inl rfl⟩
       · exact⟨by simp,by simp,_,rfl,.inl rfl⟩
     simp only [eSt]at h32g
     ((try simp only [aP,SS,TF3FN,kcall,setRange,repl,isNextM,eConvert,eField,eSlice,eBuild,eBuildSlice,Nat.reduceLT,Nat.reduceEqDiff,Nat.reduceAdd,Nat.reduceMul,Nat.reduceSub,Nat.reduceLeDiff,Nat.reduceBEq,reduceCtorEq,h32g,q2]);(repeat' ((first|apply aE|apply aD|apply aG|apply aF|apply aB|apply aA)<;>intro h<;>simp only [h,SS,TF3FN,kcall,setRange,repl,isNextM,eConvert,eField,eSlice,eBuild,eBuildSlice,Nat.reduceLT,Nat.reduceEqDiff,Nat.reduceAdd,Nat.reduceMul,Nat.reduceSub,Nat.reduceLeDiff,Nat.reduceBEq,reduceCtorEq,h32g,q2])))
     refine aO noNG _ _ _ _ ?_
     ((try simp only [aP,SS,TF3FN,kcall,setRange,repl,isNextM,eConvert,eField,eSlice,eBuild,eBuildSlice,Nat.reduceLT,Nat.reduceEqDiff,Nat.reduceAdd,Nat.reduceMul,Nat.reduceSub,Nat.reduceLeDiff,Nat.reduceBEq,reduceCtorEq,w01,q6]);(repeat' ((first|apply aE|apply aD|apply aG|apply aF|apply aB|apply aA)<;>intro h<;>simp only [h,SS,TF3FN,kcall,setRange,repl,isNextM,eConvert,eField,eSlice,eBuild,eBuildSlice,Nat.reduceLT,Nat.reduceEqDiff,Nat.reduceAdd,Nat.reduceMul,Nat.reduceSub,Nat.reduceLeDiff,Nat.reduceBEq,reduceCtorEq,w01,q6])))
     exact⟨⟨0+1,hil⟩,by show(mvG f1 f2 f3).length-(0+1)<(mvG f1 f2 f3).length-0;omega,View.drop (by simp [look,below]) (by simp [lookG,belowO,below,a9]) (by simp)⟩
   · have gi:(i≤0)=False:=by simp only [eq_iff_iff,iff_false];omega
     have gz:((mvG f1 f2 f3).length-(i+1)=0)=False:=by simp only [eq_iff_iff,iff_false];omega
     have gw:decide (64*i≤1000000)=true:=by simp;omega
     have gw2:decide (64*(i+((mvG f1 f2 f3).length-(i+1)))≤1000000)=true:=by simp;omega
     have gs:((i+((mvG f1 f2 f3).length-(i+1)))*5≤i*5)=False:=by simp only [eq_iff_iff,iff_false];omega
     have hflat:(aH ((mvG f1 f2 f3).take i)).flatten++(aH ((mvG f1 f2 f3).drop (i+1))).flatten=(aH (mvG g1' g2' g3')).flatten:=by rw [←hg];simp [aH]
     have hlen2:i+((mvG f1 f2 f3).length-(i+1))=(mvG g1' g2' g3').length:=by omega
     have ftk:(aH ((mvG f1 f2 f3).take i)).flatten.take (i*5)=(aH ((mvG f1 f2 f3).take i)).flatten:=by
      rw [List.take_of_length_le]
      rw [movesF_length,ltk];exact Nat.le_refl _
     ((try simp only [aP,SS,TF3FN,kcall,setRange,repl,isNextM,eConvert,eField,eSlice,eBuild,eBuildSlice,Nat.reduceLT,Nat.reduceEqDiff,Nat.reduceAdd,Nat.reduceMul,Nat.reduceSub,Nat.reduceLeDiff,Nat.reduceBEq,reduceCtorEq,WS,WM,↓kcall_miss,List.take_length,moves_len,moves_take,moves_drop,lens_moves,ble,ble1,ltk,ldr,gi,gz,gw,gw2,gs,ftk,ks,q6,m0,allOne_moves,movesF_length]);(repeat' ((first|apply aE|apply aD|apply aG|apply aF|apply aB|apply aA)<;>intro h<;>simp only [h,SS,TF3FN,kcall,setRange,repl,isNextM,eConvert,eField,eSlice,eBuild,eBuildSlice,Nat.reduceLT,Nat.reduceEqDiff,Nat.reduceAdd,Nat.reduceMul,Nat.reduceSub,Nat.reduceLeDiff,Nat.reduceBEq,reduceCtorEq,WS,WM,↓kcall_miss,List.take_length,moves_len,moves_take,moves_drop,lens_moves,ble,ble1,ltk,ldr,gi,gz,gw,gw2,gs,ftk,ks,q6,m0,allOne_moves,movesF_length])))
     refine⟨by kernel_rfl,?_⟩
     ((try simp only [aP,SS,TF3FN,kcall,setRange,repl,isNextM,eConvert,eField,eSlice,eBuild,eBuildSlice,Nat.reduceLT,Nat.reduceEqDiff,Nat.reduceAdd,Nat.reduceMul,Nat.reduceSub,Nat.reduceLeDiff,Nat.reduceBEq,reduceCtorEq,wpL_cons,wpL_nil]);(repeat' ((first|apply aE|apply aD|apply aG|apply aF|apply aB|apply aA)<;>intro h<;>simp only [h,SS,TF3FN,kcall,setRange,repl,isNextM,eConvert,eField,eSlice,eBuild,eBuildSlice,Nat.reduceLT,Nat.reduceEqDiff,Nat.reduceAdd,Nat.reduceMul,Nat.reduceSub,Nat.reduceLeDiff,Nat.reduceBEq,reduceCtorEq,wpL_cons,wpL_nil])))
     refine Top.view (View.fz (sz:=5) (len:=(mvG g1' g2' g3').length) (fl2:=[(16,.ptr 5 0),(137,.int .i64 (i:Nat)),(136,.int .i64 ((mvG f1 f2 f3).length:Nat)),(135,.lsl (aH (mvG f1 f2 f3))),(6,.ptr 3 0),(4,.ptr 2 0),(3,.ptr 1 0),(2,.bool false),(1,.ptr 0 0)]) (l2:=[((5:Nat),some (cT.row [.str [66,66,66,66],.str [87],.bool false,.lsl (aH (mvG g1' g2' g3'))] 35 0 0 false)),(3,some (.row [.str [66,66,66,66],.str [87],.bool false,.lsl (aH (mvG f1 f2 f3))] 35 0 0 false)),(2,some (.row [.bool true,.bool f1,.bool f2,.bool f3] 29 0 0 false)),(1,some (.row [.int .i64 s.inn,.int .i64 (h:Nat),.int .i64 s.outs,.int .i64 0,.int .i64 s.strikes,.int .i64 s.b1,.int .i64 s.b2,.int .i64 s.b3,.int .i64 s.n0,.int .i64 s.n1,.int .i64 s.c0,.int .i64 s.c1,.bool false] 28 0 0 false)),(0,some (.row [.int .i64 s.inn,.int .i64 (h:Nat),.int .i64 s.outs,.int .i64 s.balls,.int .i64 s.strikes,.int .i64 s.b1,.int .i64 s.b2,.int .i64 s.b3,.int .i64 s.n0,.int .i64 s.n1,.int .i64 s.c0,.int .i64 s.c1,.bool false] 25 0 0 false))]) (k2:=[]) (e:=38) (lo:=0) (hi:=0) (sl:=true) 8 (by omega) (by simp [lookG,hflat]) (qE (mvG g1' g2' g3')) (movesF_length _) ?_ ?_ (by simp)) (aO noNG _ _ _ _ ?_)
     · intro q hq
       simp only [List.mem_cons,List.not_mem_nil,or_false]at hq
       rcases hq with rfl|rfl|rfl|rfl|rfl|rfl|rfl|rfl|rfl<;>exact⟨by simp,_,by simp [look],.inl rfl⟩
     · intro q hq
       simp only [List.mem_cons,List.not_mem_nil,or_false]at hq
       rcases hq with rfl|rfl|rfl|rfl|rfl
       · exact⟨by simp,by simp,_,rfl,.inr ⟨_,_,_,_,_,_,rfl,rfl,by rw [dX];exact⟨.inl rfl,.inl rfl,.inl rfl,.inr ⟨.slack 0,by rw [hlen2],rfl,rfl⟩,trivial⟩⟩⟩
       · exact⟨by simp,by simp,_,rfl,.inl rfl⟩
       · exact⟨by simp,by simp,_,rfl,.inl rfl⟩
       · exact⟨by simp,by simp,_,rfl,.inl rfl⟩
       · exact⟨by simp,by simp,_,rfl,.inl rfl⟩
     simp only [eSt]at h32g
     ((try simp only [aP,SS,TF3FN,kcall,setRange,repl,isNextM,eConvert,eField,eSlice,eBuild,eBuildSlice,Nat.reduceLT,Nat.reduceEqDiff,Nat.reduceAdd,Nat.reduceMul,Nat.reduceSub,Nat.reduceLeDiff,Nat.reduceBEq,reduceCtorEq,h32g,q2]);(repeat' ((first|apply aE|apply aD|apply aG|apply aF|apply aB|apply aA)<;>intro h<;>simp only [h,SS,TF3FN,kcall,setRange,repl,isNextM,eConvert,eField,eSlice,eBuild,eBuildSlice,Nat.reduceLT,Nat.reduceEqDiff,Nat.reduceAdd,Nat.reduceMul,Nat.reduceSub,Nat.reduceLeDiff,Nat.reduceBEq,reduceCtorEq,h32g,q2])))
     refine aO noNG _ _ _ _ ?_
     ((try simp only [aP,SS,TF3FN,kcall,setRange,repl,isNextM,eConvert,eField,eSlice,eBuild,eBuildSlice,Nat.reduceLT,Nat.reduceEqDiff,Nat.reduceAdd,Nat.reduceMul,Nat.reduceSub,Nat.reduceLeDiff,Nat.reduceBEq,reduceCtorEq,q6]);(repeat' ((first|apply aE|apply aD|apply aG|apply aF|apply aB|apply aA)<;>intro h<;>simp only [h,SS,TF3FN,kcall,setRange,repl,isNextM,eConvert,eField,eSlice,eBuild,eBuildSlice,Nat.reduceLT,Nat.reduceEqDiff,Nat.reduceAdd,Nat.reduceMul,Nat.reduceSub,Nat.reduceLeDiff,Nat.reduceBEq,reduceCtorEq,q6])))
     exact⟨⟨i+1,hil⟩,by show(mvG f1 f2 f3).length-(i+1)<(mvG f1 f2 f3).length-i;omega,View.drop (by simp [look,below]) (by simp [lookG,belowO,below,a9]) (by simp)⟩
 have hN0:N<16000:=by omega
 obtain⟨o1,o2,o3,o4⟩:=oF hNL
 obtain⟨j,hj⟩:∃j,j=3-n:=⟨_,rfl⟩
 have j4:j<4:=by omega
 have w0:frB n=(j:Int):=by
  have:n=0∨n=1∨n=2∨n=3:=by omega
  rcases this with rfl|rfl|rfl|rfl<;>subst hj<;>rfl
 have wj:IntKind.i64.wrap ((j:Int)+1)=(j:Int)+1:=by rw [dP]<;>omega
 have wj2:IntKind.i64.wrap ((j:Int)-1)=frB (n+1):=by
  have:n=0∨n=1∨n=2∨n=3:=by omega
  rcases this with rfl|rfl|rfl|rfl<;>subst hj<;>decide
 have bj:((j:Int)<((4:Nat):Int))=True:=by simp only [eq_iff_iff,iff_true];omega
 have lj:([.bool true,.bool f1,.bool f2,.bool f3]:List EVal)[j]? = some (.bool (fphi f1 f2 f3 j)):=by
  have:j=0∨j=1∨j=2∨j=3:=by omega
  rcases this with rfl|rfl|rfl|rfl<;>rfl
 have hup:up (fphi f1 f2 f3) (n+1)=up (fphi f1 f2 f3) n++(if fphi f1 f2 f3 j=true then [⟨(j:Int),(j:Int)+1,false,[97],[]⟩]else []):=by rw [hj];rfl
 have hul:=aqh (fphi f1 f2 f3) n
 cases hfl:fphi f1 f2 f3 j with
 | true=>
   rw [hfl]at lj hup
   rw [if_pos rfl]at hup
   obtain⟨v2,l',hap,S2,F2⟩:=jY (a:=(j:Int)) (b:=(j:Int)+1) hNL (by omega) (by omega) (by omega)
   obtain⟨p1,p2,p3,p4⟩:=oF S2
   have l32:lookG l' 3=some (.row [.str [66,66,66,66],.str [87],.bool false,v] 35 0 0 false):=(F2 3 (by omega)).trans l3
   have wl:IntKind.i64.wrap (((up (fphi f1 f2 f3) n).length:Int)+1)=(((up (fphi f1 f2 f3) n).length+1:Nat):Int):=by rw [dP]<;>omega
   ((try simp only [aP,SS,TF3FN,kcall,setRange,repl,isNextM,eConvert,eField,eSlice,eBuild,eBuildSlice,Nat.reduceLT,Nat.reduceEqDiff,Nat.reduceAdd,Nat.reduceMul,Nat.reduceSub,Nat.reduceLeDiff,Nat.reduceBEq,reduceCtorEq,w0,bj,lj,l2,l3,hN0,o1,o2,o3,o4,p1,p2,p3,p4,m0,u3,wj,wj2,wl,↓hap,l32]);(repeat' ((first|apply aE|apply aD|apply aG|apply aF|apply aB|apply aA)<;>intro h<;>simp only [h,SS,TF3FN,kcall,setRange,repl,isNextM,eConvert,eField,eSlice,eBuild,eBuildSlice,Nat.reduceLT,Nat.reduceEqDiff,Nat.reduceAdd,Nat.reduceMul,Nat.reduceSub,Nat.reduceLeDiff,Nat.reduceBEq,reduceCtorEq,w0,bj,lj,l2,l3,hN0,o1,o2,o3,o4,p1,p2,p3,p4,m0,u3,wj,wj2,wl,↓hap,l32])))
   refine⟨⟨(n+1,N+1+1,v2,_),by show n+1≤4;omega,by show 4≤N+1+1;omega,by show N+1+1≤4+2*(n+1);omega,by rw [hup];exact rV (j:=3) (by omega) S2,by simp only [lookG,if_true],?_,?_,?_⟩,by show 4-(n+1)<4-n;omega,View.sub (by simp [look,hup])⟩
   · rw [lookG.eq_2,if_neg (by omega)];exact(F2 2 (by omega)).trans l2
   · rw [lookG.eq_2,if_neg (by omega)];exact(F2 1 (by omega)).trans l1
   · rw [lookG.eq_2,if_neg (by omega)];exact(F2 0 (by omega)).trans l0
 | false=>
   rw [hfl]at lj hup
   rw [if_neg (by decide),List.append_nil]at hup
   ((try simp only [aP,SS,TF3FN,kcall,setRange,repl,isNextM,eConvert,eField,eSlice,eBuild,eBuildSlice,Nat.reduceLT,Nat.reduceEqDiff,Nat.reduceAdd,Nat.reduceMul,Nat.reduceSub,Nat.reduceLeDiff,Nat.reduceBEq,reduceCtorEq,w0,bj,lj,l2,l3,hN0,m0,wj2]);(repeat' ((first|apply aE|apply aD|apply aG|apply aF|apply aB|apply aA)<;>intro h<;>simp only [h,SS,TF3FN,kcall,setRange,repl,isNextM,eConvert,eField,eSlice,eBuild,eBuildSlice,Nat.reduceLT,Nat.reduceEqDiff,Nat.reduceAdd,Nat.reduceMul,Nat.reduceSub,Nat.reduceLeDiff,Nat.reduceBEq,reduceCtorEq,w0,bj,lj,l2,l3,hN0,m0,wj2])))
   exact⟨⟨(n+1,N,v,l),by show n+1≤4;omega,n1,by show N≤4+2*(n+1);omega,by rw [hup];exact hNL,l3,l2,l1,l0⟩,by show 4-(n+1)<4-n;omega,View.sub (by simp [look,hup])⟩
noncomputable def Kq3:Con Tryz.prog gT:=Con.of 3 Aq3 cB Sq3 fn3
theorem law13 (s:St):Sq3 (s,())=some true:=rfl
end Go.Ev
