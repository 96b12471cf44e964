import Derived.Test.YtgnnhpffealmmaaGreatDoorEvE
import Derived.Test.YtgnnhpffealmmaaGreatDoorDBase
import Derived.Test.YtgnnhpffealmmaaGreatDoorTypes
set_option linter.unusedSimpArgs false
set_option linter.unusedVariables false
namespace Go.Ev
open Go.RowKit Go.Proofs
set_option linter.defProp false
def TF33Own:=Ai (Ai (Ai (Ai (Ai (Ai (@Tryz.underlying3) (Ai (@sz3) (@info3))) (Ai (@I3s) (Ai (@I3b) (@zero3)))) (Ai (Ai (@grow3) (Ai (@Tryz.underlying9) (@sz9))) (Ai (@info9) (Ai (@I9s) (@I9b))))) (Ai (Ai (Ai (@zero9) (Ai (@grow9) (@Tryz.underlying22))) (Ai (@sz22) (Ai (@info22) (@I22s)))) (Ai (Ai (@I22b) (Ai (@zero22) (@grow22))) (Ai (@Tryz.underlying23) (Ai (@sz23) (@info23)))))) (Ai (Ai (Ai (Ai (@I23s) (Ai (@I23b) (@zero23))) (Ai (@grow23) (Ai (@Tryz.underlying24) (@sz24)))) (Ai (Ai (@info24) (Ai (@I24s) (@I24b))) (Ai (@zero24) (Ai (@grow24) (@Tryz.underlying25))))) (Ai (Ai (Ai (@sz25) (Ai (@info25) (@I25s))) (Ai (@I25b) (Ai (@zero25) (@grow25)))) (Ai (Ai (@Tryz.underlying27) (Ai (@sz27) (@fok27))) (Ai (@info27) (Ai (@I27s) (@I27b))))))) (Ai (Ai (Ai (Ai (Ai (@zero27) (Ai (@grow27) (@Tryz.underlying32))) (Ai (@sz32) (Ai (@info32) (@I32s)))) (Ai (Ai (@I32b) (Ai (@zero32) (@grow32))) (Ai (@Tryz.underlying38) (Ai (@sz38) (@info38))))) (Ai (Ai (Ai (@I38s) (Ai (@I38b) (@zero38))) (Ai (@grow38) (Ai (@Tryz.underlying40) (@sz40)))) (Ai (Ai (@fok40) (Ai (@info40) (@I40s))) (Ai (@I40b) (Ai (@zero40) (@grow40)))))) (Ai (Ai (Ai (Ai (@Tryz.underlying68) (Ai (@sz68) (@info68))) (Ai (@I68s) (Ai (@I68b) (@zero68)))) (Ai (Ai (@grow68) (Ai (@Tryz.underlying86) (@sz86))) (Ai (@fok86) (Ai (@info86) (@I86s))))) (Ai (Ai (Ai (@I86b) (Ai (@zero86) (@grow86))) (Ai (@Tryz.underlying106) (Ai (@sz106) (@fok106)))) (Ai (Ai (@info106) (Ai (@I106s) (@I106b))) (Ai (@zero106) (Ai (@grow106) (@Tryz.results33)))))))
set_option maxRecDepth 20000
set_option maxHeartbeats 8000000
def xV (x:Ln):List EVal:=[.str x.p,.str x.t,.int .i64 x.c0,.int .i64 x.c1,.int .i64 x.c2,.int .i64 x.c3,.int .i64 x.c4,.int .i64 x.c5,.int .i64 x.c6,.int .i64 x.c7,.int .i64 x.c8,.int .i64 x.c9,.int .i64 x.c10,.int .i64 x.c11]
def cR (l:List Ln):List (List EVal):=l.map xV
def rowG (g:Gm):List EVal:=[.str g.n,.int .i64 g.v,.int .i64 g.d,.str g.t0,.str g.t1,.int .i64 g.s0,.int .i64 g.s1,.lsl (cR g.l)]
def b5 (l:List Gm):List (List EVal):=l.map rowG
theorem rowsL_length (l:List Ln):(cR l).length=l.length:=by simp [cR]
theorem rowsG_length (l:List Gm):(b5 l).length=l.length:=by simp [b5]
theorem zV (l:List Ln) (i:Nat):(cR l)[i]? = (l[i]?).map xV:=by simp [cR]
theorem zW (l:List Gm) (i:Nat):(b5 l)[i]? = (l[i]?).map rowG:=by simp [b5]
theorem vLns_c (l:List Ln):((Cod.list ln0 rLn).v l).c=.lsl (cR l):=by
 have h1:(V.el (l.map rLn.v)).c=((Cod.list ln0 rLn).v l).c:=fD
 refine h1.symm.trans ?_
 rw [V.c,V.css_map,List.map_map,cR]
 refine congrArg EVal.lsl (List.map_congr_left fun x _=>?_)
 show V.cs [V.str x.p,V.str x.t,V.int .i64 x.c0,V.int .i64 x.c1,V.int .i64 x.c2,V.int .i64 x.c3,V.int .i64 x.c4,V.int .i64 x.c5,V.int .i64 x.c6,V.int .i64 x.c7,V.int .i64 x.c8,V.int .i64 x.c9,V.int .i64 x.c10,V.int .i64 x.c11]=_
 simp only [V.cs,V.c,xV]
theorem vGm_c (g:Gm):V.cs (rGm.v g)=rowG g:=by
 show V.cs [V.str g.n,V.int .i64 g.v,V.int .i64 g.d,V.str g.t0,V.str g.t1,V.int .i64 g.s0,V.int .i64 g.s1,(Cod.list ln0 rLn).v g.l]=_
 simp only [V.cs,V.c,vLns_c,rowG]
theorem ax3 (l:List Gm):((Cod.list gm0 rGm).v l).c=.lsl (b5 l):=by
 have h1:(V.el (l.map rGm.v)).c=((Cod.list gm0 rGm).v l).c:=fD
 refine h1.symm.trans ?_
 rw [V.c,V.css_map,List.map_map,b5]
 exact congrArg EVal.lsl (List.map_congr_left fun x _=>vGm_c x)
def gH (l:List Ln):List EVal:=(cR l).flatten
theorem k0 (q:Ln) (l:List Ln):gH (q::l)=xV q++gH l:=by simp [gH,cR]
theorem g5 (l:List Ln):(gH l).length=l.length*14:=by
 induction l with
 | nil=>rfl
 | cons q l ih=>rw [k0,List.length_append,ih,List.length_cons];show 14+_=_;omega
theorem yW (l:List Ln) (q:Ln):gH (l++[q])=gH l++xV q:=by simp [gH,cR]
theorem yV (l:List Ln):(gH l).take (l.length*14)=gH l:=by rw [←g5 l,List.take_length]
theorem uV (l:List Ln):keepL (gH l)=some (gH l):=by
 induction l with
 | nil=>rfl
 | cons q l ih=>rw [k0];exact gR (rfl:keepL (xV q)=some (xV q)) ih
theorem vL (l:List Ln):chunk 14 l.length (gH l)=cR l:=by
 induction l with
 | nil=>rfl
 | cons q l ih=>
   rw [k0]
   show(xV q++gH l).take 14::chunk 14 l.length ((xV q++gH l).drop 14)=_
   rw [List.take_left' (l₁:=xV q) (i:=14) rfl,List.drop_left' (l₁:=xV q) (i:=14) rfl,ih];rfl
def LL (v:EVal) (ps:List Ln) (N:Nat) (l:List (Nat×Option bR)):Prop:=
 (v=.nilslice∧ps=[])∨∃id,1<id∧id<N∧v=.slice id 0 ps.length (.slack 0)∧lookG l id=some (.row (gH ps) 106 0 0 true)
theorem axo {v:EVal}{ps:List Ln}{N:Nat}{l:List (Nat×Option bR)}(h:LL v ps N l):v.cells=[v]∧v.one=true∧allOne [v]=true∧v.kept=false:=by
 rcases h with⟨rfl,rfl⟩ | ⟨id,_,_,rfl,_⟩<;>exact⟨rfl,rfl,rfl,rfl⟩
theorem LL_put {j:Nat}{v:EVal}{ps:List Ln}{N M:Nat}{l:List (Nat×Option bR)}{x:Option bR}(hj:j≤1∨N≤j) (hM:N≤M) (h:LL v ps N l):LL v ps M ((j,x)::l):=by
 rcases h with h|⟨id,h1,h2,h3,h4⟩
 · exact .inl h
 · exact .inr ⟨id,h1,by omega,h3,by rw [lookG.eq_2,if_neg (by omega)];exact h4⟩
theorem LL_new {v:EVal}{ps:List Ln}{N:Nat}{l:List (Nat×Option bR)}{a b:Option bR}(h:LL v ps N l):LL v ps (N+1) ((N,a)::(N,b)::l):=by
 rcases h with h|⟨id,h1,h2,h3,h4⟩
 · exact .inl h
 · exact .inr ⟨id,h1,by omega,h3,by rw [lookG.eq_2,if_neg (by omega),lookG.eq_2,if_neg (by omega)];exact h4⟩
theorem yL {v:EVal}{ps:List Ln}{q:Ln}{N:Nat}{l:List (Nat×Option bR)}{kk:List (Nat×Option (Nat×TypeId))}(h:LL v ps N l) (h1:1<N) (hN:N<16000) (hlen:ps.length≤1000) :
  ∃v2 l2,eAppend Tryz.prog (mkH N l 129 kk) 38 v (.lsl [[.str q.p,.str q.t,.int .i64 q.c0,.int .i64 q.c1,.int .i64 q.c2,.int .i64 q.c3,.int .i64 q.c4,.int .i64 q.c5,.int .i64 q.c6,.int .i64 q.c7,.int .i64 q.c8,.int .i64 q.c9,.int .i64 q.c10,.int .i64 q.c11]])=some (v2,mkH (N+1) l2 129 kk)∧LL v2 (ps++[q]) (N+1) l2∧(∀i,i≤1→lookG l2 i=lookG l i):=by
 have g2:aL 14 [[EVal.str q.p,.str q.t,.int .i64 q.c0,.int .i64 q.c1,.int .i64 q.c2,.int .i64 q.c3,.int .i64 q.c4,.int .i64 q.c5,.int .i64 q.c6,.int .i64 q.c7,.int .i64 q.c8,.int .i64 q.c9,.int .i64 q.c10,.int .i64 q.c11]]=true:=rfl
 rcases h with⟨rfl,rfl⟩ | ⟨id,hid1,hid,rfl,hl⟩
 · have g1:decide (128*1≤1000000)=true:=by decide
   refine⟨.slice N 0 1 (.slack 0),(N,some (.row (xV q) 106 0 0 true))::l,?_,.inr ⟨N,h1,by omega,rfl,by simp [lookG,gH,cR]⟩,?_⟩
   · simp only [SS,TF33Own,kcall,setRange,repl,isNextM,eConvert,eField,eSlice,eBuild,eBuildSlice,Nat.reduceLT,Nat.reduceEqDiff,Nat.reduceAdd,Nat.reduceMul,Nat.reduceSub,Nat.reduceLeDiff,Nat.reduceBEq,reduceCtorEq,g1,g2]
     rfl
   · intro i hi
     rw [lookG.eq_2,if_neg (by omega)]
 · have hid0:id<16000:=by omega
   have g1:decide (128*(ps.length+1)≤1000000)=true:=by simp;omega
   have g3:((ps.length+1)*14≤ps.length*14)=False:=by simp only [eq_iff_iff,iff_false];omega
   refine⟨.slice N 0 (ps.length+1) (.slack 0),(N,some (.row (gH ps++xV q) 106 0 0 true))::(id,none)::l,?_,.inr ⟨N,h1,by omega,by simp,by rw [yW];simp [lookG]⟩,?_⟩
   · simp only [SS,TF33Own,kcall,setRange,repl,isNextM,eConvert,eField,eSlice,eBuild,eBuildSlice,Nat.reduceLT,Nat.reduceEqDiff,Nat.reduceAdd,Nat.reduceMul,Nat.reduceSub,Nat.reduceLeDiff,Nat.reduceBEq,reduceCtorEq,hid0,hl,g1,g2,g3,g5,yV]
     rfl
   · intro i hi
     rw [lookG.eq_2,if_neg (by omega),lookG.eq_2,if_neg (by omega)]
noncomputable def Ah33:Row (List Gm×Unit):=Row.cons (Cod.list gm0 rGm) Row.nil
def ownOK (l:List Gm):Bool:=decide (l.length≤300)&&l.all fun g=>decide (g.l.length≤300)
noncomputable def Sh33 (x:List Gm×Unit):Option (List Gm):=if ownOK x.1=true then some x.1 else none
theorem ah33 (l:List Gm):V.cs (Ah33.v (l,()))=[.lsl (b5 l)]:=by
 show V.cs [(Cod.list gm0 rGm).v l]=_
 rw [V.cs,V.cs,ax3]
theorem fn33:FnT 33 (fOf Ah33 (Cod.list gm0 rGm) Sh33):=by
 refine Fn.intro mixed noNG Tryz.func33 rfl [] (fun _ h=>by cases h) ?_
 intro args v hF
 obtain⟨⟨L,⟨⟩⟩,r,rfl,hs,rfl⟩:=aq0 hF
 unfold Sh33 at hs
 split at hs
 rotate_left
 · cases hs
 rename_i hok
 cases hs
 rw [ah33,ax3]
 intro Q hV
 have hQ:=Viewed.of hV
 clear hF
 simp only [ownOK,Bool.and_eq_true,decide_eq_true_eq,List.all_eq_true]at hok
 obtain⟨hL,hLs⟩:=hok
 refine Top.view (View.trans (View.start (n:=46) rfl (by simp)) (View.mode (n:=0) (l:=[]) (m:=0) (k:=[]) 128 (by decide))) (cF noNG _ _ _ _ ?_)
 ((try simp only [lC,SS,TF33Own,kcall,setRange,repl,isNextM,eConvert,eField,eSlice,eBuild,eBuildSlice,Nat.reduceLT,Nat.reduceEqDiff,Nat.reduceAdd,Nat.reduceMul,Nat.reduceSub,Nat.reduceLeDiff,Nat.reduceBEq,reduceCtorEq]);(repeat' ((first|apply eY|apply eX|apply e6|apply eZ|apply dX|apply dW)<;>intro h<;>simp only [h,SS,TF33Own,kcall,setRange,repl,isNextM,eConvert,eField,eSlice,eBuild,eBuildSlice,Nat.reduceLT,Nat.reduceEqDiff,Nat.reduceAdd,Nat.reduceMul,Nat.reduceSub,Nat.reduceLeDiff,Nat.reduceBEq,reduceCtorEq])))
 refine rX (Top.loop (I:=fun s:{ x:Nat // x≤L.length }=>(mkF 46 [(11,.int .i64 (s.1:Nat)),(10,.int .i64 (L.length:Nat)),(9,.lsl (b5 L)),(3,.gsl 128 (b5 (L.take s.1)))],mkH 0 [] 129 [(128,some (s.1,40))])) (μ:=fun s=>L.length-s.1) ⟨0,by simp⟩ (View.trans (View.growD (ds:=[]) (r:=none) 3 40 (by omega) (by omega) (by simp [look])) (View.sub (by simp [look,b5]))) ?_)
 rintro⟨i,hi⟩
 by_cases hlt:i<L.length
 rotate_left
 · obtain rfl:i=L.length:=by omega
   have q2:decide ((L.length:Int)<(L.length:Int))=false:=by simp
   rw [List.take_length]
   refine Top.view (View.keep (fl:=[(11,.int .i64 (L.length:Nat)),(10,.int .i64 (L.length:Nat)),(9,.lsl (b5 L)),(3,.gsl 128 (b5 L))]) (m:=128) (els:=b5 L) 3 (by omega) (by simp [look])) (cF noNG _ _ _ _ ?_)
   dsimp only
   ((try simp only [lC,SS,TF33Own,kcall,setRange,repl,isNextM,eConvert,eField,eSlice,eBuild,eBuildSlice,Nat.reduceLT,Nat.reduceEqDiff,Nat.reduceAdd,Nat.reduceMul,Nat.reduceSub,Nat.reduceLeDiff,Nat.reduceBEq,reduceCtorEq,q2]);(repeat' ((first|apply eY|apply eX|apply e6|apply eZ|apply dX|apply dW)<;>intro h<;>simp only [h,SS,TF33Own,kcall,setRange,repl,isNextM,eConvert,eField,eSlice,eBuild,eBuildSlice,Nat.reduceLT,Nat.reduceEqDiff,Nat.reduceAdd,Nat.reduceMul,Nat.reduceSub,Nat.reduceLeDiff,Nat.reduceBEq,reduceCtorEq,q2])))
   (refine hQ _ _ _ (ends_of (by first|exact .inl rfl|exact .inr rfl) ?_);simp only [SS,TF33Own,kcall,setRange,repl,isNextM,eConvert,eField,eSlice,eBuild,eBuildSlice,Nat.reduceLT,Nat.reduceEqDiff,Nat.reduceAdd,Nat.reduceMul,Nat.reduceSub,Nat.reduceLeDiff,Nat.reduceBEq,reduceCtorEq])
 refine cF noNG _ _ _ _ ?_
 dsimp only
 obtain⟨g,hg⟩:∃g,L[i]? = some g:=⟨L[i],List.getElem?_eq_getElem hlt⟩
 have hgl:=hLs g (List.mem_of_getElem? hg)
 have q2:decide ((i:Int)<(L.length:Int))=true:=by simp;omega
 have q3:IntKind.i64.wrap ((i:Int)+1)=((i+1:Nat):Int):=by rw [t8]<;>omega
 have r0:(b5 L)[i]? = some [.str g.n,.int .i64 g.v,.int .i64 g.d,.str g.t0,.str g.t1,.int .i64 g.s0,.int .i64 g.s1,.lsl (cR g.l)]:=by rw [zW,hg];rfl
 have m1:decide (128≤129 % 1024)=true:=by decide
 ((try simp only [lC,SS,TF33Own,kcall,setRange,repl,isNextM,eConvert,eField,eSlice,eBuild,eBuildSlice,Nat.reduceLT,Nat.reduceEqDiff,Nat.reduceAdd,Nat.reduceMul,Nat.reduceSub,Nat.reduceLeDiff,Nat.reduceBEq,reduceCtorEq,q2,r0,rowsG_length,rowsL_length,m1]);(repeat' ((first|apply eY|apply eX|apply e6|apply eZ|apply dX|apply dW)<;>intro h<;>simp only [h,SS,TF33Own,kcall,setRange,repl,isNextM,eConvert,eField,eSlice,eBuild,eBuildSlice,Nat.reduceLT,Nat.reduceEqDiff,Nat.reduceAdd,Nat.reduceMul,Nat.reduceSub,Nat.reduceLeDiff,Nat.reduceBEq,reduceCtorEq,q2,r0,rowsG_length,rowsL_length,m1])))
 refine rX (Top.loop (I:=fun s:{ p:Nat×Nat×EVal×List (Nat×Option bR) // p.1≤g.l.length∧1<p.2.1∧p.2.1≤2+2*p.1∧LL p.2.2.1 (g.l.take p.1) p.2.1 p.2.2.2∧lookG p.2.2.2 1=some (.row [.str g.n,.int .i64 g.v,.int .i64 g.d,.str g.t0,.str g.t1,.int .i64 g.s0,.int .i64 g.s1,p.2.2.1] 40 0 0 false) }=>
   (mkF 46 [(29,.int .i64 (s.1.1:Nat)),(28,.int .i64 (g.l.length:Nat)),(27,.lsl (cR g.l)),(6,.ptr 1 0),(11,.int .i64 (i:Nat)),(10,.int .i64 (L.length:Nat)),(9,.lsl (b5 L)),(3,.gsl 128 (b5 (L.take i)))],mkH s.1.2.1 s.1.2.2.2 129 [(128,some (i,40))]))
   (μ:=fun s=>g.l.length-s.1.1) ⟨(0,2,.nilslice,[((1:Nat),some (bR.row [.str g.n,.int .i64 g.v,.int .i64 g.d,.str g.t0,.str g.t1,.int .i64 g.s0,.int .i64 g.s1,.nilslice] 40 0 0 false))]),Nat.zero_le _,(by decide:1<2),(by decide:2≤2+2*0),.inl ⟨rfl,by simp⟩,by simp [lookG]⟩ (View.drop (by simp [look,below]) (by simp [lookG,belowO,below,bI]) (by simp [lookG])) ?_)
 rintro⟨⟨k,N,v,l⟩,hk,hN1,hN2,hLL,h1⟩
 dsimp only at hk hN1 hN2 hLL h1 ⊢
 obtain⟨o1,o2,o3,o4⟩:=axo hLL
 by_cases hlk:k<g.l.length
 rotate_left
 · obtain rfl:k=g.l.length:=by omega
   have q4:decide ((g.l.length:Int)<(g.l.length:Int))=false:=by simp
   rw [List.take_length]at hLL
   have htk:L.take (i+1)=L.take i++[g]:=by rw [List.take_add_one,hg];rfl
   have hrow:b5 (L.take (i+1))=b5 (L.take i)++[[.str g.n,.int .i64 g.v,.int .i64 g.d,.str g.t0,.str g.t1,.int .i64 g.s0,.int .i64 g.s1,.lsl (cR g.l)]]:=by rw [htk];simp [b5,rowG]
   have g0:(b5 (L.take i)).length=i:=by rw [rowsG_length,List.length_take];omega
   have g1:decide (104*(i+1)≤1000000)=true:=by simp;omega
   have g2:aL 8 (b5 (L.take i))=true:=by
    unfold aL
    simp only [List.all_eq_true,Nat.beq_eq,beq_iff_eq,decide_eq_true_eq]
    intro x hx
    obtain⟨q,_,rfl⟩:=List.mem_map.1 hx
    rfl
   have g3:aL 8 [[EVal.str g.n,.int .i64 g.v,.int .i64 g.d,.str g.t0,.str g.t1,.int .i64 g.s0,.int .i64 g.s1,.lsl (cR g.l)]]=true:=rfl
   have hap:eAppend Tryz.prog (mkH 2 [((1:Nat),some (bR.row [.str g.n,.int .i64 g.v,.int .i64 g.d,.str g.t0,.str g.t1,.int .i64 g.s0,.int .i64 g.s1,.lsl (cR g.l)] 40 0 0 false))] 129 [(128,some (i,40))]) 32 (.gsl 128 (b5 (L.take i))) (.lsl [[.str g.n,.int .i64 g.v,.int .i64 g.d,.str g.t0,.str g.t1,.int .i64 g.s0,.int .i64 g.s1,.lsl (cR g.l)]])=some (.gsl 128 (b5 (L.take (i+1))),mkH 2 [((1:Nat),some (bR.row [.str g.n,.int .i64 g.v,.int .i64 g.d,.str g.t0,.str g.t1,.int .i64 g.s0,.int .i64 g.s1,.lsl (cR g.l)] 40 0 0 false))] 129 [(128,some (i+1,40)),(128,some (i,40))]):=by
    simp only [SS,TF33Own,kcall,setRange,repl,isNextM,eConvert,eField,eSlice,eBuild,eBuildSlice,Nat.reduceLT,Nat.reduceEqDiff,Nat.reduceAdd,Nat.reduceMul,Nat.reduceSub,Nat.reduceLeDiff,Nat.reduceBEq,reduceCtorEq,g0,g1,g2,g3]
    rw [hrow]
   suffices H:View none Tryz.prog (mkF 46 [(29,.int .i64 (g.l.length:Nat)),(28,.int .i64 (g.l.length:Nat)),(27,.lsl (cR g.l)),(6,.ptr 1 0),(11,.int .i64 (i:Nat)),(10,.int .i64 (L.length:Nat)),(9,.lsl (b5 L)),(3,.gsl 128 (b5 (L.take i)))]) (mkH N l 129 [(128,some (i,40))])
     (mkF 46 [(29,.int .i64 (g.l.length:Nat)),(28,.int .i64 (g.l.length:Nat)),(27,.lsl (cR g.l)),(6,.ptr 1 0),(11,.int .i64 (i:Nat)),(10,.int .i64 (L.length:Nat)),(9,.lsl (b5 L)),(3,.gsl 128 (b5 (L.take i)))]) (mkH 2 [((1:Nat),some (bR.row [.str g.n,.int .i64 g.v,.int .i64 g.d,.str g.t0,.str g.t1,.int .i64 g.s0,.int .i64 g.s1,.lsl (cR g.l)] 40 0 0 false))] 129 [(128,some (i,40))]) by
    refine Top.view H (cF noNG _ _ _ _ ?_)
    ((try simp only [lC,SS,TF33Own,kcall,setRange,repl,isNextM,eConvert,eField,eSlice,eBuild,eBuildSlice,Nat.reduceLT,Nat.reduceEqDiff,Nat.reduceAdd,Nat.reduceMul,Nat.reduceSub,Nat.reduceLeDiff,Nat.reduceBEq,reduceCtorEq,q4,q3,m1,↓hap]);(repeat' ((first|apply eY|apply eX|apply e6|apply eZ|apply dX|apply dW)<;>intro h<;>simp only [h,SS,TF33Own,kcall,setRange,repl,isNextM,eConvert,eField,eSlice,eBuild,eBuildSlice,Nat.reduceLT,Nat.reduceEqDiff,Nat.reduceAdd,Nat.reduceMul,Nat.reduceSub,Nat.reduceLeDiff,Nat.reduceBEq,reduceCtorEq,q4,q3,m1,↓hap])))
    exact⟨⟨i+1,hlt⟩,by show L.length-(i+1)<L.length-i;omega,View.drop (by simp [look,below]) (by simp [lookG,belowO,below,bI]) (by simp [lookG])⟩
   rcases hLL with⟨rfl,hnil⟩ | ⟨id,e1,e2,rfl,e4⟩
   · have hr:cR g.l=[]:=by rw [hnil];rfl
     refine View.trans (View.told (ds:=[]) (r:=none) (fl2:=[(29,.int .i64 (g.l.length:Nat)),(28,.int .i64 (g.l.length:Nat)),(27,.lsl (cR g.l)),(6,.ptr 1 0),(11,.int .i64 (i:Nat)),(10,.int .i64 (L.length:Nat)),(9,.lsl (b5 L)),(3,.gsl 128 (b5 (L.take i)))]) (l2:=[((1:Nat),some (bR.row [.str g.n,.int .i64 g.v,.int .i64 g.d,.str g.t0,.str g.t1,.int .i64 g.s0,.int .i64 g.s1,.lsl (cR g.l)] 40 0 0 false))]) ?_ ?_) (View.drop (by simp [look,below]) (by simp [lookG,belowO,below,bI]) (by simp [lookG]))
     · simp only [List.forall_mem_cons]
       refine⟨⟨by omega,_,by simp [look],.inl rfl⟩,⟨by omega,_,by simp [look],.inl rfl⟩,⟨by omega,_,by simp [look],.inl rfl⟩,⟨by omega,_,by simp [look],.inl rfl⟩,⟨by omega,_,by simp [look],.inl rfl⟩,⟨by omega,_,by simp [look],.inl rfl⟩,⟨by omega,_,by simp [look],.inl rfl⟩,⟨by omega,_,by simp [look],.inl rfl⟩,fun _ h=>by cases h⟩
     · simp only [List.forall_mem_cons]
       refine⟨⟨by omega,_,rfl,.inr ⟨_,_,_,_,_,_,h1,rfl,?_⟩⟩,fun _ h=>by cases h⟩
       simp [xT,aj0,hr]
   · refine View.trans (View.fz (sz:=14) (len:=g.l.length) (cells':=gH g.l) (fl2:=[(29,.int .i64 (g.l.length:Nat)),(28,.int .i64 (g.l.length:Nat)),(27,.lsl (cR g.l)),(6,.ptr 1 0),(11,.int .i64 (i:Nat)),(10,.int .i64 (L.length:Nat)),(9,.lsl (b5 L)),(3,.gsl 128 (b5 (L.take i)))]) (l2:=[((1:Nat),some (bR.row [.str g.n,.int .i64 g.v,.int .i64 g.d,.str g.t0,.str g.t1,.int .i64 g.s0,.int .i64 g.s1,.lsl (cR g.l)] 40 0 0 false))]) (k2:=[(128,some (i,40))]) id (by omega) e4 (uV g.l) (g5 g.l) ?_ ?_ (by simp [lookG])) (View.drop (by simp [look,below]) (by simp [lookG,belowO,below,bI]) (by simp [lookG]))
     · simp only [List.forall_mem_cons]
       refine⟨⟨by omega,_,by simp [look],.inl rfl⟩,⟨by omega,_,by simp [look],.inl rfl⟩,⟨by omega,_,by simp [look],.inl rfl⟩,⟨by omega,_,by simp [look],.inl rfl⟩,⟨by omega,_,by simp [look],.inl rfl⟩,⟨by omega,_,by simp [look],.inl rfl⟩,⟨by omega,_,by simp [look],.inl rfl⟩,⟨by omega,_,by simp [look],.inl rfl⟩,fun _ h=>by cases h⟩
     · simp only [List.forall_mem_cons]
       refine⟨⟨by omega,by show ¬1=id;omega,_,rfl,.inr ⟨_,_,_,_,_,_,h1,rfl,?_⟩⟩,fun _ h=>by cases h⟩
       simp [fzL,fzR,capOK,vL]
 refine cF noNG _ _ _ _ ?_
 obtain⟨x,hx⟩:∃x,g.l[k]? = some x:=⟨g.l[k],List.getElem?_eq_getElem hlk⟩
 have q4:decide ((k:Int)<(g.l.length:Int))=true:=by simp;omega
 have q5:IntKind.i64.wrap ((k:Int)+1)=((k+1:Nat):Int):=by rw [t8]<;>omega
 have x0:(cR g.l)[k]? = some [.str x.p,.str x.t,.int .i64 x.c0,.int .i64 x.c1,.int .i64 x.c2,.int .i64 x.c3,.int .i64 x.c4,.int .i64 x.c5,.int .i64 x.c6,.int .i64 x.c7,.int .i64 x.c8,.int .i64 x.c9,.int .i64 x.c10,.int .i64 x.c11]:=by rw [zV,hx];rfl
 have hN:N<16000:=by omega
 have n1:(N=1)=False:=by simp only [eq_iff_iff,iff_false];omega
 have htk:g.l.take (k+1)=g.l.take k++[x]:=by rw [List.take_add_one,hx];rfl
 obtain⟨v2,l2,hap,S2,F2⟩:=yL (q:=x) (kk:=[(128,some (i,40))]) (LL_new (a:=some (bR.row [.str x.p,.str x.t,.int .i64 x.c0,.int .i64 x.c1,.int .i64 x.c2,.int .i64 x.c3,.int .i64 x.c4,.int .i64 x.c5,.int .i64 x.c6,.int .i64 x.c7,.int .i64 x.c8,.int .i64 x.c9,.int .i64 x.c10,.int .i64 x.c11] 86 0 0 false)) (b:=some (bR.row [.str [],.str [],.int .i64 0,.int .i64 0,.int .i64 0,.int .i64 0,.int .i64 0,.int .i64 0,.int .i64 0,.int .i64 0,.int .i64 0,.int .i64 0,.int .i64 0,.int .i64 0] 86 0 0 false)) hLL) (by omega) (by omega) (by rw [List.length_take];omega)
 obtain⟨p1,p2,p3,p4⟩:=axo S2
 rw [←htk]at S2
 have hb2:lookG l2 1=some (.row [.str g.n,.int .i64 g.v,.int .i64 g.d,.str g.t0,.str g.t1,.int .i64 g.s0,.int .i64 g.s1,v] 40 0 0 false):=by
  rw [F2 1 (by omega),lookG.eq_2,if_neg (by omega),lookG.eq_2,if_neg (by omega)];exact h1
 ((try simp only [lC,SS,TF33Own,kcall,setRange,repl,isNextM,eConvert,eField,eSlice,eBuild,eBuildSlice,Nat.reduceLT,Nat.reduceEqDiff,Nat.reduceAdd,Nat.reduceMul,Nat.reduceSub,Nat.reduceLeDiff,Nat.reduceBEq,reduceCtorEq,q4,q5,x0,rowsL_length,hN,m1,n1,h1,hb2,o1,o2,o3,p1,p2,p3,o4,p4,↓hap]);(repeat' ((first|apply eY|apply eX|apply e6|apply eZ|apply dX|apply dW)<;>intro h<;>simp only [h,SS,TF33Own,kcall,setRange,repl,isNextM,eConvert,eField,eSlice,eBuild,eBuildSlice,Nat.reduceLT,Nat.reduceEqDiff,Nat.reduceAdd,Nat.reduceMul,Nat.reduceSub,Nat.reduceLeDiff,Nat.reduceBEq,reduceCtorEq,q4,q5,x0,rowsL_length,hN,m1,n1,h1,hb2,o1,o2,o3,p1,p2,p3,o4,p4,↓hap])))
 refine⟨⟨(k+1,N+1+1,v2,_),by show k+1≤_;omega,by show 1<N+1+1;omega,by show N+1+1≤2+2*(k+1);omega,LL_put (.inl (Nat.le_refl 1)) (Nat.le_refl _) S2,by simp only [lookG,if_true]⟩,by show g.l.length-(k+1)<g.l.length-k;omega,View.sub (by simp [look])⟩
noncomputable def Kh33:Con Tryz.prog gT:=Con.of 33 Ah33 (Cod.list gm0 rGm) Sh33 fn33
end Go.Ev
