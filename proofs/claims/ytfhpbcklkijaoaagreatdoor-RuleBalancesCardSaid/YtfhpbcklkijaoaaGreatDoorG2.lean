import Derived.Test.YtfhpbcklkijaoaaGreatDoorG1
set_option linter.unusedSimpArgs false
set_option linter.unusedVariables false
namespace Go.Ev
open Go.RowKit Go.Proofs
set_option linter.defProp false
def bqm:=Ai (Ai (Ai (Ai (Ai (Ai (@Tryz.underlying3) (Ai (@sz3) (@info3))) (Ai (@I3s) (Ai (@I3b) (@zero3)))) (Ai (Ai (@grow3) (Ai (@Tryz.underlying4) (@sz4))) (Ai (@info4) (Ai (@I4s) (@I4b))))) (Ai (Ai (Ai (@zero4) (Ai (@grow4) (@Tryz.underlying9))) (Ai (@sz9) (Ai (@info9) (@I9s)))) (Ai (Ai (@I9b) (Ai (@zero9) (@grow9))) (Ai (Ai (@Tryz.underlying30) (@sz30)) (Ai (@info30) (@I30s)))))) (Ai (Ai (Ai (Ai (@I30b) (Ai (@zero30) (@grow30))) (Ai (@Tryz.underlying33) (Ai (@sz33) (@info33)))) (Ai (Ai (@I33s) (Ai (@I33b) (@zero33))) (Ai (@grow33) (Ai (@Tryz.underlying34) (@sz34))))) (Ai (Ai (Ai (@info34) (Ai (@I34s) (@I34b))) (Ai (@zero34) (Ai (@grow34) (@Tryz.underlying36)))) (Ai (Ai (@sz36) (Ai (@fok36) (@info36))) (Ai (Ai (@I36s) (@I36b)) (Ai (@zero36) (@grow36))))))) (Ai (Ai (Ai (Ai (Ai (@Tryz.underlying44) (Ai (@sz44) (@info44))) (Ai (@I44s) (Ai (@I44b) (@zero44)))) (Ai (Ai (@grow44) (Ai (@Tryz.underlying46) (@sz46))) (Ai (@fok46) (Ai (@info46) (@I46s))))) (Ai (Ai (Ai (@I46b) (Ai (@zero46) (@grow46))) (Ai (@Tryz.underlying57) (Ai (@sz57) (@info57)))) (Ai (Ai (@I57s) (Ai (@I57b) (@zero57))) (Ai (Ai (@grow57) (@Tryz.underlying68)) (Ai (@sz68) (@info68)))))) (Ai (Ai (Ai (Ai (@I68s) (Ai (@I68b) (@zero68))) (Ai (@grow68) (Ai (@Tryz.underlying69) (@sz69)))) (Ai (Ai (@info69) (Ai (@I69s) (@I69b))) (Ai (Ai (@zero69) (@grow69)) (Ai (@Tryz.underlying71) (@sz71))))) (Ai (Ai (Ai (@fok71) (Ai (@info71) (@I71s))) (Ai (@Tryz.underlying76) (Ai (@sz76) (@fok76)))) (Ai (Ai (@info76) (Ai (@I76s) (@I76b))) (Ai (Ai (@zero76) (@grow76)) (Ai (@call30) (@Tryz.results29)))))))
set_option maxRecDepth 20000
set_option maxHeartbeats 8000000
def fI (l:List St):List EVal:=(l7 l).flatten
theorem nH (s:St):(eSt s).length=13:=rfl
theorem jT (l:List St):(fI l).length=l.length*13:=by
 induction l with
 | nil=>rfl
 | cons q l ih=>
   have e:fI (q::l)=eSt q++fI l:=by simp [fI,l7]
   rw [e,List.length_append,ih,nH,List.length_cons];omega
theorem azE (l:List St) (q:St):fI (l++[q])=fI l++eSt q:=by simp [fI,l7]
theorem azD (l:List St):(fI l).take (l.length*13)=fI l:=by rw [←jT l,List.take_length]
theorem yE (s:St):keepL (eSt s)=some (eSt s):=rfl
theorem aq5 (l:List St):keepL (fI l)=some (fI l):=by
 induction l with
 | nil=>rfl
 | cons q l ih=>
   have e:fI (q::l)=eSt q++fI l:=by simp [fI,l7]
   rw [e]
   exact dW (yE q) ih
theorem aqt (l:List St):chunk 13 l.length (fI l)=l7 l:=by
 induction l with
 | nil=>rfl
 | cons q l ih=>
   have e:fI (q::l)=eSt q++fI l:=by simp [fI,l7]
   rw [e]
   show(eSt q++fI l).take 13::chunk 13 l.length ((eSt q++fI l).drop 13)=_
   rw [List.take_left' (nH q),List.drop_left' (nH q),ih];rfl
def SL (ty:TypeId) (c7:Nat) (v:EVal) (ps:List St) (N:Nat) (l:List (Nat×Option bL)):Prop:=
 (∃q,ps=[q]∧0<N∧c7≠0∧v=.slice 0 0 1 (.exact 1)∧lookG l 0=some (.row (eSt q) ty 0 0 false)) ∨
 ∃id,id≠c7∧1<id∧id<N∧v=.slice id 0 ps.length (.slack 0)∧lookG l id=some (.row (fI ps) ty 0 0 true)
theorem awO {ty:TypeId}{c7:Nat}{v:EVal}{ps:List St}{N:Nat}{l:List (Nat×Option bL)}(h:SL ty c7 v ps N l):v.cells=[v]∧v.one=true∧allOne [v]=true∧v.kept=false:=by
 rcases h with⟨q,_,_,_,rfl,_⟩ | ⟨id,_,_,_,rfl,_⟩<;>exact⟨rfl,rfl,rfl,rfl⟩
theorem bqn {ty:TypeId}{c7 j:Nat}{v:EVal}{ps:List St}{N:Nat}{l:List (Nat×Option bL)}{x:Option bL}(hj:j=c7∨j=1) (h:SL ty c7 v ps N l):SL ty c7 v ps N ((j,x)::l):=by
 rcases h with⟨q,h1,h2,h3,h4,h5⟩ | ⟨id,h1,h2,h3,h4,h5⟩
 · exact .inl ⟨q,h1,h2,h3,h4,by rw [lookG.eq_2,if_neg (by omega)];exact h5⟩
 · exact .inr ⟨id,h1,h2,h3,h4,by rw [lookG.eq_2,if_neg (by omega)];exact h5⟩
theorem SL_new {ty:TypeId}{c7:Nat}{v:EVal}{ps:List St}{N:Nat}{l:List (Nat×Option bL)}{x y:Option bL}(h:SL ty c7 v ps N l):SL ty c7 v ps (N+1) ((N,x)::(N,y)::l):=by
 rcases h with⟨q,h1,h2,h3,h4,h5⟩ | ⟨id,h1,h2,h3,h4,h5⟩
 · exact .inl ⟨q,h1,by omega,h3,h4,by rw [lookG.eq_2,if_neg (by omega),lookG.eq_2,if_neg (by omega)];exact h5⟩
 · exact .inr ⟨id,h1,h2,by omega,h4,by rw [lookG.eq_2,if_neg (by omega),lookG.eq_2,if_neg (by omega)];exact h5⟩
theorem axq {c7:Nat}{v:EVal}{ps:List St}{q:St}{N m:Nat}{l:List (Nat×Option bL)}{kk:List (Nat×Option (Nat×TypeId))}(h:SL 36 c7 v ps N l) (hc:c7<N) (h1:1<N) (hN:N<16000) (hlen:ps.length≤1000) :
  ∃v2 l2,eAppend Tryz.prog (mkH N l m kk) 30 v (.lsl [[.int .i64 q.inn,.int .i64 q.half,.int .i64 q.outs,.int .i64 q.balls,.int .i64 q.strikes,.int .i64 q.b1,.int .i64 q.b2,.int .i64 q.b3,.int .i64 q.n0,.int .i64 q.n1,.int .i64 q.c0,.int .i64 q.c1,.bool q.over]])=some (v2,mkH (N+1) l2 m kk)∧SL 36 c7 v2 (ps++[q]) (N+1) l2∧∀i,(i=c7∨i=1)→lookG l2 i=lookG l i:=by
 have g2:aZ 13 [[EVal.int .i64 q.inn,.int .i64 q.half,.int .i64 q.outs,.int .i64 q.balls,.int .i64 q.strikes,.int .i64 q.b1,.int .i64 q.b2,.int .i64 q.b3,.int .i64 q.n0,.int .i64 q.n1,.int .i64 q.c0,.int .i64 q.c1,.bool q.over]]=true:=rfl
 rcases h with⟨q0,rfl,_,hc0,rfl,hl⟩ | ⟨id,hid1,hid2,hid,rfl,hl⟩
 · have g1:decide (104*(1+1)≤1000000)=true:=by decide
   simp only [eSt]at hl
   refine⟨.slice N 0 2 (.slack 0),(N,some (.row (eSt q0++eSt q) 36 0 0 true))::l,?_,.inr ⟨N,by omega,h1,by omega,rfl,by simp [lookG,fI,l7]⟩,?_⟩
   · simp only [SS,bqm,kcall,setRange,repl,isNextM,eConvert,eField,eSlice,eBuild,eBuildSlice,Nat.reduceLT,Nat.reduceEqDiff,Nat.reduceAdd,Nat.reduceMul,Nat.reduceSub,Nat.reduceLeDiff,Nat.reduceBEq,reduceCtorEq,hl,g1,g2]
     rfl
   · intro i hi
     rw [lookG.eq_2,if_neg (by omega)]
 · have hid0:id<16000:=by omega
   have g1:decide (104*(ps.length+1)≤1000000)=true:=by simp;omega
   have g3:((ps.length+1)*13≤ps.length*13)=False:=by simp only [eq_iff_iff,iff_false];omega
   refine⟨.slice N 0 (ps.length+1) (.slack 0),(N,some (.row (fI ps++eSt q) 36 0 0 true))::(id,none)::l,?_,.inr ⟨N,by omega,h1,by omega,by simp,by rw [azE];simp [lookG]⟩,?_⟩
   · simp only [SS,bqm,kcall,setRange,repl,isNextM,eConvert,eField,eSlice,eBuild,eBuildSlice,Nat.reduceLT,Nat.reduceEqDiff,Nat.reduceAdd,Nat.reduceMul,Nat.reduceSub,Nat.reduceLeDiff,Nat.reduceBEq,reduceCtorEq,hid0,hl,g1,g2,g3,jT,azD]
     rfl
   · intro i hi
     rw [lookG.eq_2,if_neg (by omega),lookG.eq_2,if_neg (by omega)]
theorem HV.mode {P:Program}{n m m':Nat}{l:List (Nat×Option bL)}{k:List (Nat×Option (Nat×TypeId))}(hm:m % 1099511627776≤m' % 1099511627776):HV P (mkH n l m k) (mkH n l m' k):=fun B0 W0 ρ w R=>
 ⟨R.below,R.base,R.dom,R.lo,R.inj,R.objs,R.fz,R.free,R.fz0,fun id q hid=>R.mdom id q (Nat.le_trans hm hid),R.toks,R.tnew,R.tinj⟩
end Go.Ev
