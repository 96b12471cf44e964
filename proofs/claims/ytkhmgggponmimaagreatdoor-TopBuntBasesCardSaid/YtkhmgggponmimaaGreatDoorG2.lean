import Derived.Test.YtkhmgggponmimaaGreatDoorG1
set_option linter.unusedSimpArgs false
set_option linter.unusedVariables false
namespace Go.Ev
open Go.RowKit Go.Proofs
set_option linter.defProp false
def bqd:=Ai (Ai (Ai (Ai (Ai (Ai (@Tryz.underlying3) (Ai (@sz3) (@info3))) (Ai (@I3s) (Ai (@I3b) (@zero3)))) (Ai (Ai (@grow3) (Ai (@Tryz.underlying4) (@sz4))) (Ai (@info4) (Ai (@I4s) (@I4b))))) (Ai (Ai (Ai (@zero4) (Ai (@grow4) (@Tryz.underlying9))) (Ai (@sz9) (Ai (@info9) (@I9s)))) (Ai (Ai (@I9b) (Ai (@zero9) (@grow9))) (Ai (Ai (@Tryz.underlying23) (@sz23)) (Ai (@info23) (@I23s)))))) (Ai (Ai (Ai (Ai (@I23b) (Ai (@zero23) (@grow23))) (Ai (@Tryz.underlying27) (Ai (@sz27) (@info27)))) (Ai (Ai (@I27s) (Ai (@I27b) (@zero27))) (Ai (@grow27) (Ai (@Tryz.underlying29) (@sz29))))) (Ai (Ai (Ai (@fok29) (Ai (@info29) (@I29s))) (Ai (@I29b) (Ai (@zero29) (@grow29)))) (Ai (Ai (@Tryz.underlying30) (Ai (@sz30) (@info30))) (Ai (Ai (@I30s) (@I30b)) (Ai (@zero30) (@grow30))))))) (Ai (Ai (Ai (Ai (Ai (@Tryz.underlying31) (Ai (@sz31) (@info31))) (Ai (@I31s) (Ai (@I31b) (@zero31)))) (Ai (Ai (@grow31) (Ai (@Tryz.underlying33) (@sz33))) (Ai (@fok33) (Ai (@info33) (@I33s))))) (Ai (Ai (Ai (@I33b) (Ai (@zero33) (@grow33))) (Ai (@Tryz.underlying38) (Ai (@sz38) (@info38)))) (Ai (Ai (@I38s) (Ai (@I38b) (@zero38))) (Ai (Ai (@grow38) (@Tryz.underlying45)) (Ai (@sz45) (@fok45)))))) (Ai (Ai (Ai (Ai (@info45) (Ai (@I45s) (@I45b))) (Ai (@zero45) (Ai (@grow45) (@Tryz.underlying62)))) (Ai (Ai (@sz62) (Ai (@info62) (@I62s))) (Ai (Ai (@I62b) (@zero62)) (Ai (@grow62) (@Tryz.underlying93))))) (Ai (Ai (Ai (@sz93) (Ai (@info93) (@I93s))) (Ai (@I93b) (Ai (@zero93) (@grow93)))) (Ai (Ai (@Tryz.underlying95) (Ai (@sz95) (@fok95))) (Ai (Ai (@info95) (@I95s)) (Ai (@call39) (@Tryz.results38)))))))
set_option maxRecDepth 20000
set_option maxHeartbeats 8000000
def fJ (l:List St):List EVal:=(lS l).flatten
theorem nL (s:St):(eSt s).length=13:=rfl
theorem jN (l:List St):(fJ l).length=l.length*13:=by
 induction l with
 | nil=>rfl
 | cons q l ih=>
   have e:fJ (q::l)=eSt q++fJ l:=by simp [fJ,lS]
   rw [e,List.length_append,ih,nL,List.length_cons];omega
theorem axq (l:List St) (q:St):fJ (l++[q])=fJ l++eSt q:=by simp [fJ,lS]
theorem axp (l:List St):(fJ l).take (l.length*13)=fJ l:=by rw [←jN l,List.take_length]
theorem xZ (s:St):keepL (eSt s)=some (eSt s):=rfl
theorem aqR (l:List St):keepL (fJ l)=some (fJ l):=by
 induction l with
 | nil=>rfl
 | cons q l ih=>
   have e:fJ (q::l)=eSt q++fJ l:=by simp [fJ,lS]
   rw [e]
   exact jC (xZ q) ih
theorem aqf (l:List St):chunk 13 l.length (fJ l)=lS l:=by
 induction l with
 | nil=>rfl
 | cons q l ih=>
   have e:fJ (q::l)=eSt q++fJ l:=by simp [fJ,lS]
   rw [e]
   show(eSt q++fJ l).take 13::chunk 13 l.length ((eSt q++fJ l).drop 13)=_
   rw [List.take_left' (nL q),List.drop_left' (nL q),ih];rfl
def SL (ty:TypeId) (c7:Nat) (v:EVal) (ps:List St) (N:Nat) (l:List (Nat×Option cK)):Prop:=
 (∃q,ps=[q]∧0<N∧c7≠0∧v=.slice 0 0 1 (.exact 1)∧lookG l 0=some (.row (eSt q) ty 0 0 false)) ∨
 ∃id,id≠c7∧1<id∧id<N∧v=.slice id 0 ps.length (.slack 0)∧lookG l id=some (.row (fJ ps) ty 0 0 true)
theorem awF {ty:TypeId}{c7:Nat}{v:EVal}{ps:List St}{N:Nat}{l:List (Nat×Option cK)}(h:SL ty c7 v ps N l):v.cells=[v]∧v.one=true∧allOne [v]=true∧v.kept=false:=by
 rcases h with⟨q,_,_,_,rfl,_⟩ | ⟨id,_,_,_,rfl,_⟩<;>exact⟨rfl,rfl,rfl,rfl⟩
theorem bqf {ty:TypeId}{c7 j:Nat}{v:EVal}{ps:List St}{N:Nat}{l:List (Nat×Option cK)}{x:Option cK}(hj:j=c7∨j=1) (h:SL ty c7 v ps N l):SL ty c7 v ps N ((j,x)::l):=by
 rcases h with⟨q,h1,h2,h3,h4,h5⟩ | ⟨id,h1,h2,h3,h4,h5⟩
 · exact .inl ⟨q,h1,h2,h3,h4,by rw [lookG.eq_2,if_neg (by omega)];exact h5⟩
 · exact .inr ⟨id,h1,h2,h3,h4,by rw [lookG.eq_2,if_neg (by omega)];exact h5⟩
theorem SL_new {ty:TypeId}{c7:Nat}{v:EVal}{ps:List St}{N:Nat}{l:List (Nat×Option cK)}{x y:Option cK}(h:SL ty c7 v ps N l):SL ty c7 v ps (N+1) ((N,x)::(N,y)::l):=by
 rcases h with⟨q,h1,h2,h3,h4,h5⟩ | ⟨id,h1,h2,h3,h4,h5⟩
 · exact .inl ⟨q,h1,by omega,h3,h4,by rw [lookG.eq_2,if_neg (by omega),lookG.eq_2,if_neg (by omega)];exact h5⟩
 · exact .inr ⟨id,h1,h2,by omega,h4,by rw [lookG.eq_2,if_neg (by omega),lookG.eq_2,if_neg (by omega)];exact h5⟩
theorem axe {c7:Nat}{v:EVal}{ps:List St}{q:St}{N m:Nat}{l:List (Nat×Option cK)}{kk:List (Nat×Option (Nat×TypeId))}(h:SL 33 c7 v ps N l) (hc:c7<N) (h1:1<N) (hN:N<16000) (hlen:ps.length≤1000) :
  ∃v2 l2,eAppend Tryz.prog (mkH N l m kk) 23 v (.lsl [[.int .i64 q.inn,.int .i64 q.half,.int .i64 q.outs,.int .i64 q.balls,.int .i64 q.strikes,.int .i64 q.b1,.int .i64 q.b2,.int .i64 q.b3,.int .i64 q.n0,.int .i64 q.n1,.int .i64 q.c0,.int .i64 q.c1,.bool q.over]])=some (v2,mkH (N+1) l2 m kk)∧SL 33 c7 v2 (ps++[q]) (N+1) l2∧∀i,(i=c7∨i=1)→lookG l2 i=lookG l i:=by
 have g2:aZ 13 [[EVal.int .i64 q.inn,.int .i64 q.half,.int .i64 q.outs,.int .i64 q.balls,.int .i64 q.strikes,.int .i64 q.b1,.int .i64 q.b2,.int .i64 q.b3,.int .i64 q.n0,.int .i64 q.n1,.int .i64 q.c0,.int .i64 q.c1,.bool q.over]]=true:=rfl
 rcases h with⟨q0,rfl,_,hc0,rfl,hl⟩ | ⟨id,hid1,hid2,hid,rfl,hl⟩
 · have g1:decide (104*(1+1)≤1000000)=true:=by decide
   simp only [eSt]at hl
   refine⟨.slice N 0 2 (.slack 0),(N,some (.row (eSt q0++eSt q) 33 0 0 true))::l,?_,.inr ⟨N,by omega,h1,by omega,rfl,by simp [lookG,fJ,lS]⟩,?_⟩
   · simp only [SS,bqd,kcall,setRange,repl,isNextM,eConvert,eField,eSlice,eBuild,eBuildSlice,Nat.reduceLT,Nat.reduceEqDiff,Nat.reduceAdd,Nat.reduceMul,Nat.reduceSub,Nat.reduceLeDiff,Nat.reduceBEq,reduceCtorEq,hl,g1,g2]
     rfl
   · intro i hi
     rw [lookG.eq_2,if_neg (by omega)]
 · have hid0:id<16000:=by omega
   have g1:decide (104*(ps.length+1)≤1000000)=true:=by simp;omega
   have g3:((ps.length+1)*13≤ps.length*13)=False:=by simp only [eq_iff_iff,iff_false];omega
   refine⟨.slice N 0 (ps.length+1) (.slack 0),(N,some (.row (fJ ps++eSt q) 33 0 0 true))::(id,none)::l,?_,.inr ⟨N,by omega,h1,by omega,by simp,by rw [axq];simp [lookG]⟩,?_⟩
   · simp only [SS,bqd,kcall,setRange,repl,isNextM,eConvert,eField,eSlice,eBuild,eBuildSlice,Nat.reduceLT,Nat.reduceEqDiff,Nat.reduceAdd,Nat.reduceMul,Nat.reduceSub,Nat.reduceLeDiff,Nat.reduceBEq,reduceCtorEq,hid0,hl,g1,g2,g3,jN,axp]
     rfl
   · intro i hi
     rw [lookG.eq_2,if_neg (by omega),lookG.eq_2,if_neg (by omega)]
theorem HV.mode {P:Program}{n m m':Nat}{l:List (Nat×Option cK)}{k:List (Nat×Option (Nat×TypeId))}(hm:m % 1099511627776≤m' % 1099511627776):HV P (mkH n l m k) (mkH n l m' k):=fun B0 W0 ρ w R=>
 ⟨R.below,R.base,R.dom,R.lo,R.inj,R.objs,R.fz,R.free,R.fz0,fun id q hid=>R.mdom id q (Nat.le_trans hm hid),R.toks,R.tnew,R.tinj⟩
end Go.Ev
