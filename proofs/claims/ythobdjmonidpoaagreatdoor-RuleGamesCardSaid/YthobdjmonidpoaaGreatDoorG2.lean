import Derived.Test.YthobdjmonidpoaaGreatDoorG1
set_option linter.unusedSimpArgs false
set_option linter.unusedVariables false
namespace Go.Ev
open Go.RowKit Go.Proofs
set_option linter.defProp false
def bqt:=Ai (Ai (Ai (Ai (Ai (Ai (@Tryz.underlying3) (Ai (@sz3) (@info3))) (Ai (@I3s) (Ai (@I3b) (@zero3)))) (Ai (Ai (@grow3) (Ai (@Tryz.underlying4) (@sz4))) (Ai (@info4) (Ai (@I4s) (@I4b))))) (Ai (Ai (Ai (@zero4) (Ai (@grow4) (@Tryz.underlying9))) (Ai (@sz9) (Ai (@info9) (@I9s)))) (Ai (Ai (@I9b) (Ai (@zero9) (@grow9))) (Ai (Ai (@Tryz.underlying25) (@sz25)) (Ai (@info25) (@I25s)))))) (Ai (Ai (Ai (Ai (@I25b) (Ai (@zero25) (@grow25))) (Ai (@Tryz.underlying30) (Ai (@sz30) (@info30)))) (Ai (Ai (@I30s) (Ai (@I30b) (@zero30))) (Ai (@grow30) (Ai (@Tryz.underlying31) (@sz31))))) (Ai (Ai (Ai (@info31) (Ai (@I31s) (@I31b))) (Ai (@zero31) (Ai (@grow31) (@Tryz.underlying33)))) (Ai (Ai (@sz33) (Ai (@fok33) (@info33))) (Ai (Ai (@I33s) (@I33b)) (Ai (@zero33) (@grow33))))))) (Ai (Ai (Ai (Ai (Ai (@Tryz.underlying43) (Ai (@sz43) (@info43))) (Ai (@I43s) (Ai (@I43b) (@zero43)))) (Ai (Ai (@grow43) (Ai (@Tryz.underlying45) (@sz45))) (Ai (@fok45) (Ai (@info45) (@I45s))))) (Ai (Ai (Ai (@I45b) (Ai (@zero45) (@grow45))) (Ai (@Tryz.underlying53) (Ai (@sz53) (@info53)))) (Ai (Ai (@I53s) (Ai (@I53b) (@zero53))) (Ai (Ai (@grow53) (@Tryz.underlying69)) (Ai (@sz69) (@info69)))))) (Ai (Ai (Ai (Ai (@I69s) (Ai (@I69b) (@zero69))) (Ai (@grow69) (Ai (@Tryz.underlying77) (@sz77)))) (Ai (Ai (@fok77) (Ai (@info77) (@I77s))) (Ai (Ai (@I77b) (@zero77)) (Ai (@grow77) (@Tryz.underlying96))))) (Ai (Ai (Ai (@sz96) (Ai (@info96) (@I96s))) (Ai (@I96b) (Ai (@zero96) (@grow96)))) (Ai (Ai (@Tryz.underlying98) (Ai (@sz98) (@fok98))) (Ai (Ai (@info98) (@I98s)) (Ai (@call27) (@Tryz.results26)))))))
set_option maxRecDepth 20000
set_option maxHeartbeats 8000000
def cQ (l:List St):List EVal:=(gF l).flatten
theorem gN (s:St):(eSt s).length=13:=rfl
theorem eA (l:List St):(cQ l).length=l.length*13:=by
 induction l with
 | nil=>rfl
 | cons q l ih=>
   have e:cQ (q::l)=eSt q++cQ l:=by simp [cQ,gF]
   rw [e,List.length_append,ih,gN,List.length_cons];omega
theorem uD (l:List St) (q:St):cQ (l++[q])=cQ l++eSt q:=by simp [cQ,gF]
theorem uC (l:List St):(cQ l).take (l.length*13)=cQ l:=by rw [←eA l,List.take_length]
theorem xX (s:St):keepL (eSt s)=some (eSt s):=rfl
theorem qS (l:List St):keepL (cQ l)=some (cQ l):=by
 induction l with
 | nil=>rfl
 | cons q l ih=>
   have e:cQ (q::l)=eSt q++cQ l:=by simp [cQ,gF]
   rw [e]
   exact i9 (xX q) ih
theorem rR (l:List St):chunk 13 l.length (cQ l)=gF l:=by
 induction l with
 | nil=>rfl
 | cons q l ih=>
   have e:cQ (q::l)=eSt q++cQ l:=by simp [cQ,gF]
   rw [e]
   show(eSt q++cQ l).take 13::chunk 13 l.length ((eSt q++cQ l).drop 13)=_
   rw [List.take_left' (gN q),List.drop_left' (gN q),ih];rfl
theorem ay4 {l:List St}{k:Nat}{q:St}(h:l[k]? = some q):((cQ l).drop (k*13)).take 13=eSt q:=by
 induction l generalizing k with
 | nil=>cases h
 | cons x l ih=>
   have e:cQ (x::l)=eSt x++cQ l:=by simp [cQ,gF]
   cases k with
   | zero=>
     simp only [List.getElem?_cons_zero,Oi]at h
     subst h
     rw [e,Nat.zero_mul,List.drop_zero,List.take_left' (gN x)]
   | succ k=>
     simp only [List.getElem?_cons_succ]at h
     rw [e,show(k+1)*13=(eSt x).length+k*13 by rw [gN];omega,List.drop_append,List.drop_of_length_le (by omega),Nat.add_sub_cancel_left,List.nil_append]
     exact ih h
def SL (ty:TypeId) (c7:Nat) (v:EVal) (ps:List St) (N:Nat) (l:List (Nat×Option cY)):Prop:=
 (∃q,ps=[q]∧0<N∧c7≠0∧v=.slice 0 0 1 (.exact 1)∧lookG l 0=some (.row (eSt q) ty 0 0 false)) ∨
 ∃id,id≠c7∧1<id∧id<N∧v=.slice id 0 ps.length (.slack 0)∧lookG l id=some (.row (cQ ps) ty 0 0 true)
theorem axN {ty:TypeId}{c7:Nat}{v:EVal}{ps:List St}{N:Nat}{l:List (Nat×Option cY)}(h:SL ty c7 v ps N l):v.cells=[v]∧v.one=true∧allOne [v]=true∧v.kept=false:=by
 rcases h with⟨q,_,_,_,rfl,_⟩ | ⟨id,_,_,_,rfl,_⟩<;>exact⟨rfl,rfl,rfl,rfl⟩
theorem bqu {ty:TypeId}{c7 j:Nat}{v:EVal}{ps:List St}{N:Nat}{l:List (Nat×Option cY)}{x:Option cY}(hj:j=c7∨j=1) (h:SL ty c7 v ps N l):SL ty c7 v ps N ((j,x)::l):=by
 rcases h with⟨q,h1,h2,h3,h4,h5⟩ | ⟨id,h1,h2,h3,h4,h5⟩
 · exact .inl ⟨q,h1,h2,h3,h4,by rw [lookG.eq_2,if_neg (by omega)];exact h5⟩
 · exact .inr ⟨id,h1,h2,h3,h4,by rw [lookG.eq_2,if_neg (by omega)];exact h5⟩
theorem bqv {ty:TypeId}{c7:Nat}{v:EVal}{ps:List St}{N:Nat}{l:List (Nat×Option cY)}{x y:Option cY}(h:SL ty c7 v ps N l):SL ty c7 v ps (N+1) ((N,x)::(N,y)::l):=by
 rcases h with⟨q,h1,h2,h3,h4,h5⟩ | ⟨id,h1,h2,h3,h4,h5⟩
 · exact .inl ⟨q,h1,by omega,h3,h4,by rw [lookG.eq_2,if_neg (by omega),lookG.eq_2,if_neg (by omega)];exact h5⟩
 · exact .inr ⟨id,h1,h2,by omega,h4,by rw [lookG.eq_2,if_neg (by omega),lookG.eq_2,if_neg (by omega)];exact h5⟩
theorem axk {c7:Nat}{v:EVal}{ps:List St}{q:St}{N m:Nat}{l:List (Nat×Option cY)}{kk:List (Nat×Option (Nat×TypeId))}(h:SL 33 c7 v ps N l) (hc:c7<N) (h1:1<N) (hN:N<16000) (hlen:ps.length≤1000) :
  ∃v2 l2,eAppend Tryz.prog (mkH N l m kk) 25 v (.lsl [[.int .i64 q.inn,.int .i64 q.half,.int .i64 q.outs,.int .i64 q.balls,.int .i64 q.strikes,.int .i64 q.b1,.int .i64 q.b2,.int .i64 q.b3,.int .i64 q.n0,.int .i64 q.n1,.int .i64 q.c0,.int .i64 q.c1,.bool q.over]])=some (v2,mkH (N+1) l2 m kk)∧SL 33 c7 v2 (ps++[q]) (N+1) l2∧∀i,(i=c7∨i=1)→lookG l2 i=lookG l i:=by
 have g2:a9 13 [[EVal.int .i64 q.inn,.int .i64 q.half,.int .i64 q.outs,.int .i64 q.balls,.int .i64 q.strikes,.int .i64 q.b1,.int .i64 q.b2,.int .i64 q.b3,.int .i64 q.n0,.int .i64 q.n1,.int .i64 q.c0,.int .i64 q.c1,.bool q.over]]=true:=rfl
 rcases h with⟨q0,rfl,_,hc0,rfl,hl⟩ | ⟨id,hid1,hid2,hid,rfl,hl⟩
 · have g1:decide (104*(1+1)≤1000000)=true:=by decide
   simp only [eSt]at hl
   refine⟨.slice N 0 2 (.slack 0),(N,some (.row (eSt q0++eSt q) 33 0 0 true))::l,?_,.inr ⟨N,by omega,h1,by omega,rfl,by simp [lookG,cQ,gF]⟩,?_⟩
   · simp only [SS,bqt,kcall,setRange,repl,isNextM,eConvert,eField,eSlice,eBuild,eBuildSlice,Nat.reduceLT,Nat.reduceEqDiff,Nat.reduceAdd,Nat.reduceMul,Nat.reduceSub,Nat.reduceLeDiff,Nat.reduceBEq,reduceCtorEq,hl,g1,g2]
     rfl
   · intro i hi
     rw [lookG.eq_2,if_neg (by omega)]
 · have hid0:id<16000:=by omega
   have g1:decide (104*(ps.length+1)≤1000000)=true:=by simp;omega
   have g3:((ps.length+1)*13≤ps.length*13)=False:=by simp only [eq_iff_iff,iff_false];omega
   refine⟨.slice N 0 (ps.length+1) (.slack 0),(N,some (.row (cQ ps++eSt q) 33 0 0 true))::(id,none)::l,?_,.inr ⟨N,by omega,h1,by omega,by simp,by rw [uD];simp [lookG]⟩,?_⟩
   · simp only [SS,bqt,kcall,setRange,repl,isNextM,eConvert,eField,eSlice,eBuild,eBuildSlice,Nat.reduceLT,Nat.reduceEqDiff,Nat.reduceAdd,Nat.reduceMul,Nat.reduceSub,Nat.reduceLeDiff,Nat.reduceBEq,reduceCtorEq,hid0,hl,g1,g2,g3,eA,uC]
     rfl
   · intro i hi
     rw [lookG.eq_2,if_neg (by omega),lookG.eq_2,if_neg (by omega)]
theorem HV.mode {P:Program}{n m m':Nat}{l:List (Nat×Option cY)}{k:List (Nat×Option (Nat×TypeId))}(hm:m % 1099511627776≤m' % 1099511627776):HV P (mkH n l m k) (mkH n l m' k):=fun B0 W0 ρ w R=>
 ⟨R.below,R.base,R.dom,R.lo,R.inj,R.objs,R.fz,R.free,R.fz0,fun id q hid=>R.mdom id q (Nat.le_trans hm hid),R.toks,R.tnew,R.tinj⟩
end Go.Ev
