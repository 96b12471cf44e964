import Derived.Test.YtknnagbemkdlgaaGreatDoorEvD
import Derived.Test.YtknnagbemkdlgaaGreatDoorG1
set_option linter.unusedSimpArgs false
set_option linter.unusedVariables false
namespace Go.Ev
open Go.RowKit Go.Proofs
set_option linter.defProp false
def ayt:=Ai (Ai (Ai (Ai (Ai (Ai (@Tryz.underlying3) (Ai (@sz3) (@info3))) (Ai (@I3s) (Ai (@I3b) (@zero3)))) (Ai (Ai (@grow3) (Ai (@Tryz.underlying4) (@sz4))) (Ai (@info4) (Ai (@I4s) (@I4b))))) (Ai (Ai (Ai (@zero4) (Ai (@grow4) (@Tryz.underlying9))) (Ai (@sz9) (Ai (@info9) (@I9s)))) (Ai (Ai (@I9b) (Ai (@zero9) (@grow9))) (Ai (Ai (@Tryz.underlying23) (@sz23)) (Ai (@info23) (@I23s)))))) (Ai (Ai (Ai (Ai (@I23b) (Ai (@zero23) (@grow23))) (Ai (@Tryz.underlying25) (Ai (@sz25) (@fok25)))) (Ai (Ai (@info25) (Ai (@I25s) (@I25b))) (Ai (@zero25) (Ai (@grow25) (@Tryz.underlying29))))) (Ai (Ai (Ai (@sz29) (Ai (@info29) (@I29s))) (Ai (@I29b) (Ai (@zero29) (@grow29)))) (Ai (Ai (@Tryz.underlying34) (Ai (@sz34) (@info34))) (Ai (Ai (@I34s) (@I34b)) (Ai (@zero34) (@grow34))))))) (Ai (Ai (Ai (Ai (Ai (@Tryz.underlying35) (Ai (@sz35) (@info35))) (Ai (@I35s) (Ai (@I35b) (@zero35)))) (Ai (Ai (@grow35) (Ai (@Tryz.underlying37) (@sz37))) (Ai (@fok37) (Ai (@info37) (@I37s))))) (Ai (Ai (Ai (@I37b) (Ai (@zero37) (@grow37))) (Ai (@Tryz.underlying49) (Ai (@sz49) (@info49)))) (Ai (Ai (@I49s) (Ai (@I49b) (@zero49))) (Ai (Ai (@grow49) (@Tryz.underlying65)) (Ai (@sz65) (@info65)))))) (Ai (Ai (Ai (Ai (@I65s) (Ai (@I65b) (@zero65))) (Ai (@grow65) (Ai (@Tryz.underlying71) (@sz71)))) (Ai (Ai (@fok71) (Ai (@info71) (@I71s))) (Ai (Ai (@I71b) (@zero71)) (Ai (@grow71) (@Tryz.underlying87))))) (Ai (Ai (Ai (@sz87) (Ai (@info87) (@I87s))) (Ai (@I87b) (Ai (@zero87) (@grow87)))) (Ai (Ai (@Tryz.underlying89) (Ai (@sz89) (@fok89))) (Ai (Ai (@info89) (@I89s)) (Ai (@call27) (@Tryz.results26)))))))
set_option maxRecDepth 20000
set_option maxHeartbeats 8000000
def fD (l:List St):List EVal:=(cX l).flatten
theorem mX (s:St):(eSt s).length=13:=rfl
theorem jG (l:List St):(fD l).length=l.length*13:=by
 induction l with
 | nil=>rfl
 | cons q l ih=>
   have e:fD (q::l)=eSt q++fD l:=by simp [fD,cX]
   rw [e,List.length_append,ih,mX,List.length_cons];omega
theorem axV (l:List St) (q:St):fD (l++[q])=fD l++eSt q:=by simp [fD,cX]
theorem axU (l:List St):(fD l).take (l.length*13)=fD l:=by rw [←jG l,List.take_length]
theorem xA (s:St):keepL (eSt s)=some (eSt s):=rfl
theorem zY (l:List St):keepL (fD l)=some (fD l):=by
 induction l with
 | nil=>rfl
 | cons q l ih=>
   have e:fD (q::l)=eSt q++fD l:=by simp [fD,cX]
   rw [e]
   exact iZ (xA q) ih
theorem aqN (l:List St):chunk 13 l.length (fD l)=cX l:=by
 induction l with
 | nil=>rfl
 | cons q l ih=>
   have e:fD (q::l)=eSt q++fD l:=by simp [fD,cX]
   rw [e]
   show(eSt q++fD l).take 13::chunk 13 l.length ((eSt q++fD l).drop 13)=_
   rw [List.take_left' (mX q),List.drop_left' (mX q),ih];rfl
def SL (ty:TypeId) (c7:Nat) (v:EVal) (ps:List St) (N:Nat) (l:List (Nat×Option cL)):Prop:=
 (∃q,ps=[q]∧0<N∧c7≠0∧v=.slice 0 0 1 (.exact 1)∧lookG l 0=some (.row (eSt q) ty 0 0 false)) ∨
 ∃id,id≠c7∧1<id∧id<N∧v=.slice id 0 ps.length (.slack 0)∧lookG l id=some (.row (fD ps) ty 0 0 true)
theorem ak0 {ty:TypeId}{c7:Nat}{v:EVal}{ps:List St}{N:Nat}{l:List (Nat×Option cL)}(h:SL ty c7 v ps N l):v.cells=[v]∧v.one=true∧allOne [v]=true∧v.kept=false:=by
 rcases h with⟨q,_,_,_,rfl,_⟩ | ⟨id,_,_,_,rfl,_⟩<;>exact⟨rfl,rfl,rfl,rfl⟩
theorem ayv {ty:TypeId}{c7 j:Nat}{v:EVal}{ps:List St}{N:Nat}{l:List (Nat×Option cL)}{x:Option cL}(hj:j=c7∨j=1) (h:SL ty c7 v ps N l):SL ty c7 v ps N ((j,x)::l):=by
 rcases h with⟨q,h1,h2,h3,h4,h5⟩ | ⟨id,h1,h2,h3,h4,h5⟩
 · exact .inl ⟨q,h1,h2,h3,h4,by rw [lookG.eq_2,if_neg (by omega)];exact h5⟩
 · exact .inr ⟨id,h1,h2,h3,h4,by rw [lookG.eq_2,if_neg (by omega)];exact h5⟩
theorem SL_new {ty:TypeId}{c7:Nat}{v:EVal}{ps:List St}{N:Nat}{l:List (Nat×Option cL)}{x y:Option cL}(h:SL ty c7 v ps N l):SL ty c7 v ps (N+1) ((N,x)::(N,y)::l):=by
 rcases h with⟨q,h1,h2,h3,h4,h5⟩ | ⟨id,h1,h2,h3,h4,h5⟩
 · exact .inl ⟨q,h1,by omega,h3,h4,by rw [lookG.eq_2,if_neg (by omega),lookG.eq_2,if_neg (by omega)];exact h5⟩
 · exact .inr ⟨id,h1,h2,by omega,h4,by rw [lookG.eq_2,if_neg (by omega),lookG.eq_2,if_neg (by omega)];exact h5⟩
theorem axI {c7:Nat}{v:EVal}{ps:List St}{q:St}{N m:Nat}{l:List (Nat×Option cL)}{kk:List (Nat×Option (Nat×TypeId))}(h:SL 37 c7 v ps N l) (hc:c7<N) (h1:1<N) (hN:N<16000) (hlen:ps.length≤1000) :
  ∃v2 l2,eAppend Tryz.prog (mkH N l m kk) 29 v (.lsl [[.int .i64 q.inn,.int .i64 q.half,.int .i64 q.outs,.int .i64 q.balls,.int .i64 q.strikes,.int .i64 q.b1,.int .i64 q.b2,.int .i64 q.b3,.int .i64 q.n0,.int .i64 q.n1,.int .i64 q.c0,.int .i64 q.c1,.bool q.over]])=some (v2,mkH (N+1) l2 m kk)∧SL 37 c7 v2 (ps++[q]) (N+1) l2∧∀i,(i=c7∨i=1)→lookG l2 i=lookG l i:=by
 have g2:aV 13 [[EVal.int .i64 q.inn,.int .i64 q.half,.int .i64 q.outs,.int .i64 q.balls,.int .i64 q.strikes,.int .i64 q.b1,.int .i64 q.b2,.int .i64 q.b3,.int .i64 q.n0,.int .i64 q.n1,.int .i64 q.c0,.int .i64 q.c1,.bool q.over]]=true:=rfl
 rcases h with⟨q0,rfl,_,hc0,rfl,hl⟩ | ⟨id,hid1,hid2,hid,rfl,hl⟩
 · have g1:decide (104*(1+1)≤1000000)=true:=by decide
   simp only [eSt]at hl
   refine⟨.slice N 0 2 (.slack 0),(N,some (.row (eSt q0++eSt q) 37 0 0 true))::l,?_,.inr ⟨N,by omega,h1,by omega,rfl,by simp [lookG,fD,cX]⟩,?_⟩
   · simp only [SS,ayt,kcall,setRange,repl,isNextM,eConvert,eField,eSlice,eBuild,eBuildSlice,Nat.reduceLT,Nat.reduceEqDiff,Nat.reduceAdd,Nat.reduceMul,Nat.reduceSub,Nat.reduceLeDiff,Nat.reduceBEq,reduceCtorEq,hl,g1,g2]
     rfl
   · intro i hi
     rw [lookG.eq_2,if_neg (by omega)]
 · have hid0:id<16000:=by omega
   have g1:decide (104*(ps.length+1)≤1000000)=true:=by simp;omega
   have g3:((ps.length+1)*13≤ps.length*13)=False:=by simp only [eq_iff_iff,iff_false];omega
   refine⟨.slice N 0 (ps.length+1) (.slack 0),(N,some (.row (fD ps++eSt q) 37 0 0 true))::(id,none)::l,?_,.inr ⟨N,by omega,h1,by omega,by simp,by rw [axV];simp [lookG]⟩,?_⟩
   · simp only [SS,ayt,kcall,setRange,repl,isNextM,eConvert,eField,eSlice,eBuild,eBuildSlice,Nat.reduceLT,Nat.reduceEqDiff,Nat.reduceAdd,Nat.reduceMul,Nat.reduceSub,Nat.reduceLeDiff,Nat.reduceBEq,reduceCtorEq,hid0,hl,g1,g2,g3,jG,axU]
     rfl
   · intro i hi
     rw [lookG.eq_2,if_neg (by omega),lookG.eq_2,if_neg (by omega)]
theorem HV.mode {P:Program}{n m m':Nat}{l:List (Nat×Option cL)}{k:List (Nat×Option (Nat×TypeId))}(hm:m % 1099511627776≤m' % 1099511627776):HV P (mkH n l m k) (mkH n l m' k):=fun B0 W0 ρ w R=>
 ⟨R.below,R.base,R.dom,R.lo,R.inj,R.objs,R.fz,R.free,R.fz0,fun id q hid=>R.mdom id q (Nat.le_trans hm hid),R.toks,R.tnew,R.tinj⟩
end Go.Ev
namespace Go.Ev
open Go.RowKit Go.Proofs
set_option linter.defProp false
def TF25G3:=Ai (Ai (Ai (Ai (Ai (Ai (@Tryz.underlying3) (Ai (@sz3) (@info3))) (Ai (@I3s) (Ai (@I3b) (@zero3)))) (Ai (Ai (@grow3) (Ai (@Tryz.underlying4) (@sz4))) (Ai (Ai (@info4) (@I4s)) (Ai (@I4b) (@zero4))))) (Ai (Ai (Ai (@grow4) (Ai (@Tryz.underlying9) (@sz9))) (Ai (Ai (@info9) (@I9s)) (Ai (@I9b) (@zero9)))) (Ai (Ai (@grow9) (Ai (@Tryz.underlying22) (@sz22))) (Ai (Ai (@info22) (@I22s)) (Ai (@I22b) (@zero22)))))) (Ai (Ai (Ai (Ai (@grow22) (Ai (@Tryz.underlying23) (@sz23))) (Ai (Ai (@info23) (@I23s)) (Ai (@I23b) (@zero23)))) (Ai (Ai (@grow23) (Ai (@Tryz.underlying25) (@sz25))) (Ai (Ai (@fok25) (@info25)) (Ai (@I25s) (@I25b))))) (Ai (Ai (Ai (@zero25) (Ai (@grow25) (@Tryz.underlying30))) (Ai (Ai (@sz30) (@info30)) (Ai (@I30s) (@I30b)))) (Ai (Ai (@zero30) (Ai (@grow30) (@Tryz.underlying34))) (Ai (Ai (@sz34) (@info34)) (Ai (@I34s) (@I34b))))))) (Ai (Ai (Ai (Ai (Ai (@zero34) (Ai (@grow34) (@Tryz.underlying35))) (Ai (@sz35) (Ai (@info35) (@I35s)))) (Ai (Ai (@I35b) (Ai (@zero35) (@grow35))) (Ai (Ai (@Tryz.underlying37) (@sz37)) (Ai (@fok37) (@info37))))) (Ai (Ai (Ai (@I37s) (Ai (@I37b) (@zero37))) (Ai (Ai (@grow37) (@Tryz.underlying49)) (Ai (@sz49) (@info49)))) (Ai (Ai (@I49s) (Ai (@I49b) (@zero49))) (Ai (Ai (@grow49) (@Tryz.underlying65)) (Ai (@sz65) (@info65)))))) (Ai (Ai (Ai (Ai (@I65s) (Ai (@I65b) (@zero65))) (Ai (Ai (@grow65) (@Tryz.underlying71)) (Ai (@sz71) (@fok71)))) (Ai (Ai (@info71) (Ai (@I71s) (@I71b))) (Ai (Ai (@zero71) (@grow71)) (Ai (@Tryz.underlying87) (@sz87))))) (Ai (Ai (Ai (@info87) (Ai (@I87s) (@I87b))) (Ai (Ai (@zero87) (@grow87)) (Ai (@Tryz.underlying89) (@sz89)))) (Ai (Ai (@fok89) (Ai (@info89) (@I89s))) (Ai (Ai (@call9) (@call27)) (Ai (@call28) (@Tryz.results25)))))))
set_option maxRecDepth 20000
set_option maxHeartbeats 8000000
noncomputable abbrev KRp:oN:=[(28,F85),(27,F86),(9,F22)]
def ownS (s:St):cL:=.row [.int .i64 s.inn,.int .i64 s.half,.int .i64 s.outs,.int .i64 s.balls,.int .i64 s.strikes,.int .i64 s.b1,.int .i64 s.b2,.int .i64 s.b3,.int .i64 s.n0,.int .i64 s.n1,.int .i64 s.c0,.int .i64 s.c1,.bool s.over] 37 0 0 false
theorem ct99 {L:List Pl}{fc:FuncId}{caps:List EVal}{m N0:Nat}{kk:List (Nat×Option (Nat×TypeId))}{l0:List (Nat×Option cL)}{INV:Nat→St→Nat→List (Nat×Option cL)→Prop}{k:EVal→H→Prop}
  (hfc:∀(h:H) (args:List EVal),bN Tryz.prog h fc args=some (.enter fc args h)) (hfk:∀a,known KRp fc a=none) (hlen:L.length<9223372036854775808) (hok:∀t∈L,okP t) (hN0:N0≤100)
  (hI0:∀x y,INV 0 aS (N0+1) ((N0,x)::(N0,y)::l0)) (hI1:∀i s N l x,INV i s N l→INV i s N ((N0,x)::l))
  (hIN:∀i s N l,INV i s N l→N0<N∧N≤120+10*i)
  (hC:∀(i:Nat) (s:St) (N:Nat) (l:List (Nat×Option cL)) (t:Pl) (x y:Option cL) (k:EVal→H→Prop),INV i s N l→i<256→L[i]? = some t→okP t→eE s t=0 →
   (∀N' l',INV (i+1) (nxt (mvd s t)) N' l'→lookG l' N0=lookG l N0→k (.tup []) (mkH N' l' m kk)) →
   CallT Tryz.prog gT (known KRp) fc ([.int .i64 (i:Nat),.lptr (eTn (fR s t)) 0]++caps) (mkH (N+1) ((N,x)::(N,y)::l) m kk) k)
  (hkB:256<L.length→k (.tup [.int .i64 0,.int .i64 0,.int .i64 5]) (mkH N0 l0 m kk))
  (hkE:∀(i:Nat) (s:St) (N:Nat) (l:List (Nat×Option cL)) (t:Pl) (x y:Option cL),INV i s N l→L.length≤256→L[i]? = some t→eE s t≠0→k (.tup [.int .i64 (i:Nat),.int .i64 (nN s t),.int .i64 (eE s t)]) (mkH (N+1) ((N,x)::(N,y)::l) m kk))
  (hkO:∀s N l,INV L.length s N l→L.length≤256→k (.tup [.int .i64 0,.int .i64 0,.int .i64 0]) (mkH N l m kk)) :
  CallT Tryz.prog gT (known KRp) 25 [.lsl (aZ L),.func fc caps] (mkH N0 l0 m kk) k:=by
 refine CallT.intro Tryz.func25 rfl ?_
 refine Top.view (View.start (n:=43) rfl (by simp)) (bU noNG _ _ _ _ ?_)
 have hN1:N0<16000:=by omega
 have hkm:∀(h:H) (args:List EVal),kcall Tryz.prog (known KRp) h fc args=none:=fun h a=>kcall_miss hfk
 have h22:=e22
 simp only [eSt,aS]at h22
 by_cases hbig:256<L.length
 · have q1:decide ((256:Int)<(L.length:Int))=true:=by simp;omega
   ((try simp only [a9,SS,TF25G3,kcall,setRange,repl,isNextM,eConvert,eField,eSlice,eBuild,eBuildSlice,Nat.reduceLT,Nat.reduceEqDiff,Nat.reduceAdd,Nat.reduceMul,Nat.reduceSub,Nat.reduceLeDiff,Nat.reduceBEq,reduceCtorEq,rowsP_length,q1]);(repeat' ((first|apply aE|apply aD|apply aG|apply aF|apply aC|apply aB)<;>intro h<;>simp only [h,SS,TF25G3,kcall,setRange,repl,isNextM,eConvert,eField,eSlice,eBuild,eBuildSlice,Nat.reduceLT,Nat.reduceEqDiff,Nat.reduceAdd,Nat.reduceMul,Nat.reduceSub,Nat.reduceLeDiff,Nat.reduceBEq,reduceCtorEq,rowsP_length,q1])))
   exact mB (es:=[.int .i64 0,.int .i64 0,.int .i64 5]) (.inl rfl) rfl (by simp only [SS,TF25G3,kcall,setRange,repl,isNextM,eConvert,eField,eSlice,eBuild,eBuildSlice,Nat.reduceLT,Nat.reduceEqDiff,Nat.reduceAdd,Nat.reduceMul,Nat.reduceSub,Nat.reduceLeDiff,Nat.reduceBEq,reduceCtorEq]) (hkB hbig)
 have q1:decide ((256:Int)<(L.length:Int))=false:=by simp;omega
 ((try simp only [a9,SS,TF25G3,kcall,setRange,repl,isNextM,eConvert,eField,eSlice,eBuild,eBuildSlice,Nat.reduceLT,Nat.reduceEqDiff,Nat.reduceAdd,Nat.reduceMul,Nat.reduceSub,Nat.reduceLeDiff,Nat.reduceBEq,reduceCtorEq,rowsP_length,q1,hN1,h22]);(repeat' ((first|apply aE|apply aD|apply aG|apply aF|apply aC|apply aB)<;>intro h<;>simp only [h,SS,TF25G3,kcall,setRange,repl,isNextM,eConvert,eField,eSlice,eBuild,eBuildSlice,Nat.reduceLT,Nat.reduceEqDiff,Nat.reduceAdd,Nat.reduceMul,Nat.reduceSub,Nat.reduceLeDiff,Nat.reduceBEq,reduceCtorEq,rowsP_length,q1,hN1,h22])))
 refine pF (Top.loop (I:=fun s:{ x:Nat×St×Nat×List (Nat×Option cL) // x.1≤L.length∧INV x.1 x.2.1 x.2.2.1 x.2.2.2∧lookG x.2.2.2 N0=some (ownS x.2.1) }=>(mkF 43 [(19,.int .i64 (s.1.1:Nat)),(18,.int .i64 (L.length:Nat)),(17,.lsl (aZ L)),(7,.ptr N0 0),(1,.func fc caps)],mkH s.1.2.2.1 s.1.2.2.2 m kk)) (μ:=fun s=>L.length-s.1.1) ⟨(0,aS,N0+1,_),by simp,hI0 _ _,by simp only [lookG,if_true];rfl⟩ (View.sub (by simp [look])) ?_)
 rintro⟨⟨i,s,N,l⟩,hi,hI,hown⟩
 dsimp only at hi hI hown
 refine bU noNG _ _ _ _ ?_
 dsimp only
 obtain⟨hN2,hN3⟩:=hIN _ _ _ _ hI
 unfold ownS at hown
 by_cases hlt:i<L.length
 rotate_left
 · obtain rfl:i=L.length:=by omega
   have q2:decide ((L.length:Int)<(L.length:Int))=false:=by simp
   ((try simp only [a9,SS,TF25G3,kcall,setRange,repl,isNextM,eConvert,eField,eSlice,eBuild,eBuildSlice,Nat.reduceLT,Nat.reduceEqDiff,Nat.reduceAdd,Nat.reduceMul,Nat.reduceSub,Nat.reduceLeDiff,Nat.reduceBEq,reduceCtorEq,q2]);(repeat' ((first|apply aE|apply aD|apply aG|apply aF|apply aC|apply aB)<;>intro h<;>simp only [h,SS,TF25G3,kcall,setRange,repl,isNextM,eConvert,eField,eSlice,eBuild,eBuildSlice,Nat.reduceLT,Nat.reduceEqDiff,Nat.reduceAdd,Nat.reduceMul,Nat.reduceSub,Nat.reduceLeDiff,Nat.reduceBEq,reduceCtorEq,q2])))
   exact mB (es:=[.int .i64 0,.int .i64 0,.int .i64 0]) (.inl rfl) rfl (by simp only [SS,TF25G3,kcall,setRange,repl,isNextM,eConvert,eField,eSlice,eBuild,eBuildSlice,Nat.reduceLT,Nat.reduceEqDiff,Nat.reduceAdd,Nat.reduceMul,Nat.reduceSub,Nat.reduceLeDiff,Nat.reduceBEq,reduceCtorEq]) (hkO _ _ _ hI (by omega))
 obtain⟨t,ht⟩:∃t,L[i]? = some t:=⟨L[i],List.getElem?_eq_getElem hlt⟩
 have okt:=hok t (List.mem_of_getElem? ht)
 have q2:decide ((i:Int)<(L.length:Int))=true:=by simp;omega
 have q3:IntKind.i64.wrap ((i:Int)+1)=((i+1:Nat):Int):=by rw [dG]<;>omega
 have hNN:N<16000:=by omega
 have n0:(N=N0)=False:=by simp only [eq_iff_iff,iff_false];omega
 have n1:(N0=N)=False:=by simp only [eq_iff_iff,iff_false];omega
 have e1:sB t=[.str t.p,.str t.e,.bool t.l,.lsl (dQ t.m)]:=rfl
 by_cases he:eE s t=0
 rotate_left
 · have h85:=e85_bad okt he
   simp only [eSt,e1]at h85
   have q4:(eE s t==0)=false:=by simpa using he
   ((try simp only [a9,SS,TF25G3,kcall,setRange,repl,isNextM,eConvert,eField,eSlice,eBuild,eBuildSlice,Nat.reduceLT,Nat.reduceEqDiff,Nat.reduceAdd,Nat.reduceMul,Nat.reduceSub,Nat.reduceLeDiff,Nat.reduceBEq,reduceCtorEq,rowsP_length,rowsP_get,ht,e1,q2,hNN,hown,hN1,n0,n1,h85,q4]);(repeat' ((first|apply aE|apply aD|apply aG|apply aF|apply aC|apply aB)<;>intro h<;>simp only [h,SS,TF25G3,kcall,setRange,repl,isNextM,eConvert,eField,eSlice,eBuild,eBuildSlice,Nat.reduceLT,Nat.reduceEqDiff,Nat.reduceAdd,Nat.reduceMul,Nat.reduceSub,Nat.reduceLeDiff,Nat.reduceBEq,reduceCtorEq,rowsP_length,rowsP_get,ht,e1,q2,hNN,hown,hN1,n0,n1,h85,q4])))
   exact mB (es:=[.int .i64 (i:Nat),.int .i64 (nN s t),.int .i64 (eE s t)]) (.inl rfl) rfl (by simp only [SS,TF25G3,kcall,setRange,repl,isNextM,eConvert,eField,eSlice,eBuild,eBuildSlice,Nat.reduceLT,Nat.reduceEqDiff,Nat.reduceAdd,Nat.reduceMul,Nat.reduceSub,Nat.reduceLeDiff,Nat.reduceBEq,reduceCtorEq]) (hkE _ _ _ _ _ _ _ hI (by omega) ht he)
 have h85:=awY okt he
 simp only [eSt,e1]at h85
 have h86:=e86 okt he
 simp only [eSt]at h86
 ((try simp only [a9,SS,TF25G3,kcall,setRange,repl,isNextM,eConvert,eField,eSlice,eBuild,eBuildSlice,Nat.reduceLT,Nat.reduceEqDiff,Nat.reduceAdd,Nat.reduceMul,Nat.reduceSub,Nat.reduceLeDiff,Nat.reduceBEq,reduceCtorEq,rowsP_length,rowsP_get,ht,e1,q2,hNN,hown,hN1,n0,n1,h85,hfc,↓hkm]);(repeat' ((first|apply aE|apply aD|apply aG|apply aF|apply aC|apply aB)<;>intro h<;>simp only [h,SS,TF25G3,kcall,setRange,repl,isNextM,eConvert,eField,eSlice,eBuild,eBuildSlice,Nat.reduceLT,Nat.reduceEqDiff,Nat.reduceAdd,Nat.reduceMul,Nat.reduceSub,Nat.reduceLeDiff,Nat.reduceBEq,reduceCtorEq,rowsP_length,rowsP_get,ht,e1,q2,hNN,hown,hN1,n0,n1,h85,hfc,↓hkm])))
 refine hC i s N l t _ _ _ hI (by omega) ht okt he fun N' l' hI' hl'=>?_
 rw [hown]at hl'
 ((try simp only [a9,SS,TF25G3,kcall,setRange,repl,isNextM,eConvert,eField,eSlice,eBuild,eBuildSlice,Nat.reduceLT,Nat.reduceEqDiff,Nat.reduceAdd,Nat.reduceMul,Nat.reduceSub,Nat.reduceLeDiff,Nat.reduceBEq,reduceCtorEq,hN1,hl',h86,q3]);(repeat' ((first|apply aE|apply aD|apply aG|apply aF|apply aC|apply aB)<;>intro h<;>simp only [h,SS,TF25G3,kcall,setRange,repl,isNextM,eConvert,eField,eSlice,eBuild,eBuildSlice,Nat.reduceLT,Nat.reduceEqDiff,Nat.reduceAdd,Nat.reduceMul,Nat.reduceSub,Nat.reduceLeDiff,Nat.reduceBEq,reduceCtorEq,hN1,hl',h86,q3])))
 exact⟨⟨(i+1,nxt (mvd s t),N',_),hlt,hI1 _ _ _ _ _ hI',by simp only [lookG,if_true];rfl⟩,by show L.length-(i+1)<L.length-i;omega,View.sub (by simp [look])⟩
end Go.Ev
namespace Go.Ev
open Go.RowKit Go.Proofs
set_option linter.defProp false
def TF7G4:=Ai (Ai (Ai (Ai (Ai (Ai (@Tryz.underlying3) (Ai (@sz3) (@info3))) (Ai (@I3s) (Ai (@I3b) (@zero3)))) (Ai (Ai (@grow3) (Ai (@Tryz.underlying4) (@sz4))) (Ai (Ai (@info4) (@I4s)) (Ai (@I4b) (@zero4))))) (Ai (Ai (Ai (@grow4) (Ai (@Tryz.underlying9) (@sz9))) (Ai (@info9) (Ai (@I9s) (@I9b)))) (Ai (Ai (@zero9) (Ai (@grow9) (@Tryz.underlying22))) (Ai (Ai (@sz22) (@info22)) (Ai (@I22s) (@I22b)))))) (Ai (Ai (Ai (Ai (@zero22) (Ai (@grow22) (@Tryz.underlying23))) (Ai (@sz23) (Ai (@info23) (@I23s)))) (Ai (Ai (@I23b) (Ai (@zero23) (@grow23))) (Ai (Ai (@Tryz.underlying25) (@sz25)) (Ai (@fok25) (@info25))))) (Ai (Ai (Ai (@I25s) (Ai (@I25b) (@zero25))) (Ai (@grow25) (Ai (@Tryz.underlying29) (@sz29)))) (Ai (Ai (@info29) (Ai (@I29s) (@I29b))) (Ai (Ai (@zero29) (@grow29)) (Ai (@Tryz.underlying30) (@sz30))))))) (Ai (Ai (Ai (Ai (Ai (@info30) (Ai (@I30s) (@I30b))) (Ai (@zero30) (Ai (@grow30) (@Tryz.underlying34)))) (Ai (Ai (@sz34) (Ai (@info34) (@I34s))) (Ai (Ai (@I34b) (@zero34)) (Ai (@grow34) (@Tryz.underlying35))))) (Ai (Ai (Ai (@sz35) (Ai (@info35) (@I35s))) (Ai (@I35b) (Ai (@zero35) (@grow35)))) (Ai (Ai (@Tryz.underlying37) (Ai (@sz37) (@fok37))) (Ai (Ai (@info37) (@I37s)) (Ai (@I37b) (@zero37)))))) (Ai (Ai (Ai (Ai (@grow37) (Ai (@Tryz.underlying49) (@sz49))) (Ai (@info49) (Ai (@I49s) (@I49b)))) (Ai (Ai (@zero49) (Ai (@grow49) (@Tryz.underlying66))) (Ai (Ai (@sz66) (@info66)) (Ai (@I66s) (@I66b))))) (Ai (Ai (Ai (@zero66) (Ai (@grow66) (@Tryz.underlying71))) (Ai (@sz71) (Ai (@fok71) (@info71)))) (Ai (Ai (@I71s) (Ai (@I71b) (@zero71))) (Ai (Ai (@grow71) (@call9)) (Ai (@call25) (@Tryz.results7)))))))
def TF26G4:=Ai (Ai (Ai (Ai (Ai (Ai (@Tryz.underlying3) (Ai (@sz3) (@info3))) (Ai (@I3s) (Ai (@I3b) (@zero3)))) (Ai (Ai (@grow3) (Ai (@Tryz.underlying4) (@sz4))) (Ai (@info4) (Ai (@I4s) (@I4b))))) (Ai (Ai (Ai (@zero4) (Ai (@grow4) (@Tryz.underlying9))) (Ai (@sz9) (Ai (@info9) (@I9s)))) (Ai (Ai (@I9b) (Ai (@zero9) (@grow9))) (Ai (Ai (@Tryz.underlying23) (@sz23)) (Ai (@info23) (@I23s)))))) (Ai (Ai (Ai (Ai (@I23b) (Ai (@zero23) (@grow23))) (Ai (@Tryz.underlying25) (Ai (@sz25) (@fok25)))) (Ai (Ai (@info25) (Ai (@I25s) (@I25b))) (Ai (@zero25) (Ai (@grow25) (@Tryz.underlying29))))) (Ai (Ai (Ai (@sz29) (Ai (@info29) (@I29s))) (Ai (@I29b) (Ai (@zero29) (@grow29)))) (Ai (Ai (@Tryz.underlying34) (Ai (@sz34) (@info34))) (Ai (Ai (@I34s) (@I34b)) (Ai (@zero34) (@grow34))))))) (Ai (Ai (Ai (Ai (Ai (@Tryz.underlying35) (Ai (@sz35) (@info35))) (Ai (@I35s) (Ai (@I35b) (@zero35)))) (Ai (Ai (@grow35) (Ai (@Tryz.underlying37) (@sz37))) (Ai (@fok37) (Ai (@info37) (@I37s))))) (Ai (Ai (Ai (@I37b) (Ai (@zero37) (@grow37))) (Ai (@Tryz.underlying49) (Ai (@sz49) (@info49)))) (Ai (Ai (@I49s) (Ai (@I49b) (@zero49))) (Ai (Ai (@grow49) (@Tryz.underlying65)) (Ai (@sz65) (@info65)))))) (Ai (Ai (Ai (Ai (@I65s) (Ai (@I65b) (@zero65))) (Ai (@grow65) (Ai (@Tryz.underlying71) (@sz71)))) (Ai (Ai (@fok71) (Ai (@info71) (@I71s))) (Ai (Ai (@I71b) (@zero71)) (Ai (@grow71) (@Tryz.underlying87))))) (Ai (Ai (Ai (@sz87) (Ai (@info87) (@I87s))) (Ai (@I87b) (Ai (@zero87) (@grow87)))) (Ai (Ai (@Tryz.underlying89) (Ai (@sz89) (@fok89))) (Ai (Ai (@info89) (@I89s)) (Ai (@call27) (@Tryz.results26)))))))
set_option maxRecDepth 20000
set_option maxHeartbeats 8000000
theorem ct100 {i:Int}{s2:St}{acc:List St}{c7:Nat}{v:EVal}{x:List EVal}{N:Nat}{l:List (Nat×Option cL)}{kk:List (Nat×Option (Nat×TypeId))}{k:EVal→H→Prop}
  (h86:F86 [.lptr x 0]=some (.agg (eSt s2))) (hS:SL 37 c7 v acc N l) (hc:1<c7) (hcN:c7<N) (hN:N<16000) (hlen:acc.length≤1000) (hb:lookG l 1=some (.row [v] 29 0 0 false))
  (hk:∀v2 l2,SL 37 c7 v2 (acc++[s2]) (N+1) l2→lookG l2 1=some (.row [v2] 29 0 0 false)→lookG l2 c7=lookG l c7→k (.tup []) (mkH (N+1) l2 128 kk)) :
  CallT Tryz.prog gT (known KRp) 26 [.int .i64 i,.lptr x 0,.ptr 1 0] (mkH N l 128 kk) k:=by
 refine CallT.intro Tryz.func26 rfl ?_
 refine Top.view (View.start (n:=10) rfl (by simp)) (bU noNG _ _ _ _ ?_)
 refine b8 (Top.draw mixed noNG (by kernel_rfl) ?_)
 simp only [eSt]at h86
 obtain⟨o1,o2,o3,o4⟩:=ak0 hS
 obtain⟨v2,l2,hap,S2,F2⟩:=axI (q:=s2) (m:=128) (kk:=kk) hS hcN (by omega) hN hlen
 obtain⟨p1,p2,p3,p4⟩:=ak0 S2
 have hb2:lookG l2 1=some (.row [v] 29 0 0 false):=(F2 1 (.inr rfl)).trans hb
 ((try simp only [a9,SS,TF26G4,kcall,setRange,repl,isNextM,eConvert,eField,eSlice,eBuild,eBuildSlice,Nat.reduceLT,Nat.reduceEqDiff,Nat.reduceAdd,Nat.reduceMul,Nat.reduceSub,Nat.reduceLeDiff,Nat.reduceBEq,reduceCtorEq,hb,h86,o1,o2,o3,p1,p2,p3,o4,p4,↓hap,hb2]);(repeat' ((first|apply aE|apply aD|apply aG|apply aF|apply aC|apply aB)<;>intro h<;>simp only [h,SS,TF26G4,kcall,setRange,repl,isNextM,eConvert,eField,eSlice,eBuild,eBuildSlice,Nat.reduceLT,Nat.reduceEqDiff,Nat.reduceAdd,Nat.reduceMul,Nat.reduceSub,Nat.reduceLeDiff,Nat.reduceBEq,reduceCtorEq,hb,h86,o1,o2,o3,p1,p2,p3,o4,p4,↓hap,hb2])))
 refine⟨by kernel_rfl,?_⟩
 refine mB (es:=[]) (.inr rfl) rfl rfl (hk v2 _ (ayv (.inr rfl) S2) (by simp only [lookG,if_true]) ?_)
 rw [lookG.eq_2,if_neg (by omega)]
 exact F2 c7 (.inl rfl)
def gOK (l:List Pl):Bool:=decide (l.length<1000000)&&l.all fun t=>zJ t&&(aW t.p&&(aW t.e&&decide (t.p.length<9223372036854775808)))
theorem gOK_inv {l:List Pl}(h:gOK l=true):l.length<1000000∧∀t∈l,okP t:=by
 simp only [gOK,Bool.and_eq_true,decide_eq_true_eq,List.all_eq_true]at h
 exact⟨h.1,fun t ht=>⟨(h.2 t ht).1,(h.2 t ht).2.1,(h.2 t ht).2.2.1,(h.2 t ht).2.2.2⟩⟩
abbrev cG43:Cod (List St×Int×Int×Int×Unit):=Cod.tup (Row.cons (Cod.list st0 rSt) (Row.cons cI (Row.cons cI (Row.cons cI Row.nil))))
def Ag43:Row (List Pl×Unit):=Row.cons (Cod.list pl0 rPl) Row.nil
noncomputable def Sg43 (x:List Pl×Unit):Option (List St×Int×Int×Int×Unit):=if gOK x.1=true then some ((game x.1).1,((game x.1).2.1:Nat),(game x.1).2.2.1,(game x.1).2.2.2,())else none
theorem a43 (l:List Pl):V.cs (Ag43.v (l,()))=[.lsl (aZ l)]:=by
 show V.cs [(Cod.list pl0 rPl).v l]=_
 rw [V.cs,V.cs,aqd]
theorem c43 (l:List St) (a b c:Int):(cG43.v (l,a,b,c,())).c=.tup [.lsl (cX l),.int .i64 a,.int .i64 b,.int .i64 c]:=by
 show(V.tup [(Cod.list st0 rSt).v l,V.int .i64 a,V.int .i64 b,V.int .i64 c]).c=_
 simp only [V.c,V.cs,vSts_c]
structure RInv (L:List Pl) (i:Nat) (s:St) (N:Nat) (l:List (Nat×Option cL)):Prop where
 hN:N≤5+3*i
 hN2:2<N
 st:stE s=0
 dat:∃acc v,(L.length≤256→game L=gI i acc s (L.drop i))∧acc.length=i+1∧SL 37 2 v acc N l∧lookG l 1=some (.row [v] 29 0 0 false)
theorem fn43:FnT 7 (fOf Ag43 cG43 Sg43):=by
 refine Fn.intro mixed noNG Tryz.func7 rfl KRp (by simp only [KRp,List.forall_mem_cons];exact⟨fn85,fn86,fn22,fun _ h=>by cases h⟩) ?_
 intro args v hF
 obtain⟨⟨L,⟨⟩⟩,r,rfl,hs,rfl⟩:=mU hF
 unfold Sg43 at hs
 split at hs
 rotate_left
 · cases hs
 rename_i hg
 cases hs
 obtain⟨hlen,hok⟩:=gOK_inv hg
 dsimp only at hlen hok
 rw [a43,c43]
 intro Q hV
 have hQ:=Viewed.of hV
 clear hF hg
 refine Top.view (View.start (n:=25) rfl (by simp)) (bU noNG _ _ _ _ ?_)
 have h22:=e22
 simp only [eSt,aS]at h22
 have hkm:∀(h:H) (args:List EVal),kcall Tryz.prog (known KRp) h 25 args=none:=fun h a=>kcall_miss fun a=>rfl
 have m0:decide (128≤0 % 1024)=false:=by decide
 have e1:∀(h:H) (cs:List EVal),b7 h 26 #[] (some []) (some cs)=some (.val (.func 26 cs) h):=fun _ _=>rfl
 ((try simp only [a9,SS,TF7G4,kcall,setRange,repl,isNextM,eConvert,eField,eSlice,eBuild,eBuildSlice,Nat.reduceLT,Nat.reduceEqDiff,Nat.reduceAdd,Nat.reduceMul,Nat.reduceSub,Nat.reduceLeDiff,Nat.reduceBEq,reduceCtorEq,h22,m0,e1,↓hkm]);(repeat' ((first|apply aE|apply aD|apply aG|apply aF|apply aC|apply aB)<;>intro h<;>simp only [h,SS,TF7G4,kcall,setRange,repl,isNextM,eConvert,eField,eSlice,eBuild,eBuildSlice,Nat.reduceLT,Nat.reduceEqDiff,Nat.reduceAdd,Nat.reduceMul,Nat.reduceSub,Nat.reduceLeDiff,Nat.reduceBEq,reduceCtorEq,h22,m0,e1,↓hkm])))
 refine CallT.inn (HV.mode (m':=128) (by decide)) ?_
 have hbox:∀N' l' (s':St),lookG ((2,some (ownS s'))::l') 1=lookG l' 1:=fun N' l' s'=>by rw [lookG.eq_2,if_neg (by omega)]
 refine ct99 (N0:=2) (INV:=RInv L) (fun h a=>call26) (fun a=>rfl) (by omega) hok (by omega) ?_ ?_ ?_ ?_ ?_ ?_ ?_
 · intro x y
   refine⟨by omega,by omega,aks,[aS],.slice 0 0 1 (.exact 1),?_,rfl,?_,by simp [lookG]⟩
   · intro h;unfold game;rw [if_neg (by omega)];rfl
   · exact .inl ⟨aS,rfl,by omega,by omega,rfl,by simp [lookG,eSt,aS]⟩
 · rintro i s N l x ⟨h1,h2,h3,acc,v,h4,h5,h6,h7⟩
   exact⟨h1,h2,h3,acc,v,h4,h5,ayv (.inl rfl) h6,by rw [lookG.eq_2,if_neg (by omega)];exact h7⟩
 · rintro i s N l ⟨h1,h2,-⟩
   omega
 · rintro i s N l t x y k ⟨h1,h2,h3,acc,v,h4,h5,h6,h7⟩ hi ht okt he hk
   refine ct100 (c7:=2) (v:=v) (acc:=acc) (e86 okt he) (SL_new h6) (by omega) (by omega) (by omega) (by omega) ?_ ?_
   · rw [lookG.eq_2,if_neg (by omega),lookG.eq_2,if_neg (by omega)];exact h7
   intro v2 l2 S2 b2 f2
   refine hk _ _ ⟨by omega,by omega,awq (akE okt he),acc++[nxt (mvd s t)],v2,?_,by simp [h5],S2,b2⟩ ?_
   · intro hL
     rw [h4 hL]
     have hd:L.drop i=t::L.drop (i+1):=bA ht
     rw [hd,bQ,if_neg (by simp [he])]
   · rw [f2,lookG.eq_2,if_neg (by omega),lookG.eq_2,if_neg (by omega)]
 · intro hbig
   have hgm:game L=([],0,0,5):=by unfold game;rw [if_pos hbig]
   rw [hgm]at hQ
   have z5:((5:Int)==0)=false:=rfl
   ((try simp only [a9,SS,TF7G4,kcall,setRange,repl,isNextM,eConvert,eField,eSlice,eBuild,eBuildSlice,Nat.reduceLT,Nat.reduceEqDiff,Nat.reduceAdd,Nat.reduceMul,Nat.reduceSub,Nat.reduceLeDiff,Nat.reduceBEq,reduceCtorEq,z5]);(repeat' ((first|apply aE|apply aD|apply aG|apply aF|apply aC|apply aB)<;>intro h<;>simp only [h,SS,TF7G4,kcall,setRange,repl,isNextM,eConvert,eField,eSlice,eBuild,eBuildSlice,Nat.reduceLT,Nat.reduceEqDiff,Nat.reduceAdd,Nat.reduceMul,Nat.reduceSub,Nat.reduceLeDiff,Nat.reduceBEq,reduceCtorEq,z5])))
   (refine hQ _ _ _ (fU (by first|exact .inl rfl|exact .inr rfl) ?_);simp only [SS,TF7G4,kcall,setRange,repl,isNextM,eConvert,eField,eSlice,eBuild,eBuildSlice,Nat.reduceLT,Nat.reduceEqDiff,Nat.reduceAdd,Nat.reduceMul,Nat.reduceSub,Nat.reduceLeDiff,Nat.reduceBEq,reduceCtorEq])
   rfl
 · rintro i s N l t x y ⟨h1,h2,h3,acc,v,h4,h5,h6,h7⟩ hL ht he
   have hgm:game L=([],i,nN s t,eE s t):=by
    rw [h4 hL,bA ht,bQ,if_pos he]
   rw [hgm]at hQ
   have z5:(eE s t==0)=false:=by simpa using he
   ((try simp only [a9,SS,TF7G4,kcall,setRange,repl,isNextM,eConvert,eField,eSlice,eBuild,eBuildSlice,Nat.reduceLT,Nat.reduceEqDiff,Nat.reduceAdd,Nat.reduceMul,Nat.reduceSub,Nat.reduceLeDiff,Nat.reduceBEq,reduceCtorEq,z5]);(repeat' ((first|apply aE|apply aD|apply aG|apply aF|apply aC|apply aB)<;>intro h<;>simp only [h,SS,TF7G4,kcall,setRange,repl,isNextM,eConvert,eField,eSlice,eBuild,eBuildSlice,Nat.reduceLT,Nat.reduceEqDiff,Nat.reduceAdd,Nat.reduceMul,Nat.reduceSub,Nat.reduceLeDiff,Nat.reduceBEq,reduceCtorEq,z5])))
   (refine hQ _ _ _ (fU (by first|exact .inl rfl|exact .inr rfl) ?_);simp only [SS,TF7G4,kcall,setRange,repl,isNextM,eConvert,eField,eSlice,eBuild,eBuildSlice,Nat.reduceLT,Nat.reduceEqDiff,Nat.reduceAdd,Nat.reduceMul,Nat.reduceSub,Nat.reduceLeDiff,Nat.reduceBEq,reduceCtorEq])
   rfl
 · rintro s N l ⟨h1,h2,h3,acc,v,h4,h5,h6,h7⟩ hL
   have hgm:game L=(acc,0,0,0):=by
    rw [h4 hL,List.drop_length];rfl
   rw [hgm]at hV
   have z5:((0:Int)==0)=true:=rfl
   obtain⟨o1,o2,o3,o4⟩:=ak0 h6
   ((try simp only [a9,SS,TF7G4,kcall,setRange,repl,isNextM,eConvert,eField,eSlice,eBuild,eBuildSlice,Nat.reduceLT,Nat.reduceEqDiff,Nat.reduceAdd,Nat.reduceMul,Nat.reduceSub,Nat.reduceLeDiff,Nat.reduceBEq,reduceCtorEq,z5,h7,o1,o2,o3]);(repeat' ((first|apply aE|apply aD|apply aG|apply aF|apply aC|apply aB)<;>intro h<;>simp only [h,SS,TF7G4,kcall,setRange,repl,isNextM,eConvert,eField,eSlice,eBuild,eBuildSlice,Nat.reduceLT,Nat.reduceEqDiff,Nat.reduceAdd,Nat.reduceMul,Nat.reduceSub,Nat.reduceLeDiff,Nat.reduceBEq,reduceCtorEq,z5,h7,o1,o2,o3])))
   have hend:Ends Tryz.prog gT Tryz.f7 (.tup [.lsl (cX acc),.int .i64 ((0:Nat):Int),.int .i64 0,.int .i64 0]) .ret (mkF 25 [(5,.int .i64 0),(4,.int .i64 0),(3,.int .i64 0),(2,.lsl (cX acc))]) (mkH N [] 128 []):=by
    refine fU (.inl rfl) ?_
    simp only [SS,TF7G4,kcall,setRange,repl,isNextM,eConvert,eField,eSlice,eBuild,eBuildSlice,Nat.reduceLT,Nat.reduceEqDiff,Nat.reduceAdd,Nat.reduceMul,Nat.reduceSub,Nat.reduceLeDiff,Nat.reduceBEq,reduceCtorEq]
   rcases h6 with⟨q,rfl,_,_,rfl,h8⟩ | ⟨id,_,_,h9,rfl,h8⟩
   · refine hV _ _ _ ⟨_,_,View.fz (sz:=13) (len:=1) (fl2:=[(5,.int .i64 0),(4,.int .i64 0),(3,.int .i64 0),(2,.lsl (cX [q]))]) (l2:=[]) (k2:=[]) 0 (by omega) h8 (xA q) rfl ?_ (by simp) (by simp),hend⟩
     intro p hp
     simp only [List.mem_cons,List.not_mem_nil,or_false]at hp
     rcases hp with rfl|rfl|rfl|rfl
     · exact⟨by simp,_,rfl,.inl rfl⟩
     · exact⟨by simp,_,rfl,.inl rfl⟩
     · exact⟨by simp,_,rfl,.inl rfl⟩
     · exact⟨by simp,_,rfl,.inr ⟨.exact 1,rfl,rfl,rfl⟩⟩
   · refine hV _ _ _ ⟨_,_,View.fz (sz:=13) (len:=acc.length) (fl2:=[(5,.int .i64 0),(4,.int .i64 0),(3,.int .i64 0),(2,.lsl (cX acc))]) (l2:=[]) (k2:=[]) id (by omega) h8 (zY _) (jG _) ?_ (by simp) (by simp),hend⟩
     rw [aqN]
     intro p hp
     simp only [List.mem_cons,List.not_mem_nil,or_false]at hp
     rcases hp with rfl|rfl|rfl|rfl
     · exact⟨by simp,_,rfl,.inl rfl⟩
     · exact⟨by simp,_,rfl,.inl rfl⟩
     · exact⟨by simp,_,rfl,.inl rfl⟩
     · exact⟨by simp,_,rfl,.inr ⟨.slack 0,rfl,rfl,rfl⟩⟩
end Go.Ev
namespace Go.Ev
open Go.RowKit Go.Proofs
set_option linter.defProp false
def TF8PA:=Ai (Ai (Ai (Ai (Ai (@Tryz.underlying3) (Ai (@sz3) (@info3))) (Ai (Ai (@I3s) (@I3b)) (Ai (@zero3) (@grow3)))) (Ai (Ai (Ai (@Tryz.underlying4) (@sz4)) (Ai (@info4) (@I4s))) (Ai (Ai (@I4b) (@zero4)) (Ai (@grow4) (@Tryz.underlying9))))) (Ai (Ai (Ai (@sz9) (Ai (@info9) (@I9s))) (Ai (Ai (@I9b) (@zero9)) (Ai (@grow9) (@Tryz.underlying22)))) (Ai (Ai (Ai (@sz22) (@info22)) (Ai (@I22s) (@I22b))) (Ai (Ai (@zero22) (@grow22)) (Ai (@Tryz.underlying23) (@sz23)))))) (Ai (Ai (Ai (Ai (@info23) (Ai (@I23s) (@I23b))) (Ai (Ai (@zero23) (@grow23)) (Ai (@Tryz.underlying25) (@sz25)))) (Ai (Ai (Ai (@fok25) (@info25)) (Ai (@I25s) (@I25b))) (Ai (Ai (@zero25) (@grow25)) (Ai (@Tryz.underlying49) (@sz49))))) (Ai (Ai (Ai (@info49) (Ai (@I49s) (@I49b))) (Ai (Ai (@zero49) (@grow49)) (Ai (@Tryz.underlying71) (@sz71)))) (Ai (Ai (Ai (@fok71) (@info71)) (Ai (@I71s) (@I71b))) (Ai (Ai (@zero71) (@grow71)) (Ai (@call11) (@Tryz.results8))))))
set_option maxRecDepth 20000
set_option maxHeartbeats 8000000
noncomputable def F33:List EVal→Option EVal:=fOf A33 (Cod.agg rPl) S33
theorem fn33:FnT 11 F33:=K33.ok
theorem e33 {t:Pl}(h1:zJ t=true) (h2:eJ t.m=true):F33 [.agg (sB t)]=some (.agg (sB t)):=by
 have e:V.cs (A33.v (t,()))=[.agg (sB t)]:=vPl_1 t
 rw [←e]
 unfold F33 fOf
 rw [A33.rt,Option.bind_some]
 have:S33 (t,())=some t:=by unfold S33;rw [if_pos ⟨h1,h2⟩]
 rw [this]
 show some (((Cod.agg rPl).v t).c)=_
 rw [axw];rfl
theorem ct44 {L:List Pl}{N:Nat}{l:List (Nat×Option cL)}(hok:∀t∈L,zJ t=true∧eJ t.m=true) (hL:L.length≤1000) (hb:∀p∈l,p.1<16000∧p.1<N∧∃o,p.2=some o∧lookG l p.1=some o∧belowO N o=true) :
  CallT Tryz.prog gT (known [(11,F33)]) 8 [.lsl (aZ L)] (mkH N l 128 []) fun v h=>v=.gsl 128 (aZ L)∧h=mkH N l 129 [(128,some (L.length,25))]:=by
 refine CallT.intro Tryz.func8 rfl ?_
 refine Top.view (View.start (n:=20) rfl (by simp)) (bU noNG _ _ _ _ ?_)
 ((try simp only [a9,SS,TF8PA,kcall,setRange,repl,isNextM,eConvert,eField,eSlice,eBuild,eBuildSlice,Nat.reduceLT,Nat.reduceEqDiff,Nat.reduceAdd,Nat.reduceMul,Nat.reduceSub,Nat.reduceLeDiff,Nat.reduceBEq,reduceCtorEq]);(repeat' ((first|apply aE|apply aD|apply aG|apply aF|apply aC|apply aB)<;>intro h<;>simp only [h,SS,TF8PA,kcall,setRange,repl,isNextM,eConvert,eField,eSlice,eBuild,eBuildSlice,Nat.reduceLT,Nat.reduceEqDiff,Nat.reduceAdd,Nat.reduceMul,Nat.reduceSub,Nat.reduceLeDiff,Nat.reduceBEq,reduceCtorEq])))
 refine pF (Top.loop (I:=fun s:{ x:Nat // x≤L.length }=>(mkF 20 [(4,.int .i64 (s.1:Nat)),(3,.gsl 128 (aZ (L.take s.1))),(0,.lsl (aZ L))],mkH N l 129 [(128,some (s.1,25))])) (μ:=fun s=>L.length-s.1) ⟨0,by simp⟩ (View.trans (View.growD (ds:=[]) (r:=none) 3 25 (by omega) (by omega) (by simp [look])) (View.sub (by simp [look,aZ]))) ?_)
 rintro⟨i,hi⟩
 refine bU noNG _ _ _ _ ?_
 dsimp only
 by_cases hlt:i<L.length
 rotate_left
 · obtain rfl:i=L.length:=by omega
   have q2:decide ((L.length:Int)<(L.length:Int))=false:=by simp
   rw [List.take_length]
   ((try simp only [a9,SS,TF8PA,kcall,setRange,repl,isNextM,eConvert,eField,eSlice,eBuild,eBuildSlice,Nat.reduceLT,Nat.reduceEqDiff,Nat.reduceAdd,Nat.reduceMul,Nat.reduceSub,Nat.reduceLeDiff,Nat.reduceBEq,reduceCtorEq,q2,rowsP_length]);(repeat' ((first|apply aE|apply aD|apply aG|apply aF|apply aC|apply aB)<;>intro h<;>simp only [h,SS,TF8PA,kcall,setRange,repl,isNextM,eConvert,eField,eSlice,eBuild,eBuildSlice,Nat.reduceLT,Nat.reduceEqDiff,Nat.reduceAdd,Nat.reduceMul,Nat.reduceSub,Nat.reduceLeDiff,Nat.reduceBEq,reduceCtorEq,q2,rowsP_length])))
   exact mB (es:=[.gsl 128 (aZ L)]) (.inl rfl) rfl (by simp only [SS,TF8PA,kcall,setRange,repl,isNextM,eConvert,eField,eSlice,eBuild,eBuildSlice,Nat.reduceLT,Nat.reduceEqDiff,Nat.reduceAdd,Nat.reduceMul,Nat.reduceSub,Nat.reduceLeDiff,Nat.reduceBEq,reduceCtorEq]) ⟨rfl,rfl⟩
 obtain⟨t,ht⟩:∃t,L[i]? = some t:=⟨L[i],List.getElem?_eq_getElem hlt⟩
 obtain⟨k1,k2⟩:=hok t (List.mem_of_getElem? ht)
 have q2:decide ((i:Int)<(L.length:Int))=true:=by simp;omega
 have q3:IntKind.i64.wrap ((i:Int)+1)=((i+1:Nat):Int):=by rw [dG]<;>omega
 have r0:(aZ L)[i]? = some (sB t):=by rw [rowsP_get,ht];rfl
 have r1:sB t=[.str t.p,.str t.e,.bool t.l,.lsl (dQ t.m)]:=rfl
 have h33:=e33 k1 k2
 have htk:L.take (i+1)=L.take i++[t]:=by rw [List.take_add_one,ht];rfl
 have hrow:aZ (L.take (i+1))=aZ (L.take i)++[sB t]:=by rw [htk];simp [aZ]
 simp only [r1]at h33 r0 hrow
 have g0:(aZ (L.take i)).length=i:=by rw [rowsP_length,List.length_take];omega
 have g1:decide (64*(i+1)≤1000000)=true:=by simp;omega
 have g2:aV 4 (aZ (L.take i))=true:=by
  unfold aV
  simp only [List.all_eq_true,Nat.beq_eq,beq_iff_eq,decide_eq_true_eq]
  intro x hx
  obtain⟨q,_,rfl⟩:=List.mem_map.1 hx
  rfl
 have g3:aV 4 [[EVal.str t.p,.str t.e,.bool t.l,.lsl (dQ t.m)]]=true:=rfl
 have hap:eAppend Tryz.prog (mkH N l 129 [(128,some (i,25))]) 22 (.gsl 128 (aZ (L.take i))) (.lsl [[.str t.p,.str t.e,.bool t.l,.lsl (dQ t.m)]])=some (.gsl 128 (aZ (L.take (i+1))),mkH N l 129 [(128,some (i+1,25)),(128,some (i,25))]):=by
  simp only [SS,TF8PA,kcall,setRange,repl,isNextM,eConvert,eField,eSlice,eBuild,eBuildSlice,Nat.reduceLT,Nat.reduceEqDiff,Nat.reduceAdd,Nat.reduceMul,Nat.reduceSub,Nat.reduceLeDiff,Nat.reduceBEq,reduceCtorEq,g0,g1,g2,g3]
  rw [hrow]
 have m1:decide (128≤129 % 1024)=true:=by decide
 ((try simp only [a9,SS,TF8PA,kcall,setRange,repl,isNextM,eConvert,eField,eSlice,eBuild,eBuildSlice,Nat.reduceLT,Nat.reduceEqDiff,Nat.reduceAdd,Nat.reduceMul,Nat.reduceSub,Nat.reduceLeDiff,Nat.reduceBEq,reduceCtorEq,q2,q3,rowsP_length,r0,h33,m1,↓hap]);(repeat' ((first|apply aE|apply aD|apply aG|apply aF|apply aC|apply aB)<;>intro h<;>simp only [h,SS,TF8PA,kcall,setRange,repl,isNextM,eConvert,eField,eSlice,eBuild,eBuildSlice,Nat.reduceLT,Nat.reduceEqDiff,Nat.reduceAdd,Nat.reduceMul,Nat.reduceSub,Nat.reduceLeDiff,Nat.reduceBEq,reduceCtorEq,q2,q3,rowsP_length,r0,h33,m1,↓hap])))
 exact⟨⟨i+1,hlt⟩,by show L.length-(i+1)<L.length-i;omega,View.drop (by simp [look,below]) hb (by simp [lookG])⟩
end Go.Ev
namespace Go.Ev
open Go.RowKit Go.Proofs
set_option maxRecDepth 100000
set_option maxHeartbeats 8000000
set_option linter.unusedSimpArgs false
set_option linter.unusedVariables false
noncomputable section
def shM (m:Mv):Bool:=decide (m.h.length≤20)&&decide (m.b.length≤40)
def shP (t:Pl):Bool:=decide (t.p.length≤26)&&(decide (t.e.length≤20)&&(decide (t.m.length≤6)&&t.m.all shM))
theorem lp84 (t:Pl) (hl:t.m.length≤6):∀(j k n:Nat),t.m.length=k+j→ak9 t (n+j+1) (.k8 (k:Int))=some ((t.m.drop k).all shM)
 | 0,k,n,hk=>by
   have c1:decide ((k:Int)<((t.m.length:Nat):Int))=false:=by simp;omega
   rw [List.drop_eq_nil_of_le (by omega)]
   simp only [ak8,akG,TS,w6,c1,cond_false,List.all_nil]
 | j+1,k,n,hlk=>by
   have hk:k<t.m.length:=by omega
   obtain⟨m,hm⟩:∃m,t.m[k]? = some m:=⟨t.m[k],List.getElem?_eq_getElem hk⟩
   have ih:=lp84 t hl j (k+1) n (by omega)
   have c1:decide ((k:Int)<((t.m.length:Nat):Int))=true:=by simp;omega
   have c2:inR (k:Int) t.m.length=true:=mS (by omega) (by omega)
   have w4:IntKind.i64.wrap ((k:Int)+1)=((k+1:Nat):Int):=by rw [eC]<;>omega
   have a1:decide ((20:Int)<((m.h.length:Nat):Int))=!decide (m.h.length≤20):=by rw [Bool.eq_iff_iff];simp;omega
   have a2:decide ((40:Int)<((m.b.length:Nat):Int))=!decide (m.b.length≤40):=by rw [Bool.eq_iff_iff];simp;omega
   rw [bA hm,show n+(j+1)+1=(n+j+1)+1 from rfl]
   generalize n+j+1=N at ih ⊢
   simp only [ak8,akG,TS,w6,c1,c2,cond_true,Int.toNat_natCast,bD hm,w4,ih,List.all_cons,shM,a1,a2]
   cases decide (m.h.length≤20)<;>cases decide (m.b.length≤40)<;>rfl
theorem sp84 (t:Pl):Sz84 (t,())=some (shP t):=by
 show Ez84 (t.m.length+64) t=_
 unfold Ez84 Tz84 shP
 simp only [TS,w6]
 have a1:decide ((26:Int)<((t.p.length:Nat):Int))=!decide (t.p.length≤26):=by rw [Bool.eq_iff_iff];simp;omega
 have a2:decide ((20:Int)<((t.e.length:Nat):Int))=!decide (t.e.length≤20):=by rw [Bool.eq_iff_iff];simp;omega
 have a3:decide ((6:Int)<((t.m.length:Nat):Int))=!decide (t.m.length≤6):=by rw [Bool.eq_iff_iff];simp;omega
 rw [a1,a2,a3]
 by_cases h:t.m.length≤6
 · have e:=lp84 t h t.m.length 0 63 (by omega)
   rw [←n8,List.drop_zero]at e
   have e':ak9 t (t.m.length+64) (.k8 0)=some (t.m.all shM):=e
   rw [e']
   cases decide (t.p.length≤26)<;>cases decide (t.e.length≤20)<;>simp [h]
 · cases decide (t.p.length≤26)<;>cases decide (t.e.length≤20)<;>simp [h]
theorem lp42 (s:List Pl) (u:Int) (hl:s.length≤258):∀(j k n:Nat),s.length=k+j→akc s u (n+j+1) (.k8 (k:Int))=some ((s.drop k).all shP)
 | 0,k,n,hk=>by
   have c1:decide ((k:Int)<((s.length:Nat):Int))=false:=by simp;omega
   rw [List.drop_eq_nil_of_le (by omega)]
   simp only [akb,akI,TS,w6,c1,cond_false,List.all_nil]
 | j+1,k,n,hlk=>by
   have hk:k<s.length:=by omega
   obtain⟨m,hm⟩:∃m,s[k]? = some m:=⟨s[k],List.getElem?_eq_getElem hk⟩
   have ih:=lp42 s u hl j (k+1) n (by omega)
   have c1:decide ((k:Int)<((s.length:Nat):Int))=true:=by simp;omega
   have c2:inR (k:Int) s.length=true:=mS (by omega) (by omega)
   have w4:IntKind.i64.wrap ((k:Int)+1)=((k+1:Nat):Int):=by rw [eC]<;>omega
   rw [bA hm,show n+(j+1)+1=(n+j+1)+1 from rfl]
   generalize n+j+1=N at ih ⊢
   simp only [akb,akI,TS,w6,c1,c2,cond_true,Int.toNat_natCast,bD hm,w4,ih,List.all_cons,sp84,obind_some]
   cases shP m<;>rfl
def shL (s:List Pl):Bool:=(decide (s.length≤12)||(decide (256<s.length)&&decide (s.length≤258)))&&s.all shP
theorem s42 (s:List Pl):Sz42 (s,12,())=some (shL s):=by
 show Ez42 (s.length+64) s 12=_
 unfold Ez42 Tz42 shL
 simp only [TS,w6]
 have a1:decide ((12:Int)<((s.length:Nat):Int))=!decide (s.length≤12):=by rw [Bool.eq_iff_iff];simp;omega
 have a2:decide (((s.length:Nat):Int)≤256)=!decide (256<s.length):=by rw [Bool.eq_iff_iff];simp;omega
 have a3:decide ((258:Int)<((s.length:Nat):Int))=!decide (s.length≤258):=by rw [Bool.eq_iff_iff];simp;omega
 rw [a1,a2,a3]
 by_cases h:s.length≤258
 · have e:=lp42 s 12 h s.length 0 63 (by omega)
   rw [List.drop_zero,show 63+s.length+1=s.length+64 by omega]at e
   have e':akc s 12 (s.length+64) (.k8 0)=some (s.all shP):=e
   rw [e']
   cases decide (s.length≤12)<;>cases decide (256<s.length)<;>simp [h]
 · have h14:decide (s.length≤12)=false:=by simp;omega
   rw [h14]
   cases decide (256<s.length)<;>simp [h]
theorem lpc44 (s:List Pl) (hl:s.length≤300) (hok:∀t∈s,zJ t=true∧eJ t.m=true):∀(j k n:Nat) (x:List Pl),s.length=k+j→x.length=k→ayR s (n+j+1) (.k6 (k:Int) x)=some (x++s.drop k)
 | 0,k,n,x,hk,hx=>by
   have c1:decide ((k:Int)<((s.length:Nat):Int))=false:=by simp;omega
   rw [List.drop_eq_nil_of_le (by omega),List.append_nil]
   simp only [aka,akH,TS,w6,c1,cond_false]
 | j+1,k,n,x,hlk,hx=>by
   have hk:k<s.length:=by omega
   obtain⟨m,hm⟩:∃m,s[k]? = some m:=⟨s[k],List.getElem?_eq_getElem hk⟩
   have ih:=lpc44 s hl hok j (k+1) n (x++[m]) (by omega) (by simp [hx])
   have c1:decide ((k:Int)<((s.length:Nat):Int))=true:=by simp;omega
   have c2:inR (k:Int) s.length=true:=mS (by omega) (by omega)
   have w4:IntKind.i64.wrap ((k:Int)+1)=((k+1:Nat):Int):=by rw [eC]<;>omega
   have c3:Nat.ble (64*(x.length+1)) 1000000=true:=by rw [Nat.ble_eq];omega
   have h33:S33 (m,())=some m:=by unfold S33;rw [if_pos (hok m (List.mem_of_getElem? hm))]
   rw [bA hm,show n+(j+1)+1=(n+j+1)+1 from rfl]
   generalize n+j+1=N at ih ⊢
   simp only [aka,akH,TS,w6,c1,c2,c3,cond_true,Int.toNat_natCast,bD hm,w4,List.length_map,h33,obind_some]
   rw [ih,List.append_assoc];rfl
theorem s44 (s:List Pl) (hl:s.length≤300) (hok:∀t∈s,zJ t=true∧eJ t.m=true):Sz44 (s,())=some s:=by
 show Ez44 (s.length+64) s=_
 unfold Ez44 Tz44
 simp only [TS,w6]
 have e:=lpc44 s hl hok s.length 0 63 [] (by omega) rfl
 rw [List.drop_zero,List.nil_append,show 63+s.length+1=s.length+64 by omega]at e
 exact e
theorem ayY {t:Pl}(h:shP t=true) (hp:aW t.p=true) (he:aW t.e=true):okP t∧zJ t=true∧eJ t.m=true:=by
 simp only [shP,Bool.and_eq_true,decide_eq_true_eq,List.all_eq_true]at h
 obtain⟨h1,h2,h3,h4⟩:=h
 have hb:∀m∈t.m,m.b.length≤40:=fun m hm=>by
  have:=h4 m hm
  simp only [shM,Bool.and_eq_true,decide_eq_true_eq]at this
  exact this.2
 have okp:zJ t=true:=by
  simp only [zJ,Bool.and_eq_true,decide_eq_true_eq,List.all_eq_true]
  exact⟨by omega,fun m hm=>by have:=hb m hm;omega⟩
 have okc:eJ t.m=true:=by
  simp only [eJ,Bool.and_eq_true,decide_eq_true_eq,List.all_eq_true]
  exact⟨by omega,fun m hm=>by have:=hb m hm;omega⟩
 exact⟨⟨okp,hp,he,by omega⟩,okp,okc⟩
theorem avK {s:List Pl}(hl:s.length≤300) (h:∀t∈s,okP t):gOK s=true:=by
 simp only [gOK,Bool.and_eq_true,decide_eq_true_eq,List.all_eq_true]
 exact⟨by omega,fun t ht=>⟨(h t ht).1,(h t ht).2.1,(h t ht).2.2.1,(h t ht).2.2.2⟩⟩
theorem s31 (t:Pl):Sz31 (t,())=some (shP t):=by
 show Ez31 t=_
 unfold Ez31 Tz31
 simp only [TS,w6]
 rw [sp84,obind_some]
def F42:List EVal→Option EVal:=fOf Az42 cB Sz42
theorem fn42:FnT 4 F42:=Kz42.ok
theorem e42 (L:List Pl):F42 [.lsl (aZ L),.int .i64 12]=some (.bool (shL L)):=by
 have e:V.cs (Az42.v (L,12,()))=[.lsl (aZ L),.int .i64 12]:=by
  show V.cs [(Cod.list pl0 rPl).v L,V.int .i64 12]=_
  simp only [V.cs,aqd,V.c]
 rw [←e]
 unfold F42 fOf
 rw [Az42.rt,Option.bind_some,s42];rfl
def F31:List EVal→Option EVal:=fOf Az31 cB Sz31
theorem fn31:FnT 5 F31:=Kz31.ok
theorem e31 (t:Pl):F31 [.agg (sB t)]=some (.bool (shP t)):=by
 have e:V.cs (Az31.v (t,()))=[.agg (sB t)]:=vPl_1 t
 rw [←e]
 unfold F31 fOf
 rw [Az31.rt,Option.bind_some,s31];rfl
def FA:List EVal→Option EVal:=fOf Aw27 cB Sw27
theorem fnA:FnT 6 FA:=Kw27.ok
theorem eA:FA []=some (.bool true):=by
 have e:V.cs (Aw27.v ())=[]:=by show V.cs []=_;rw [V.cs]
 rw [←e]
 unfold FA fOf
 rw [Aw27.rt,Option.bind_some];rfl
def F44:List EVal→Option EVal:=fOf Az44 (Cod.list pl0 rPl) Sz44
theorem fn44:FnT 8 F44:=Kz44.ok
theorem e44 {L:List Pl}(hl:L.length≤300) (hok:∀t∈L,zJ t=true∧eJ t.m=true):F44 [.lsl (aZ L)]=some (.lsl (aZ L)):=by
 have e:V.cs (Az44.v (L,()))=[.lsl (aZ L)]:=a43 L
 rw [←e]
 unfold F44 fOf
 rw [Az44.rt,Option.bind_some,s44 L hl hok]
 show some (((Cod.list pl0 rPl).v L).c)=_
 rw [aqd]
def F43:List EVal→Option EVal:=fOf Ag43 cG43 Sg43
theorem e43 {L:List Pl}(hg:gOK L=true):F43 [.lsl (aZ L)]=some (.tup [.lsl (cX (game L).1),.int .i64 ((game L).2.1:Nat),.int .i64 (game L).2.2.1,.int .i64 (game L).2.2.2]):=by
 have e:V.cs (Ag43.v (L,()))=[.lsl (aZ L)]:=a43 L
 rw [←e]
 unfold F43 fOf
 rw [Ag43.rt,Option.bind_some]
 have:Sg43 (L,())=some ((game L).1,(((game L).2.1:Nat):Int),(game L).2.2.1,(game L).2.2.2,()):=by unfold Sg43;rw [if_pos hg]
 rw [this]
 show some ((cG43.v _).c)=_
 rw [c43]
def F32:List EVal→Option EVal:=fOf Az32 (Cod.tup (Row.cons (Cod.agg rSt) (Row.cons cI (Row.cons cI Row.nil)))) Sz32
theorem fn32:FnT 10 F32:=Kz32.ok
def apS (s:St) (t:Pl):St:=if eE s t≠0 then zSt else nxt (mvd s t)
def apN (s:St) (t:Pl):Int:=if eE s t≠0 then nN s t else 0
theorem e32 {s:St}{t:Pl}(ok:okP t):F32 [.agg (eSt s),.agg (sB t)]=some (.tup [.agg (eSt (apS s t)),.int .i64 (apN s t),.int .i64 (eE s t)]):=by
 have e:V.cs (Az32.v (s,t,()))=[.agg (eSt s),.agg (sB t)]:=a85
 rw [←e]
 unfold F32 fOf
 rw [Az32.rt,Option.bind_some,s32 ok (ajZ ok).1 (ajZ ok).2]
 have h1:avS s t (brk s t)=eE s t:=rfl
 have h2:numA s t (brk s t)=nN s t:=rfl
 rw [h1,h2]
 unfold apS apN
 by_cases h:eE s t=0
 · rw [h]
   show some ((V.tup [V.agg (rSt.v _),V.int .i64 _,V.int .i64 _]).c)=_
   simp only [V.c,V.cs,yZ];rfl
 · rw [if_pos h,if_pos h,if_pos h]
   show some ((V.tup [V.agg (rSt.v _),V.int .i64 _,V.int .i64 _]).c)=_
   simp only [V.c,V.cs,yZ]
theorem ayb:∀(L M:List Pl) (i:Nat) (acc:List St) (s:St),(gI i acc s L).2.2.2≠0→gI i acc s (L++M)=gI i acc s L
 | [],M,i,acc,s,h=>absurd rfl h
 | t :: L,M,i,acc,s,h=>by
   rw [List.cons_append,bQ,bQ]
   rw [bQ]at h
   by_cases he:eE s t≠0
   · rw [if_pos he,if_pos he]
   · rw [if_neg he]at h ⊢
     rw [if_neg he]
     exact ayb L M _ _ _ h
theorem avJ:∀(L M:List Pl) (i:Nat) (acc:List St) (s:St),(gI i acc s L).2.2.2=0→∃S x,gI i acc s L=(acc++S,0,0,0)∧S.length=L.length∧(s::S)[L.length]? = some x∧gI i acc s (L++M)=gI (i+L.length) (acc++S) x M∧∀(j:Nat) (t:Pl),L[j]? = some t→∃u,(s::S)[j]? = some u∧eE u t=0∧S[j]? = some (nxt (mvd u t))
 | [],M,i,acc,s,_=>⟨[],s,by rw [List.append_nil];rfl,rfl,rfl,by rw [List.append_nil];rfl,fun j t h=>by cases h⟩
 | t :: L, M,i,acc,s,h=>by
   rw [bQ]at h
   by_cases he:eE s t≠0
   · rw [if_pos he]at h;exact absurd h he
   · rw [if_neg he]at h
     obtain⟨S,x,h1,h2,h3,h4,h5⟩:=avJ L M _ _ _ h
     refine⟨nxt (mvd s t)::S,x,?_,by simp [h2],by simpa using h3,?_,?_⟩
     · rw [bQ,if_neg he,h1,List.append_assoc];rfl
     · rw [List.cons_append,bQ,if_neg he,h4,List.append_assoc,List.length_cons,show i+1+L.length=i+(L.length+1) by omega];rfl
     · intro j t' hj
       cases j with
       | zero=>cases hj;exact⟨s,rfl,by simpa using he,rfl⟩
       | succ j=>
         obtain⟨u,h6,h7,h8⟩:=h5 j t' (by simpa using hj)
         exact⟨u,by simpa using h6,h7,by simpa using h8⟩
structure Gm (L:List Pl) (S:List St):Prop where
 eq:game L=(S,0,0,0)
 len:S.length=L.length+1
 st:S[0]? = some aS
 nx:∀(j:Nat) (t:Pl),L[j]? = some t→∃u,S[j]? = some u∧eE u t=0∧S[j+1]? = some (nxt (mvd u t))
theorem gm_of {L:List Pl}(hl:L.length≤256) (h:(game L).2.2.2=0):∃S,Gm L S:=by
 have e:game L=gI 0 [aS] aS L:=by unfold game;rw [if_neg (by omega)]
 rw [e]at h
 obtain⟨S,x,h1,h2,h3,h4,h5⟩:=avJ L [] 0 [aS] aS h
 refine⟨aS::S,⟨by rw [e,h1];rfl,by simp [h2],rfl,fun j t hj=>?_⟩⟩
 obtain⟨u,h6,h7,h8⟩:=h5 j t hj
 exact⟨u,h6,h7,by simpa using h8⟩
theorem gm_bad {L:List Pl}(h:(game L).2.2.2≠0):(game L).1=[]:=by
 unfold game at h ⊢
 split at h
 · rename_i hl;rw [if_pos hl]
 · rename_i hl
   rw [if_neg hl]
   have go:∀(L:List Pl) (i:Nat) (acc:List St) (s:St),(gI i acc s L).2.2.2≠0→(gI i acc s L).1=[]
    := fun L=>by
     induction L with
     | nil=>intro i acc s h;exact absurd rfl h
     | cons t L ih=>
       intro i acc s h
       rw [bQ]at h ⊢
       by_cases he:eE s t≠0
       · rw [if_pos he]
       · rw [if_neg he]at h ⊢;exact ih _ _ _ h
   exact go L 0 _ _ h
theorem gm_take {L:List Pl}{S:List St}(hl:L.length≤256) (g:Gm L S) (k:Nat) (hk:k≤L.length):∃S',Gm (L.take k) S'∧S'[k]? = S[k]? := by
 have e:∀M:List Pl,M.length≤256→game M=gI 0 [aS] aS M:=fun M hM=>by unfold game;rw [if_neg (by omega)]
 have hk':(L.take k).length=k:=by rw [List.length_take];omega
 have h0:(gI 0 [aS] aS (L.take k)).2.2.2=0:=by
  refine Classical.byContradiction fun hc=>?_
  have h1:=ayb (L.take k) (L.drop k) 0 [aS] aS hc
  rw [List.take_append_drop,←e L hl,g.eq]at h1
  rw [←h1]at hc;exact hc rfl
 obtain⟨S1,x,h1,h2,h3,h4,h5⟩:=avJ (L.take k) (L.drop k) 0 [aS] aS h0
 rw [List.take_append_drop,←e L hl,g.eq]at h4
 have hgo:(gI (0+(L.take k).length) ([aS]++S1) x (L.drop k)).2.2.2=0:=by rw [←h4]
 obtain⟨S2,y,q1,q2,q3,q4,q5⟩:=avJ (L.drop k) [] _ _ _ hgo
 rw [q1]at h4
 have hS:S=[aS]++S1++S2:=congrArg Prod.fst h4
 refine⟨[aS]++S1,⟨by rw [e _ (by omega),h1],by rw [List.length_append,h2];simp;omega,rfl,fun j t hj=>?_⟩,?_⟩
 · obtain ⟨u,h6,h7,h8⟩:=h5 j t hj
   exact⟨u,h6,h7,by simpa using h8⟩
 · rw [hS,List.getElem?_append_left (l₁:=[aS]++S1) (by rw [List.length_append,h2,hk'];simp)]
theorem gm_next {L:List Pl}{S:List St}{x:St}(hl:L.length<256) (g:Gm L S) (hx:S[L.length]? = some x) (p:Pl):game (L++[p])=if eE x p≠0 then([],L.length,nN x p,eE x p)else(S++[nxt (mvd x p)],0,0,0):=by
 have e:∀M:List Pl,M.length≤256→game M=gI 0 [aS] aS M:=fun M hM=>by unfold game;rw [if_neg (by omega)]
 have h0:(gI 0 [aS] aS L).2.2.2=0:=by rw [←e L (by omega),g.eq]
 obtain⟨S1,y,h1,h2,h3,h4,h5⟩:=avJ L [p] 0 [aS] aS h0
 have hS:S=[aS]++S1:=by
  have:=g.eq
  rw [e L (by omega),h1]at this
  exact(congrArg Prod.fst this).symm
 have hy:y=x:=by
  rw [hS]at hx
  have:some y=some x:=h3.symm.trans hx
  exact Option.some.inj this
 subst hy
 rw [e _ (by simp;omega),h4,bQ,Nat.zero_add,←hS]
 rfl
end
end Go.Ev
