import Derived.Test.YtkhmgggponmimaaGreatDoorG2
set_option linter.unusedSimpArgs false
set_option linter.unusedVariables false
namespace Go.Ev
open Go.RowKit Go.Proofs
set_option linter.defProp false
def TF37G3:=Ai (Ai (Ai (Ai (Ai (Ai (@Tryz.underlying3) (Ai (@sz3) (@info3))) (Ai (@I3s) (Ai (@I3b) (@zero3)))) (Ai (Ai (@grow3) (Ai (@Tryz.underlying4) (@sz4))) (Ai (Ai (@info4) (@I4s)) (Ai (@I4b) (@zero4))))) (Ai (Ai (Ai (@grow4) (Ai (@Tryz.underlying9) (@sz9))) (Ai (Ai (@info9) (@I9s)) (Ai (@I9b) (@zero9)))) (Ai (Ai (@grow9) (Ai (@Tryz.underlying22) (@sz22))) (Ai (Ai (@info22) (@I22s)) (Ai (@I22b) (@zero22)))))) (Ai (Ai (Ai (Ai (@grow22) (Ai (@Tryz.underlying27) (@sz27))) (Ai (Ai (@info27) (@I27s)) (Ai (@I27b) (@zero27)))) (Ai (Ai (@grow27) (Ai (@Tryz.underlying29) (@sz29))) (Ai (Ai (@fok29) (@info29)) (Ai (@I29s) (@I29b))))) (Ai (Ai (Ai (@zero29) (Ai (@grow29) (@Tryz.underlying30))) (Ai (Ai (@sz30) (@info30)) (Ai (@I30s) (@I30b)))) (Ai (Ai (@zero30) (Ai (@grow30) (@Tryz.underlying31))) (Ai (Ai (@sz31) (@info31)) (Ai (@I31s) (@I31b))))))) (Ai (Ai (Ai (Ai (Ai (@zero31) (Ai (@grow31) (@Tryz.underlying33))) (Ai (@sz33) (Ai (@fok33) (@info33)))) (Ai (Ai (@I33s) (Ai (@I33b) (@zero33))) (Ai (Ai (@grow33) (@Tryz.underlying34)) (Ai (@sz34) (@info34))))) (Ai (Ai (Ai (@I34s) (Ai (@I34b) (@zero34))) (Ai (Ai (@grow34) (@Tryz.underlying38)) (Ai (@sz38) (@info38)))) (Ai (Ai (@I38s) (Ai (@I38b) (@zero38))) (Ai (Ai (@grow38) (@Tryz.underlying45)) (Ai (@sz45) (@fok45)))))) (Ai (Ai (Ai (Ai (@info45) (Ai (@I45s) (@I45b))) (Ai (Ai (@zero45) (@grow45)) (Ai (@Tryz.underlying62) (@sz62)))) (Ai (Ai (@info62) (Ai (@I62s) (@I62b))) (Ai (Ai (@zero62) (@grow62)) (Ai (@Tryz.underlying93) (@sz93))))) (Ai (Ai (Ai (@info93) (Ai (@I93s) (@I93b))) (Ai (Ai (@zero93) (@grow93)) (Ai (@Tryz.underlying95) (@sz95)))) (Ai (Ai (@fok95) (Ai (@info95) (@I95s))) (Ai (Ai (@call25) (@call36)) (Ai (@call39) (@Tryz.results37)))))))
set_option maxRecDepth 20000
set_option maxHeartbeats 8000000
noncomputable abbrev KRp:wR:=[(25,F85),(39,F86),(36,F22)]
def ownS (s:St):cK:=.row [.int .i64 s.inn,.int .i64 s.half,.int .i64 s.outs,.int .i64 s.balls,.int .i64 s.strikes,.int .i64 s.b1,.int .i64 s.b2,.int .i64 s.b3,.int .i64 s.n0,.int .i64 s.n1,.int .i64 s.c0,.int .i64 s.c1,.bool s.over] 33 0 0 false
theorem ct99 {L:List Pl}{fc:FuncId}{caps:List EVal}{m N0:Nat}{kk:List (Nat×Option (Nat×TypeId))}{l0:List (Nat×Option cK)}{INV:Nat→St→Nat→List (Nat×Option cK)→Prop}{k:EVal→H→Prop}
  (hfc:∀(h:H) (args:List EVal),dW Tryz.prog h fc args=some (.enter fc args h)) (hfk:∀a,fD KRp fc a=none) (hlen:L.length<9223372036854775808) (hok:∀t∈L,okP t) (hN0:N0≤100)
  (hI0:∀x y,INV 0 cD (N0+1) ((N0,x)::(N0,y)::l0)) (hI1:∀i s N l x,INV i s N l→INV i s N ((N0,x)::l))
  (hIN:∀i s N l,INV i s N l→N0<N∧N≤120+10*i)
  (hC:∀(i:Nat) (s:St) (N:Nat) (l:List (Nat×Option cK)) (t:Pl) (x y:Option cK) (k:EVal→H→Prop),INV i s N l→i<256→L[i]? = some t→okP t→eE s t=0 →
   (∀N' l',INV (i+1) (nxt (mvd s t)) N' l'→lookG l' N0=lookG l N0→k (.tup []) (mkH N' l' m kk)) →
   CallT Tryz.prog gT (fD KRp) fc ([.int .i64 (i:Nat),.lptr (eTn (eF s t)) 0]++caps) (mkH (N+1) ((N,x)::(N,y)::l) m kk) k)
  (hkB:256<L.length→k (.tup [.int .i64 0,.int .i64 0,.int .i64 5]) (mkH N0 l0 m kk))
  (hkE:∀(i:Nat) (s:St) (N:Nat) (l:List (Nat×Option cK)) (t:Pl) (x y:Option cK),INV i s N l→L.length≤256→L[i]? = some t→eE s t≠0→k (.tup [.int .i64 (i:Nat),.int .i64 (nN s t),.int .i64 (eE s t)]) (mkH (N+1) ((N,x)::(N,y)::l) m kk))
  (hkO:∀s N l,INV L.length s N l→L.length≤256→k (.tup [.int .i64 0,.int .i64 0,.int .i64 0]) (mkH N l m kk)) :
  CallT Tryz.prog gT (fD KRp) 37 [.lsl (u7 L),.func fc caps] (mkH N0 l0 m kk) k:=by
 refine CallT.intro Tryz.func37 rfl ?_
 refine Top.view (View.start (n:=43) rfl (by simp)) (d7 noNG _ _ _ _ ?_)
 have hN1:N0<16000:=by omega
 have hkm:∀(h:H) (args:List EVal),kcall Tryz.prog (fD KRp) h fc args=none:=fun h a=>tS hfk
 have h22:=e22
 simp only [eSt,cD]at h22
 by_cases hbig:256<L.length
 · have q1:decide ((256:Int)<(L.length:Int))=true:=by simp;omega
   ((try simp only [iS,SS,TF37G3,kcall,setRange,repl,isNextM,eConvert,eField,eSlice,eBuild,eBuildSlice,Nat.reduceLT,Nat.reduceEqDiff,Nat.reduceAdd,Nat.reduceMul,Nat.reduceSub,Nat.reduceLeDiff,Nat.reduceBEq,reduceCtorEq,rowsP_length,q1]);(repeat' ((first|apply bC|apply bB|apply bE|apply bD|apply aW|apply aV)<;>intro h<;>simp only [h,SS,TF37G3,kcall,setRange,repl,isNextM,eConvert,eField,eSlice,eBuild,eBuildSlice,Nat.reduceLT,Nat.reduceEqDiff,Nat.reduceAdd,Nat.reduceMul,Nat.reduceSub,Nat.reduceLeDiff,Nat.reduceBEq,reduceCtorEq,rowsP_length,q1])))
   exact pX (es:=[.int .i64 0,.int .i64 0,.int .i64 5]) (.inl rfl) rfl (by simp only [SS,TF37G3,kcall,setRange,repl,isNextM,eConvert,eField,eSlice,eBuild,eBuildSlice,Nat.reduceLT,Nat.reduceEqDiff,Nat.reduceAdd,Nat.reduceMul,Nat.reduceSub,Nat.reduceLeDiff,Nat.reduceBEq,reduceCtorEq]) (hkB hbig)
 have q1:decide ((256:Int)<(L.length:Int))=false:=by simp;omega
 ((try simp only [iS,SS,TF37G3,kcall,setRange,repl,isNextM,eConvert,eField,eSlice,eBuild,eBuildSlice,Nat.reduceLT,Nat.reduceEqDiff,Nat.reduceAdd,Nat.reduceMul,Nat.reduceSub,Nat.reduceLeDiff,Nat.reduceBEq,reduceCtorEq,rowsP_length,q1,hN1,h22]);(repeat' ((first|apply bC|apply bB|apply bE|apply bD|apply aW|apply aV)<;>intro h<;>simp only [h,SS,TF37G3,kcall,setRange,repl,isNextM,eConvert,eField,eSlice,eBuild,eBuildSlice,Nat.reduceLT,Nat.reduceEqDiff,Nat.reduceAdd,Nat.reduceMul,Nat.reduceSub,Nat.reduceLeDiff,Nat.reduceBEq,reduceCtorEq,rowsP_length,q1,hN1,h22])))
 refine azX (Top.loop (I:=fun s:{ x:Nat×St×Nat×List (Nat×Option cK) // x.1≤L.length∧INV x.1 x.2.1 x.2.2.1 x.2.2.2∧lookG x.2.2.2 N0=some (ownS x.2.1) }=>(mkF 43 [(19,.int .i64 (s.1.1:Nat)),(18,.int .i64 (L.length:Nat)),(17,.lsl (u7 L)),(7,.ptr N0 0),(1,.func fc caps)],mkH s.1.2.2.1 s.1.2.2.2 m kk)) (μ:=fun s=>L.length-s.1.1) ⟨(0,cD,N0+1,_),by simp,hI0 _ _,by simp only [lookG,if_true];rfl⟩ (View.sub (by simp [look])) ?_)
 rintro⟨⟨i,s,N,l⟩,hi,hI,hown⟩
 dsimp only at hi hI hown
 refine d7 noNG _ _ _ _ ?_
 dsimp only
 obtain⟨hN2,hN3⟩:=hIN _ _ _ _ hI
 unfold ownS at hown
 by_cases hlt:i<L.length
 rotate_left
 · obtain rfl:i=L.length:=by omega
   have q2:decide ((L.length:Int)<(L.length:Int))=false:=by simp
   ((try simp only [iS,SS,TF37G3,kcall,setRange,repl,isNextM,eConvert,eField,eSlice,eBuild,eBuildSlice,Nat.reduceLT,Nat.reduceEqDiff,Nat.reduceAdd,Nat.reduceMul,Nat.reduceSub,Nat.reduceLeDiff,Nat.reduceBEq,reduceCtorEq,q2]);(repeat' ((first|apply bC|apply bB|apply bE|apply bD|apply aW|apply aV)<;>intro h<;>simp only [h,SS,TF37G3,kcall,setRange,repl,isNextM,eConvert,eField,eSlice,eBuild,eBuildSlice,Nat.reduceLT,Nat.reduceEqDiff,Nat.reduceAdd,Nat.reduceMul,Nat.reduceSub,Nat.reduceLeDiff,Nat.reduceBEq,reduceCtorEq,q2])))
   exact pX (es:=[.int .i64 0,.int .i64 0,.int .i64 0]) (.inl rfl) rfl (by simp only [SS,TF37G3,kcall,setRange,repl,isNextM,eConvert,eField,eSlice,eBuild,eBuildSlice,Nat.reduceLT,Nat.reduceEqDiff,Nat.reduceAdd,Nat.reduceMul,Nat.reduceSub,Nat.reduceLeDiff,Nat.reduceBEq,reduceCtorEq]) (hkO _ _ _ hI (by omega))
 obtain⟨t,ht⟩:∃t,L[i]? = some t:=⟨L[i],List.getElem?_eq_getElem hlt⟩
 have okt:=hok t (List.mem_of_getElem? ht)
 have q2:decide ((i:Int)<(L.length:Int))=true:=by simp;omega
 have q3:IntKind.i64.wrap ((i:Int)+1)=((i+1:Nat):Int):=by rw [fY]<;>omega
 have hNN:N<16000:=by omega
 have n0:(N=N0)=False:=by simp only [eq_iff_iff,iff_false];omega
 have n1:(N0=N)=False:=by simp only [eq_iff_iff,iff_false];omega
 have e1:rowP t=[.str t.p,.str t.e,.bool t.l,.lsl (yM t.m)]:=rfl
 by_cases he:eE s t=0
 rotate_left
 · have h85:=e85_bad okt he
   simp only [eSt,e1]at h85
   have q4:(eE s t==0)=false:=by simpa using he
   ((try simp only [iS,SS,TF37G3,kcall,setRange,repl,isNextM,eConvert,eField,eSlice,eBuild,eBuildSlice,Nat.reduceLT,Nat.reduceEqDiff,Nat.reduceAdd,Nat.reduceMul,Nat.reduceSub,Nat.reduceLeDiff,Nat.reduceBEq,reduceCtorEq,rowsP_length,rowsP_get,ht,e1,q2,hNN,hown,hN1,n0,n1,h85,q4]);(repeat' ((first|apply bC|apply bB|apply bE|apply bD|apply aW|apply aV)<;>intro h<;>simp only [h,SS,TF37G3,kcall,setRange,repl,isNextM,eConvert,eField,eSlice,eBuild,eBuildSlice,Nat.reduceLT,Nat.reduceEqDiff,Nat.reduceAdd,Nat.reduceMul,Nat.reduceSub,Nat.reduceLeDiff,Nat.reduceBEq,reduceCtorEq,rowsP_length,rowsP_get,ht,e1,q2,hNN,hown,hN1,n0,n1,h85,q4])))
   exact pX (es:=[.int .i64 (i:Nat),.int .i64 (nN s t),.int .i64 (eE s t)]) (.inl rfl) rfl (by simp only [SS,TF37G3,kcall,setRange,repl,isNextM,eConvert,eField,eSlice,eBuild,eBuildSlice,Nat.reduceLT,Nat.reduceEqDiff,Nat.reduceAdd,Nat.reduceMul,Nat.reduceSub,Nat.reduceLeDiff,Nat.reduceBEq,reduceCtorEq]) (hkE _ _ _ _ _ _ _ hI (by omega) ht he)
 have h85:=ayG okt he
 simp only [eSt,e1]at h85
 have h86:=e86 okt he
 simp only [eSt]at h86
 ((try simp only [iS,SS,TF37G3,kcall,setRange,repl,isNextM,eConvert,eField,eSlice,eBuild,eBuildSlice,Nat.reduceLT,Nat.reduceEqDiff,Nat.reduceAdd,Nat.reduceMul,Nat.reduceSub,Nat.reduceLeDiff,Nat.reduceBEq,reduceCtorEq,rowsP_length,rowsP_get,ht,e1,q2,hNN,hown,hN1,n0,n1,h85,hfc,↓hkm]);(repeat' ((first|apply bC|apply bB|apply bE|apply bD|apply aW|apply aV)<;>intro h<;>simp only [h,SS,TF37G3,kcall,setRange,repl,isNextM,eConvert,eField,eSlice,eBuild,eBuildSlice,Nat.reduceLT,Nat.reduceEqDiff,Nat.reduceAdd,Nat.reduceMul,Nat.reduceSub,Nat.reduceLeDiff,Nat.reduceBEq,reduceCtorEq,rowsP_length,rowsP_get,ht,e1,q2,hNN,hown,hN1,n0,n1,h85,hfc,↓hkm])))
 refine hC i s N l t _ _ _ hI (by omega) ht okt he fun N' l' hI' hl'=>?_
 rw [hown]at hl'
 ((try simp only [iS,SS,TF37G3,kcall,setRange,repl,isNextM,eConvert,eField,eSlice,eBuild,eBuildSlice,Nat.reduceLT,Nat.reduceEqDiff,Nat.reduceAdd,Nat.reduceMul,Nat.reduceSub,Nat.reduceLeDiff,Nat.reduceBEq,reduceCtorEq,hN1,hl',h86,q3]);(repeat' ((first|apply bC|apply bB|apply bE|apply bD|apply aW|apply aV)<;>intro h<;>simp only [h,SS,TF37G3,kcall,setRange,repl,isNextM,eConvert,eField,eSlice,eBuild,eBuildSlice,Nat.reduceLT,Nat.reduceEqDiff,Nat.reduceAdd,Nat.reduceMul,Nat.reduceSub,Nat.reduceLeDiff,Nat.reduceBEq,reduceCtorEq,hN1,hl',h86,q3])))
 exact⟨⟨(i+1,nxt (mvd s t),N',_),hlt,hI1 _ _ _ _ _ hI',by simp only [lookG,if_true];rfl⟩,by show L.length-(i+1)<L.length-i;omega,View.sub (by simp [look])⟩
end Go.Ev
