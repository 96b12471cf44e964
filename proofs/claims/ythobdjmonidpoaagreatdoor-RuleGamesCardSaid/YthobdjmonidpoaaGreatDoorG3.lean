import Derived.Test.YthobdjmonidpoaaGreatDoorG2
set_option linter.unusedSimpArgs false
set_option linter.unusedVariables false
namespace Go.Ev
open Go.RowKit Go.Proofs
set_option linter.defProp false
def TF25G3:=Ai (Ai (Ai (Ai (Ai (Ai (@Tryz.underlying3) (Ai (@sz3) (@info3))) (Ai (@I3s) (Ai (@I3b) (@zero3)))) (Ai (Ai (@grow3) (Ai (@Tryz.underlying4) (@sz4))) (Ai (Ai (@info4) (@I4s)) (Ai (@I4b) (@zero4))))) (Ai (Ai (Ai (@grow4) (Ai (@Tryz.underlying9) (@sz9))) (Ai (Ai (@info9) (@I9s)) (Ai (@I9b) (@zero9)))) (Ai (Ai (@grow9) (Ai (@Tryz.underlying22) (@sz22))) (Ai (Ai (@info22) (@I22s)) (Ai (@I22b) (@zero22)))))) (Ai (Ai (Ai (Ai (@grow22) (Ai (@Tryz.underlying26) (@sz26))) (Ai (Ai (@info26) (@I26s)) (Ai (@I26b) (@zero26)))) (Ai (Ai (@grow26) (Ai (@Tryz.underlying30) (@sz30))) (Ai (Ai (@info30) (@I30s)) (Ai (@I30b) (@zero30))))) (Ai (Ai (Ai (@grow30) (Ai (@Tryz.underlying31) (@sz31))) (Ai (Ai (@info31) (@I31s)) (Ai (@I31b) (@zero31)))) (Ai (Ai (@grow31) (Ai (@Tryz.underlying33) (@sz33))) (Ai (Ai (@fok33) (@info33)) (Ai (@I33s) (@I33b))))))) (Ai (Ai (Ai (Ai (Ai (@zero33) (Ai (@grow33) (@Tryz.underlying43))) (Ai (@sz43) (Ai (@info43) (@I43s)))) (Ai (Ai (@I43b) (Ai (@zero43) (@grow43))) (Ai (Ai (@Tryz.underlying45) (@sz45)) (Ai (@fok45) (@info45))))) (Ai (Ai (Ai (@I45s) (Ai (@I45b) (@zero45))) (Ai (Ai (@grow45) (@Tryz.underlying53)) (Ai (@sz53) (@info53)))) (Ai (Ai (@I53s) (Ai (@I53b) (@zero53))) (Ai (Ai (@grow53) (@Tryz.underlying69)) (Ai (@sz69) (@info69)))))) (Ai (Ai (Ai (Ai (@I69s) (Ai (@I69b) (@zero69))) (Ai (Ai (@grow69) (@Tryz.underlying77)) (Ai (@sz77) (@fok77)))) (Ai (Ai (@info77) (Ai (@I77s) (@I77b))) (Ai (Ai (@zero77) (@grow77)) (Ai (@Tryz.underlying96) (@sz96))))) (Ai (Ai (Ai (@info96) (Ai (@I96s) (@I96b))) (Ai (Ai (@zero96) (@grow96)) (Ai (@Tryz.underlying98) (@sz98)))) (Ai (Ai (@fok98) (Ai (@info98) (@I98s))) (Ai (Ai (@call13) (@call27)) (Ai (@call44) (@Tryz.results25)))))))
set_option maxRecDepth 20000
set_option maxHeartbeats 8000000
noncomputable abbrev KRp:sE:=[(44,F85),(27,F86),(13,F22)]
def awX (s:St):cY:=.row [.int .i64 s.inn,.int .i64 s.half,.int .i64 s.outs,.int .i64 s.balls,.int .i64 s.strikes,.int .i64 s.b1,.int .i64 s.b2,.int .i64 s.b3,.int .i64 s.n0,.int .i64 s.n1,.int .i64 s.c0,.int .i64 s.c1,.bool s.over] 33 0 0 false
theorem ct99 {L:List Pl}{fc:FuncId}{caps:List EVal}{m N0:Nat}{kk:List (Nat×Option (Nat×TypeId))}{l0:List (Nat×Option cY)}{INV:Nat→St→Nat→List (Nat×Option cY)→Prop}{k:EVal→H→Prop}
  (hfc:∀(h:H) (args:List EVal),cE Tryz.prog h fc args=some (.enter fc args h)) (hfk:∀a,aN KRp fc a=none) (hlen:L.length<9223372036854775808) (hok:∀t∈L,okP t) (hN0:N0≤100)
  (hI0:∀x y,INV 0 bR (N0+1) ((N0,x)::(N0,y)::l0)) (hI1:∀i s N l x,INV i s N l→INV i s N ((N0,x)::l))
  (hIN:∀i s N l,INV i s N l→N0<N∧N≤120+10*i)
  (hC:∀(i:Nat) (s:St) (N:Nat) (l:List (Nat×Option cY)) (t:Pl) (x y:Option cY) (k:EVal→H→Prop),INV i s N l→i<256→L[i]? = some t→okP t→eE s t=0 →
   (∀N' l',INV (i+1) (nxt (mvd s t)) N' l'→lookG l' N0=lookG l N0→k (.tup []) (mkH N' l' m kk)) →
   CallT Tryz.prog gT (aN KRp) fc ([.int .i64 (i:Nat),.lptr (eTn (fQ s t)) 0]++caps) (mkH (N+1) ((N,x)::(N,y)::l) m kk) k)
  (hkB:256<L.length→k (.tup [.int .i64 0,.int .i64 0,.int .i64 5]) (mkH N0 l0 m kk))
  (hkE:∀(i:Nat) (s:St) (N:Nat) (l:List (Nat×Option cY)) (t:Pl) (x y:Option cY),INV i s N l→L.length≤256→L[i]? = some t→eE s t≠0→k (.tup [.int .i64 (i:Nat),.int .i64 (nN s t),.int .i64 (eE s t)]) (mkH (N+1) ((N,x)::(N,y)::l) m kk))
  (hkO:∀s N l,INV L.length s N l→L.length≤256→k (.tup [.int .i64 0,.int .i64 0,.int .i64 0]) (mkH N l m kk)) :
  CallT Tryz.prog gT (aN KRp) 25 [.lsl (oT L),.func fc caps] (mkH N0 l0 m kk) k:=by
 refine CallT.intro Tryz.func25 rfl ?_
 refine Top.view (View.start (n:=43) rfl (by simp)) (bY noNG _ _ _ _ ?_)
 have hN1:N0<16000:=by omega
 have hkm:∀(h:H) (args:List EVal),kcall Tryz.prog (aN KRp) h fc args=none:=fun h a=>m4 hfk
 have h22:=e22
 simp only [eSt,bR]at h22
 by_cases hbig:256<L.length
 · have q1:decide ((256:Int)<(L.length:Int))=true:=by simp;omega
   ((try simp only [cR,SS,TF25G3,kcall,setRange,repl,isNextM,eConvert,eField,eSlice,eBuild,eBuildSlice,Nat.reduceLT,Nat.reduceEqDiff,Nat.reduceAdd,Nat.reduceMul,Nat.reduceSub,Nat.reduceLeDiff,Nat.reduceBEq,reduceCtorEq,rowsP_length,q1]);(repeat' ((first|apply aJ|apply aI|apply aL|apply aK|apply aF|apply aE)<;>intro h<;>simp only [h,SS,TF25G3,kcall,setRange,repl,isNextM,eConvert,eField,eSlice,eBuild,eBuildSlice,Nat.reduceLT,Nat.reduceEqDiff,Nat.reduceAdd,Nat.reduceMul,Nat.reduceSub,Nat.reduceLeDiff,Nat.reduceBEq,reduceCtorEq,rowsP_length,q1])))
   exact mN (es:=[.int .i64 0,.int .i64 0,.int .i64 5]) (.inl rfl) rfl (by simp only [SS,TF25G3,kcall,setRange,repl,isNextM,eConvert,eField,eSlice,eBuild,eBuildSlice,Nat.reduceLT,Nat.reduceEqDiff,Nat.reduceAdd,Nat.reduceMul,Nat.reduceSub,Nat.reduceLeDiff,Nat.reduceBEq,reduceCtorEq]) (hkB hbig)
 have q1:decide ((256:Int)<(L.length:Int))=false:=by simp;omega
 ((try simp only [cR,SS,TF25G3,kcall,setRange,repl,isNextM,eConvert,eField,eSlice,eBuild,eBuildSlice,Nat.reduceLT,Nat.reduceEqDiff,Nat.reduceAdd,Nat.reduceMul,Nat.reduceSub,Nat.reduceLeDiff,Nat.reduceBEq,reduceCtorEq,rowsP_length,q1,hN1,h22]);(repeat' ((first|apply aJ|apply aI|apply aL|apply aK|apply aF|apply aE)<;>intro h<;>simp only [h,SS,TF25G3,kcall,setRange,repl,isNextM,eConvert,eField,eSlice,eBuild,eBuildSlice,Nat.reduceLT,Nat.reduceEqDiff,Nat.reduceAdd,Nat.reduceMul,Nat.reduceSub,Nat.reduceLeDiff,Nat.reduceBEq,reduceCtorEq,rowsP_length,q1,hN1,h22])))
 refine wT (Top.loop (I:=fun s:{ x:Nat×St×Nat×List (Nat×Option cY) // x.1≤L.length∧INV x.1 x.2.1 x.2.2.1 x.2.2.2∧lookG x.2.2.2 N0=some (awX x.2.1) }=>(mkF 43 [(19,.int .i64 (s.1.1:Nat)),(18,.int .i64 (L.length:Nat)),(17,.lsl (oT L)),(7,.ptr N0 0),(1,.func fc caps)],mkH s.1.2.2.1 s.1.2.2.2 m kk)) (μ:=fun s=>L.length-s.1.1) ⟨(0,bR,N0+1,_),by simp,hI0 _ _,by simp only [lookG,if_true];rfl⟩ (View.sub (by simp [look])) ?_)
 rintro⟨⟨i,s,N,l⟩,hi,hI,hown⟩
 dsimp only at hi hI hown
 refine bY noNG _ _ _ _ ?_
 dsimp only
 obtain⟨hN2,hN3⟩:=hIN _ _ _ _ hI
 unfold awX at hown
 by_cases hlt:i<L.length
 rotate_left
 · obtain rfl:i=L.length:=by omega
   have q2:decide ((L.length:Int)<(L.length:Int))=false:=by simp
   ((try simp only [cR,SS,TF25G3,kcall,setRange,repl,isNextM,eConvert,eField,eSlice,eBuild,eBuildSlice,Nat.reduceLT,Nat.reduceEqDiff,Nat.reduceAdd,Nat.reduceMul,Nat.reduceSub,Nat.reduceLeDiff,Nat.reduceBEq,reduceCtorEq,q2]);(repeat' ((first|apply aJ|apply aI|apply aL|apply aK|apply aF|apply aE)<;>intro h<;>simp only [h,SS,TF25G3,kcall,setRange,repl,isNextM,eConvert,eField,eSlice,eBuild,eBuildSlice,Nat.reduceLT,Nat.reduceEqDiff,Nat.reduceAdd,Nat.reduceMul,Nat.reduceSub,Nat.reduceLeDiff,Nat.reduceBEq,reduceCtorEq,q2])))
   exact mN (es:=[.int .i64 0,.int .i64 0,.int .i64 0]) (.inl rfl) rfl (by simp only [SS,TF25G3,kcall,setRange,repl,isNextM,eConvert,eField,eSlice,eBuild,eBuildSlice,Nat.reduceLT,Nat.reduceEqDiff,Nat.reduceAdd,Nat.reduceMul,Nat.reduceSub,Nat.reduceLeDiff,Nat.reduceBEq,reduceCtorEq]) (hkO _ _ _ hI (by omega))
 obtain⟨t,ht⟩:∃t,L[i]? = some t:=⟨L[i],List.getElem?_eq_getElem hlt⟩
 have okt:=hok t (List.mem_of_getElem? ht)
 have q2:decide ((i:Int)<(L.length:Int))=true:=by simp;omega
 have q3:IntKind.i64.wrap ((i:Int)+1)=((i+1:Nat):Int):=by rw [e6]<;>omega
 have hNN:N<16000:=by omega
 have n0:(N=N0)=False:=by simp only [eq_iff_iff,iff_false];omega
 have n1:(N0=N)=False:=by simp only [eq_iff_iff,iff_false];omega
 have e1:azT t=[.str t.p,.str t.e,.bool t.l,.lsl (t5 t.m)]:=rfl
 by_cases he:eE s t=0
 rotate_left
 · have h85:=e85_bad okt he
   simp only [eSt,e1]at h85
   have q4:(eE s t==0)=false:=by simpa using he
   ((try simp only [cR,SS,TF25G3,kcall,setRange,repl,isNextM,eConvert,eField,eSlice,eBuild,eBuildSlice,Nat.reduceLT,Nat.reduceEqDiff,Nat.reduceAdd,Nat.reduceMul,Nat.reduceSub,Nat.reduceLeDiff,Nat.reduceBEq,reduceCtorEq,rowsP_length,rowsP_get,ht,e1,q2,hNN,hown,hN1,n0,n1,h85,q4]);(repeat' ((first|apply aJ|apply aI|apply aL|apply aK|apply aF|apply aE)<;>intro h<;>simp only [h,SS,TF25G3,kcall,setRange,repl,isNextM,eConvert,eField,eSlice,eBuild,eBuildSlice,Nat.reduceLT,Nat.reduceEqDiff,Nat.reduceAdd,Nat.reduceMul,Nat.reduceSub,Nat.reduceLeDiff,Nat.reduceBEq,reduceCtorEq,rowsP_length,rowsP_get,ht,e1,q2,hNN,hown,hN1,n0,n1,h85,q4])))
   exact mN (es:=[.int .i64 (i:Nat),.int .i64 (nN s t),.int .i64 (eE s t)]) (.inl rfl) rfl (by simp only [SS,TF25G3,kcall,setRange,repl,isNextM,eConvert,eField,eSlice,eBuild,eBuildSlice,Nat.reduceLT,Nat.reduceEqDiff,Nat.reduceAdd,Nat.reduceMul,Nat.reduceSub,Nat.reduceLeDiff,Nat.reduceBEq,reduceCtorEq]) (hkE _ _ _ _ _ _ _ hI (by omega) ht he)
 have h85:=ayI okt he
 simp only [eSt,e1]at h85
 have h86:=e86 okt he
 simp only [eSt]at h86
 ((try simp only [cR,SS,TF25G3,kcall,setRange,repl,isNextM,eConvert,eField,eSlice,eBuild,eBuildSlice,Nat.reduceLT,Nat.reduceEqDiff,Nat.reduceAdd,Nat.reduceMul,Nat.reduceSub,Nat.reduceLeDiff,Nat.reduceBEq,reduceCtorEq,rowsP_length,rowsP_get,ht,e1,q2,hNN,hown,hN1,n0,n1,h85,hfc,↓hkm]);(repeat' ((first|apply aJ|apply aI|apply aL|apply aK|apply aF|apply aE)<;>intro h<;>simp only [h,SS,TF25G3,kcall,setRange,repl,isNextM,eConvert,eField,eSlice,eBuild,eBuildSlice,Nat.reduceLT,Nat.reduceEqDiff,Nat.reduceAdd,Nat.reduceMul,Nat.reduceSub,Nat.reduceLeDiff,Nat.reduceBEq,reduceCtorEq,rowsP_length,rowsP_get,ht,e1,q2,hNN,hown,hN1,n0,n1,h85,hfc,↓hkm])))
 refine hC i s N l t _ _ _ hI (by omega) ht okt he fun N' l' hI' hl'=>?_
 rw [hown]at hl'
 ((try simp only [cR,SS,TF25G3,kcall,setRange,repl,isNextM,eConvert,eField,eSlice,eBuild,eBuildSlice,Nat.reduceLT,Nat.reduceEqDiff,Nat.reduceAdd,Nat.reduceMul,Nat.reduceSub,Nat.reduceLeDiff,Nat.reduceBEq,reduceCtorEq,hN1,hl',h86,q3]);(repeat' ((first|apply aJ|apply aI|apply aL|apply aK|apply aF|apply aE)<;>intro h<;>simp only [h,SS,TF25G3,kcall,setRange,repl,isNextM,eConvert,eField,eSlice,eBuild,eBuildSlice,Nat.reduceLT,Nat.reduceEqDiff,Nat.reduceAdd,Nat.reduceMul,Nat.reduceSub,Nat.reduceLeDiff,Nat.reduceBEq,reduceCtorEq,hN1,hl',h86,q3])))
 exact⟨⟨(i+1,nxt (mvd s t),N',_),hlt,hI1 _ _ _ _ _ hI',by simp only [lookG,if_true];rfl⟩,by show L.length-(i+1)<L.length-i;omega,View.sub (by simp [look])⟩
end Go.Ev
