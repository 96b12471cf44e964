import Derived.Test.YthobdjmonidpoaaGreatDoorG4
set_option linter.unusedSimpArgs false
set_option linter.unusedVariables false
namespace Go.Ev
open Go.RowKit Go.Proofs
set_option linter.defProp false
def TF8G5:=Ai (Ai (Ai (Ai (Ai (Ai (@Tryz.underlying3) (Ai (@sz3) (@info3))) (Ai (@I3s) (Ai (@I3b) (@zero3)))) (Ai (Ai (@grow3) (Ai (@Tryz.underlying4) (@sz4))) (Ai (@info4) (Ai (@I4s) (@I4b))))) (Ai (Ai (Ai (@zero4) (Ai (@grow4) (@Tryz.underlying9))) (Ai (@sz9) (Ai (@info9) (@I9s)))) (Ai (Ai (@I9b) (Ai (@zero9) (@grow9))) (Ai (@Tryz.underlying22) (Ai (@sz22) (@info22)))))) (Ai (Ai (Ai (Ai (@I22s) (Ai (@I22b) (@zero22))) (Ai (@grow22) (Ai (@Tryz.underlying26) (@sz26)))) (Ai (Ai (@info26) (Ai (@I26s) (@I26b))) (Ai (@zero26) (Ai (@grow26) (@Tryz.underlying30))))) (Ai (Ai (Ai (@sz30) (Ai (@info30) (@I30s))) (Ai (@I30b) (Ai (@zero30) (@grow30)))) (Ai (Ai (@Tryz.underlying31) (Ai (@sz31) (@info31))) (Ai (@I31s) (Ai (@I31b) (@zero31))))))) (Ai (Ai (Ai (Ai (Ai (@grow31) (Ai (@Tryz.underlying33) (@sz33))) (Ai (@fok33) (Ai (@info33) (@I33s)))) (Ai (Ai (@I33b) (Ai (@zero33) (@grow33))) (Ai (@Tryz.underlying43) (Ai (@sz43) (@info43))))) (Ai (Ai (Ai (@I43s) (Ai (@I43b) (@zero43))) (Ai (@grow43) (Ai (@Tryz.underlying45) (@sz45)))) (Ai (Ai (@fok45) (Ai (@info45) (@I45s))) (Ai (@I45b) (Ai (@zero45) (@grow45)))))) (Ai (Ai (Ai (Ai (@Tryz.underlying53) (Ai (@sz53) (@info53))) (Ai (@I53s) (Ai (@I53b) (@zero53)))) (Ai (Ai (@grow53) (Ai (@Tryz.underlying70) (@sz70))) (Ai (@info70) (Ai (@I70s) (@I70b))))) (Ai (Ai (Ai (@zero70) (Ai (@grow70) (@Tryz.underlying77))) (Ai (@sz77) (Ai (@fok77) (@info77)))) (Ai (Ai (@I77s) (Ai (@I77b) (@zero77))) (Ai (Ai (@grow77) (@call13)) (Ai (@call25) (@Tryz.results8)))))))
def TF29G5:=Ai (Ai (Ai (Ai (Ai (Ai (@Tryz.underlying3) (@sz3)) (Ai (@info3) (Ai (@I3s) (@I3b)))) (Ai (Ai (@zero3) (Ai (@grow3) (@Tryz.underlying4))) (Ai (@sz4) (Ai (@info4) (@I4s))))) (Ai (Ai (Ai (@I4b) (Ai (@zero4) (@grow4))) (Ai (@Tryz.underlying9) (Ai (@sz9) (@info9)))) (Ai (Ai (@I9s) (Ai (@I9b) (@zero9))) (Ai (@grow9) (Ai (@Tryz.underlying30) (@sz30)))))) (Ai (Ai (Ai (Ai (@info30) (Ai (@I30s) (@I30b))) (Ai (@zero30) (Ai (@grow30) (@Tryz.underlying31)))) (Ai (Ai (@sz31) (Ai (@info31) (@I31s))) (Ai (@I31b) (Ai (@zero31) (@grow31))))) (Ai (Ai (Ai (@Tryz.underlying33) (Ai (@sz33) (@fok33))) (Ai (@info33) (Ai (@I33s) (@I33b)))) (Ai (Ai (@zero33) (Ai (@grow33) (@Tryz.underlying43))) (Ai (@sz43) (Ai (@info43) (@I43s))))))) (Ai (Ai (Ai (Ai (Ai (@I43b) (@zero43)) (Ai (@grow43) (Ai (@Tryz.underlying45) (@sz45)))) (Ai (Ai (@fok45) (Ai (@info45) (@I45s))) (Ai (@I45b) (Ai (@zero45) (@grow45))))) (Ai (Ai (Ai (@Tryz.underlying53) (Ai (@sz53) (@info53))) (Ai (@I53s) (Ai (@I53b) (@zero53)))) (Ai (Ai (@grow53) (Ai (@Tryz.underlying69) (@sz69))) (Ai (@info69) (Ai (@I69s) (@I69b)))))) (Ai (Ai (Ai (Ai (@zero69) (Ai (@grow69) (@Tryz.underlying77))) (Ai (@sz77) (Ai (@fok77) (@info77)))) (Ai (Ai (@I77s) (Ai (@I77b) (@zero77))) (Ai (@grow77) (Ai (@Tryz.underlying96) (@sz96))))) (Ai (Ai (Ai (@info96) (Ai (@I96s) (@I96b))) (Ai (@zero96) (Ai (@grow96) (@Tryz.underlying98)))) (Ai (Ai (@sz98) (Ai (@fok98) (@info98))) (Ai (@I98s) (Ai (@call27) (@Tryz.results29)))))))
set_option maxRecDepth 20000
set_option maxHeartbeats 8000000
theorem ct101 {i:Int}{s0 s2:St}{x:List EVal}{c7 N:Nat}{l:List (Nat×Option cY)}{kk:List (Nat×Option (Nat×TypeId))}{k:EVal→H→Prop}
  (h86:F86 [.lptr x 0]=some (.agg (eSt s2))) (hc:1<c7) (hb:lookG l 1=some (awX s0))
  (hk:∀l2,lookG l2 1=some (awX s2)→lookG l2 c7=lookG l c7→lookG l2 0=lookG l 0→k (.tup []) (mkH N l2 128 kk)) :
  CallT Tryz.prog gT (aN KRp) 29 [.int .i64 i,.lptr x 0,.ptr 1 0] (mkH N l 128 kk) k:=by
 refine CallT.intro Tryz.func29 rfl ?_
 refine Top.view (View.start (n:=7) rfl (by simp)) (bY noNG _ _ _ _ ?_)
 simp only [eSt]at h86
 unfold awX at hb
 ((try simp only [cR,SS,TF29G5,kcall,setRange,repl,isNextM,eConvert,eField,eSlice,eBuild,eBuildSlice,Nat.reduceLT,Nat.reduceEqDiff,Nat.reduceAdd,Nat.reduceMul,Nat.reduceSub,Nat.reduceLeDiff,Nat.reduceBEq,reduceCtorEq,hb,h86]);(repeat' ((first|apply aJ|apply aI|apply aL|apply aK|apply aF|apply aE)<;>intro h<;>simp only [h,SS,TF29G5,kcall,setRange,repl,isNextM,eConvert,eField,eSlice,eBuild,eBuildSlice,Nat.reduceLT,Nat.reduceEqDiff,Nat.reduceAdd,Nat.reduceMul,Nat.reduceSub,Nat.reduceLeDiff,Nat.reduceBEq,reduceCtorEq,hb,h86])))
 refine mN (es:=[]) (.inr rfl) rfl rfl (hk _ (by simp only [lookG,if_true];rfl) ?_ ?_)
 · rw [lookG.eq_2,if_neg (by omega)]
 · rw [lookG.eq_2,if_neg (by omega)]
abbrev cG45:Cod (St×Int×Int×Int×Unit):=Cod.tup (Row.cons (Cod.agg rSt) (Row.cons cI (Row.cons cI (Row.cons cI Row.nil))))
def Ag45:Row (List Pl×Unit):=Row.cons (Cod.list pl0 rPl) Row.nil
noncomputable def Sg45 (x:List Pl×Unit):Option (St×Int×Int×Int×Unit):=if gOK x.1=true then some ((game x.1).1.getLastD st0,((game x.1).2.1:Nat),(game x.1).2.2.1,(game x.1).2.2.2,())else none
theorem c45 (s:St) (a b c:Int):(cG45.v (s,a,b,c,())).c=.tup [.agg (eSt s),.int .i64 a,.int .i64 b,.int .i64 c]:=by
 show(V.tup [V.agg (rSt.v s),V.int .i64 a,V.int .i64 b,V.int .i64 c]).c=_
 simp only [V.c,V.cs,ax0]
structure FInv (L:List Pl) (i:Nat) (s:St) (N:Nat) (l:List (Nat×Option cY)):Prop where
 hN:N≤5+3*i
 hN2:2<N
 dat:∃acc,(L.length≤256→game L=m7 i acc s (L.drop i))∧acc.getLastD st0=s∧lookG l 1=some (awX s)
 own:∃r,lookG l 0=some (.row [.int .i64 0,.int .i64 0,.int .i64 0,.int .i64 0,.int .i64 0,.int .i64 0,.int .i64 0,.int .i64 0,.int .i64 0,.int .i64 0,.int .i64 0,.int .i64 0,.bool false] r 0 0 false)∧r=33
theorem fn45:FnT 8 (fOf Ag45 cG45 Sg45):=by
 refine Fn.intro mixed noNG Tryz.func8 rfl KRp (by simp only [KRp,List.forall_mem_cons];exact⟨fn85,fn86,fn22,fun _ h=>by cases h⟩) ?_
 intro args v hF
 obtain⟨⟨L,⟨⟩⟩,r,rfl,hs,rfl⟩:=kW hF
 unfold Sg45 at hs
 split at hs
 rotate_left
 · cases hs
 rename_i hg
 cases hs
 obtain⟨hlen,hok⟩:=aq5 hg
 dsimp only at hlen hok
 have a45:V.cs (Ag45.v (L,()))=[.lsl (oT L)]:=a43 L
 rw [a45,c45]
 intro Q hV
 have hQ:=Viewed.of hV
 clear hF hg
 refine Top.view (View.start (n:=25) rfl (by simp)) (bY noNG _ _ _ _ ?_)
 have h22:=e22
 simp only [eSt,bR]at h22
 have hkm:∀(h:H) (args:List EVal),kcall Tryz.prog (aN KRp) h 25 args=none:=fun h a=>m4 fun a=>rfl
 have m0:decide (128≤0 % 1024)=false:=by decide
 have e1:∀(h:H) (cs:List EVal),bS h 29 #[] (some []) (some cs)=some (.val (.func 29 cs) h):=fun _ _=>rfl
 ((try simp only [cR,SS,TF8G5,kcall,setRange,repl,isNextM,eConvert,eField,eSlice,eBuild,eBuildSlice,Nat.reduceLT,Nat.reduceEqDiff,Nat.reduceAdd,Nat.reduceMul,Nat.reduceSub,Nat.reduceLeDiff,Nat.reduceBEq,reduceCtorEq,h22,m0,e1,↓hkm]);(repeat' ((first|apply aJ|apply aI|apply aL|apply aK|apply aF|apply aE)<;>intro h<;>simp only [h,SS,TF8G5,kcall,setRange,repl,isNextM,eConvert,eField,eSlice,eBuild,eBuildSlice,Nat.reduceLT,Nat.reduceEqDiff,Nat.reduceAdd,Nat.reduceMul,Nat.reduceSub,Nat.reduceLeDiff,Nat.reduceBEq,reduceCtorEq,h22,m0,e1,↓hkm])))
 refine CallT.inn (HV.mode (m':=128) (by decide)) ?_
 refine ct99 (N0:=2) (INV:=FInv L) (fun h a=>call29) (fun a=>rfl) (by omega) hok (by omega) ?_ ?_ ?_ ?_ ?_ ?_ ?_
 · intro x y
   refine⟨by omega,by omega,⟨[bR],?_,rfl,by simp [lookG,awX,bR]⟩,_,by simp [lookG],rfl⟩
   intro h;unfold game;rw [if_neg (by omega)];rfl
 · rintro i s N l x ⟨h1,h2,⟨acc,h4,h5,h6⟩,r,h7,h8⟩
   exact⟨h1,h2,⟨acc,h4,h5,by rw [lookG.eq_2,if_neg (by omega)];exact h6⟩,r,by rw [lookG.eq_2,if_neg (by omega)];exact h7,h8⟩
 · rintro i s N l ⟨h1,h2,-⟩
   omega
 · rintro i s N l t x y k ⟨h1,h2,⟨acc,h4,h5,h6⟩,r,h7,h8⟩ hi ht okt he hk
   have f1:lookG ((N,x)::(N,y)::l) 1=some (awX s):=by rw [lookG.eq_2,if_neg (by omega),lookG.eq_2,if_neg (by omega)];exact h6
   have f0:lookG ((N,x)::(N,y)::l) 0=lookG l 0:=by rw [lookG.eq_2,if_neg (by omega),lookG.eq_2,if_neg (by omega)]
   refine ct101 (s0:=s) (c7:=2) (e86 okt he) (by omega) f1 fun l2 b2 f2 g2=>?_
   refine hk _ _ ⟨by omega,by omega,⟨acc++[nxt (mvd s t)],?_,by simp,b2⟩,r,by rw [g2,f0];exact h7,h8⟩ ?_
   · intro hL
     rw [h4 hL,aY ht,eX,if_neg (by simp [he])]
   · rw [f2,lookG.eq_2,if_neg (by omega),lookG.eq_2,if_neg (by omega)]
 · intro hbig
   have hgm:game L=([],0,0,5):=by unfold game;rw [if_pos hbig]
   rw [hgm]at hQ
   have z5:((5:Int)==0)=false:=rfl
   ((try simp only [cR,SS,TF8G5,kcall,setRange,repl,isNextM,eConvert,eField,eSlice,eBuild,eBuildSlice,Nat.reduceLT,Nat.reduceEqDiff,Nat.reduceAdd,Nat.reduceMul,Nat.reduceSub,Nat.reduceLeDiff,Nat.reduceBEq,reduceCtorEq,z5]);(repeat' ((first|apply aJ|apply aI|apply aL|apply aK|apply aF|apply aE)<;>intro h<;>simp only [h,SS,TF8G5,kcall,setRange,repl,isNextM,eConvert,eField,eSlice,eBuild,eBuildSlice,Nat.reduceLT,Nat.reduceEqDiff,Nat.reduceAdd,Nat.reduceMul,Nat.reduceSub,Nat.reduceLeDiff,Nat.reduceBEq,reduceCtorEq,z5])))
   (refine hQ _ _ _ (gA (by first|exact .inl rfl|exact .inr rfl) ?_);simp only [SS,TF8G5,kcall,setRange,repl,isNextM,eConvert,eField,eSlice,eBuild,eBuildSlice,Nat.reduceLT,Nat.reduceEqDiff,Nat.reduceAdd,Nat.reduceMul,Nat.reduceSub,Nat.reduceLeDiff,Nat.reduceBEq,reduceCtorEq])
   rfl
 · rintro i s N l t x y ⟨h1,h2,⟨acc,h4,h5,h6⟩,r,h7,rfl⟩ hL ht he
   have hgm:game L=([],i,nN s t,eE s t):=by
    rw [h4 hL,aY ht,eX,if_pos he]
   rw [hgm]at hQ
   have z5:(eE s t==0)=false:=by simpa using he
   have n0:(0=N)=False:=by simp only [eq_iff_iff,iff_false];omega
   have n1:(N=0)=False:=by simp only [eq_iff_iff,iff_false];omega
   ((try simp only [cR,SS,TF8G5,kcall,setRange,repl,isNextM,eConvert,eField,eSlice,eBuild,eBuildSlice,Nat.reduceLT,Nat.reduceEqDiff,Nat.reduceAdd,Nat.reduceMul,Nat.reduceSub,Nat.reduceLeDiff,Nat.reduceBEq,reduceCtorEq,z5,h7,n0,n1]);(repeat' ((first|apply aJ|apply aI|apply aL|apply aK|apply aF|apply aE)<;>intro h<;>simp only [h,SS,TF8G5,kcall,setRange,repl,isNextM,eConvert,eField,eSlice,eBuild,eBuildSlice,Nat.reduceLT,Nat.reduceEqDiff,Nat.reduceAdd,Nat.reduceMul,Nat.reduceSub,Nat.reduceLeDiff,Nat.reduceBEq,reduceCtorEq,z5,h7,n0,n1])))
   (refine hQ _ _ _ (gA (by first|exact .inl rfl|exact .inr rfl) ?_);simp only [SS,TF8G5,kcall,setRange,repl,isNextM,eConvert,eField,eSlice,eBuild,eBuildSlice,Nat.reduceLT,Nat.reduceEqDiff,Nat.reduceAdd,Nat.reduceMul,Nat.reduceSub,Nat.reduceLeDiff,Nat.reduceBEq,reduceCtorEq])
   rfl
 · rintro s N l ⟨h1,h2,⟨acc,h4,h5,h6⟩,r,h7,rfl⟩ hL
   have hgm:game L=(acc,0,0,0):=by
    rw [h4 hL,List.drop_length];rfl
   rw [hgm]at hQ
   dsimp only at hQ
   rw [h5]at hQ
   have z5:((0:Int)==0)=true:=rfl
   unfold awX at h6
   ((try simp only [cR,SS,TF8G5,kcall,setRange,repl,isNextM,eConvert,eField,eSlice,eBuild,eBuildSlice,Nat.reduceLT,Nat.reduceEqDiff,Nat.reduceAdd,Nat.reduceMul,Nat.reduceSub,Nat.reduceLeDiff,Nat.reduceBEq,reduceCtorEq,z5,h6,h7]);(repeat' ((first|apply aJ|apply aI|apply aL|apply aK|apply aF|apply aE)<;>intro h<;>simp only [h,SS,TF8G5,kcall,setRange,repl,isNextM,eConvert,eField,eSlice,eBuild,eBuildSlice,Nat.reduceLT,Nat.reduceEqDiff,Nat.reduceAdd,Nat.reduceMul,Nat.reduceSub,Nat.reduceLeDiff,Nat.reduceBEq,reduceCtorEq,z5,h6,h7])))
   (refine hQ _ _ _ (gA (by first|exact .inl rfl|exact .inr rfl) ?_);simp only [SS,TF8G5,kcall,setRange,repl,isNextM,eConvert,eField,eSlice,eBuild,eBuildSlice,Nat.reduceLT,Nat.reduceEqDiff,Nat.reduceAdd,Nat.reduceMul,Nat.reduceSub,Nat.reduceLeDiff,Nat.reduceBEq,reduceCtorEq])
   rfl
noncomputable def Kg45:Con Tryz.prog gT:=Con.of 8 Ag45 cG45 Sg45 fn45
end Go.Ev
