import Derived.Test.YtfhpbcklkijaoaaGreatDoorG4
set_option linter.unusedSimpArgs false
set_option linter.unusedVariables false
namespace Go.Ev
open Go.RowKit Go.Proofs
set_option linter.defProp false
def TF9G5:=Ai (Ai (Ai (Ai (Ai (Ai (@Tryz.underlying3) (Ai (@sz3) (@info3))) (Ai (@I3s) (Ai (@I3b) (@zero3)))) (Ai (Ai (@grow3) (Ai (@Tryz.underlying4) (@sz4))) (Ai (@info4) (Ai (@I4s) (@I4b))))) (Ai (Ai (Ai (@zero4) (Ai (@grow4) (@Tryz.underlying9))) (Ai (@sz9) (Ai (@info9) (@I9s)))) (Ai (Ai (@I9b) (Ai (@zero9) (@grow9))) (Ai (@Tryz.underlying22) (Ai (@sz22) (@info22)))))) (Ai (Ai (Ai (Ai (@I22s) (Ai (@I22b) (@zero22))) (Ai (@grow22) (Ai (@Tryz.underlying26) (@sz26)))) (Ai (Ai (@info26) (Ai (@I26s) (@I26b))) (Ai (@zero26) (Ai (@grow26) (@Tryz.underlying33))))) (Ai (Ai (Ai (@sz33) (Ai (@info33) (@I33s))) (Ai (@I33b) (Ai (@zero33) (@grow33)))) (Ai (Ai (@Tryz.underlying34) (Ai (@sz34) (@info34))) (Ai (@I34s) (Ai (@I34b) (@zero34))))))) (Ai (Ai (Ai (Ai (Ai (@grow34) (Ai (@Tryz.underlying36) (@sz36))) (Ai (@fok36) (Ai (@info36) (@I36s)))) (Ai (Ai (@I36b) (Ai (@zero36) (@grow36))) (Ai (@Tryz.underlying44) (Ai (@sz44) (@info44))))) (Ai (Ai (Ai (@I44s) (Ai (@I44b) (@zero44))) (Ai (@grow44) (Ai (@Tryz.underlying46) (@sz46)))) (Ai (Ai (@fok46) (Ai (@info46) (@I46s))) (Ai (@I46b) (Ai (@zero46) (@grow46)))))) (Ai (Ai (Ai (Ai (@Tryz.underlying57) (Ai (@sz57) (@info57))) (Ai (@I57s) (Ai (@I57b) (@zero57)))) (Ai (Ai (@grow57) (Ai (@Tryz.underlying73) (@sz73))) (Ai (@info73) (Ai (@I73s) (@I73b))))) (Ai (Ai (Ai (@zero73) (Ai (@grow73) (@Tryz.underlying76))) (Ai (@sz76) (Ai (@fok76) (@info76)))) (Ai (Ai (@I76s) (Ai (@I76b) (@zero76))) (Ai (Ai (@grow76) (@call14)) (Ai (@call25) (@Tryz.results9)))))))
def TF31G5:=Ai (Ai (Ai (Ai (Ai (Ai (@Tryz.underlying3) (@sz3)) (Ai (@info3) (Ai (@I3s) (@I3b)))) (Ai (Ai (@zero3) (Ai (@grow3) (@Tryz.underlying4))) (Ai (@sz4) (Ai (@info4) (@I4s))))) (Ai (Ai (Ai (@I4b) (Ai (@zero4) (@grow4))) (Ai (@Tryz.underlying9) (Ai (@sz9) (@info9)))) (Ai (Ai (@I9s) (Ai (@I9b) (@zero9))) (Ai (@grow9) (Ai (@Tryz.underlying33) (@sz33)))))) (Ai (Ai (Ai (Ai (@info33) (Ai (@I33s) (@I33b))) (Ai (@zero33) (Ai (@grow33) (@Tryz.underlying34)))) (Ai (Ai (@sz34) (Ai (@info34) (@I34s))) (Ai (@I34b) (Ai (@zero34) (@grow34))))) (Ai (Ai (Ai (@Tryz.underlying36) (Ai (@sz36) (@fok36))) (Ai (@info36) (Ai (@I36s) (@I36b)))) (Ai (Ai (@zero36) (Ai (@grow36) (@Tryz.underlying44))) (Ai (@sz44) (Ai (@info44) (@I44s))))))) (Ai (Ai (Ai (Ai (Ai (@I44b) (@zero44)) (Ai (@grow44) (Ai (@Tryz.underlying46) (@sz46)))) (Ai (Ai (@fok46) (Ai (@info46) (@I46s))) (Ai (@I46b) (Ai (@zero46) (@grow46))))) (Ai (Ai (Ai (@Tryz.underlying57) (Ai (@sz57) (@info57))) (Ai (@I57s) (Ai (@I57b) (@zero57)))) (Ai (Ai (@grow57) (Ai (@Tryz.underlying68) (@sz68))) (Ai (@info68) (Ai (@I68s) (@I68b)))))) (Ai (Ai (Ai (Ai (@zero68) (Ai (@grow68) (@Tryz.underlying69))) (Ai (@sz69) (Ai (@info69) (@I69s)))) (Ai (Ai (@I69b) (Ai (@zero69) (@grow69))) (Ai (@Tryz.underlying71) (Ai (@sz71) (@fok71))))) (Ai (Ai (Ai (@info71) (Ai (@I71s) (@Tryz.underlying76))) (Ai (@sz76) (Ai (@fok76) (@info76)))) (Ai (Ai (@I76s) (Ai (@I76b) (@zero76))) (Ai (@grow76) (Ai (@call30) (@Tryz.results31)))))))
set_option maxRecDepth 20000
set_option maxHeartbeats 8000000
theorem ct101 {i:Int}{s0 s2:St}{x:List EVal}{c7 N:Nat}{l:List (Nat×Option bL)}{kk:List (Nat×Option (Nat×TypeId))}{k:EVal→H→Prop}
  (h86:F86 [.lptr x 0]=some (.agg (eSt s2))) (hc:1<c7) (hb:lookG l 1=some (aw4 s0))
  (hk:∀l2,lookG l2 1=some (aw4 s2)→lookG l2 c7=lookG l c7→lookG l2 0=lookG l 0→k (.tup []) (mkH N l2 128 kk)) :
  CallT Tryz.prog gT (aG KRp) 31 [.int .i64 i,.lptr x 0,.ptr 1 0] (mkH N l 128 kk) k:=by
 refine CallT.intro Tryz.func31 rfl ?_
 refine Top.view (View.start (n:=7) rfl (by simp)) (aT noNG _ _ _ _ ?_)
 simp only [eSt]at h86
 unfold aw4 at hb
 ((try simp only [aM,SS,TF31G5,kcall,setRange,repl,isNextM,eConvert,eField,eSlice,eBuild,eBuildSlice,Nat.reduceLT,Nat.reduceEqDiff,Nat.reduceAdd,Nat.reduceMul,Nat.reduceSub,Nat.reduceLeDiff,Nat.reduceBEq,reduceCtorEq,hb,h86]);(repeat' ((first|apply wpStep_not|apply wpStep_sym|apply wpCond_not|apply wpCond_sym|apply wpDStep_not|apply wpDStep_sym)<;>intro h<;>simp only [h,SS,TF31G5,kcall,setRange,repl,isNextM,eConvert,eField,eSlice,eBuild,eBuildSlice,Nat.reduceLT,Nat.reduceEqDiff,Nat.reduceAdd,Nat.reduceMul,Nat.reduceSub,Nat.reduceLeDiff,Nat.reduceBEq,reduceCtorEq,hb,h86])))
 refine eV (es:=[]) (.inr rfl) rfl rfl (hk _ (by simp only [lookG,if_true];rfl) ?_ ?_)
 · rw [lookG.eq_2,if_neg (by omega)]
 · rw [lookG.eq_2,if_neg (by omega)]
abbrev cG45:Cod (St×Int×Int×Int×Unit):=Cod.tup (Row.cons (Cod.agg rSt) (Row.cons cI (Row.cons cI (Row.cons cI Row.nil))))
def Ag45:Row (List Pl×Unit):=Row.cons (Cod.list pl0 rPl) Row.nil
noncomputable def Sg45 (x:List Pl×Unit):Option (St×Int×Int×Int×Unit):=if gOK x.1=true then some ((game x.1).1.getLastD st0,((game x.1).2.1:Nat),(game x.1).2.2.1,(game x.1).2.2.2,())else none
theorem c45 (s:St) (a b c:Int):(cG45.v (s,a,b,c,())).c=.tup [.agg (eSt s),.int .i64 a,.int .i64 b,.int .i64 c]:=by
 show(V.tup [V.agg (rSt.v s),V.int .i64 a,V.int .i64 b,V.int .i64 c]).c=_
 simp only [V.c,V.cs,aze]
structure FInv (L:List Pl) (i:Nat) (s:St) (N:Nat) (l:List (Nat×Option bL)):Prop where
 hN:N≤5+3*i
 hN2:2<N
 dat:∃acc,(L.length≤256→game L=rC i acc s (L.drop i))∧acc.getLastD st0=s∧lookG l 1=some (aw4 s)
 own:∃r,lookG l 0=some (.row [.int .i64 0,.int .i64 0,.int .i64 0,.int .i64 0,.int .i64 0,.int .i64 0,.int .i64 0,.int .i64 0,.int .i64 0,.int .i64 0,.int .i64 0,.int .i64 0,.bool false] r 0 0 false)∧r=36
theorem fn45:FnT 9 (fOf Ag45 cG45 Sg45):=by
 refine Fn.intro mixed noNG Tryz.func9 rfl KRp (by simp only [KRp,List.forall_mem_cons];exact⟨fn85,fn86,fn22,fun _ h=>by cases h⟩) ?_
 intro args v hF
 obtain⟨⟨L,⟨⟩⟩,r,rfl,hs,rfl⟩:=jI hF
 unfold Sg45 at hs
 split at hs
 rotate_left
 · cases hs
 rename_i hg
 cases hs
 obtain⟨hlen,hok⟩:=aqc hg
 dsimp only at hlen hok
 have a45:V.cs (Ag45.v (L,()))=[.lsl (kS L)]:=a43 L
 rw [a45,c45]
 intro Q hV
 have hQ:=Viewed.of hV
 clear hF hg
 refine Top.view (View.start (n:=25) rfl (by simp)) (aT noNG _ _ _ _ ?_)
 have h22:=e22
 simp only [eSt,bC]at h22
 have hkm:∀(h:H) (args:List EVal),kcall Tryz.prog (aG KRp) h 25 args=none:=fun h a=>gL fun a=>rfl
 have m0:decide (128≤0 % 1024)=false:=by decide
 have e1:∀(h:H) (cs:List EVal),bF h 31 #[] (some []) (some cs)=some (.val (.func 31 cs) h):=fun _ _=>rfl
 ((try simp only [aM,SS,TF9G5,kcall,setRange,repl,isNextM,eConvert,eField,eSlice,eBuild,eBuildSlice,Nat.reduceLT,Nat.reduceEqDiff,Nat.reduceAdd,Nat.reduceMul,Nat.reduceSub,Nat.reduceLeDiff,Nat.reduceBEq,reduceCtorEq,h22,m0,e1,↓hkm]);(repeat' ((first|apply wpStep_not|apply wpStep_sym|apply wpCond_not|apply wpCond_sym|apply wpDStep_not|apply wpDStep_sym)<;>intro h<;>simp only [h,SS,TF9G5,kcall,setRange,repl,isNextM,eConvert,eField,eSlice,eBuild,eBuildSlice,Nat.reduceLT,Nat.reduceEqDiff,Nat.reduceAdd,Nat.reduceMul,Nat.reduceSub,Nat.reduceLeDiff,Nat.reduceBEq,reduceCtorEq,h22,m0,e1,↓hkm])))
 refine CallT.inn (HV.mode (m':=128) (by decide)) ?_
 refine ct99 (N0:=2) (INV:=FInv L) (fun h a=>call31) (fun a=>rfl) (by omega) hok (by omega) ?_ ?_ ?_ ?_ ?_ ?_ ?_
 · intro x y
   refine⟨by omega,by omega,⟨[bC],?_,rfl,by simp [lookG,aw4,bC]⟩,_,by simp [lookG],rfl⟩
   intro h;unfold game;rw [if_neg (by omega)];rfl
 · rintro i s N l x ⟨h1,h2,⟨acc,h4,h5,h6⟩,r,h7,h8⟩
   exact⟨h1,h2,⟨acc,h4,h5,by rw [lookG.eq_2,if_neg (by omega)];exact h6⟩,r,by rw [lookG.eq_2,if_neg (by omega)];exact h7,h8⟩
 · rintro i s N l ⟨h1,h2,-⟩
   omega
 · rintro i s N l t x y k ⟨h1,h2,⟨acc,h4,h5,h6⟩,r,h7,h8⟩ hi ht okt he hk
   have f1:lookG ((N,x)::(N,y)::l) 1=some (aw4 s):=by rw [lookG.eq_2,if_neg (by omega),lookG.eq_2,if_neg (by omega)];exact h6
   have f0:lookG ((N,x)::(N,y)::l) 0=lookG l 0:=by rw [lookG.eq_2,if_neg (by omega),lookG.eq_2,if_neg (by omega)]
   refine ct101 (s0:=s) (c7:=2) (e86 okt he) (by omega) f1 fun l2 b2 f2 g2=>?_
   refine hk _ _ ⟨by omega,by omega,⟨acc++[nxt (mvd s t)],?_,by simp,b2⟩,r,by rw [g2,f0];exact h7,h8⟩ ?_
   · intro hL
     rw [h4 hL,aQ ht,gM,if_neg (by simp [he])]
   · rw [f2,lookG.eq_2,if_neg (by omega),lookG.eq_2,if_neg (by omega)]
 · intro hbig
   have hgm:game L=([],0,0,5):=by unfold game;rw [if_pos hbig]
   rw [hgm]at hQ
   have z5:((5:Int)==0)=false:=rfl
   ((try simp only [aM,SS,TF9G5,kcall,setRange,repl,isNextM,eConvert,eField,eSlice,eBuild,eBuildSlice,Nat.reduceLT,Nat.reduceEqDiff,Nat.reduceAdd,Nat.reduceMul,Nat.reduceSub,Nat.reduceLeDiff,Nat.reduceBEq,reduceCtorEq,z5]);(repeat' ((first|apply wpStep_not|apply wpStep_sym|apply wpCond_not|apply wpCond_sym|apply wpDStep_not|apply wpDStep_sym)<;>intro h<;>simp only [h,SS,TF9G5,kcall,setRange,repl,isNextM,eConvert,eField,eSlice,eBuild,eBuildSlice,Nat.reduceLT,Nat.reduceEqDiff,Nat.reduceAdd,Nat.reduceMul,Nat.reduceSub,Nat.reduceLeDiff,Nat.reduceBEq,reduceCtorEq,z5])))
   (refine hQ _ _ _ (dS (by first|exact .inl rfl|exact .inr rfl) ?_);simp only [SS,TF9G5,kcall,setRange,repl,isNextM,eConvert,eField,eSlice,eBuild,eBuildSlice,Nat.reduceLT,Nat.reduceEqDiff,Nat.reduceAdd,Nat.reduceMul,Nat.reduceSub,Nat.reduceLeDiff,Nat.reduceBEq,reduceCtorEq])
   rfl
 · rintro i s N l t x y ⟨h1,h2,⟨acc,h4,h5,h6⟩,r,h7,rfl⟩ hL ht he
   have hgm:game L=([],i,nN s t,eE s t):=by
    rw [h4 hL,aQ ht,gM,if_pos he]
   rw [hgm]at hQ
   have z5:(eE s t==0)=false:=by simpa using he
   have n0:(0=N)=False:=by simp only [eq_iff_iff,iff_false];omega
   have n1:(N=0)=False:=by simp only [eq_iff_iff,iff_false];omega
   ((try simp only [aM,SS,TF9G5,kcall,setRange,repl,isNextM,eConvert,eField,eSlice,eBuild,eBuildSlice,Nat.reduceLT,Nat.reduceEqDiff,Nat.reduceAdd,Nat.reduceMul,Nat.reduceSub,Nat.reduceLeDiff,Nat.reduceBEq,reduceCtorEq,z5,h7,n0,n1]);(repeat' ((first|apply wpStep_not|apply wpStep_sym|apply wpCond_not|apply wpCond_sym|apply wpDStep_not|apply wpDStep_sym)<;>intro h<;>simp only [h,SS,TF9G5,kcall,setRange,repl,isNextM,eConvert,eField,eSlice,eBuild,eBuildSlice,Nat.reduceLT,Nat.reduceEqDiff,Nat.reduceAdd,Nat.reduceMul,Nat.reduceSub,Nat.reduceLeDiff,Nat.reduceBEq,reduceCtorEq,z5,h7,n0,n1])))
   (refine hQ _ _ _ (dS (by first|exact .inl rfl|exact .inr rfl) ?_);simp only [SS,TF9G5,kcall,setRange,repl,isNextM,eConvert,eField,eSlice,eBuild,eBuildSlice,Nat.reduceLT,Nat.reduceEqDiff,Nat.reduceAdd,Nat.reduceMul,Nat.reduceSub,Nat.reduceLeDiff,Nat.reduceBEq,reduceCtorEq])
   rfl
 · rintro s N l ⟨h1,h2,⟨acc,h4,h5,h6⟩,r,h7,rfl⟩ hL
   have hgm:game L=(acc,0,0,0):=by
    rw [h4 hL,List.drop_length];rfl
   rw [hgm]at hQ
   dsimp only at hQ
   rw [h5]at hQ
   have z5:((0:Int)==0)=true:=rfl
   unfold aw4 at h6
   ((try simp only [aM,SS,TF9G5,kcall,setRange,repl,isNextM,eConvert,eField,eSlice,eBuild,eBuildSlice,Nat.reduceLT,Nat.reduceEqDiff,Nat.reduceAdd,Nat.reduceMul,Nat.reduceSub,Nat.reduceLeDiff,Nat.reduceBEq,reduceCtorEq,z5,h6,h7]);(repeat' ((first|apply wpStep_not|apply wpStep_sym|apply wpCond_not|apply wpCond_sym|apply wpDStep_not|apply wpDStep_sym)<;>intro h<;>simp only [h,SS,TF9G5,kcall,setRange,repl,isNextM,eConvert,eField,eSlice,eBuild,eBuildSlice,Nat.reduceLT,Nat.reduceEqDiff,Nat.reduceAdd,Nat.reduceMul,Nat.reduceSub,Nat.reduceLeDiff,Nat.reduceBEq,reduceCtorEq,z5,h6,h7])))
   (refine hQ _ _ _ (dS (by first|exact .inl rfl|exact .inr rfl) ?_);simp only [SS,TF9G5,kcall,setRange,repl,isNextM,eConvert,eField,eSlice,eBuild,eBuildSlice,Nat.reduceLT,Nat.reduceEqDiff,Nat.reduceAdd,Nat.reduceMul,Nat.reduceSub,Nat.reduceLeDiff,Nat.reduceBEq,reduceCtorEq])
   rfl
noncomputable def Kg45:Con Tryz.prog gT:=Con.of 9 Ag45 cG45 Sg45 fn45
end Go.Ev
