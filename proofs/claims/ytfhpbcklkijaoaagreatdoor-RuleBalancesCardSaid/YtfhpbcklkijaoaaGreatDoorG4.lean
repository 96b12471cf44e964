import Derived.Test.YtfhpbcklkijaoaaGreatDoorG3
set_option linter.unusedSimpArgs false
set_option linter.unusedVariables false
namespace Go.Ev
open Go.RowKit Go.Proofs
set_option linter.defProp false
def TF8G4:=Ai (Ai (Ai (Ai (Ai (Ai (@Tryz.underlying3) (Ai (@sz3) (@info3))) (Ai (@I3s) (Ai (@I3b) (@zero3)))) (Ai (Ai (@grow3) (Ai (@Tryz.underlying4) (@sz4))) (Ai (Ai (@info4) (@I4s)) (Ai (@I4b) (@zero4))))) (Ai (Ai (Ai (@grow4) (Ai (@Tryz.underlying9) (@sz9))) (Ai (@info9) (Ai (@I9s) (@I9b)))) (Ai (Ai (@zero9) (Ai (@grow9) (@Tryz.underlying22))) (Ai (Ai (@sz22) (@info22)) (Ai (@I22s) (@I22b)))))) (Ai (Ai (Ai (Ai (@zero22) (Ai (@grow22) (@Tryz.underlying26))) (Ai (@sz26) (Ai (@info26) (@I26s)))) (Ai (Ai (@I26b) (Ai (@zero26) (@grow26))) (Ai (Ai (@Tryz.underlying30) (@sz30)) (Ai (@info30) (@I30s))))) (Ai (Ai (Ai (@I30b) (Ai (@zero30) (@grow30))) (Ai (@Tryz.underlying33) (Ai (@sz33) (@info33)))) (Ai (Ai (@I33s) (Ai (@I33b) (@zero33))) (Ai (Ai (@grow33) (@Tryz.underlying34)) (Ai (@sz34) (@info34))))))) (Ai (Ai (Ai (Ai (Ai (@I34s) (Ai (@I34b) (@zero34))) (Ai (@grow34) (Ai (@Tryz.underlying36) (@sz36)))) (Ai (Ai (@fok36) (Ai (@info36) (@I36s))) (Ai (Ai (@I36b) (@zero36)) (Ai (@grow36) (@Tryz.underlying44))))) (Ai (Ai (Ai (@sz44) (Ai (@info44) (@I44s))) (Ai (@I44b) (Ai (@zero44) (@grow44)))) (Ai (Ai (@Tryz.underlying46) (Ai (@sz46) (@fok46))) (Ai (Ai (@info46) (@I46s)) (Ai (@I46b) (@zero46)))))) (Ai (Ai (Ai (Ai (@grow46) (Ai (@Tryz.underlying57) (@sz57))) (Ai (@info57) (Ai (@I57s) (@I57b)))) (Ai (Ai (@zero57) (Ai (@grow57) (@Tryz.underlying73))) (Ai (Ai (@sz73) (@info73)) (Ai (@I73s) (@I73b))))) (Ai (Ai (Ai (@zero73) (Ai (@grow73) (@Tryz.underlying76))) (Ai (@sz76) (Ai (@fok76) (@info76)))) (Ai (Ai (@I76s) (Ai (@I76b) (@zero76))) (Ai (Ai (@grow76) (@call14)) (Ai (@call25) (@Tryz.results8)))))))
def TF29G4:=Ai (Ai (Ai (Ai (Ai (Ai (@Tryz.underlying3) (Ai (@sz3) (@info3))) (Ai (@I3s) (Ai (@I3b) (@zero3)))) (Ai (Ai (@grow3) (Ai (@Tryz.underlying4) (@sz4))) (Ai (@info4) (Ai (@I4s) (@I4b))))) (Ai (Ai (Ai (@zero4) (Ai (@grow4) (@Tryz.underlying9))) (Ai (@sz9) (Ai (@info9) (@I9s)))) (Ai (Ai (@I9b) (Ai (@zero9) (@grow9))) (Ai (Ai (@Tryz.underlying30) (@sz30)) (Ai (@info30) (@I30s)))))) (Ai (Ai (Ai (Ai (@I30b) (Ai (@zero30) (@grow30))) (Ai (@Tryz.underlying33) (Ai (@sz33) (@info33)))) (Ai (Ai (@I33s) (Ai (@I33b) (@zero33))) (Ai (@grow33) (Ai (@Tryz.underlying34) (@sz34))))) (Ai (Ai (Ai (@info34) (Ai (@I34s) (@I34b))) (Ai (@zero34) (Ai (@grow34) (@Tryz.underlying36)))) (Ai (Ai (@sz36) (Ai (@fok36) (@info36))) (Ai (Ai (@I36s) (@I36b)) (Ai (@zero36) (@grow36))))))) (Ai (Ai (Ai (Ai (Ai (@Tryz.underlying44) (Ai (@sz44) (@info44))) (Ai (@I44s) (Ai (@I44b) (@zero44)))) (Ai (Ai (@grow44) (Ai (@Tryz.underlying46) (@sz46))) (Ai (@fok46) (Ai (@info46) (@I46s))))) (Ai (Ai (Ai (@I46b) (Ai (@zero46) (@grow46))) (Ai (@Tryz.underlying57) (Ai (@sz57) (@info57)))) (Ai (Ai (@I57s) (Ai (@I57b) (@zero57))) (Ai (Ai (@grow57) (@Tryz.underlying68)) (Ai (@sz68) (@info68)))))) (Ai (Ai (Ai (Ai (@I68s) (Ai (@I68b) (@zero68))) (Ai (@grow68) (Ai (@Tryz.underlying69) (@sz69)))) (Ai (Ai (@info69) (Ai (@I69s) (@I69b))) (Ai (Ai (@zero69) (@grow69)) (Ai (@Tryz.underlying71) (@sz71))))) (Ai (Ai (Ai (@fok71) (Ai (@info71) (@I71s))) (Ai (@Tryz.underlying76) (Ai (@sz76) (@fok76)))) (Ai (Ai (@info76) (Ai (@I76s) (@I76b))) (Ai (Ai (@zero76) (@grow76)) (Ai (@call30) (@Tryz.results29)))))))
set_option maxRecDepth 20000
set_option maxHeartbeats 8000000
theorem ct100 {i:Int}{s2:St}{acc:List St}{c7:Nat}{v:EVal}{x:List EVal}{N:Nat}{l:List (Nat×Option bL)}{kk:List (Nat×Option (Nat×TypeId))}{k:EVal→H→Prop}
  (h86:F86 [.lptr x 0]=some (.agg (eSt s2))) (hS:SL 36 c7 v acc N l) (hc:1<c7) (hcN:c7<N) (hN:N<16000) (hlen:acc.length≤1000) (hb:lookG l 1=some (.row [v] 30 0 0 false))
  (hk:∀v2 l2,SL 36 c7 v2 (acc++[s2]) (N+1) l2→lookG l2 1=some (.row [v2] 30 0 0 false)→lookG l2 c7=lookG l c7→k (.tup []) (mkH (N+1) l2 128 kk)) :
  CallT Tryz.prog gT (aG KRp) 29 [.int .i64 i,.lptr x 0,.ptr 1 0] (mkH N l 128 kk) k:=by
 refine CallT.intro Tryz.func29 rfl ?_
 refine Top.view (View.start (n:=10) rfl (by simp)) (aT noNG _ _ _ _ ?_)
 refine bN (Top.draw mixed noNG (by kernel_rfl) ?_)
 simp only [eSt]at h86
 obtain⟨o1,o2,o3,o4⟩:=awO hS
 obtain⟨v2,l2,hap,S2,F2⟩:=axq (q:=s2) (m:=128) (kk:=kk) hS hcN (by omega) hN hlen
 obtain⟨p1,p2,p3,p4⟩:=awO S2
 have hb2:lookG l2 1=some (.row [v] 30 0 0 false):=(F2 1 (.inr rfl)).trans hb
 ((try simp only [aM,SS,TF29G4,kcall,setRange,repl,isNextM,eConvert,eField,eSlice,eBuild,eBuildSlice,Nat.reduceLT,Nat.reduceEqDiff,Nat.reduceAdd,Nat.reduceMul,Nat.reduceSub,Nat.reduceLeDiff,Nat.reduceBEq,reduceCtorEq,hb,h86,o1,o2,o3,p1,p2,p3,o4,p4,↓hap,hb2]);(repeat' ((first|apply wpStep_not|apply wpStep_sym|apply wpCond_not|apply wpCond_sym|apply wpDStep_not|apply wpDStep_sym)<;>intro h<;>simp only [h,SS,TF29G4,kcall,setRange,repl,isNextM,eConvert,eField,eSlice,eBuild,eBuildSlice,Nat.reduceLT,Nat.reduceEqDiff,Nat.reduceAdd,Nat.reduceMul,Nat.reduceSub,Nat.reduceLeDiff,Nat.reduceBEq,reduceCtorEq,hb,h86,o1,o2,o3,p1,p2,p3,o4,p4,↓hap,hb2])))
 refine⟨by kernel_rfl,?_⟩
 refine eV (es:=[]) (.inr rfl) rfl rfl (hk v2 _ (bqn (.inr rfl) S2) (by simp only [lookG,if_true]) ?_)
 rw [lookG.eq_2,if_neg (by omega)]
 exact F2 c7 (.inl rfl)
def gOK (l:List Pl):Bool:=decide (l.length<1000000)&&l.all fun t=>aw6 t&&(aV t.p&&(aV t.e&&decide (t.p.length<9223372036854775808)))
theorem aqc {l:List Pl}(h:gOK l=true):l.length<1000000∧∀t∈l,okP t:=by
 simp only [gOK,Bool.and_eq_true,decide_eq_true_eq,List.all_eq_true]at h
 exact⟨h.1,fun t ht=>⟨(h.2 t ht).1,(h.2 t ht).2.1,(h.2 t ht).2.2.1,(h.2 t ht).2.2.2⟩⟩
abbrev cG43:Cod (List St×Int×Int×Int×Unit):=Cod.tup (Row.cons (Cod.list st0 rSt) (Row.cons cI (Row.cons cI (Row.cons cI Row.nil))))
def Ag43:Row (List Pl×Unit):=Row.cons (Cod.list pl0 rPl) Row.nil
noncomputable def Sg43 (x:List Pl×Unit):Option (List St×Int×Int×Int×Unit):=if gOK x.1=true then some ((game x.1).1,((game x.1).2.1:Nat),(game x.1).2.2.1,(game x.1).2.2.2,())else none
theorem a43 (l:List Pl):V.cs (Ag43.v (l,()))=[.lsl (kS l)]:=by
 show V.cs [(Cod.list pl0 rPl).v l]=_
 rw [V.cs,V.cs,vPls_c]
theorem c43 (l:List St) (a b c:Int):(cG43.v (l,a,b,c,())).c=.tup [.lsl (l7 l),.int .i64 a,.int .i64 b,.int .i64 c]:=by
 show(V.tup [(Cod.list st0 rSt).v l,V.int .i64 a,V.int .i64 b,V.int .i64 c]).c=_
 simp only [V.c,V.cs,vSts_c]
structure RInv (L:List Pl) (i:Nat) (s:St) (N:Nat) (l:List (Nat×Option bL)):Prop where
 hN:N≤5+3*i
 hN2:2<N
 st:stE s=0
 dat:∃acc v,(L.length≤256→game L=rC i acc s (L.drop i))∧acc.length=i+1∧SL 36 2 v acc N l∧lookG l 1=some (.row [v] 30 0 0 false)
theorem fn43:FnT 8 (fOf Ag43 cG43 Sg43):=by
 refine Fn.intro mixed noNG Tryz.func8 rfl KRp (by simp only [KRp,List.forall_mem_cons];exact⟨fn85,fn86,fn22,fun _ h=>by cases h⟩) ?_
 intro args v hF
 obtain⟨⟨L,⟨⟩⟩,r,rfl,hs,rfl⟩:=jI hF
 unfold Sg43 at hs
 split at hs
 rotate_left
 · cases hs
 rename_i hg
 cases hs
 obtain⟨hlen,hok⟩:=aqc hg
 dsimp only at hlen hok
 rw [a43,c43]
 intro Q hV
 have hQ:=Viewed.of hV
 clear hF hg
 refine Top.view (View.start (n:=25) rfl (by simp)) (aT noNG _ _ _ _ ?_)
 have h22:=e22
 simp only [eSt,bC]at h22
 have hkm:∀(h:H) (args:List EVal),kcall Tryz.prog (aG KRp) h 25 args=none:=fun h a=>gL fun a=>rfl
 have m0:decide (128≤0 % 1024)=false:=by decide
 have e1:∀(h:H) (cs:List EVal),bF h 29 #[] (some []) (some cs)=some (.val (.func 29 cs) h):=fun _ _=>rfl
 ((try simp only [aM,SS,TF8G4,kcall,setRange,repl,isNextM,eConvert,eField,eSlice,eBuild,eBuildSlice,Nat.reduceLT,Nat.reduceEqDiff,Nat.reduceAdd,Nat.reduceMul,Nat.reduceSub,Nat.reduceLeDiff,Nat.reduceBEq,reduceCtorEq,h22,m0,e1,↓hkm]);(repeat' ((first|apply wpStep_not|apply wpStep_sym|apply wpCond_not|apply wpCond_sym|apply wpDStep_not|apply wpDStep_sym)<;>intro h<;>simp only [h,SS,TF8G4,kcall,setRange,repl,isNextM,eConvert,eField,eSlice,eBuild,eBuildSlice,Nat.reduceLT,Nat.reduceEqDiff,Nat.reduceAdd,Nat.reduceMul,Nat.reduceSub,Nat.reduceLeDiff,Nat.reduceBEq,reduceCtorEq,h22,m0,e1,↓hkm])))
 refine CallT.inn (HV.mode (m':=128) (by decide)) ?_
 have hbox:∀N' l' (s':St),lookG ((2,some (aw4 s'))::l') 1=lookG l' 1:=fun N' l' s'=>by rw [lookG.eq_2,if_neg (by omega)]
 refine ct99 (N0:=2) (INV:=RInv L) (fun h a=>call29) (fun a=>rfl) (by omega) hok (by omega) ?_ ?_ ?_ ?_ ?_ ?_ ?_
 · intro x y
   refine⟨by omega,by omega,aj0,[bC],.slice 0 0 1 (.exact 1),?_,rfl,?_,by simp [lookG]⟩
   · intro h;unfold game;rw [if_neg (by omega)];rfl
   · exact .inl ⟨bC,rfl,by omega,by omega,rfl,by simp [lookG,eSt,bC]⟩
 · rintro i s N l x ⟨h1,h2,h3,acc,v,h4,h5,h6,h7⟩
   exact⟨h1,h2,h3,acc,v,h4,h5,bqn (.inl rfl) h6,by rw [lookG.eq_2,if_neg (by omega)];exact h7⟩
 · rintro i s N l ⟨h1,h2,-⟩
   omega
 · rintro i s N l t x y k ⟨h1,h2,h3,acc,v,h4,h5,h6,h7⟩ hi ht okt he hk
   refine ct100 (c7:=2) (v:=v) (acc:=acc) (e86 okt he) (SL_new h6) (by omega) (by omega) (by omega) (by omega) ?_ ?_
   · rw [lookG.eq_2,if_neg (by omega),lookG.eq_2,if_neg (by omega)];exact h7
   intro v2 l2 S2 b2 f2
   refine hk _ _ ⟨by omega,by omega,axP (axO okt he),acc++[nxt (mvd s t)],v2,?_,by simp [h5],S2,b2⟩ ?_
   · intro hL
     rw [h4 hL]
     have hd:L.drop i=t::L.drop (i+1):=aQ ht
     rw [hd,gM,if_neg (by simp [he])]
   · rw [f2,lookG.eq_2,if_neg (by omega),lookG.eq_2,if_neg (by omega)]
 · intro hbig
   have hgm:game L=([],0,0,5):=by unfold game;rw [if_pos hbig]
   rw [hgm]at hQ
   have z5:((5:Int)==0)=false:=rfl
   ((try simp only [aM,SS,TF8G4,kcall,setRange,repl,isNextM,eConvert,eField,eSlice,eBuild,eBuildSlice,Nat.reduceLT,Nat.reduceEqDiff,Nat.reduceAdd,Nat.reduceMul,Nat.reduceSub,Nat.reduceLeDiff,Nat.reduceBEq,reduceCtorEq,z5]);(repeat' ((first|apply wpStep_not|apply wpStep_sym|apply wpCond_not|apply wpCond_sym|apply wpDStep_not|apply wpDStep_sym)<;>intro h<;>simp only [h,SS,TF8G4,kcall,setRange,repl,isNextM,eConvert,eField,eSlice,eBuild,eBuildSlice,Nat.reduceLT,Nat.reduceEqDiff,Nat.reduceAdd,Nat.reduceMul,Nat.reduceSub,Nat.reduceLeDiff,Nat.reduceBEq,reduceCtorEq,z5])))
   (refine hQ _ _ _ (dS (by first|exact .inl rfl|exact .inr rfl) ?_);simp only [SS,TF8G4,kcall,setRange,repl,isNextM,eConvert,eField,eSlice,eBuild,eBuildSlice,Nat.reduceLT,Nat.reduceEqDiff,Nat.reduceAdd,Nat.reduceMul,Nat.reduceSub,Nat.reduceLeDiff,Nat.reduceBEq,reduceCtorEq])
   rfl
 · rintro i s N l t x y ⟨h1,h2,h3,acc,v,h4,h5,h6,h7⟩ hL ht he
   have hgm:game L=([],i,nN s t,eE s t):=by
    rw [h4 hL,aQ ht,gM,if_pos he]
   rw [hgm]at hQ
   have z5:(eE s t==0)=false:=by simpa using he
   ((try simp only [aM,SS,TF8G4,kcall,setRange,repl,isNextM,eConvert,eField,eSlice,eBuild,eBuildSlice,Nat.reduceLT,Nat.reduceEqDiff,Nat.reduceAdd,Nat.reduceMul,Nat.reduceSub,Nat.reduceLeDiff,Nat.reduceBEq,reduceCtorEq,z5]);(repeat' ((first|apply wpStep_not|apply wpStep_sym|apply wpCond_not|apply wpCond_sym|apply wpDStep_not|apply wpDStep_sym)<;>intro h<;>simp only [h,SS,TF8G4,kcall,setRange,repl,isNextM,eConvert,eField,eSlice,eBuild,eBuildSlice,Nat.reduceLT,Nat.reduceEqDiff,Nat.reduceAdd,Nat.reduceMul,Nat.reduceSub,Nat.reduceLeDiff,Nat.reduceBEq,reduceCtorEq,z5])))
   (refine hQ _ _ _ (dS (by first|exact .inl rfl|exact .inr rfl) ?_);simp only [SS,TF8G4,kcall,setRange,repl,isNextM,eConvert,eField,eSlice,eBuild,eBuildSlice,Nat.reduceLT,Nat.reduceEqDiff,Nat.reduceAdd,Nat.reduceMul,Nat.reduceSub,Nat.reduceLeDiff,Nat.reduceBEq,reduceCtorEq])
   rfl
 · rintro s N l ⟨h1,h2,h3,acc,v,h4,h5,h6,h7⟩ hL
   have hgm:game L=(acc,0,0,0):=by
    rw [h4 hL,List.drop_length];rfl
   rw [hgm]at hV
   have z5:((0:Int)==0)=true:=rfl
   obtain⟨o1,o2,o3,o4⟩:=awO h6
   ((try simp only [aM,SS,TF8G4,kcall,setRange,repl,isNextM,eConvert,eField,eSlice,eBuild,eBuildSlice,Nat.reduceLT,Nat.reduceEqDiff,Nat.reduceAdd,Nat.reduceMul,Nat.reduceSub,Nat.reduceLeDiff,Nat.reduceBEq,reduceCtorEq,z5,h7,o1,o2,o3]);(repeat' ((first|apply wpStep_not|apply wpStep_sym|apply wpCond_not|apply wpCond_sym|apply wpDStep_not|apply wpDStep_sym)<;>intro h<;>simp only [h,SS,TF8G4,kcall,setRange,repl,isNextM,eConvert,eField,eSlice,eBuild,eBuildSlice,Nat.reduceLT,Nat.reduceEqDiff,Nat.reduceAdd,Nat.reduceMul,Nat.reduceSub,Nat.reduceLeDiff,Nat.reduceBEq,reduceCtorEq,z5,h7,o1,o2,o3])))
   have hend:Ends Tryz.prog gT Tryz.f8 (.tup [.lsl (l7 acc),.int .i64 ((0:Nat):Int),.int .i64 0,.int .i64 0]) .ret (mkF 25 [(5,.int .i64 0),(4,.int .i64 0),(3,.int .i64 0),(2,.lsl (l7 acc))]) (mkH N [] 128 []):=by
    refine dS (.inl rfl) ?_
    simp only [SS,TF8G4,kcall,setRange,repl,isNextM,eConvert,eField,eSlice,eBuild,eBuildSlice,Nat.reduceLT,Nat.reduceEqDiff,Nat.reduceAdd,Nat.reduceMul,Nat.reduceSub,Nat.reduceLeDiff,Nat.reduceBEq,reduceCtorEq]
   rcases h6 with⟨q,rfl,_,_,rfl,h8⟩ | ⟨id,_,_,h9,rfl,h8⟩
   · refine hV _ _ _ ⟨_,_,View.fz (sz:=13) (len:=1) (fl2:=[(5,.int .i64 0),(4,.int .i64 0),(3,.int .i64 0),(2,.lsl (l7 [q]))]) (l2:=[]) (k2:=[]) 0 (by omega) h8 (yE q) rfl ?_ (by simp) (by simp),hend⟩
     intro p hp
     simp only [List.mem_cons,List.not_mem_nil,or_false]at hp
     rcases hp with rfl|rfl|rfl|rfl
     · exact⟨by simp,_,rfl,.inl rfl⟩
     · exact⟨by simp,_,rfl,.inl rfl⟩
     · exact⟨by simp,_,rfl,.inl rfl⟩
     · exact⟨by simp,_,rfl,.inr ⟨.exact 1,rfl,rfl,rfl⟩⟩
   · refine hV _ _ _ ⟨_,_,View.fz (sz:=13) (len:=acc.length) (fl2:=[(5,.int .i64 0),(4,.int .i64 0),(3,.int .i64 0),(2,.lsl (l7 acc))]) (l2:=[]) (k2:=[]) id (by omega) h8 (aq5 _) (jT _) ?_ (by simp) (by simp),hend⟩
     rw [aqt]
     intro p hp
     simp only [List.mem_cons,List.not_mem_nil,or_false]at hp
     rcases hp with rfl|rfl|rfl|rfl
     · exact⟨by simp,_,rfl,.inl rfl⟩
     · exact⟨by simp,_,rfl,.inl rfl⟩
     · exact⟨by simp,_,rfl,.inl rfl⟩
     · exact⟨by simp,_,rfl,.inr ⟨.slack 0,rfl,rfl,rfl⟩⟩
noncomputable def Kg43:Con Tryz.prog gT:=Con.of 8 Ag43 cG43 Sg43 fn43
end Go.Ev
