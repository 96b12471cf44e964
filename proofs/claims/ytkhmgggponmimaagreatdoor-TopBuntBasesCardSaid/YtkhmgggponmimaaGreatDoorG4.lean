import Derived.Test.YtkhmgggponmimaaGreatDoorG3
set_option linter.unusedSimpArgs false
set_option linter.unusedVariables false
namespace Go.Ev
open Go.RowKit Go.Proofs
set_option linter.defProp false
def TF15G4:=Ai (Ai (Ai (Ai (Ai (Ai (@Tryz.underlying3) (Ai (@sz3) (@info3))) (Ai (@I3s) (Ai (@I3b) (@zero3)))) (Ai (Ai (@grow3) (Ai (@Tryz.underlying4) (@sz4))) (Ai (Ai (@info4) (@I4s)) (Ai (@I4b) (@zero4))))) (Ai (Ai (Ai (@grow4) (Ai (@Tryz.underlying9) (@sz9))) (Ai (@info9) (Ai (@I9s) (@I9b)))) (Ai (Ai (@zero9) (Ai (@grow9) (@Tryz.underlying22))) (Ai (Ai (@sz22) (@info22)) (Ai (@I22s) (@I22b)))))) (Ai (Ai (Ai (Ai (@zero22) (Ai (@grow22) (@Tryz.underlying23))) (Ai (@sz23) (Ai (@info23) (@I23s)))) (Ai (Ai (@I23b) (Ai (@zero23) (@grow23))) (Ai (Ai (@Tryz.underlying27) (@sz27)) (Ai (@info27) (@I27s))))) (Ai (Ai (Ai (@I27b) (Ai (@zero27) (@grow27))) (Ai (@Tryz.underlying29) (Ai (@sz29) (@fok29)))) (Ai (Ai (@info29) (Ai (@I29s) (@I29b))) (Ai (Ai (@zero29) (@grow29)) (Ai (@Tryz.underlying30) (@sz30))))))) (Ai (Ai (Ai (Ai (Ai (@info30) (Ai (@I30s) (@I30b))) (Ai (@zero30) (Ai (@grow30) (@Tryz.underlying31)))) (Ai (Ai (@sz31) (Ai (@info31) (@I31s))) (Ai (Ai (@I31b) (@zero31)) (Ai (@grow31) (@Tryz.underlying33))))) (Ai (Ai (Ai (@sz33) (Ai (@fok33) (@info33))) (Ai (@I33s) (Ai (@I33b) (@zero33)))) (Ai (Ai (@grow33) (Ai (@Tryz.underlying34) (@sz34))) (Ai (Ai (@info34) (@I34s)) (Ai (@I34b) (@zero34)))))) (Ai (Ai (Ai (Ai (@grow34) (Ai (@Tryz.underlying38) (@sz38))) (Ai (@info38) (Ai (@I38s) (@I38b)))) (Ai (Ai (@zero38) (Ai (@grow38) (@Tryz.underlying45))) (Ai (Ai (@sz45) (@fok45)) (Ai (@info45) (@I45s))))) (Ai (Ai (Ai (@I45b) (Ai (@zero45) (@grow45))) (Ai (@Tryz.underlying77) (Ai (@sz77) (@info77)))) (Ai (Ai (@I77s) (Ai (@I77b) (@zero77))) (Ai (Ai (@grow77) (@call36)) (Ai (@call37) (@Tryz.results15)))))))
def TF38G4:=Ai (Ai (Ai (Ai (Ai (Ai (@Tryz.underlying3) (Ai (@sz3) (@info3))) (Ai (@I3s) (Ai (@I3b) (@zero3)))) (Ai (Ai (@grow3) (Ai (@Tryz.underlying4) (@sz4))) (Ai (@info4) (Ai (@I4s) (@I4b))))) (Ai (Ai (Ai (@zero4) (Ai (@grow4) (@Tryz.underlying9))) (Ai (@sz9) (Ai (@info9) (@I9s)))) (Ai (Ai (@I9b) (Ai (@zero9) (@grow9))) (Ai (Ai (@Tryz.underlying23) (@sz23)) (Ai (@info23) (@I23s)))))) (Ai (Ai (Ai (Ai (@I23b) (Ai (@zero23) (@grow23))) (Ai (@Tryz.underlying27) (Ai (@sz27) (@info27)))) (Ai (Ai (@I27s) (Ai (@I27b) (@zero27))) (Ai (@grow27) (Ai (@Tryz.underlying29) (@sz29))))) (Ai (Ai (Ai (@fok29) (Ai (@info29) (@I29s))) (Ai (@I29b) (Ai (@zero29) (@grow29)))) (Ai (Ai (@Tryz.underlying30) (Ai (@sz30) (@info30))) (Ai (Ai (@I30s) (@I30b)) (Ai (@zero30) (@grow30))))))) (Ai (Ai (Ai (Ai (Ai (@Tryz.underlying31) (Ai (@sz31) (@info31))) (Ai (@I31s) (Ai (@I31b) (@zero31)))) (Ai (Ai (@grow31) (Ai (@Tryz.underlying33) (@sz33))) (Ai (@fok33) (Ai (@info33) (@I33s))))) (Ai (Ai (Ai (@I33b) (Ai (@zero33) (@grow33))) (Ai (@Tryz.underlying38) (Ai (@sz38) (@info38)))) (Ai (Ai (@I38s) (Ai (@I38b) (@zero38))) (Ai (Ai (@grow38) (@Tryz.underlying45)) (Ai (@sz45) (@fok45)))))) (Ai (Ai (Ai (Ai (@info45) (Ai (@I45s) (@I45b))) (Ai (@zero45) (Ai (@grow45) (@Tryz.underlying62)))) (Ai (Ai (@sz62) (Ai (@info62) (@I62s))) (Ai (Ai (@I62b) (@zero62)) (Ai (@grow62) (@Tryz.underlying93))))) (Ai (Ai (Ai (@sz93) (Ai (@info93) (@I93s))) (Ai (@I93b) (Ai (@zero93) (@grow93)))) (Ai (Ai (@Tryz.underlying95) (Ai (@sz95) (@fok95))) (Ai (Ai (@info95) (@I95s)) (Ai (@call39) (@Tryz.results38)))))))
set_option maxRecDepth 20000
set_option maxHeartbeats 8000000
theorem ct100 {i:Int}{s2:St}{acc:List St}{c7:Nat}{v:EVal}{x:List EVal}{N:Nat}{l:List (Nat×Option cK)}{kk:List (Nat×Option (Nat×TypeId))}{k:EVal→H→Prop}
  (h86:F86 [.lptr x 0]=some (.agg (eSt s2))) (hS:SL 33 c7 v acc N l) (hc:1<c7) (hcN:c7<N) (hN:N<16000) (hlen:acc.length≤1000) (hb:lookG l 1=some (.row [v] 23 0 0 false))
  (hk:∀v2 l2,SL 33 c7 v2 (acc++[s2]) (N+1) l2→lookG l2 1=some (.row [v2] 23 0 0 false)→lookG l2 c7=lookG l c7→k (.tup []) (mkH (N+1) l2 128 kk)) :
  CallT Tryz.prog gT (fD KRp) 38 [.int .i64 i,.lptr x 0,.ptr 1 0] (mkH N l 128 kk) k:=by
 refine CallT.intro Tryz.func38 rfl ?_
 refine Top.view (View.start (n:=10) rfl (by simp)) (d7 noNG _ _ _ _ ?_)
 refine axU (Top.draw mixed noNG (by kernel_rfl) ?_)
 simp only [eSt]at h86
 obtain⟨o1,o2,o3,o4⟩:=awF hS
 obtain⟨v2,l2,hap,S2,F2⟩:=axe (q:=s2) (m:=128) (kk:=kk) hS hcN (by omega) hN hlen
 obtain⟨p1,p2,p3,p4⟩:=awF S2
 have hb2:lookG l2 1=some (.row [v] 23 0 0 false):=(F2 1 (.inr rfl)).trans hb
 ((try simp only [iS,SS,TF38G4,kcall,setRange,repl,isNextM,eConvert,eField,eSlice,eBuild,eBuildSlice,Nat.reduceLT,Nat.reduceEqDiff,Nat.reduceAdd,Nat.reduceMul,Nat.reduceSub,Nat.reduceLeDiff,Nat.reduceBEq,reduceCtorEq,hb,h86,o1,o2,o3,p1,p2,p3,o4,p4,↓hap,hb2]);(repeat' ((first|apply bC|apply bB|apply bE|apply bD|apply aW|apply aV)<;>intro h<;>simp only [h,SS,TF38G4,kcall,setRange,repl,isNextM,eConvert,eField,eSlice,eBuild,eBuildSlice,Nat.reduceLT,Nat.reduceEqDiff,Nat.reduceAdd,Nat.reduceMul,Nat.reduceSub,Nat.reduceLeDiff,Nat.reduceBEq,reduceCtorEq,hb,h86,o1,o2,o3,p1,p2,p3,o4,p4,↓hap,hb2])))
 refine⟨by kernel_rfl,?_⟩
 refine pX (es:=[]) (.inr rfl) rfl rfl (hk v2 _ (bqf (.inr rfl) S2) (by simp only [lookG,if_true]) ?_)
 rw [lookG.eq_2,if_neg (by omega)]
 exact F2 c7 (.inl rfl)
def gOK (l:List Pl):Bool:=decide (l.length<1000000)&&l.all fun t=>ax0 t&&(aS t.p&&(aS t.e&&decide (t.p.length<9223372036854775808)))
theorem gOK_inv {l:List Pl}(h:gOK l=true):l.length<1000000∧∀t∈l,okP t:=by
 simp only [gOK,Bool.and_eq_true,decide_eq_true_eq,List.all_eq_true]at h
 exact⟨h.1,fun t ht=>⟨(h.2 t ht).1,(h.2 t ht).2.1,(h.2 t ht).2.2.1,(h.2 t ht).2.2.2⟩⟩
abbrev cG43:Cod (List St×Int×Int×Int×Unit):=Cod.tup (Row.cons (Cod.list st0 rSt) (Row.cons cI (Row.cons cI (Row.cons cI Row.nil))))
def Ag43:Row (List Pl×Unit):=Row.cons (Cod.list pl0 rPl) Row.nil
noncomputable def Sg43 (x:List Pl×Unit):Option (List St×Int×Int×Int×Unit):=if gOK x.1=true then some ((game x.1).1,((game x.1).2.1:Nat),(game x.1).2.2.1,(game x.1).2.2.2,())else none
theorem a43 (l:List Pl):V.cs (Ag43.v (l,()))=[.lsl (u7 l)]:=by
 show V.cs [(Cod.list pl0 rPl).v l]=_
 rw [V.cs,V.cs,vPls_c]
theorem c43 (l:List St) (a b c:Int):(cG43.v (l,a,b,c,())).c=.tup [.lsl (lS l),.int .i64 a,.int .i64 b,.int .i64 c]:=by
 show(V.tup [(Cod.list st0 rSt).v l,V.int .i64 a,V.int .i64 b,V.int .i64 c]).c=_
 simp only [V.c,V.cs,vSts_c]
structure RInv (L:List Pl) (i:Nat) (s:St) (N:Nat) (l:List (Nat×Option cK)):Prop where
 hN:N≤5+3*i
 hN2:2<N
 st:stE s=0
 dat:∃acc v,(L.length≤256→game L=yD i acc s (L.drop i))∧acc.length=i+1∧SL 33 2 v acc N l∧lookG l 1=some (.row [v] 23 0 0 false)
theorem fn43:FnT 15 (fOf Ag43 cG43 Sg43):=by
 refine Fn.intro mixed noNG Tryz.func15 rfl KRp (by simp only [KRp,List.forall_mem_cons];exact⟨fn85,fn86,fn22,fun _ h=>by cases h⟩) ?_
 intro args v hF
 obtain⟨⟨L,⟨⟩⟩,r,rfl,hs,rfl⟩:=rE hF
 unfold Sg43 at hs
 split at hs
 rotate_left
 · cases hs
 rename_i hg
 cases hs
 obtain⟨hlen,hok⟩:=gOK_inv hg
 dsimp only at hlen hok
 rw [a43,c43]
 intro Q hV
 have hQ:=Viewed.of hV
 clear hF hg
 refine Top.view (View.start (n:=25) rfl (by simp)) (d7 noNG _ _ _ _ ?_)
 have h22:=e22
 simp only [eSt,cD]at h22
 have hkm:∀(h:H) (args:List EVal),kcall Tryz.prog (fD KRp) h 37 args=none:=fun h a=>tS fun a=>rfl
 have m0:decide (128≤0 % 1024)=false:=by decide
 have e1:∀(h:H) (cs:List EVal),b5 h 38 #[] (some []) (some cs)=some (.val (.func 38 cs) h):=fun _ _=>rfl
 ((try simp only [iS,SS,TF15G4,kcall,setRange,repl,isNextM,eConvert,eField,eSlice,eBuild,eBuildSlice,Nat.reduceLT,Nat.reduceEqDiff,Nat.reduceAdd,Nat.reduceMul,Nat.reduceSub,Nat.reduceLeDiff,Nat.reduceBEq,reduceCtorEq,h22,m0,e1,↓hkm]);(repeat' ((first|apply bC|apply bB|apply bE|apply bD|apply aW|apply aV)<;>intro h<;>simp only [h,SS,TF15G4,kcall,setRange,repl,isNextM,eConvert,eField,eSlice,eBuild,eBuildSlice,Nat.reduceLT,Nat.reduceEqDiff,Nat.reduceAdd,Nat.reduceMul,Nat.reduceSub,Nat.reduceLeDiff,Nat.reduceBEq,reduceCtorEq,h22,m0,e1,↓hkm])))
 refine CallT.inn (HV.mode (m':=128) (by decide)) ?_
 have hbox:∀N' l' (s':St),lookG ((2,some (ownS s'))::l') 1=lookG l' 1:=fun N' l' s'=>by rw [lookG.eq_2,if_neg (by omega)]
 refine ct99 (N0:=2) (INV:=RInv L) (fun h a=>call38) (fun a=>rfl) (by omega) hok (by omega) ?_ ?_ ?_ ?_ ?_ ?_ ?_
 · intro x y
   refine⟨by omega,by omega,aw6,[cD],.slice 0 0 1 (.exact 1),?_,rfl,?_,by simp [lookG]⟩
   · intro h;unfold game;rw [if_neg (by omega)];rfl
   · exact .inl ⟨cD,rfl,by omega,by omega,rfl,by simp [lookG,eSt,cD]⟩
 · rintro i s N l x ⟨h1,h2,h3,acc,v,h4,h5,h6,h7⟩
   exact⟨h1,h2,h3,acc,v,h4,h5,bqf (.inl rfl) h6,by rw [lookG.eq_2,if_neg (by omega)];exact h7⟩
 · rintro i s N l ⟨h1,h2,-⟩
   omega
 · rintro i s N l t x y k ⟨h1,h2,h3,acc,v,h4,h5,h6,h7⟩ hi ht okt he hk
   refine ct100 (c7:=2) (v:=v) (acc:=acc) (e86 okt he) (SL_new h6) (by omega) (by omega) (by omega) (by omega) ?_ ?_
   · rw [lookG.eq_2,if_neg (by omega),lookG.eq_2,if_neg (by omega)];exact h7
   intro v2 l2 S2 b2 f2
   refine hk _ _ ⟨by omega,by omega,aya (akg okt he),acc++[nxt (mvd s t)],v2,?_,by simp [h5],S2,b2⟩ ?_
   · intro hL
     rw [h4 hL]
     have hd:L.drop i=t::L.drop (i+1):=aO ht
     rw [hd,nI,if_neg (by simp [he])]
   · rw [f2,lookG.eq_2,if_neg (by omega),lookG.eq_2,if_neg (by omega)]
 · intro hbig
   have hgm:game L=([],0,0,5):=by unfold game;rw [if_pos hbig]
   rw [hgm]at hQ
   have z5:((5:Int)==0)=false:=rfl
   ((try simp only [iS,SS,TF15G4,kcall,setRange,repl,isNextM,eConvert,eField,eSlice,eBuild,eBuildSlice,Nat.reduceLT,Nat.reduceEqDiff,Nat.reduceAdd,Nat.reduceMul,Nat.reduceSub,Nat.reduceLeDiff,Nat.reduceBEq,reduceCtorEq,z5]);(repeat' ((first|apply bC|apply bB|apply bE|apply bD|apply aW|apply aV)<;>intro h<;>simp only [h,SS,TF15G4,kcall,setRange,repl,isNextM,eConvert,eField,eSlice,eBuild,eBuildSlice,Nat.reduceLT,Nat.reduceEqDiff,Nat.reduceAdd,Nat.reduceMul,Nat.reduceSub,Nat.reduceLeDiff,Nat.reduceBEq,reduceCtorEq,z5])))
   (refine hQ _ _ _ (aq4 (by first|exact .inl rfl|exact .inr rfl) ?_);simp only [SS,TF15G4,kcall,setRange,repl,isNextM,eConvert,eField,eSlice,eBuild,eBuildSlice,Nat.reduceLT,Nat.reduceEqDiff,Nat.reduceAdd,Nat.reduceMul,Nat.reduceSub,Nat.reduceLeDiff,Nat.reduceBEq,reduceCtorEq])
   rfl
 · rintro i s N l t x y ⟨h1,h2,h3,acc,v,h4,h5,h6,h7⟩ hL ht he
   have hgm:game L=([],i,nN s t,eE s t):=by
    rw [h4 hL,aO ht,nI,if_pos he]
   rw [hgm]at hQ
   have z5:(eE s t==0)=false:=by simpa using he
   ((try simp only [iS,SS,TF15G4,kcall,setRange,repl,isNextM,eConvert,eField,eSlice,eBuild,eBuildSlice,Nat.reduceLT,Nat.reduceEqDiff,Nat.reduceAdd,Nat.reduceMul,Nat.reduceSub,Nat.reduceLeDiff,Nat.reduceBEq,reduceCtorEq,z5]);(repeat' ((first|apply bC|apply bB|apply bE|apply bD|apply aW|apply aV)<;>intro h<;>simp only [h,SS,TF15G4,kcall,setRange,repl,isNextM,eConvert,eField,eSlice,eBuild,eBuildSlice,Nat.reduceLT,Nat.reduceEqDiff,Nat.reduceAdd,Nat.reduceMul,Nat.reduceSub,Nat.reduceLeDiff,Nat.reduceBEq,reduceCtorEq,z5])))
   (refine hQ _ _ _ (aq4 (by first|exact .inl rfl|exact .inr rfl) ?_);simp only [SS,TF15G4,kcall,setRange,repl,isNextM,eConvert,eField,eSlice,eBuild,eBuildSlice,Nat.reduceLT,Nat.reduceEqDiff,Nat.reduceAdd,Nat.reduceMul,Nat.reduceSub,Nat.reduceLeDiff,Nat.reduceBEq,reduceCtorEq])
   rfl
 · rintro s N l ⟨h1,h2,h3,acc,v,h4,h5,h6,h7⟩ hL
   have hgm:game L=(acc,0,0,0):=by
    rw [h4 hL,List.drop_length];rfl
   rw [hgm]at hV
   have z5:((0:Int)==0)=true:=rfl
   obtain⟨o1,o2,o3,o4⟩:=awF h6
   ((try simp only [iS,SS,TF15G4,kcall,setRange,repl,isNextM,eConvert,eField,eSlice,eBuild,eBuildSlice,Nat.reduceLT,Nat.reduceEqDiff,Nat.reduceAdd,Nat.reduceMul,Nat.reduceSub,Nat.reduceLeDiff,Nat.reduceBEq,reduceCtorEq,z5,h7,o1,o2,o3]);(repeat' ((first|apply bC|apply bB|apply bE|apply bD|apply aW|apply aV)<;>intro h<;>simp only [h,SS,TF15G4,kcall,setRange,repl,isNextM,eConvert,eField,eSlice,eBuild,eBuildSlice,Nat.reduceLT,Nat.reduceEqDiff,Nat.reduceAdd,Nat.reduceMul,Nat.reduceSub,Nat.reduceLeDiff,Nat.reduceBEq,reduceCtorEq,z5,h7,o1,o2,o3])))
   have hend:Ends Tryz.prog gT Tryz.f15 (.tup [.lsl (lS acc),.int .i64 ((0:Nat):Int),.int .i64 0,.int .i64 0]) .ret (mkF 25 [(5,.int .i64 0),(4,.int .i64 0),(3,.int .i64 0),(2,.lsl (lS acc))]) (mkH N [] 128 []):=by
    refine aq4 (.inl rfl) ?_
    simp only [SS,TF15G4,kcall,setRange,repl,isNextM,eConvert,eField,eSlice,eBuild,eBuildSlice,Nat.reduceLT,Nat.reduceEqDiff,Nat.reduceAdd,Nat.reduceMul,Nat.reduceSub,Nat.reduceLeDiff,Nat.reduceBEq,reduceCtorEq]
   rcases h6 with⟨q,rfl,_,_,rfl,h8⟩ | ⟨id,_,_,h9,rfl,h8⟩
   · refine hV _ _ _ ⟨_,_,View.fz (sz:=13) (len:=1) (fl2:=[(5,.int .i64 0),(4,.int .i64 0),(3,.int .i64 0),(2,.lsl (lS [q]))]) (l2:=[]) (k2:=[]) 0 (by omega) h8 (xZ q) rfl ?_ (by simp) (by simp),hend⟩
     intro p hp
     simp only [List.mem_cons,List.not_mem_nil,or_false]at hp
     rcases hp with rfl|rfl|rfl|rfl
     · exact⟨by simp,_,rfl,.inl rfl⟩
     · exact⟨by simp,_,rfl,.inl rfl⟩
     · exact⟨by simp,_,rfl,.inl rfl⟩
     · exact⟨by simp,_,rfl,.inr ⟨.exact 1,rfl,rfl,rfl⟩⟩
   · refine hV _ _ _ ⟨_,_,View.fz (sz:=13) (len:=acc.length) (fl2:=[(5,.int .i64 0),(4,.int .i64 0),(3,.int .i64 0),(2,.lsl (lS acc))]) (l2:=[]) (k2:=[]) id (by omega) h8 (aqR _) (jN _) ?_ (by simp) (by simp),hend⟩
     rw [aqf]
     intro p hp
     simp only [List.mem_cons,List.not_mem_nil,or_false]at hp
     rcases hp with rfl|rfl|rfl|rfl
     · exact⟨by simp,_,rfl,.inl rfl⟩
     · exact⟨by simp,_,rfl,.inl rfl⟩
     · exact⟨by simp,_,rfl,.inl rfl⟩
     · exact⟨by simp,_,rfl,.inr ⟨.slack 0,rfl,rfl,rfl⟩⟩
noncomputable def Kg43:Con Tryz.prog gT:=Con.of 15 Ag43 cG43 Sg43 fn43
end Go.Ev
