import Derived.Test.YthobdjmonidpoaaGreatDoorG5
set_option linter.unusedSimpArgs false
set_option linter.unusedVariables false
namespace Go.Ev
open Go.RowKit Go.Proofs
set_option linter.defProp false
def TF9G6:=Ai (Ai (Ai (Ai (Ai (Ai (@Tryz.underlying3) (@sz3)) (Ai (@info3) (Ai (@I3s) (@I3b)))) (Ai (Ai (@zero3) (Ai (@grow3) (@Tryz.underlying4))) (Ai (@sz4) (Ai (@info4) (@I4s))))) (Ai (Ai (Ai (@I4b) (@zero4)) (Ai (@grow4) (Ai (@Tryz.underlying9) (@sz9)))) (Ai (Ai (@info9) (Ai (@I9s) (@I9b))) (Ai (@zero9) (Ai (@grow9) (@Tryz.underlying22)))))) (Ai (Ai (Ai (Ai (@sz22) (@info22)) (Ai (@I22s) (Ai (@I22b) (@zero22)))) (Ai (Ai (@grow22) (Ai (@Tryz.underlying30) (@sz30))) (Ai (@info30) (Ai (@I30s) (@I30b))))) (Ai (Ai (Ai (@zero30) (Ai (@grow30) (@Tryz.underlying31))) (Ai (@sz31) (Ai (@info31) (@I31s)))) (Ai (Ai (@I31b) (Ai (@zero31) (@grow31))) (Ai (@Tryz.underlying36) (Ai (@sz36) (@info36))))))) (Ai (Ai (Ai (Ai (Ai (@I36s) (@I36b)) (Ai (@zero36) (Ai (@grow36) (@Tryz.underlying39)))) (Ai (Ai (@sz39) (Ai (@fok39) (@info39))) (Ai (@I39s) (Ai (@I39b) (@zero39))))) (Ai (Ai (Ai (@grow39) (Ai (@Tryz.underlying43) (@sz43))) (Ai (@info43) (Ai (@I43s) (@I43b)))) (Ai (Ai (@zero43) (Ai (@grow43) (@Tryz.underlying45))) (Ai (@sz45) (Ai (@fok45) (@info45)))))) (Ai (Ai (Ai (Ai (@I45s) (@I45b)) (Ai (@zero45) (Ai (@grow45) (@Tryz.underlying53)))) (Ai (Ai (@sz53) (Ai (@info53) (@I53s))) (Ai (@I53b) (Ai (@zero53) (@grow53))))) (Ai (Ai (Ai (@Tryz.underlying77) (Ai (@sz77) (@fok77))) (Ai (@info77) (Ai (@I77s) (@I77b)))) (Ai (Ai (@zero77) (Ai (@grow77) (@call30))) (Ai (@call31) (Ai (@call32) (@Tryz.results9)))))))
set_option maxRecDepth 20000
set_option maxHeartbeats 8000000
theorem axj {c7:Nat}{v:EVal}{ps:List St}{q:St}{N m:Nat}{l:List (Nat×Option cY)}{kk:List (Nat×Option (Nat×TypeId))}(h:SL 39 c7 v ps N l) (hc:N≠c7) (h1:1<N) (hN:N<16000) (hlen:ps.length≤1000) :
  ∃v2 l2,eAppend Tryz.prog (mkH N l m kk) 36 v (.lsl [[.int .i64 q.inn,.int .i64 q.half,.int .i64 q.outs,.int .i64 q.balls,.int .i64 q.strikes,.int .i64 q.b1,.int .i64 q.b2,.int .i64 q.b3,.int .i64 q.n0,.int .i64 q.n1,.int .i64 q.c0,.int .i64 q.c1,.bool q.over]])=some (v2,mkH (N+1) l2 m kk)∧SL 39 c7 v2 (ps++[q]) (N+1) l2∧∀i,N<i→lookG l2 i=lookG l i:=by
 have g2:a9 13 [[EVal.int .i64 q.inn,.int .i64 q.half,.int .i64 q.outs,.int .i64 q.balls,.int .i64 q.strikes,.int .i64 q.b1,.int .i64 q.b2,.int .i64 q.b3,.int .i64 q.n0,.int .i64 q.n1,.int .i64 q.c0,.int .i64 q.c1,.bool q.over]]=true:=rfl
 rcases h with⟨q0,rfl,_,hc0,rfl,hl⟩ | ⟨id,hid1,hid2,hid,rfl,hl⟩
 · have g1:decide (104*(1+1)≤1000000)=true:=by decide
   simp only [eSt]at hl
   refine⟨.slice N 0 2 (.slack 0),(N,some (.row (eSt q0++eSt q) 39 0 0 true))::l,?_,.inr ⟨N,by omega,h1,by omega,rfl,by simp [lookG,cQ,gF]⟩,?_⟩
   · simp only [SS,TF9G6,kcall,setRange,repl,isNextM,eConvert,eField,eSlice,eBuild,eBuildSlice,Nat.reduceLT,Nat.reduceEqDiff,Nat.reduceAdd,Nat.reduceMul,Nat.reduceSub,Nat.reduceLeDiff,Nat.reduceBEq,reduceCtorEq,hl,g1,g2]
     rfl
   · intro i hi
     rw [lookG.eq_2,if_neg (by omega)]
 · have hid0:id<16000:=by omega
   have g1:decide (104*(ps.length+1)≤1000000)=true:=by simp;omega
   have g3:((ps.length+1)*13≤ps.length*13)=False:=by simp only [eq_iff_iff,iff_false];omega
   refine⟨.slice N 0 (ps.length+1) (.slack 0),(N,some (.row (cQ ps++eSt q) 39 0 0 true))::(id,none)::l,?_,.inr ⟨N,by omega,h1,by omega,by simp,by rw [uD];simp [lookG]⟩,?_⟩
   · simp only [SS,TF9G6,kcall,setRange,repl,isNextM,eConvert,eField,eSlice,eBuild,eBuildSlice,Nat.reduceLT,Nat.reduceEqDiff,Nat.reduceAdd,Nat.reduceMul,Nat.reduceSub,Nat.reduceLeDiff,Nat.reduceBEq,reduceCtorEq,hid0,hl,g1,g2,g3,eA,uC]
     rfl
   · intro i hi
     rw [lookG.eq_2,if_neg (by omega),lookG.eq_2,if_neg (by omega)]
theorem SL_row {ty:TypeId}{c7:Nat}{v:EVal}{ps:List St}{N:Nat}{l:List (Nat×Option cY)}(h:SL ty c7 v ps N l):∃id cap b,id<N∧v=.slice id 0 ps.length cap∧lookG l id=some (.row (cQ ps) ty 0 0 b)∧capOK ps.length cap=true:=by
 rcases h with⟨q,rfl,h2,h3,rfl,h5⟩ | ⟨id,h1,h2,h3,rfl,h5⟩
 · exact⟨0,.exact 1,false,h2,rfl,by rw [h5];simp [cQ,gF],rfl⟩
 · exact⟨id,.slack 0,true,h3,rfl,h5,rfl⟩
noncomputable def F38:List EVal→Option EVal:=fOf Az38 (Cod.tup (Row.cons (Cod.agg rSt) (Row.cons cI (Row.cons cI Row.nil)))) Sz38
theorem fn38:FnT 32 F38:=Kz38.ok
noncomputable def F58:List EVal→Option EVal:=fOf A58 cI S58
theorem fn58:FnT 31 F58:=K58.ok
noncomputable def F23:List EVal→Option EVal:=fOf Az23 (Cod.agg rSt) Sz23
theorem fn23:FnT 30 F23:=Kz23.ok
theorem e23:F23 []=some (.agg (eSt bR)):=e22
theorem e58 {t:Pl}(ok:okP t):F58 [.agg (azT t)]=some (.int .i64 (playE t.p t.e t.m)):=by
 have a:V.cs (A58.v (t,()))=[.agg (azT t)]:=by
  show V.cs [(Cod.agg rPl).v t]=_
  rw [V.cs,V.cs,vPl_c];rfl
 rw [←a]
 unfold F58 fOf
 rw [A58.rt,Option.bind_some]
 have:S58 (t,())=some (playE t.p t.e t.m):=by unfold S58;rw [if_pos ok.1]
 rw [this]
 show some ((V.int .i64 _).c)=_
 rw [V.c]
noncomputable def nxR (s:St) (t:Pl):St:=if eE s t=0 then nxt (mvd s t)else st0
theorem s38R {s:St}{t:Pl}(ok:okP t) (hs:stE s=0) (hp:playE t.p t.e t.m=0):Sz38 (s,t,())=some (nxR s t,nN s t,eE s t,()):=by
 obtain⟨p1,p2,p3⟩:=playE_zero hp
 cases ho:s.over with
 | true=>
   have e:oG s t=20:=by unfold oG;simp [hs,hp,ho]
   have e1:eE s t=20:=by unfold eE ayE;simp [e]
   have e2:nN s t=0:=by unfold nN numA;simp [e]
   rw [e2]
   unfold nxR
   rw [e1]
   show Ez38 s t=_
   unfold Ez38 Tz38
   simp only [TS,w6,ho]
   rfl
 | false=>
   have e:oG s t=0:=by unfold oG;simp [hs,hp,ho]
   have hk:=(axB (s:=s) ok).2.1 e
   rw [s38 p3 (aq4 hs).half ho (c_ok hs) (by omega) hk (fun h=>(axB ok).2.2 h e)]
   unfold nxR eE nN numA ayE
   simp only [e,ne_eq,not_true_eq_false,if_false]
   by_cases hb:brk s t=0
   · cases hx:azY s t<;>simp [hb,hx,zSt,st0]
   · simp [hb,zSt,st0]
theorem e38 {s:St}{t:Pl}(ok:okP t) (hs:stE s=0) (hp:playE t.p t.e t.m=0):F38 [.agg (eSt s),.agg (azT t)]=some (.tup [.agg (eSt (nxR s t)),.int .i64 (nN s t),.int .i64 (eE s t)]):=by
 have a:V.cs (Az38.v (s,t,()))=[.agg (eSt s),.agg (azT t)]:=a85
 rw [←a]
 unfold F38 fOf
 rw [Az38.rt,Option.bind_some,s38R ok hs hp]
 show some ((V.tup [V.agg (rSt.v (nxR s t)),V.int .i64 (nN s t),V.int .i64 (eE s t)]).c)=_
 simp only [V.c,V.cs,ax0]
theorem eE_form {s:St}{t:Pl}(hs:stE s=0) (hp:playE t.p t.e t.m≠0):eE s t=playE t.p t.e t.m∧nN s t=0:=by
 have e:oG s t=playE t.p t.e t.m:=by unfold oG;simp [hs,hp]
 constructor
 · unfold eE ayE;rw [e,if_pos hp]
 · unfold nN numA;rw [e,if_pos hp]
noncomputable abbrev KRf:sE:=[(32,F38),(31,F58),(30,F23)]
def Ag46:Row (List Pl×Unit):=Row.cons (Cod.list pl0 rPl) Row.nil
structure QInv (L:List Pl) (i:Nat) (s:St) (v:EVal) (N:Nat) (l:List (Nat×Option cY)):Prop where
 hN:N≤1+2*i
 hN2:0<N
 hi:i≤L.length
 st:stE s=0
 no:∀j,N≤j→lookG l j=none
 dat:∃acc,game L=m7 i acc s (L.drop i)∧acc.length=i+1∧acc[i]? = some s∧SL 39 1000000 v acc N l
theorem fn46:FnT 9 (fOf Ag46 cG43 bqC):=by
 refine Fn.intro mixed noNG Tryz.func9 rfl KRf (by simp only [KRf,List.forall_mem_cons];exact⟨fn38,fn58,fn23,fun _ h=>by cases h⟩) ?_
 intro args v hF
 obtain⟨⟨L,⟨⟩⟩,r,rfl,hs,rfl⟩:=kW hF
 unfold bqC at hs
 split at hs
 rotate_left
 · cases hs
 rename_i hg
 cases hs
 obtain⟨hlen,hok⟩:=aq5 hg
 dsimp only at hlen hok
 have a46:V.cs (Ag46.v (L,()))=[.lsl (oT L)]:=a43 L
 rw [a46,c43]
 intro Q hV
 have hQ:=Viewed.of hV
 clear hF hg
 refine Top.view (View.start (n:=54) rfl (by simp)) (bY noNG _ _ _ _ ?_)
 have h23:=e23
 simp only [eSt,bR]at h23
 have m0:decide (128≤0 % 1024)=false:=by decide
 by_cases hbig:256<L.length
 · have hgm:game L=([],0,0,5):=by unfold game;rw [if_pos hbig]
   rw [hgm]at hQ
   have q1:decide ((256:Int)<(L.length:Int))=true:=by simp;omega
   ((try simp only [cR,SS,TF9G6,kcall,setRange,repl,isNextM,eConvert,eField,eSlice,eBuild,eBuildSlice,Nat.reduceLT,Nat.reduceEqDiff,Nat.reduceAdd,Nat.reduceMul,Nat.reduceSub,Nat.reduceLeDiff,Nat.reduceBEq,reduceCtorEq,rowsP_length,q1]);(repeat' ((first|apply aJ|apply aI|apply aL|apply aK|apply aF|apply aE)<;>intro h<;>simp only [h,SS,TF9G6,kcall,setRange,repl,isNextM,eConvert,eField,eSlice,eBuild,eBuildSlice,Nat.reduceLT,Nat.reduceEqDiff,Nat.reduceAdd,Nat.reduceMul,Nat.reduceSub,Nat.reduceLeDiff,Nat.reduceBEq,reduceCtorEq,rowsP_length,q1])))
   (refine hQ _ _ _ (gA (by first|exact .inl rfl|exact .inr rfl) ?_);simp only [SS,TF9G6,kcall,setRange,repl,isNextM,eConvert,eField,eSlice,eBuild,eBuildSlice,Nat.reduceLT,Nat.reduceEqDiff,Nat.reduceAdd,Nat.reduceMul,Nat.reduceSub,Nat.reduceLeDiff,Nat.reduceBEq,reduceCtorEq])
   rfl
 have q1:decide ((256:Int)<(L.length:Int))=false:=by simp;omega
 ((try simp only [cR,SS,TF9G6,kcall,setRange,repl,isNextM,eConvert,eField,eSlice,eBuild,eBuildSlice,Nat.reduceLT,Nat.reduceEqDiff,Nat.reduceAdd,Nat.reduceMul,Nat.reduceSub,Nat.reduceLeDiff,Nat.reduceBEq,reduceCtorEq,rowsP_length,q1,h23,m0]);(repeat' ((first|apply aJ|apply aI|apply aL|apply aK|apply aF|apply aE)<;>intro h<;>simp only [h,SS,TF9G6,kcall,setRange,repl,isNextM,eConvert,eField,eSlice,eBuild,eBuildSlice,Nat.reduceLT,Nat.reduceEqDiff,Nat.reduceAdd,Nat.reduceMul,Nat.reduceSub,Nat.reduceLeDiff,Nat.reduceBEq,reduceCtorEq,rowsP_length,q1,h23,m0])))
 refine wT (Top.loop (I:=fun s:{ x:Nat×St×EVal×Nat×List (Nat×Option cY) // QInv L x.1 x.2.1 x.2.2.1 x.2.2.2.1 x.2.2.2.2 }=>(mkF 54 [(7,.int .i64 (s.1.1:Nat)),(6,s.1.2.2.1),(0,.lsl (oT L))],mkH s.1.2.2.2.1 s.1.2.2.2.2 128 [])) (μ:=fun s=>L.length-s.1.1) ⟨(0,bR,.slice 0 0 1 (.exact 1),1,_),?_⟩ (View.trans (View.mode 128 (by decide)) (View.sub (by simp [look]))) ?_)
 · show QInv L 0 bR (.slice 0 0 1 (.exact 1)) 1 _
   refine⟨by omega,by omega,by omega,ajT,fun j hj=>?_,[bR],?_,rfl,rfl,.inl ⟨bR,rfl,by omega,by omega,rfl,by simp only [lookG,if_true];rfl⟩⟩
   · rw [lookG.eq_2,if_neg (by omega)];rfl
   · unfold game;rw [if_neg (by omega)];rfl
 rintro⟨⟨i,s,v,N,l⟩,h1,h2,h3,h4,h5,acc,h6,h7,h8,h9⟩
 dsimp only at h1 h2 h3 h4 h5 h6 h7 h8 h9
 refine bY noNG _ _ _ _ ?_
 dsimp only
 obtain⟨id,cap,b,g1,rfl,g2,g3⟩:=SL_row h9
 by_cases hlt:i<L.length
 rotate_left
 · obtain rfl:i=L.length:=by omega
   have q2:decide ((L.length:Int)<(L.length:Int))=false:=by simp
   have hgm:game L=(acc,0,0,0):=by rw [h6,List.drop_length];rfl
   rw [hgm]at hV
   ((try simp only [cR,SS,TF9G6,kcall,setRange,repl,isNextM,eConvert,eField,eSlice,eBuild,eBuildSlice,Nat.reduceLT,Nat.reduceEqDiff,Nat.reduceAdd,Nat.reduceMul,Nat.reduceSub,Nat.reduceLeDiff,Nat.reduceBEq,reduceCtorEq,rowsP_length,q2]);(repeat' ((first|apply aJ|apply aI|apply aL|apply aK|apply aF|apply aE)<;>intro h<;>simp only [h,SS,TF9G6,kcall,setRange,repl,isNextM,eConvert,eField,eSlice,eBuild,eBuildSlice,Nat.reduceLT,Nat.reduceEqDiff,Nat.reduceAdd,Nat.reduceMul,Nat.reduceSub,Nat.reduceLeDiff,Nat.reduceBEq,reduceCtorEq,rowsP_length,q2])))
   have hend:Ends Tryz.prog gT Tryz.f9 (.tup [.lsl (gF acc),.int .i64 ((0:Nat):Int),.int .i64 0,.int .i64 0]) .ret (mkF 54 [(5,.int .i64 0),(4,.int .i64 0),(3,.int .i64 0),(2,.lsl (gF acc))]) (mkH N [] 128 []):=by
    refine gA (.inl rfl) ?_
    simp only [SS,TF9G6,kcall,setRange,repl,isNextM,eConvert,eField,eSlice,eBuild,eBuildSlice,Nat.reduceLT,Nat.reduceEqDiff,Nat.reduceAdd,Nat.reduceMul,Nat.reduceSub,Nat.reduceLeDiff,Nat.reduceBEq,reduceCtorEq]
   refine hV _ _ _ ⟨_,_,View.fz (sz:=13) (len:=acc.length) (fl2:=[(5,.int .i64 0),(4,.int .i64 0),(3,.int .i64 0),(2,.lsl (gF acc))]) (l2:=[]) (k2:=[]) id (by omega) g2 (qS _) (eA _) ?_ (by simp) (by simp),hend⟩
   rw [rR]
   intro p hp
   simp only [List.mem_cons,List.not_mem_nil,or_false]at hp
   rcases hp with rfl|rfl|rfl|rfl
   · exact⟨by simp,_,rfl,.inl rfl⟩
   · exact⟨by simp,_,rfl,.inl rfl⟩
   · exact⟨by simp,_,rfl,.inl rfl⟩
   · exact⟨by simp,_,rfl,.inr ⟨cap,rfl,g3,rfl⟩⟩
 obtain⟨t,ht⟩:∃t,L[i]? = some t:=⟨L[i],List.getElem?_eq_getElem hlt⟩
 have okt:=hok t (List.mem_of_getElem? ht)
 rw [aY ht,eX]at h6
 have q2:decide ((i:Int)<(L.length:Int))=true:=by simp;omega
 have q3:IntKind.i64.wrap ((i:Int)+1)=((i+1:Nat):Int):=by rw [e6]<;>omega
 have hNN:N<16000:=by omega
 have e1:azT t=[.str t.p,.str t.e,.bool t.l,.lsl (t5 t.m)]:=rfl
 have h58:=e58 okt
 simp only [e1]at h58
 by_cases hp:playE t.p t.e t.m=0
 rotate_left
 · obtain ⟨k1,k2⟩:=eE_form (s:=s) h4 hp
   rw [if_pos (by rw [k1];exact hp),k1,k2]at h6
   rw [h6]at hQ
   have q4:(playE t.p t.e t.m==0)=false:=by simpa using hp
   ((try simp only [cR,SS,TF9G6,kcall,setRange,repl,isNextM,eConvert,eField,eSlice,eBuild,eBuildSlice,Nat.reduceLT,Nat.reduceEqDiff,Nat.reduceAdd,Nat.reduceMul,Nat.reduceSub,Nat.reduceLeDiff,Nat.reduceBEq,reduceCtorEq,rowsP_length,rowsP_get,ht,e1,q2,h58,q4]);(repeat' ((first|apply aJ|apply aI|apply aL|apply aK|apply aF|apply aE)<;>intro h<;>simp only [h,SS,TF9G6,kcall,setRange,repl,isNextM,eConvert,eField,eSlice,eBuild,eBuildSlice,Nat.reduceLT,Nat.reduceEqDiff,Nat.reduceAdd,Nat.reduceMul,Nat.reduceSub,Nat.reduceLeDiff,Nat.reduceBEq,reduceCtorEq,rowsP_length,rowsP_get,ht,e1,q2,h58,q4])))
   (refine hQ _ _ _ (gA (by first|exact .inl rfl|exact .inr rfl) ?_);simp only [SS,TF9G6,kcall,setRange,repl,isNextM,eConvert,eField,eSlice,eBuild,eBuildSlice,Nat.reduceLT,Nat.reduceEqDiff,Nat.reduceAdd,Nat.reduceMul,Nat.reduceSub,Nat.reduceLeDiff,Nat.reduceBEq,reduceCtorEq])
   rfl
 have q4:(playE t.p t.e t.m==0)=true:=by simpa using hp
 have h38:=e38 okt h4 hp
 simp only [eSt,e1]at h38
 have hzN:=h5 N (Nat.le_refl _)
 have hid0:id<16000:=by omega
 have nid:(N=id)=False:=by simp only [eq_iff_iff,iff_false];omega
 have hia:i<acc.length:=by omega
 have b1:((i:Int)<((acc.length:Nat):Int))=True:=by simp only [eq_iff_iff,iff_true];omega
 have tk:List.take 13 (List.drop (i*13) (cQ acc))=[.int .i64 s.inn,.int .i64 s.half,.int .i64 s.outs,.int .i64 s.balls,.int .i64 s.strikes,.int .i64 s.b1,.int .i64 s.b2,.int .i64 s.b3,.int .i64 s.n0,.int .i64 s.n1,.int .i64 s.c0,.int .i64 s.c1,.bool s.over]:=ay4 h8
 ((try simp only [cR,SS,TF9G6,kcall,setRange,repl,isNextM,eConvert,eField,eSlice,eBuild,eBuildSlice,Nat.reduceLT,Nat.reduceEqDiff,Nat.reduceAdd,Nat.reduceMul,Nat.reduceSub,Nat.reduceLeDiff,Nat.reduceBEq,reduceCtorEq,rowsP_length,rowsP_get,ht,e1,q2,h58,q4]);(repeat' ((first|apply aJ|apply aI|apply aL|apply aK|apply aF|apply aE)<;>intro h<;>simp only [h,SS,TF9G6,kcall,setRange,repl,isNextM,eConvert,eField,eSlice,eBuild,eBuildSlice,Nat.reduceLT,Nat.reduceEqDiff,Nat.reduceAdd,Nat.reduceMul,Nat.reduceSub,Nat.reduceLeDiff,Nat.reduceBEq,reduceCtorEq,rowsP_length,rowsP_get,ht,e1,q2,h58,q4])))
 refine tC (Top.drawF mixed noNG (by kernel_rfl) ?_)
 ((try simp only [cR,SS,TF9G6,kcall,setRange,repl,isNextM,eConvert,eField,eSlice,eBuild,eBuildSlice,Nat.reduceLT,Nat.reduceEqDiff,Nat.reduceAdd,Nat.reduceMul,Nat.reduceSub,Nat.reduceLeDiff,Nat.reduceBEq,reduceCtorEq,WF,looksOld_enter,rowsP_length,rowsP_get,ht,e1,h38,hNN,hid0,nid,g2,b1,tk,hzN]);(repeat' ((first|apply aJ|apply aI|apply aL|apply aK|apply aF|apply aE)<;>intro h<;>simp only [h,SS,TF9G6,kcall,setRange,repl,isNextM,eConvert,eField,eSlice,eBuild,eBuildSlice,Nat.reduceLT,Nat.reduceEqDiff,Nat.reduceAdd,Nat.reduceMul,Nat.reduceSub,Nat.reduceLeDiff,Nat.reduceBEq,reduceCtorEq,WF,looksOld_enter,rowsP_length,rowsP_get,ht,e1,h38,hNN,hid0,nid,g2,b1,tk,hzN])))
 refine⟨by kernel_rfl,?_⟩
 by_cases he:eE s t=0
 rotate_left
 · rw [if_pos he]at h6
   rw [h6]at hQ
   have q5:(eE s t==0)=false:=by simpa using he
   ((try simp only [cR,SS,TF9G6,kcall,setRange,repl,isNextM,eConvert,eField,eSlice,eBuild,eBuildSlice,Nat.reduceLT,Nat.reduceEqDiff,Nat.reduceAdd,Nat.reduceMul,Nat.reduceSub,Nat.reduceLeDiff,Nat.reduceBEq,reduceCtorEq,q5]);(repeat' ((first|apply aJ|apply aI|apply aL|apply aK|apply aF|apply aE)<;>intro h<;>simp only [h,SS,TF9G6,kcall,setRange,repl,isNextM,eConvert,eField,eSlice,eBuild,eBuildSlice,Nat.reduceLT,Nat.reduceEqDiff,Nat.reduceAdd,Nat.reduceMul,Nat.reduceSub,Nat.reduceLeDiff,Nat.reduceBEq,reduceCtorEq,q5])))
   (refine hQ _ _ _ (gA (by first|exact .inl rfl|exact .inr rfl) ?_);simp only [SS,TF9G6,kcall,setRange,repl,isNextM,eConvert,eField,eSlice,eBuild,eBuildSlice,Nat.reduceLT,Nat.reduceEqDiff,Nat.reduceAdd,Nat.reduceMul,Nat.reduceSub,Nat.reduceLeDiff,Nat.reduceBEq,reduceCtorEq])
   rfl
 rw [if_neg (by simp [he])]at h6
 have q5:(eE s t==0)=true:=by simpa using he
 have hnx:nxR s t=nxt (mvd s t):=by unfold nxR;rw [if_pos he]
 rw [hnx]
 generalize hs2:nxt (mvd s t)=s2 at h6
 have hs2':stE s2=0:=by rw [←hs2];exact axK (akm okt he)
 obtain⟨v2,l2,hap,S2,F2⟩:=axj (q:=s2) (m:=128) (kk:=[]) (l:=(N,some (.row [.int .i64 s2.inn,.int .i64 s2.half,.int .i64 s2.outs,.int .i64 s2.balls,.int .i64 s2.strikes,.int .i64 s2.b1,.int .i64 s2.b2,.int .i64 s2.b3,.int .i64 s2.n0,.int .i64 s2.n1,.int .i64 s2.c0,.int .i64 s2.c1,.bool s2.over] 39 0 0 false))::(N,some (.row [.int .i64 0,.int .i64 0,.int .i64 0,.int .i64 0,.int .i64 0,.int .i64 0,.int .i64 0,.int .i64 0,.int .i64 0,.int .i64 0,.int .i64 0,.int .i64 0,.bool false] 39 0 0 false))::l) (bqv h9) (by omega) (by omega) (by omega) (by omega)
 obtain⟨p1,p2,p3,p4⟩:=axN S2
 ((try simp only [cR,SS,TF9G6,kcall,setRange,repl,isNextM,eConvert,eField,eSlice,eBuild,eBuildSlice,Nat.reduceLT,Nat.reduceEqDiff,Nat.reduceAdd,Nat.reduceMul,Nat.reduceSub,Nat.reduceLeDiff,Nat.reduceBEq,reduceCtorEq,q5,hNN,q3,p1,p2,p3,↓hap]);(repeat' ((first|apply aJ|apply aI|apply aL|apply aK|apply aF|apply aE)<;>intro h<;>simp only [h,SS,TF9G6,kcall,setRange,repl,isNextM,eConvert,eField,eSlice,eBuild,eBuildSlice,Nat.reduceLT,Nat.reduceEqDiff,Nat.reduceAdd,Nat.reduceMul,Nat.reduceSub,Nat.reduceLeDiff,Nat.reduceBEq,reduceCtorEq,q5,hNN,q3,p1,p2,p3,↓hap])))
 refine⟨⟨(i+1,s2,v2,N+2,l2),?_⟩,by show L.length-(i+1)<L.length-i;omega,View.sub (by simp [look])⟩
 show QInv L (i+1) s2 v2 (N+2) l2
 refine⟨by omega,by omega,hlt,hs2',fun j hj=>?_,acc++[s2],h6,by simp [h7],by rw [List.getElem?_append_right (by omega),h7];simp,S2⟩
 rw [F2 j (by omega),lookG.eq_2,if_neg (by omega),lookG.eq_2,if_neg (by omega)]
 exact h5 j (by omega)
noncomputable def Sg46 (x:List Pl×Unit):Option (List St×Int×Int×Int×Unit):=bqC x
noncomputable def Kg46:Con Tryz.prog gT:=Con.of 9 Ag46 cG43 Sg46 fn46
end Go.Ev
