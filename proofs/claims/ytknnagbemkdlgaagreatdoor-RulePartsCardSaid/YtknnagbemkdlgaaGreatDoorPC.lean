import Derived.Test.YtknnagbemkdlgaaGreatDoorPB
set_option linter.unusedSimpArgs false
set_option linter.unusedVariables false
namespace Go.Ev
open Go.RowKit Go.Proofs
set_option linter.defProp false
def TF3PC:=Ai (Ai (Ai (Ai (Ai (Ai (@Tryz.underlying3) (Ai (@sz3) (@info3))) (Ai (@I3s) (Ai (@I3b) (@zero3)))) (Ai (Ai (@grow3) (Ai (@Tryz.underlying4) (@sz4))) (Ai (Ai (@info4) (@I4s)) (Ai (@I4b) (@zero4))))) (Ai (Ai (Ai (@grow4) (Ai (@Tryz.underlying5) (@sz5))) (Ai (Ai (@info5) (@I5s)) (Ai (@I5b) (@zero5)))) (Ai (Ai (@grow5) (Ai (@Tryz.underlying9) (@sz9))) (Ai (Ai (@info9) (@I9s)) (Ai (@I9b) (@zero9)))))) (Ai (Ai (Ai (Ai (@grow9) (Ai (@Tryz.underlying22) (@sz22))) (Ai (Ai (@info22) (@I22s)) (Ai (@I22b) (@zero22)))) (Ai (Ai (@grow22) (Ai (@Tryz.underlying23) (@sz23))) (Ai (Ai (@info23) (@I23s)) (Ai (@I23b) (@zero23))))) (Ai (Ai (Ai (@grow23) (Ai (@Tryz.underlying25) (@sz25))) (Ai (Ai (@fok25) (@info25)) (Ai (@I25s) (@I25b)))) (Ai (Ai (@zero25) (Ai (@grow25) (@Tryz.underlying29))) (Ai (Ai (@sz29) (@info29)) (Ai (@I29s) (@I29b))))))) (Ai (Ai (Ai (Ai (Ai (@zero29) (Ai (@grow29) (@Tryz.underlying30))) (Ai (@sz30) (Ai (@info30) (@I30s)))) (Ai (Ai (@I30b) (Ai (@zero30) (@grow30))) (Ai (Ai (@Tryz.underlying34) (@sz34)) (Ai (@info34) (@I34s))))) (Ai (Ai (Ai (@I34b) (Ai (@zero34) (@grow34))) (Ai (Ai (@Tryz.underlying35) (@sz35)) (Ai (@info35) (@I35s)))) (Ai (Ai (@I35b) (Ai (@zero35) (@grow35))) (Ai (Ai (@Tryz.underlying37) (@sz37)) (Ai (@fok37) (@info37)))))) (Ai (Ai (Ai (Ai (@I37s) (Ai (@I37b) (@zero37))) (Ai (Ai (@grow37) (@Tryz.underlying49)) (Ai (@sz49) (@info49)))) (Ai (Ai (@I49s) (Ai (@I49b) (@zero49))) (Ai (Ai (@grow49) (@Tryz.underlying71)) (Ai (@sz71) (@fok71))))) (Ai (Ai (Ai (@info71) (Ai (@I71s) (@I71b))) (Ai (Ai (@zero71) (@grow71)) (Ai (@call4) (@call5)))) (Ai (Ai (@call6) (Ai (@call7) (@call8))) (Ai (Ai (@call9) (@call10)) (Ai (@call11) (@Tryz.results3)))))))
set_option maxRecDepth 20000
set_option maxHeartbeats 8000000
noncomputable abbrev KQ:oN:=[(4,F42),(5,F31),(6,FA),(8,F44),(7,F43),(9,F22),(11,F33),(10,F32)]
def bP (t:Pl):Bool:=aW t.p&&aW t.e
def Aq3:Row (List Pl×Pl×Int×Unit):=Row.cons (Cod.list pl0 rPl) (Row.cons (Cod.agg rPl) (Row.cons cU8 Row.nil))
def Sq3 (x:List Pl×Pl×Int×Unit):Option Bool:=if x.1.all bP=true∧bP x.2.1=true∧0≤x.2.2.1∧x.2.2.1<256 then some true else none
theorem aq3 (l:List Pl) (p:Pl) (u:Int):V.cs (Aq3.v (l,p,u,()))=[.lsl (aZ l),.agg (sB p),.int .u8 u]:=by
 show V.cs [(Cod.list pl0 rPl).v l,(Cod.agg rPl).v p,V.int .u8 u]=_
 simp only [V.cs,aqd,axw,V.c];rfl
theorem neqS (s:St):oC Tryz.prog .neq 37 (.agg (eSt s)) (.agg (eSt s))=some (.bool false):=by
 have h:eqX Tryz.prog 37 (.agg (V.cs (rSt.v s))) (.agg (V.cs (rSt.v s)))=some true:=ajJ (ks:=[0,0,0,0,0,0,0,0,0,0,0,0,1]) (by kernel_rfl) rfl rfl (by
  show ajI [V.int .i64 s.inn,V.int .i64 s.half,V.int .i64 s.outs,V.int .i64 s.balls,V.int .i64 s.strikes,V.int .i64 s.b1,V.int .i64 s.b2,V.int .i64 s.b3,V.int .i64 s.n0,V.int .i64 s.n1,V.int .i64 s.c0,V.int .i64 s.c1,V.bool s.over] [V.int .i64 s.inn,V.int .i64 s.half,V.int .i64 s.outs,V.int .i64 s.balls,V.int .i64 s.strikes,V.int .i64 s.b1,V.int .i64 s.b2,V.int .i64 s.b3,V.int .i64 s.n0,V.int .i64 s.n1,V.int .i64 s.c0,V.int .i64 s.c1,V.bool s.over]=_
  simp [ajI,eqV])
 rw [yZ]at h
 show Option.map (fun b=>EVal.bool (!b)) (eqX Tryz.prog 37 (.agg (eSt s)) (.agg (eSt s)))=_
 rw [h];rfl
theorem Top.known {A:Option Nat}{P:Program}{g:G}{K K2:aO}{c:Code}{f:EFr}{h:H}{Q:eB}(hK:∀B0 W0,GRel B0 W0.w g→KOK P B0 W0 K2) (H1:Top A P g K2 c f h Q):Top A P g K c f h Q:=fun B0 W0 G _=>H1 B0 W0 G (hK B0 W0 G)
theorem CallT.known {P:Program}{g:G}{K K2:aO}{f:FuncId}{args:List EVal}{h:H}{k:EVal→H→Prop}(hK:∀B0 W0,GRel B0 W0.w g→KOK P B0 W0 K2) (H1:CallT P g K2 f args h k):CallT P g K f args h k:=fun B0 W0 G _=>H1 B0 W0 G (hK B0 W0 G)
noncomputable abbrev KX2:oN:=[(11,F33),(7,F43)]
theorem kd_ok (B0:Nat) (W0:fY) (G:GRel B0 W0.w gT):KOK Tryz.prog B0 W0 (known KX2):=lQ G KX2 (by simp only [KX2,List.forall_mem_cons];exact⟨fn33,fn43,fun _ h=>by cases h⟩)
theorem k33_ok (B0:Nat) (W0:fY) (G:GRel B0 W0.w gT):KOK Tryz.prog B0 W0 (known [(11,F33)]):=lQ G [(11,F33)] (by simp only [List.forall_mem_cons];exact⟨fn33,fun _ h=>by cases h⟩)
theorem fn3:FnT 3 (fOf Aq3 cB Sq3):=by
 refine Fn.intro mixed noNG Tryz.func3 rfl KQ (by simp only [KQ,List.forall_mem_cons];exact⟨fn42,fn31,fnA,fn44,fn43,fn22,fn33,fn32,fun _ h=>by cases h⟩) ?_
 intro args v hF
 obtain⟨⟨L,p,u,⟨⟩⟩,r,rfl,hs,rfl⟩:=mU hF
 unfold Sq3 at hs
 split at hs
 rotate_left
 · cases hs
 rename_i hg
 cases hs
 obtain⟨hL,hp,hu1,hu2⟩:=hg
 dsimp only at hL hp hu1 hu2
 rw [aq3]
 have cb:(cB.v true).c=.bool true:=by simp only [cB,V.c]
 rw [cb]
 intro Q hV
 have hQ:=Viewed.of hV
 clear hF
 refine Top.view (View.start (n:=208) rfl (by simp)) (bU noNG _ _ _ _ ?_)
 have m0:decide (128≤0 % 1024)=false:=by decide
 have h42:=e42 L
 have h31:=e31 p
 have r1:sB p=[.str p.p,.str p.e,.bool p.l,.lsl (dQ p.m)]:=rfl
 simp only [r1]at h31
 simp only [r1]
 cases hsh:shL L with
 | false=>
   rw [hsh]at h42
   ((try simp only [a9,SS,TF3PC,kcall,setRange,repl,isNextM,eConvert,eField,eSlice,eBuild,eBuildSlice,Nat.reduceLT,Nat.reduceEqDiff,Nat.reduceAdd,Nat.reduceMul,Nat.reduceSub,Nat.reduceLeDiff,Nat.reduceBEq,reduceCtorEq,h42,eA,m0]);(repeat' ((first|apply aE|apply aD|apply aG|apply aF|apply aC|apply aB)<;>intro h<;>simp only [h,SS,TF3PC,kcall,setRange,repl,isNextM,eConvert,eField,eSlice,eBuild,eBuildSlice,Nat.reduceLT,Nat.reduceEqDiff,Nat.reduceAdd,Nat.reduceMul,Nat.reduceSub,Nat.reduceLeDiff,Nat.reduceBEq,reduceCtorEq,h42,eA,m0])))
   (refine hQ _ _ _ (fU (by first|exact .inl rfl|exact .inr rfl) ?_);simp only [SS,TF3PC,kcall,setRange,repl,isNextM,eConvert,eField,eSlice,eBuild,eBuildSlice,Nat.reduceLT,Nat.reduceEqDiff,Nat.reduceAdd,Nat.reduceMul,Nat.reduceSub,Nat.reduceLeDiff,Nat.reduceBEq,reduceCtorEq])
 | true=>
 rw [hsh]at h42
 by_cases hl:L.length≤12
 rotate_left
 · have q1:decide ((12:Int)<(L.length:Int))=true:=by simp;omega
   ((try simp only [a9,SS,TF3PC,kcall,setRange,repl,isNextM,eConvert,eField,eSlice,eBuild,eBuildSlice,Nat.reduceLT,Nat.reduceEqDiff,Nat.reduceAdd,Nat.reduceMul,Nat.reduceSub,Nat.reduceLeDiff,Nat.reduceBEq,reduceCtorEq,h42,eA,m0,q1,rowsP_length]);(repeat' ((first|apply aE|apply aD|apply aG|apply aF|apply aC|apply aB)<;>intro h<;>simp only [h,SS,TF3PC,kcall,setRange,repl,isNextM,eConvert,eField,eSlice,eBuild,eBuildSlice,Nat.reduceLT,Nat.reduceEqDiff,Nat.reduceAdd,Nat.reduceMul,Nat.reduceSub,Nat.reduceLeDiff,Nat.reduceBEq,reduceCtorEq,h42,eA,m0,q1,rowsP_length])))
   (refine hQ _ _ _ (fU (by first|exact .inl rfl|exact .inr rfl) ?_);simp only [SS,TF3PC,kcall,setRange,repl,isNextM,eConvert,eField,eSlice,eBuild,eBuildSlice,Nat.reduceLT,Nat.reduceEqDiff,Nat.reduceAdd,Nat.reduceMul,Nat.reduceSub,Nat.reduceLeDiff,Nat.reduceBEq,reduceCtorEq])
 have q1:decide ((12:Int)<(L.length:Int))=false:=by simp;omega
 cases hsp:shP p with
 | false=>
   rw [hsp]at h31
   ((try simp only [a9,SS,TF3PC,kcall,setRange,repl,isNextM,eConvert,eField,eSlice,eBuild,eBuildSlice,Nat.reduceLT,Nat.reduceEqDiff,Nat.reduceAdd,Nat.reduceMul,Nat.reduceSub,Nat.reduceLeDiff,Nat.reduceBEq,reduceCtorEq,h42,h31,eA,m0,q1,rowsP_length]);(repeat' ((first|apply aE|apply aD|apply aG|apply aF|apply aC|apply aB)<;>intro h<;>simp only [h,SS,TF3PC,kcall,setRange,repl,isNextM,eConvert,eField,eSlice,eBuild,eBuildSlice,Nat.reduceLT,Nat.reduceEqDiff,Nat.reduceAdd,Nat.reduceMul,Nat.reduceSub,Nat.reduceLeDiff,Nat.reduceBEq,reduceCtorEq,h42,h31,eA,m0,q1,rowsP_length])))
   (refine hQ _ _ _ (fU (by first|exact .inl rfl|exact .inr rfl) ?_);simp only [SS,TF3PC,kcall,setRange,repl,isNextM,eConvert,eField,eSlice,eBuild,eBuildSlice,Nat.reduceLT,Nat.reduceEqDiff,Nat.reduceAdd,Nat.reduceMul,Nat.reduceSub,Nat.reduceLeDiff,Nat.reduceBEq,reduceCtorEq])
 | true=>
 rw [hsp]at h31
 have hall:∀t∈L,okP t∧zJ t=true∧eJ t.m=true:=by
  intro t ht
  simp only [shL,Bool.and_eq_true,List.all_eq_true]at hsh
  simp only [List.all_eq_true,bP,Bool.and_eq_true]at hL
  exact ayY (hsh.2 t ht) (hL t ht).1 (hL t ht).2
 have hpk:okP p∧zJ p=true∧eJ p.m=true:=by
  simp only [bP,Bool.and_eq_true]at hp
  exact ayY hsp hp.1 hp.2
 have hgL:gOK L=true:=avK (by omega) fun t ht=>(hall t ht).1
 have h44:=e44 (L:=L) (by omega) fun t ht=>(hall t ht).2
 have h43:=e43 hgL
 have h22:=e22
 simp only [eSt,aS]at h22
 generalize hG:game L=G at h43
 obtain⟨S0,a0,b0,c0⟩:=G
 dsimp only at h43
 by_cases he:c0=0
 rotate_left
 · have hS0:S0=[]:=by
    have:=gm_bad (L:=L) (by rw [hG];exact he)
    rw [hG]at this;exact this
   subst hS0
   have q2:(c0==0)=false:=by simpa using he
   have q3:(cX []).length=0:=rfl
   ((try simp only [a9,SS,TF3PC,kcall,setRange,repl,isNextM,eConvert,eField,eSlice,eBuild,eBuildSlice,Nat.reduceLT,Nat.reduceEqDiff,Nat.reduceAdd,Nat.reduceMul,Nat.reduceSub,Nat.reduceLeDiff,Nat.reduceBEq,reduceCtorEq,h42,h31,eA,m0,q1,rowsP_length,h44,h43,q2,q3]);(repeat' ((first|apply aE|apply aD|apply aG|apply aF|apply aC|apply aB)<;>intro h<;>simp only [h,SS,TF3PC,kcall,setRange,repl,isNextM,eConvert,eField,eSlice,eBuild,eBuildSlice,Nat.reduceLT,Nat.reduceEqDiff,Nat.reduceAdd,Nat.reduceMul,Nat.reduceSub,Nat.reduceLeDiff,Nat.reduceBEq,reduceCtorEq,h42,h31,eA,m0,q1,rowsP_length,h44,h43,q2,q3])))
   (refine hQ _ _ _ (fU (by first|exact .inl rfl|exact .inr rfl) ?_);simp only [SS,TF3PC,kcall,setRange,repl,isNextM,eConvert,eField,eSlice,eBuild,eBuildSlice,Nat.reduceLT,Nat.reduceEqDiff,Nat.reduceAdd,Nat.reduceMul,Nat.reduceSub,Nat.reduceLeDiff,Nat.reduceBEq,reduceCtorEq])
 subst he
 obtain⟨S,g⟩:=gm_of (L:=L) (by omega) (by rw [hG])
 have hS:S0=S∧a0=0∧b0=0:=by
  have:=hG.symm.trans g.eq
  cases this;exact⟨rfl,rfl,rfl⟩
 obtain⟨rfl,rfl,rfl⟩:=hS
 have q2:((0:Int)==0)=true:=rfl
 have hlS:=g.len
 have n0:=neqS aS
 simp only [eSt,aS]at n0
 have nS:=neqS
 simp only [eSt]at nS
 have r0:(cX S0)[0]? = some [.int .i64 1,.int .i64 0,.int .i64 0,.int .i64 0,.int .i64 0,.int .i64 0,.int .i64 0,.int .i64 0,.int .i64 1,.int .i64 1,.int .i64 0,.int .i64 0,.bool false]:=by
  rw [iU,g.st];rfl
 have q3:IntKind.i64.wrap ((L.length:Int)+1)=((L.length+1:Nat):Int):=by rw [dG]<;>omega
 have q4:((0:Int)<((L.length+1:Nat):Int))=True:=by simp only [eq_iff_iff,iff_true];omega
 ((try simp only [a9,SS,TF3PC,kcall,setRange,repl,isNextM,eConvert,eField,eSlice,eBuild,eBuildSlice,Nat.reduceLT,Nat.reduceEqDiff,Nat.reduceAdd,Nat.reduceMul,Nat.reduceSub,Nat.reduceLeDiff,Nat.reduceBEq,reduceCtorEq,h42,h31,eA,m0,q1,rowsP_length,h44,h43,q2]);(repeat' ((first|apply aE|apply aD|apply aG|apply aF|apply aC|apply aB)<;>intro h<;>simp only [h,SS,TF3PC,kcall,setRange,repl,isNextM,eConvert,eField,eSlice,eBuild,eBuildSlice,Nat.reduceLT,Nat.reduceEqDiff,Nat.reduceAdd,Nat.reduceMul,Nat.reduceSub,Nat.reduceLeDiff,Nat.reduceBEq,reduceCtorEq,h42,h31,eA,m0,q1,rowsP_length,h44,h43,q2])))
 refine b8 (Top.view (View.sub (l2:=[(7,.lsl (cX S0)),(6,.bool false),(4,.ptr 0 0),(0,.lsl (aZ L)),(2,.int .u8 u)]) (by simp [look])) (Top.draw mixed noNG (by kernel_rfl) ?_))
 ((try simp only [a9,SS,TF3PC,kcall,setRange,repl,isNextM,eConvert,eField,eSlice,eBuild,eBuildSlice,Nat.reduceLT,Nat.reduceEqDiff,Nat.reduceAdd,Nat.reduceMul,Nat.reduceSub,Nat.reduceLeDiff,Nat.reduceBEq,reduceCtorEq,rowsS_length,rowsP_length,hlS,r0,q3,q4,h22,n0]);(repeat' ((first|apply aE|apply aD|apply aG|apply aF|apply aC|apply aB)<;>intro h<;>simp only [h,SS,TF3PC,kcall,setRange,repl,isNextM,eConvert,eField,eSlice,eBuild,eBuildSlice,Nat.reduceLT,Nat.reduceEqDiff,Nat.reduceAdd,Nat.reduceMul,Nat.reduceSub,Nat.reduceLeDiff,Nat.reduceBEq,reduceCtorEq,rowsS_length,rowsP_length,hlS,r0,q3,q4,h22,n0])))
 refine⟨by kernel_rfl,?_⟩
 have qu:IntKind.i64.wrap u=u:=by rw [eC]<;>omega
 have z0:(((L.length+1:Nat):Int)=0)=False:=by simp only [eq_iff_iff,iff_false];omega
 obtain⟨k,hk,hkL⟩:∃k:Nat,u.tmod ((L.length+1:Nat):Int)=k∧k≤L.length:=by
  have h1:=Int.tmod_nonneg ((L.length+1:Nat):Int) hu1
  have h2:=Int.tmod_lt_of_pos u (b:=((L.length+1:Nat):Int)) (by omega)
  exact⟨(u.tmod ((L.length+1:Nat):Int)).toNat,by omega,by omega⟩
 have wk:IntKind.i64.wrap (k:Int)=(k:Int):=by rw [eC]<;>omega
 have kle:((k:Int)≤(L.length:Int))=True:=by simp only [eq_iff_iff,iff_true];omega
 have lensP:aV 4 (aZ L)=true:=by
  unfold aV
  simp only [List.all_eq_true,beq_iff_eq]
  intro x hx
  obtain⟨q,_,rfl⟩:=List.mem_map.1 hx
  rfl
 have htake:(aZ L).take k=aZ (L.take k):=by simp only [aZ,List.map_take]
 obtain⟨S1,g1,hS1⟩:=gm_take (by omega) g k hkL
 have hok1:∀t∈L.take k,okP t∧zJ t=true∧eJ t.m=true:=fun t ht=>hall t (List.mem_of_mem_take ht)
 have hlk:(L.take k).length=k:=by rw [List.length_take];omega
 have h44k:=e44 (L:=L.take k) (by omega) fun t ht=>(hok1 t ht).2
 have h43k:=e43 (L:=L.take k) (avK (by omega) fun t ht=>(hok1 t ht).1)
 rw [g1.eq]at h43k
 dsimp only at h43k
 have hlS1:S1.length=k+1:=by rw [g1.len,hlk]
 obtain⟨x,hx⟩:∃x,S0[k]? = some x:=⟨S0[k]'(by omega),List.getElem?_eq_getElem (by omega)⟩
 have rk:(cX S1)[k]? = some [.int .i64 x.inn,.int .i64 x.half,.int .i64 x.outs,.int .i64 x.balls,.int .i64 x.strikes,.int .i64 x.b1,.int .i64 x.b2,.int .i64 x.b3,.int .i64 x.n0,.int .i64 x.n1,.int .i64 x.c0,.int .i64 x.c1,.bool x.over]:=by
  rw [iU,hS1,hx];rfl
 have wk1:IntKind.i64.wrap ((k:Int)+1)=((k+1:Nat):Int):=by rw [dG]<;>omega
 have klt:((k:Int)<((k+1:Nat):Int))=True:=by simp only [eq_iff_iff,iff_true];omega
 ((try simp only [a9,SS,TF3PC,kcall,setRange,repl,isNextM,eConvert,eField,eSlice,eBuild,eBuildSlice,Nat.reduceLT,Nat.reduceEqDiff,Nat.reduceAdd,Nat.reduceMul,Nat.reduceSub,Nat.reduceLeDiff,Nat.reduceBEq,reduceCtorEq,rowsP_length,q3,qu,z0,hk,wk,kle,lensP,htake,h44k,h43k,q2,rowsS_length,hlS1,wk1,klt,rk]);(repeat' ((first|apply aE|apply aD|apply aG|apply aF|apply aC|apply aB)<;>intro h<;>simp only [h,SS,TF3PC,kcall,setRange,repl,isNextM,eConvert,eField,eSlice,eBuild,eBuildSlice,Nat.reduceLT,Nat.reduceEqDiff,Nat.reduceAdd,Nat.reduceMul,Nat.reduceSub,Nat.reduceLeDiff,Nat.reduceBEq,reduceCtorEq,rowsP_length,q3,qu,z0,hk,wk,kle,lensP,htake,h44k,h43k,q2,rowsS_length,hlS1,wk1,klt,rk])))
 refine pF (Top.loop (I:=fun s:{ s:Nat×St // k≤s.1∧s.1≤L.length∧S0[s.1]? = some s.2 }=>(mkF 208 [(17,.int .i64 (s.1.1:Nat)),(16,.ptr 1 0),(7,.lsl (cX S0)),(6,.bool false),(4,.ptr 0 0),(0,.lsl (aZ L))],mkH 2 [(1,some (.row [.int .i64 s.1.2.inn,.int .i64 s.1.2.half,.int .i64 s.1.2.outs,.int .i64 s.1.2.balls,.int .i64 s.1.2.strikes,.int .i64 s.1.2.b1,.int .i64 s.1.2.b2,.int .i64 s.1.2.b3,.int .i64 s.1.2.n0,.int .i64 s.1.2.n1,.int .i64 s.1.2.c0,.int .i64 s.1.2.c1,.bool s.1.2.over] 37 0 0 false)),(0,some (.row [.str p.p,.str p.e,.bool p.l,.lsl (dQ p.m)] 25 0 0 false))] 0 [])) (μ:=fun s=>L.length-s.1.1) ⟨(k,x),Nat.le_refl _,hkL,hx⟩ (View.drop (by simp [look,below]) (by simp [lookG,belowO,below,d7]) (by simp)) ?_)
 rintro⟨⟨i,y⟩,hi1,hi2,hy⟩
 dsimp only at hi1 hi2 hy
 refine bU noNG _ _ _ _ ?_
 dsimp only
 clear rk hx x wk1 klt
 by_cases hlt:i<L.length
 rotate_left
 · obtain rfl:i=L.length:=by omega
   have q5:decide ((L.length:Int)<(L.length:Int))=false:=by simp
   ((try simp only [a9,SS,TF3PC,kcall,setRange,repl,isNextM,eConvert,eField,eSlice,eBuild,eBuildSlice,Nat.reduceLT,Nat.reduceEqDiff,Nat.reduceAdd,Nat.reduceMul,Nat.reduceSub,Nat.reduceLeDiff,Nat.reduceBEq,reduceCtorEq,rowsP_length,q5]);(repeat' ((first|apply aE|apply aD|apply aG|apply aF|apply aC|apply aB)<;>intro h<;>simp only [h,SS,TF3PC,kcall,setRange,repl,isNextM,eConvert,eField,eSlice,eBuild,eBuildSlice,Nat.reduceLT,Nat.reduceEqDiff,Nat.reduceAdd,Nat.reduceMul,Nat.reduceSub,Nat.reduceLeDiff,Nat.reduceBEq,reduceCtorEq,rowsP_length,q5])))
   have b1:((L.length:Int)<((L.length+1:Nat):Int))=True:=by simp only [eq_iff_iff,iff_true];omega
   have ri:(cX S0)[L.length]? = some [.int .i64 y.inn,.int .i64 y.half,.int .i64 y.outs,.int .i64 y.balls,.int .i64 y.strikes,.int .i64 y.b1,.int .i64 y.b2,.int .i64 y.b3,.int .i64 y.n0,.int .i64 y.n1,.int .i64 y.c0,.int .i64 y.c1,.bool y.over]:=by
    rw [iU,hy];rfl
   have h33:=e33 hpk.2.1 hpk.2.2
   have h32:=e32 (s:=y) hpk.1
   obtain⟨z,hz⟩:∃z,z=apS y p:=⟨_,rfl⟩
   rw [←hz]at h32
   generalize hn:apN y p=n at h32
   generalize hE:eE y p=e at h32
   simp only [eSt,r1]at h33 h32
   refine b8 (Top.view (View.sub (l2:=[(16,.ptr 1 0),(7,.lsl (cX S0)),(6,.bool false),(4,.ptr 0 0),(0,.lsl (aZ L))]) (by simp [look])) (Top.draw mixed noNG (by kernel_rfl) ?_))
   ((try simp only [a9,SS,TF3PC,kcall,setRange,repl,isNextM,eConvert,eField,eSlice,eBuild,eBuildSlice,Nat.reduceLT,Nat.reduceEqDiff,Nat.reduceAdd,Nat.reduceMul,Nat.reduceSub,Nat.reduceLeDiff,Nat.reduceBEq,reduceCtorEq,rowsS_length,rowsP_length,hlS,b1,ri,nS]);(repeat' ((first|apply aE|apply aD|apply aG|apply aF|apply aC|apply aB)<;>intro h<;>simp only [h,SS,TF3PC,kcall,setRange,repl,isNextM,eConvert,eField,eSlice,eBuild,eBuildSlice,Nat.reduceLT,Nat.reduceEqDiff,Nat.reduceAdd,Nat.reduceMul,Nat.reduceSub,Nat.reduceLeDiff,Nat.reduceBEq,reduceCtorEq,rowsS_length,rowsP_length,hlS,b1,ri,nS])))
   refine⟨by kernel_rfl,?_⟩
   ((try simp only [a9,SS,TF3PC,kcall,setRange,repl,isNextM,eConvert,eField,eSlice,eBuild,eBuildSlice,Nat.reduceLT,Nat.reduceEqDiff,Nat.reduceAdd,Nat.reduceMul,Nat.reduceSub,Nat.reduceLeDiff,Nat.reduceBEq,reduceCtorEq]);(repeat' ((first|apply aE|apply aD|apply aG|apply aF|apply aC|apply aB)<;>intro h<;>simp only [h,SS,TF3PC,kcall,setRange,repl,isNextM,eConvert,eField,eSlice,eBuild,eBuildSlice,Nat.reduceLT,Nat.reduceEqDiff,Nat.reduceAdd,Nat.reduceMul,Nat.reduceSub,Nat.reduceLeDiff,Nat.reduceBEq,reduceCtorEq])))
   refine b8 (Top.draw mixed noNG (by kernel_rfl) ?_)
   ((try simp only [a9,SS,TF3PC,kcall,setRange,repl,isNextM,eConvert,eField,eSlice,eBuild,eBuildSlice,Nat.reduceLT,Nat.reduceEqDiff,Nat.reduceAdd,Nat.reduceMul,Nat.reduceSub,Nat.reduceLeDiff,Nat.reduceBEq,reduceCtorEq,h33,h32]);(repeat' ((first|apply aE|apply aD|apply aG|apply aF|apply aC|apply aB)<;>intro h<;>simp only [h,SS,TF3PC,kcall,setRange,repl,isNextM,eConvert,eField,eSlice,eBuild,eBuildSlice,Nat.reduceLT,Nat.reduceEqDiff,Nat.reduceAdd,Nat.reduceMul,Nat.reduceSub,Nat.reduceLeDiff,Nat.reduceBEq,reduceCtorEq,h33,h32])))
   refine⟨by kernel_rfl,?_⟩
   ((try simp only [a9,SS,TF3PC,kcall,setRange,repl,isNextM,eConvert,eField,eSlice,eBuild,eBuildSlice,Nat.reduceLT,Nat.reduceEqDiff,Nat.reduceAdd,Nat.reduceMul,Nat.reduceSub,Nat.reduceLeDiff,Nat.reduceBEq,reduceCtorEq]);(repeat' ((first|apply aE|apply aD|apply aG|apply aF|apply aC|apply aB)<;>intro h<;>simp only [h,SS,TF3PC,kcall,setRange,repl,isNextM,eConvert,eField,eSlice,eBuild,eBuildSlice,Nat.reduceLT,Nat.reduceEqDiff,Nat.reduceAdd,Nat.reduceMul,Nat.reduceSub,Nat.reduceLeDiff,Nat.reduceBEq,reduceCtorEq])))
   have hap1:L.length+1≤300:=by omega
   have hXb:∀q∈[((2:Nat),some (cL.row [.int .i64 z.inn,.int .i64 z.half,.int .i64 z.outs,.int .i64 z.balls,.int .i64 z.strikes,.int .i64 z.b1,.int .i64 z.b2,.int .i64 z.b3,.int .i64 z.n0,.int .i64 z.n1,.int .i64 z.c0,.int .i64 z.c1,.bool z.over] 37 0 0 false)),(1,some (.row [.int .i64 y.inn,.int .i64 y.half,.int .i64 y.outs,.int .i64 y.balls,.int .i64 y.strikes,.int .i64 y.b1,.int .i64 y.b2,.int .i64 y.b3,.int .i64 y.n0,.int .i64 y.n1,.int .i64 y.c0,.int .i64 y.c1,.bool y.over] 37 0 0 false)),(0,some (.row [.str p.p,.str p.e,.bool p.l,.lsl (dQ p.m)] 25 0 0 false))],q.1<16000∧q.1<3∧∃o,q.2=some o∧lookG [((2:Nat),some (cL.row [.int .i64 z.inn,.int .i64 z.half,.int .i64 z.outs,.int .i64 z.balls,.int .i64 z.strikes,.int .i64 z.b1,.int .i64 z.b2,.int .i64 z.b3,.int .i64 z.n0,.int .i64 z.n1,.int .i64 z.c0,.int .i64 z.c1,.bool z.over] 37 0 0 false)),(1,some (.row [.int .i64 y.inn,.int .i64 y.half,.int .i64 y.outs,.int .i64 y.balls,.int .i64 y.strikes,.int .i64 y.b1,.int .i64 y.b2,.int .i64 y.b3,.int .i64 y.n0,.int .i64 y.n1,.int .i64 y.c0,.int .i64 y.c1,.bool y.over] 37 0 0 false)),(0,some (.row [.str p.p,.str p.e,.bool p.l,.lsl (dQ p.m)] 25 0 0 false))] q.1=some o∧belowO 3 o=true:=by
    simp [lookG,belowO,below,d7]
   have hall2:∀t∈L++[p],okP t:=by
    intro t ht
    rcases List.mem_append.1 ht with h|h
    · exact(hall t h).1
    · rw [List.mem_singleton]at h;subst h;exact hpk.1
   have h43p:=e43 (L:=L++[p]) (avK (by simp;omega) hall2)
   obtain⟨Sx,ax,hgx,hcase⟩:∃Sx ax,game (L++[p])=(Sx,ax,n,e)∧(e=0∧Sx=S0++[z]∧n=0∨e≠0∧Sx=[]∧ax=L.length):=by
    have h:=gm_next (by omega) g hy p
    by_cases he:eE y p=0
    · rw [if_neg (by simp [he])]at h
      unfold apN at hn
      unfold apS at hz
      rw [if_neg (by simp [he])]at hn hz
      exact⟨S0++[nxt (mvd y p)],0,by rw [h,←hE,←hn,he],.inl ⟨by rw [←hE,he],by rw [hz],hn.symm⟩⟩
    · rw [if_pos he]at h
      unfold apN at hn
      rw [if_pos he]at hn
      exact⟨[],_,by rw [h,hn,hE],.inr ⟨by rw [←hE];exact he,rfl,rfl⟩⟩
   rw [hgx]at h43p
   dsimp only at h43p
   have hrp:aZ (L++[p])=aZ L++[[.str p.p,.str p.e,.bool p.l,.lsl (dQ p.m)]]:=by simp [aZ,sB]
   rw [hrp]at h43p
   have m1:decide (128≤129 % 1024)=true:=by decide
   have g1:decide (64*(L.length+1)≤1000000)=true:=by simp;omega
   have g3:aV 4 [[EVal.str p.p,.str p.e,.bool p.l,.lsl (dQ p.m)]]=true:=rfl
   refine b8 (Top.view (View.trans (View.drop (N:=3) (fl2:=[(23,.int .i64 e),(22,.int .i64 n),(21,.ptr 2 0),(16,.ptr 1 0),(6,.bool false),(4,.ptr 0 0),(0,.lsl (aZ L))]) (l2:=[((2:Nat),some (cL.row [.int .i64 z.inn,.int .i64 z.half,.int .i64 z.outs,.int .i64 z.balls,.int .i64 z.strikes,.int .i64 z.b1,.int .i64 z.b2,.int .i64 z.b3,.int .i64 z.n0,.int .i64 z.n1,.int .i64 z.c0,.int .i64 z.c1,.bool z.over] 37 0 0 false)),(1,some (.row [.int .i64 y.inn,.int .i64 y.half,.int .i64 y.outs,.int .i64 y.balls,.int .i64 y.strikes,.int .i64 y.b1,.int .i64 y.b2,.int .i64 y.b3,.int .i64 y.n0,.int .i64 y.n1,.int .i64 y.c0,.int .i64 y.c1,.bool y.over] 37 0 0 false)),(0,some (.row [.str p.p,.str p.e,.bool p.l,.lsl (dQ p.m)] 25 0 0 false))]) (k2:=[]) (by simp [look,below]) (by simp [lookG,belowO,below,d7]) (by simp)) (View.mode 128 (by decide))) (Top.known (K2:=known KX2) kd_ok (Top.drawM [⟨8,[.lsl (aZ L)],mkH 3 [((2:Nat),some (cL.row [.int .i64 z.inn,.int .i64 z.half,.int .i64 z.outs,.int .i64 z.balls,.int .i64 z.strikes,.int .i64 z.b1,.int .i64 z.b2,.int .i64 z.b3,.int .i64 z.n0,.int .i64 z.n1,.int .i64 z.c0,.int .i64 z.c1,.bool z.over] 37 0 0 false)),(1,some (.row [.int .i64 y.inn,.int .i64 y.half,.int .i64 y.outs,.int .i64 y.balls,.int .i64 y.strikes,.int .i64 y.b1,.int .i64 y.b2,.int .i64 y.b3,.int .i64 y.n0,.int .i64 y.n1,.int .i64 y.c0,.int .i64 y.c1,.bool y.over] 37 0 0 false)),(0,some (.row [.str p.p,.str p.e,.bool p.l,.lsl (dQ p.m)] 25 0 0 false))] 128 [],.gsl 128 (aZ L),mkH 3 [((2:Nat),some (cL.row [.int .i64 z.inn,.int .i64 z.half,.int .i64 z.outs,.int .i64 z.balls,.int .i64 z.strikes,.int .i64 z.b1,.int .i64 z.b2,.int .i64 z.b3,.int .i64 z.n0,.int .i64 z.n1,.int .i64 z.c0,.int .i64 z.c1,.bool z.over] 37 0 0 false)),(1,some (.row [.int .i64 y.inn,.int .i64 y.half,.int .i64 y.outs,.int .i64 y.balls,.int .i64 y.strikes,.int .i64 y.b1,.int .i64 y.b2,.int .i64 y.b3,.int .i64 y.n0,.int .i64 y.n1,.int .i64 y.c0,.int .i64 y.c1,.bool y.over] 37 0 0 false)),(0,some (.row [.str p.p,.str p.e,.bool p.l,.lsl (dQ p.m)] 25 0 0 false))] 129 [(128,some (L.length,25))]⟩] [] mixed noNG (by
    simp only [List.forall_mem_cons]
    exact⟨CallT.known k33_ok (ct44 (fun t ht=>(hall t ht).2) (by omega) hXb),fun _ h=>by cases h⟩) (by kernel_rfl) (by kernel_rfl) ?_)))
   have kg:∀(a:Nat) (b:List (List EVal)),(EVal.gsl a b).kept=false:=fun _ _=>rfl
   have m2:decide (128≤128 % 1024)=true:=by decide
   ((try simp only [a9,SS,TF3PC,kcall,setRange,repl,isNextM,eConvert,eField,eSlice,eBuild,eBuildSlice,Nat.reduceLT,Nat.reduceEqDiff,Nat.reduceAdd,Nat.reduceMul,Nat.reduceSub,Nat.reduceLeDiff,Nat.reduceBEq,reduceCtorEq,WS,WM,↓kcall_miss,h33,m1,m2,g1,g3,kg,lensP,rowsP_length,h43p]);(repeat' ((first|apply aE|apply aD|apply aG|apply aF|apply aC|apply aB)<;>intro h<;>simp only [h,SS,TF3PC,kcall,setRange,repl,isNextM,eConvert,eField,eSlice,eBuild,eBuildSlice,Nat.reduceLT,Nat.reduceEqDiff,Nat.reduceAdd,Nat.reduceMul,Nat.reduceSub,Nat.reduceLeDiff,Nat.reduceBEq,reduceCtorEq,WS,WM,↓kcall_miss,h33,m1,m2,g1,g3,kg,lensP,rowsP_length,h43p])))
   refine⟨by kernel_rfl,?_⟩
   have w2:IntKind.i64.wrap ((L.length:Int)+2)=((L.length+2:Nat):Int):=by rw [eC]<;>omega
   rcases hcase with⟨rfl,rfl,rfl⟩ | ⟨he,rfl,rfl⟩
   · have hov:y.over=false:=(akE (s:=y) (t:=p) hpk.1 hE).on
     have hlx:(cX (S0++[z])).length=L.length+2:=by rw [rowsS_length,List.length_append,hlS];rfl
     have rz:(cX (S0++[z]))[L.length+1]? = some [.int .i64 z.inn,.int .i64 z.half,.int .i64 z.outs,.int .i64 z.balls,.int .i64 z.strikes,.int .i64 z.b1,.int .i64 z.b2,.int .i64 z.b3,.int .i64 z.n0,.int .i64 z.n1,.int .i64 z.c0,.int .i64 z.c1,.bool z.over]:=by
      rw [iU,List.getElem?_append_right (by omega),hlS,Nat.sub_self];rfl
     have b3:(((L.length+1:Nat):Int)<((L.length+2:Nat):Int))=True:=by simp only [eq_iff_iff,iff_true];omega
     refine b8 (Top.view (View.drop (N:=3) (fl2:=[(27,.int .i64 0),(26,.int .i64 0),(25,.int .i64 (ax:Nat)),(24,.lsl (cX (S0++[z]))),(23,.int .i64 0),(22,.int .i64 0),(21,.ptr 2 0),(16,.ptr 1 0),(6,.bool false),(0,.lsl (aZ L))]) (l2:=[((2:Nat),some (cL.row [.int .i64 z.inn,.int .i64 z.half,.int .i64 z.outs,.int .i64 z.balls,.int .i64 z.strikes,.int .i64 z.b1,.int .i64 z.b2,.int .i64 z.b3,.int .i64 z.n0,.int .i64 z.n1,.int .i64 z.c0,.int .i64 z.c1,.bool z.over] 37 0 0 false)),(1,some (.row [.int .i64 y.inn,.int .i64 y.half,.int .i64 y.outs,.int .i64 y.balls,.int .i64 y.strikes,.int .i64 y.b1,.int .i64 y.b2,.int .i64 y.b3,.int .i64 y.n0,.int .i64 y.n1,.int .i64 y.c0,.int .i64 y.c1,.bool y.over] 37 0 0 false))]) (k2:=[]) (by simp [look,below]) (by simp [lookG,belowO,below,d7]) (by simp)) (Top.draw mixed noNG (by kernel_rfl) ?_))
     ((try simp only [a9,SS,TF3PC,kcall,setRange,repl,isNextM,eConvert,eField,eSlice,eBuild,eBuildSlice,Nat.reduceLT,Nat.reduceEqDiff,Nat.reduceAdd,Nat.reduceMul,Nat.reduceSub,Nat.reduceLeDiff,Nat.reduceBEq,reduceCtorEq,q2,rowsP_length,hlx,w2,q3,b3,rz,nS]);(repeat' ((first|apply aE|apply aD|apply aG|apply aF|apply aC|apply aB)<;>intro h<;>simp only [h,SS,TF3PC,kcall,setRange,repl,isNextM,eConvert,eField,eSlice,eBuild,eBuildSlice,Nat.reduceLT,Nat.reduceEqDiff,Nat.reduceAdd,Nat.reduceMul,Nat.reduceSub,Nat.reduceLeDiff,Nat.reduceBEq,reduceCtorEq,q2,rowsP_length,hlx,w2,q3,b3,rz,nS])))
     refine⟨by kernel_rfl,?_⟩
     ((try simp only [a9,SS,TF3PC,kcall,setRange,repl,isNextM,eConvert,eField,eSlice,eBuild,eBuildSlice,Nat.reduceLT,Nat.reduceEqDiff,Nat.reduceAdd,Nat.reduceMul,Nat.reduceSub,Nat.reduceLeDiff,Nat.reduceBEq,reduceCtorEq,hov,eA]);(repeat' ((first|apply aE|apply aD|apply aG|apply aF|apply aC|apply aB)<;>intro h<;>simp only [h,SS,TF3PC,kcall,setRange,repl,isNextM,eConvert,eField,eSlice,eBuild,eBuildSlice,Nat.reduceLT,Nat.reduceEqDiff,Nat.reduceAdd,Nat.reduceMul,Nat.reduceSub,Nat.reduceLeDiff,Nat.reduceBEq,reduceCtorEq,hov,eA])))
     (refine hQ _ _ _ (fU (by first|exact .inl rfl|exact .inr rfl) ?_);simp only [SS,TF3PC,kcall,setRange,repl,isNextM,eConvert,eField,eSlice,eBuild,eBuildSlice,Nat.reduceLT,Nat.reduceEqDiff,Nat.reduceAdd,Nat.reduceMul,Nat.reduceSub,Nat.reduceLeDiff,Nat.reduceBEq,reduceCtorEq])
   · have qe:(e==0)=false:=by simpa using he
     refine b8 (Top.view (View.drop (N:=3) (fl2:=[(27,.int .i64 e),(26,.int .i64 n),(25,.int .i64 (L.length:Nat)),(24,.lsl (cX [])),(23,.int .i64 e),(22,.int .i64 n),(21,.ptr 2 0),(16,.ptr 1 0),(6,.bool false),(0,.lsl (aZ L))]) (l2:=[((2:Nat),some (cL.row [.int .i64 z.inn,.int .i64 z.half,.int .i64 z.outs,.int .i64 z.balls,.int .i64 z.strikes,.int .i64 z.b1,.int .i64 z.b2,.int .i64 z.b3,.int .i64 z.n0,.int .i64 z.n1,.int .i64 z.c0,.int .i64 z.c1,.bool z.over] 37 0 0 false)),(1,some (.row [.int .i64 y.inn,.int .i64 y.half,.int .i64 y.outs,.int .i64 y.balls,.int .i64 y.strikes,.int .i64 y.b1,.int .i64 y.b2,.int .i64 y.b3,.int .i64 y.n0,.int .i64 y.n1,.int .i64 y.c0,.int .i64 y.c1,.bool y.over] 37 0 0 false))]) (k2:=[]) (by simp [look,below]) (by simp [lookG,belowO,below,d7]) (by simp)) (Top.draw mixed noNG (by kernel_rfl) ?_))
     ((try simp only [a9,SS,TF3PC,kcall,setRange,repl,isNextM,eConvert,eField,eSlice,eBuild,eBuildSlice,Nat.reduceLT,Nat.reduceEqDiff,Nat.reduceAdd,Nat.reduceMul,Nat.reduceSub,Nat.reduceLeDiff,Nat.reduceBEq,reduceCtorEq,qe,rowsP_length]);(repeat' ((first|apply aE|apply aD|apply aG|apply aF|apply aC|apply aB)<;>intro h<;>simp only [h,SS,TF3PC,kcall,setRange,repl,isNextM,eConvert,eField,eSlice,eBuild,eBuildSlice,Nat.reduceLT,Nat.reduceEqDiff,Nat.reduceAdd,Nat.reduceMul,Nat.reduceSub,Nat.reduceLeDiff,Nat.reduceBEq,reduceCtorEq,qe,rowsP_length])))
     refine⟨by kernel_rfl,?_⟩
     cases hov:y.over with
     | false=>
       ((try simp only [a9,SS,TF3PC,kcall,setRange,repl,isNextM,eConvert,eField,eSlice,eBuild,eBuildSlice,Nat.reduceLT,Nat.reduceEqDiff,Nat.reduceAdd,Nat.reduceMul,Nat.reduceSub,Nat.reduceLeDiff,Nat.reduceBEq,reduceCtorEq,hov,qe,eA]);(repeat' ((first|apply aE|apply aD|apply aG|apply aF|apply aC|apply aB)<;>intro h<;>simp only [h,SS,TF3PC,kcall,setRange,repl,isNextM,eConvert,eField,eSlice,eBuild,eBuildSlice,Nat.reduceLT,Nat.reduceEqDiff,Nat.reduceAdd,Nat.reduceMul,Nat.reduceSub,Nat.reduceLeDiff,Nat.reduceBEq,reduceCtorEq,hov,qe,eA])))
       (refine hQ _ _ _ (fU (by first|exact .inl rfl|exact .inr rfl) ?_);simp only [SS,TF3PC,kcall,setRange,repl,isNextM,eConvert,eField,eSlice,eBuild,eBuildSlice,Nat.reduceLT,Nat.reduceEqDiff,Nat.reduceAdd,Nat.reduceMul,Nat.reduceSub,Nat.reduceLeDiff,Nat.reduceBEq,reduceCtorEq])
     | true=>
       ((try simp only [a9,SS,TF3PC,kcall,setRange,repl,isNextM,eConvert,eField,eSlice,eBuild,eBuildSlice,Nat.reduceLT,Nat.reduceEqDiff,Nat.reduceAdd,Nat.reduceMul,Nat.reduceSub,Nat.reduceLeDiff,Nat.reduceBEq,reduceCtorEq,hov,qe,eA]);(repeat' ((first|apply aE|apply aD|apply aG|apply aF|apply aC|apply aB)<;>intro h<;>simp only [h,SS,TF3PC,kcall,setRange,repl,isNextM,eConvert,eField,eSlice,eBuild,eBuildSlice,Nat.reduceLT,Nat.reduceEqDiff,Nat.reduceAdd,Nat.reduceMul,Nat.reduceSub,Nat.reduceLeDiff,Nat.reduceBEq,reduceCtorEq,hov,qe,eA])))
       (refine hQ _ _ _ (fU (by first|exact .inl rfl|exact .inr rfl) ?_);simp only [SS,TF3PC,kcall,setRange,repl,isNextM,eConvert,eField,eSlice,eBuild,eBuildSlice,Nat.reduceLT,Nat.reduceEqDiff,Nat.reduceAdd,Nat.reduceMul,Nat.reduceSub,Nat.reduceLeDiff,Nat.reduceBEq,reduceCtorEq])
 obtain⟨t,ht⟩:∃t,L[i]? = some t:=⟨L[i],List.getElem?_eq_getElem hlt⟩
 obtain⟨okt,okl,okc⟩:=hall t (List.mem_of_getElem? ht)
 have q5:decide ((i:Int)<(L.length:Int))=true:=by simp;omega
 have q6:IntKind.i64.wrap ((i:Int)+1)=((i+1:Nat):Int):=by rw [dG]<;>omega
 have b1:((i:Int)<((L.length+1:Nat):Int))=True:=by simp only [eq_iff_iff,iff_true];omega
 have b2:((i:Int)<(L.length:Int))=True:=by simp only [eq_iff_iff,iff_true];omega
 have ri:(cX S0)[i]? = some [.int .i64 y.inn,.int .i64 y.half,.int .i64 y.outs,.int .i64 y.balls,.int .i64 y.strikes,.int .i64 y.b1,.int .i64 y.b2,.int .i64 y.b3,.int .i64 y.n0,.int .i64 y.n1,.int .i64 y.c0,.int .i64 y.c1,.bool y.over]:=by
  rw [iU,hy];rfl
 have pi:(aZ L)[i]? = some [.str t.p,.str t.e,.bool t.l,.lsl (dQ t.m)]:=by rw [rowsP_get,ht];rfl
 obtain⟨y',hy1,hy2,hy3⟩:=g.nx i t ht
 obtain rfl:y'=y:=by rw [hy]at hy1;cases hy1;rfl
 have h33:=e33 okl okc
 have h32:=e32 (s:=y') okt
 have ap1:apS y' t=nxt (mvd y' t):=by unfold apS;rw [if_neg (by simp [hy2])]
 have ap2:apN y' t=0:=by unfold apN;rw [if_neg (by simp [hy2])]
 rw [ap1,ap2,hy2]at h32
 generalize nxt (mvd y' t)=z at h32 hy3
 have r2:sB t=[.str t.p,.str t.e,.bool t.l,.lsl (dQ t.m)]:=rfl
 simp only [eSt,r2]at h33 h32
 ((try simp only [a9,SS,TF3PC,kcall,setRange,repl,isNextM,eConvert,eField,eSlice,eBuild,eBuildSlice,Nat.reduceLT,Nat.reduceEqDiff,Nat.reduceAdd,Nat.reduceMul,Nat.reduceSub,Nat.reduceLeDiff,Nat.reduceBEq,reduceCtorEq,rowsP_length,q5]);(repeat' ((first|apply aE|apply aD|apply aG|apply aF|apply aC|apply aB)<;>intro h<;>simp only [h,SS,TF3PC,kcall,setRange,repl,isNextM,eConvert,eField,eSlice,eBuild,eBuildSlice,Nat.reduceLT,Nat.reduceEqDiff,Nat.reduceAdd,Nat.reduceMul,Nat.reduceSub,Nat.reduceLeDiff,Nat.reduceBEq,reduceCtorEq,rowsP_length,q5])))
 refine b8 (Top.draw mixed noNG (by kernel_rfl) ?_)
 ((try simp only [a9,SS,TF3PC,kcall,setRange,repl,isNextM,eConvert,eField,eSlice,eBuild,eBuildSlice,Nat.reduceLT,Nat.reduceEqDiff,Nat.reduceAdd,Nat.reduceMul,Nat.reduceSub,Nat.reduceLeDiff,Nat.reduceBEq,reduceCtorEq,rowsS_length,hlS,b1,ri,nS]);(repeat' ((first|apply aE|apply aD|apply aG|apply aF|apply aC|apply aB)<;>intro h<;>simp only [h,SS,TF3PC,kcall,setRange,repl,isNextM,eConvert,eField,eSlice,eBuild,eBuildSlice,Nat.reduceLT,Nat.reduceEqDiff,Nat.reduceAdd,Nat.reduceMul,Nat.reduceSub,Nat.reduceLeDiff,Nat.reduceBEq,reduceCtorEq,rowsS_length,hlS,b1,ri,nS])))
 refine⟨by kernel_rfl,?_⟩
 ((try simp only [a9,SS,TF3PC,kcall,setRange,repl,isNextM,eConvert,eField,eSlice,eBuild,eBuildSlice,Nat.reduceLT,Nat.reduceEqDiff,Nat.reduceAdd,Nat.reduceMul,Nat.reduceSub,Nat.reduceLeDiff,Nat.reduceBEq,reduceCtorEq]);(repeat' ((first|apply aE|apply aD|apply aG|apply aF|apply aC|apply aB)<;>intro h<;>simp only [h,SS,TF3PC,kcall,setRange,repl,isNextM,eConvert,eField,eSlice,eBuild,eBuildSlice,Nat.reduceLT,Nat.reduceEqDiff,Nat.reduceAdd,Nat.reduceMul,Nat.reduceSub,Nat.reduceLeDiff,Nat.reduceBEq,reduceCtorEq])))
 refine b8 (Top.draw mixed noNG (by kernel_rfl) ?_)
 ((try simp only [a9,SS,TF3PC,kcall,setRange,repl,isNextM,eConvert,eField,eSlice,eBuild,eBuildSlice,Nat.reduceLT,Nat.reduceEqDiff,Nat.reduceAdd,Nat.reduceMul,Nat.reduceSub,Nat.reduceLeDiff,Nat.reduceBEq,reduceCtorEq,rowsP_length,b2,pi,h33,h32]);(repeat' ((first|apply aE|apply aD|apply aG|apply aF|apply aC|apply aB)<;>intro h<;>simp only [h,SS,TF3PC,kcall,setRange,repl,isNextM,eConvert,eField,eSlice,eBuild,eBuildSlice,Nat.reduceLT,Nat.reduceEqDiff,Nat.reduceAdd,Nat.reduceMul,Nat.reduceSub,Nat.reduceLeDiff,Nat.reduceBEq,reduceCtorEq,rowsP_length,b2,pi,h33,h32])))
 refine⟨by kernel_rfl,?_⟩
 ((try simp only [a9,SS,TF3PC,kcall,setRange,repl,isNextM,eConvert,eField,eSlice,eBuild,eBuildSlice,Nat.reduceLT,Nat.reduceEqDiff,Nat.reduceAdd,Nat.reduceMul,Nat.reduceSub,Nat.reduceLeDiff,Nat.reduceBEq,reduceCtorEq,q2,q6]);(repeat' ((first|apply aE|apply aD|apply aG|apply aF|apply aC|apply aB)<;>intro h<;>simp only [h,SS,TF3PC,kcall,setRange,repl,isNextM,eConvert,eField,eSlice,eBuild,eBuildSlice,Nat.reduceLT,Nat.reduceEqDiff,Nat.reduceAdd,Nat.reduceMul,Nat.reduceSub,Nat.reduceLeDiff,Nat.reduceBEq,reduceCtorEq,q2,q6])))
 exact⟨⟨(i+1,z),by omega,hlt,hy3⟩,by show L.length-(i+1)<L.length-i;omega,View.drop (by simp [look,below]) (by simp [lookG,belowO,below,d7]) (by simp)⟩
noncomputable def Kq3:Con Tryz.prog gT:=Con.of 3 Aq3 cB Sq3 fn3
theorem law11 (l:List Pl) (p:Pl) (u:Int) (hl:∀t∈l,aW t.p=true∧aW t.e=true) (hp:aW p.p=true) (he:aW p.e=true) (hu:0≤u∧u<256):Sq3 (l,p,u,())=some true:=by
 unfold Sq3
 rw [if_pos]
 refine⟨?_,?_,hu.1,hu.2⟩
 · simp only [List.all_eq_true,bP,Bool.and_eq_true]
   exact fun t ht=>hl t ht
 · simp only [bP,Bool.and_eq_true]
   exact⟨hp,he⟩
end Go.Ev
