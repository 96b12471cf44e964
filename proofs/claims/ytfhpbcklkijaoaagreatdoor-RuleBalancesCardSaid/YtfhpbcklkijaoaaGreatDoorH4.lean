import Derived.Test.YtfhpbcklkijaoaaGreatDoorH3
set_option linter.unusedSimpArgs false
set_option linter.unusedVariables false
namespace Go.Ev
open Go.RowKit Go.Proofs
set_option linter.defProp false
def TF10H4:=Ai (Ai (Ai (Ai (Ai (Ai (@Tryz.underlying3) (Ai (@sz3) (@info3))) (Ai (@I3s) (Ai (@I3b) (@zero3)))) (Ai (Ai (@grow3) (Ai (@Tryz.underlying4) (@sz4))) (Ai (@info4) (Ai (@I4s) (@I4b))))) (Ai (Ai (Ai (@zero4) (Ai (@grow4) (@Tryz.underlying9))) (Ai (@sz9) (Ai (@info9) (@I9s)))) (Ai (Ai (@I9b) (Ai (@zero9) (@grow9))) (Ai (@Tryz.underlying22) (Ai (@sz22) (@info22)))))) (Ai (Ai (Ai (Ai (@I22s) (Ai (@I22b) (@zero22))) (Ai (@grow22) (Ai (@Tryz.underlying25) (@sz25)))) (Ai (Ai (@info25) (Ai (@I25s) (@I25b))) (Ai (@zero25) (Ai (@grow25) (@Tryz.underlying26))))) (Ai (Ai (Ai (@sz26) (Ai (@info26) (@I26s))) (Ai (@I26b) (Ai (@zero26) (@grow26)))) (Ai (Ai (@Tryz.underlying34) (Ai (@sz34) (@info34))) (Ai (@I34s) (Ai (@I34b) (@zero34))))))) (Ai (Ai (Ai (Ai (Ai (@grow34) (Ai (@Tryz.underlying39) (@sz39))) (Ai (@info39) (Ai (@I39s) (@I39b)))) (Ai (Ai (@zero39) (Ai (@grow39) (@Tryz.underlying43))) (Ai (@sz43) (Ai (@fok43) (@info43))))) (Ai (Ai (Ai (@I43s) (Ai (@I43b) (@zero43))) (Ai (@grow43) (Ai (@Tryz.underlying44) (@sz44)))) (Ai (Ai (@info44) (Ai (@I44s) (@I44b))) (Ai (@zero44) (Ai (@grow44) (@Tryz.underlying46)))))) (Ai (Ai (Ai (Ai (@sz46) (Ai (@fok46) (@info46))) (Ai (@I46s) (Ai (@I46b) (@zero46)))) (Ai (Ai (@grow46) (Ai (@Tryz.underlying57) (@sz57))) (Ai (@info57) (Ai (@I57s) (@I57b))))) (Ai (Ai (Ai (@zero57) (Ai (@grow57) (@Tryz.underlying76))) (Ai (@sz76) (Ai (@fok76) (@info76)))) (Ai (Ai (@I76s) (Ai (@I76b) (@zero76))) (Ai (@grow76) (Ai (@call6) (@Tryz.results10)))))))
set_option maxRecDepth 20000
set_option maxHeartbeats 8000000
structure P2 where
 a:Int
 b:Int
def p20:P2:=⟨0,0⟩
def rP2:Row P2:=Row.iso (Row.cons cI (Row.cons cI Row.nil)) (fun x=>⟨x.1,x.2.1⟩) (fun y=>(y.a,y.b,())) (fun _=>rfl) (fun _=>rfl)
def eP2 (h:P2):List EVal:=[.int .i64 h.a,.int .i64 h.b]
def vA (l:List P2):List (List EVal):=l.map eP2
def jU (l:List P2):List EVal:=(vA l).flatten
theorem vP2_c (h:P2):V.cs (rP2.v h)=eP2 h:=by
 show V.cs [V.int .i64 h.a,V.int .i64 h.b]=_
 simp only [V.cs,V.c,eP2]
theorem vP2s_c (l:List P2):((Cod.list p20 rP2).v l).c=.lsl (vA l):=by
 have h1:(V.el (l.map rP2.v)).c=((Cod.list p20 rP2).v l).c:=aY
 refine h1.symm.trans ?_
 rw [V.c,V.css_map,List.map_map,vA]
 exact congrArg EVal.lsl (List.map_congr_left fun p _=>vP2_c p)
theorem a7 (q:P2) (l:List P2):jU (q::l)=eP2 q++jU l:=by simp [jU,vA]
theorem cellQ_length (l:List P2):(jU l).length=l.length*2:=by
 induction l with
 | nil=>rfl
 | cons q l ih=>rw [a7,List.length_append,ih,List.length_cons];show 2+_=_;omega
theorem aq6 (l:List P2):keepL (jU l)=some (jU l):=by
 induction l with
 | nil=>rfl
 | cons q l ih=>
   rw [a7]
   exact dW (rfl:keepL (eP2 q)=some (eP2 q)) ih
theorem aqu (l:List P2):chunk 2 l.length (jU l)=vA l:=by
 induction l with
 | nil=>rfl
 | cons q l ih=>
   rw [a7]
   show(eP2 q++jU l).take 2::chunk 2 l.length ((eP2 q++jU l).drop 2)=_
   rw [List.take_left' (l₁:=eP2 q) (i:=2) rfl,List.drop_left' (l₁:=eP2 q) (i:=2) rfl,ih];rfl
theorem akb (n:Nat):repl [EVal.int .i64 0,.int .i64 0] n=jU (List.replicate n p20):=by
 induction n with
 | zero=>rfl
 | succ n ih=>rw [List.replicate_succ,a7,←ih];rfl
theorem cellQ_a {l:List P2}{k:Nat}{q:P2}(h:l[k]? = some q) (x:Int):setRange (jU l) (k*2) [.int .i64 x]=jU (l.set k ⟨x,q.b⟩):=by
 unfold setRange
 induction l generalizing k with
 | nil=>cases h
 | cons y l ih=>
   cases k with
   | zero=>
     simp only [List.getElem?_cons_zero,Oi]at h
     subst h
     rw [List.set_cons_zero,a7,a7];rfl
   | succ k=>
     simp only [List.getElem?_cons_succ]at h
     rw [List.set_cons_succ,a7,a7,←ih h]
     have e:(k+1)*2=(eP2 y).length+k*2:=by show _=2+_;omega
     rw [e,Nat.add_assoc,List.take_length_add_append,List.drop_length_add_append,List.append_assoc,List.append_assoc,List.append_assoc]
theorem cellQ_b {l:List P2}{k:Nat}{q:P2}(h:l[k]? = some q) (x:Int):setRange (jU l) (k*2+1) [.int .i64 x]=jU (l.set k ⟨q.a,x⟩):=by
 unfold setRange
 induction l generalizing k with
 | nil=>cases h
 | cons y l ih=>
   cases k with
   | zero=>
     simp only [List.getElem?_cons_zero,Oi]at h
     subst h
     rw [List.set_cons_zero,a7,a7];rfl
   | succ k=>
     simp only [List.getElem?_cons_succ]at h
     rw [List.set_cons_succ,a7,a7,←ih h]
     have e:(k+1)*2+1=(eP2 y).length+(k*2+1):=by show _=2+_;omega
     rw [e,Nat.add_assoc,List.take_length_add_append,List.drop_length_add_append,List.append_assoc,List.append_assoc,List.append_assoc]
def qN (c:List P2) (h:Hf):List P2:=c.set (h.inn-1).toNat (if h.side=0 then⟨h.runs,(c.getD (h.inn-1).toNat p20).b⟩else⟨(c.getD (h.inn-1).toNat p20).a,h.runs⟩)
theorem putQ_length (c:List P2) (h:Hf):(qN c h).length=c.length:=by unfold qN;rw [List.length_set]
theorem fV (W:List Hf) (c:List P2):(W.foldl qN c).length=c.length:=by
 induction W generalizing c with
 | nil=>rfl
 | cons h W ih=>rw [List.foldl_cons,ih,putQ_length]
def vK (l:List Hf):List P2:=l.foldl qN (List.replicate (l.getLastD hf0).inn.toNat p20)
def okH (l:List Hf):Bool:=decide ((l.getLastD hf0).inn≤1000)&&(decide (l.length≤1000)&&l.all fun h=>decide (1≤h.inn)&&(decide (h.inn≤(l.getLastD hf0).inn)&&(h.side==0||h.side==1)))
noncomputable def lin (L:List Pl):List P2×Int:=if(halv L).2=0 then(vK (halv L).1,0)else([],(halv L).2)
abbrev cG49:Cod (List P2×Int×Unit):=Cod.tup (Row.cons (Cod.list p20 rP2) (Row.cons cI Row.nil))
def Ag49:Row (List Pl×Unit):=Row.cons (Cod.list pl0 rPl) Row.nil
noncomputable def Sg49 (x:List Pl×Unit):Option (List P2×Int×Unit):=if gOK x.1=true∧okH (halv x.1).1=true then some ((lin x.1).1,(lin x.1).2,())else none
theorem c49 (l:List P2) (a:Int):(cG49.v (l,a,())).c=.tup [.lsl (vA l),.int .i64 a]:=by
 show(V.tup [(Cod.list p20 rP2).v l,V.int .i64 a]).c=_
 simp only [V.c,V.cs,vP2s_c]
noncomputable def F48:List EVal→Option EVal:=fOf Ag48 cG48 ayw
theorem e48 {L:List Pl}(hg:gOK L=true):F48 [.lsl (kS L)]=some (.tup [.lsl (gF (halv L).1),.int .i64 (halv L).2]):=by
 have e:V.cs (Ag48.v (L,()))=[.lsl (kS L)]:=a43 L
 rw [←e]
 unfold F48 fOf
 rw [Ag48.rt,Option.bind_some]
 have:ayw (L,())=some ((halv L).1,(halv L).2,()):=by unfold ayw;rw [if_pos hg]
 rw [this]
 show some ((cG48.v ((halv L).1,(halv L).2,())).c)=_
 rw [c48]
theorem fn49:FnT 10 (fOf Ag49 cG49 Sg49):=by
 refine Fn.intro mixed noNG Tryz.func10 rfl [(6,F48)] (by simp only [List.forall_mem_cons];exact⟨fn48,fun _ h=>by cases h⟩) ?_
 intro args v hF
 obtain⟨⟨L,⟨⟩⟩,r,rfl,hs,rfl⟩:=jI hF
 unfold Sg49 at hs
 split at hs
 rotate_left
 · cases hs
 rename_i hg
 cases hs
 obtain⟨hg,hh⟩:=hg
 dsimp only at hg hh
 have h48:=e48 hg
 have a49:V.cs (Ag49.v (L,()))=[.lsl (kS L)]:=a43 L
 rw [a49,c49]
 intro Q hV
 have hQ:=Viewed.of hV
 clear hF
 refine Top.view (View.start (n:=48) rfl (by simp)) (aT noNG _ _ _ _ ?_)
 unfold lin at hQ hV
 generalize (halv L).1=hs at *
 generalize (halv L).2=e at *
 by_cases he:e=0
 rotate_left
 · have z5:(e==0)=false:=by simpa using he
   rw [if_neg he]at hQ
   ((try simp only [aM,SS,TF10H4,kcall,setRange,repl,isNextM,eConvert,eField,eSlice,eBuild,eBuildSlice,Nat.reduceLT,Nat.reduceEqDiff,Nat.reduceAdd,Nat.reduceMul,Nat.reduceSub,Nat.reduceLeDiff,Nat.reduceBEq,reduceCtorEq,h48,z5]);(repeat' ((first|apply wpStep_not|apply wpStep_sym|apply wpCond_not|apply wpCond_sym|apply wpDStep_not|apply wpDStep_sym)<;>intro h<;>simp only [h,SS,TF10H4,kcall,setRange,repl,isNextM,eConvert,eField,eSlice,eBuild,eBuildSlice,Nat.reduceLT,Nat.reduceEqDiff,Nat.reduceAdd,Nat.reduceMul,Nat.reduceSub,Nat.reduceLeDiff,Nat.reduceBEq,reduceCtorEq,h48,z5])))
   (refine hQ _ _ _ (dS (by first|exact .inl rfl|exact .inr rfl) ?_);simp only [SS,TF10H4,kcall,setRange,repl,isNextM,eConvert,eField,eSlice,eBuild,eBuildSlice,Nat.reduceLT,Nat.reduceEqDiff,Nat.reduceAdd,Nat.reduceMul,Nat.reduceSub,Nat.reduceLeDiff,Nat.reduceBEq,reduceCtorEq])
   rfl
 subst he
 have z5:((0:Int)==0)=true:=rfl
 rw [if_pos rfl]at hQ hV
 rcases List.eq_nil_or_concat hs with rfl|⟨hi,q,rfl⟩
 · have z6:(((gF []).length:Int)==0)=true:=rfl
   ((try simp only [aM,SS,TF10H4,kcall,setRange,repl,isNextM,eConvert,eField,eSlice,eBuild,eBuildSlice,Nat.reduceLT,Nat.reduceEqDiff,Nat.reduceAdd,Nat.reduceMul,Nat.reduceSub,Nat.reduceLeDiff,Nat.reduceBEq,reduceCtorEq,h48,z5,z6]);(repeat' ((first|apply wpStep_not|apply wpStep_sym|apply wpCond_not|apply wpCond_sym|apply wpDStep_not|apply wpDStep_sym)<;>intro h<;>simp only [h,SS,TF10H4,kcall,setRange,repl,isNextM,eConvert,eField,eSlice,eBuild,eBuildSlice,Nat.reduceLT,Nat.reduceEqDiff,Nat.reduceAdd,Nat.reduceMul,Nat.reduceSub,Nat.reduceLeDiff,Nat.reduceBEq,reduceCtorEq,h48,z5,z6])))
   (refine hQ _ _ _ (dS (by first|exact .inl rfl|exact .inr rfl) ?_);simp only [SS,TF10H4,kcall,setRange,repl,isNextM,eConvert,eField,eSlice,eBuild,eBuildSlice,Nat.reduceLT,Nat.reduceEqDiff,Nat.reduceAdd,Nat.reduceMul,Nat.reduceSub,Nat.reduceLeDiff,Nat.reduceBEq,reduceCtorEq])
   rfl
 rw [List.concat_eq_append]at *
 have hl:(hi++[q]).getLastD hf0=q:=by simp
 have hq:(hi++[q])[hi.length]? = some q:=by simp
 unfold okH at hh
 rw [hl]at hh
 simp only [Bool.and_eq_true,decide_eq_true_eq,List.all_eq_true,Bool.or_eq_true,beq_iff_eq]at hh
 obtain⟨b1,b2,b3⟩:=hh
 obtain⟨q1,q2,q3⟩:=b3 q (by simp)
 obtain⟨n,hn⟩:∃n:Nat,q.inn=n:=⟨q.inn.toNat,by omega⟩
 have hlq:vK (hi++[q])=(hi++[q]).foldl qN (List.replicate n p20):=by unfold vK;rw [hl,hn];rfl
 rw [hlq]at hQ hV
 generalize hW:hi++[q]=W at *
 have hWl:W.length=hi.length+1:=by rw [←hW];simp
 have z6:((W.length:Int)==0)=false:=beq_eq_false_iff_ne.2 (by omega)
 have z7:IntKind.i64.wrap ((W.length:Int)-1)=(hi.length:Int):=by rw [aS (by omega) (by omega)];omega
 have b4:((hi.length:Int)<(W.length:Int))=True:=by simp only [eq_iff_iff,iff_true];omega
 have c0:(gF W)[hi.length]? = some (eHf q):=by simp only [gF,List.getElem?_map,hq,Option.map_some]
 have mk0:(0≤(n:Int))=True:=by simp
 have mk1:((n:Int)<100000)=True:=by simp only [eq_iff_iff,iff_true];omega
 have mk2:(Tryz.prog.bytesOf 34<1000)=True:=by rw [show Tryz.prog.bytesOf 34=16 by kernel_rfl];simp
 have e2:eHf q=[.int .i64 q.inn,.int .i64 q.side,.int .i64 q.frm,.int .i64 q.to,.int .i64 q.runs,.int .i64 q.turns,.int .i64 q.outs,.int .i64 q.left]:=rfl
 ((try simp only [aM,SS,TF10H4,kcall,setRange,isNextM,eConvert,eField,eSlice,eBuild,eBuildSlice,Nat.reduceLT,Nat.reduceEqDiff,Nat.reduceAdd,Nat.reduceMul,Nat.reduceSub,Nat.reduceLeDiff,Nat.reduceBEq,reduceCtorEq,h48,z5,z6,z7,b4,c0,e2,hn,mk1,mk2,rowsH_length]);(repeat' ((first|apply wpStep_not|apply wpStep_sym|apply wpCond_not|apply wpCond_sym|apply wpDStep_not|apply wpDStep_sym)<;>intro h<;>simp only [h,SS,TF10H4,kcall,setRange,isNextM,eConvert,eField,eSlice,eBuild,eBuildSlice,Nat.reduceLT,Nat.reduceEqDiff,Nat.reduceAdd,Nat.reduceMul,Nat.reduceSub,Nat.reduceLeDiff,Nat.reduceBEq,reduceCtorEq,h48,z5,z6,z7,b4,c0,e2,hn,mk1,mk2,rowsH_length])))
 refine pX (Top.loop (I:=fun s:{ x:Nat×Nat×List (Nat×Option bL) // x.1≤W.length∧1≤x.2.1∧x.2.1≤1+x.1∧lookG x.2.2 0=some (.row (jU ((W.take x.1).foldl qN (List.replicate n p20))) 34 0 0 false) }=>(mkF 48 [(32,.int .i64 (s.1.1:Nat)),(31,.int .i64 (W.length:Nat)),(30,.lsl (gF W)),(6,.slice 0 0 n (.exact n))],mkH s.1.2.1 s.1.2.2 0 [])) (μ:=fun s=>W.length-s.1.1) ⟨(0,1,_),by simp,by simp,by simp,by simp only [lookG,if_true];rw [akb];rfl⟩ (View.sub (by simp [look])) ?_)
 rintro⟨⟨i,N,l⟩,hi,n1,n2,hown⟩
 dsimp only at hi n1 n2 hown
 refine aT noNG _ _ _ _ ?_
 dsimp only
 by_cases hlt:i<W.length
 rotate_left
 · obtain rfl:i=W.length:=by omega
   rw [List.take_length]at hown
   have q2:decide ((W.length:Int)<(W.length:Int))=false:=by simp
   ((try simp only [aM,SS,TF10H4,kcall,setRange,repl,isNextM,eConvert,eField,eSlice,eBuild,eBuildSlice,Nat.reduceLT,Nat.reduceEqDiff,Nat.reduceAdd,Nat.reduceMul,Nat.reduceSub,Nat.reduceLeDiff,Nat.reduceBEq,reduceCtorEq,q2]);(repeat' ((first|apply wpStep_not|apply wpStep_sym|apply wpCond_not|apply wpCond_sym|apply wpDStep_not|apply wpDStep_sym)<;>intro h<;>simp only [h,SS,TF10H4,kcall,setRange,repl,isNextM,eConvert,eField,eSlice,eBuild,eBuildSlice,Nat.reduceLT,Nat.reduceEqDiff,Nat.reduceAdd,Nat.reduceMul,Nat.reduceSub,Nat.reduceLeDiff,Nat.reduceBEq,reduceCtorEq,q2])))
   generalize hG:W.foldl qN (List.replicate n p20)=G at *
   have hGl:G.length=n:=by
    rw [←hG,fV,List.length_replicate]
   have hend:Ends Tryz.prog gT Tryz.f10 (.tup [.lsl (vA G),.int .i64 0]) .ret (mkF 48 [(3,.int .i64 0),(2,.lsl (vA G))]) (mkH N [] 0 []):=by
    refine dS (.inl rfl) ?_
    simp only [SS,TF10H4,kcall,setRange,repl,isNextM,eConvert,eField,eSlice,eBuild,eBuildSlice,Nat.reduceLT,Nat.reduceEqDiff,Nat.reduceAdd,Nat.reduceMul,Nat.reduceSub,Nat.reduceLeDiff,Nat.reduceBEq,reduceCtorEq]
   refine hV _ _ _ ⟨_,_,View.fz (sz:=2) (len:=n) (fl2:=[(3,.int .i64 0),(2,.lsl (vA G))]) (l2:=[]) (k2:=[]) 0 (by omega) hown (aq6 _) (by rw [cellQ_length,hGl]) ?_ (by simp) (by simp),hend⟩
   rw [←hGl,aqu]
   intro p hp
   simp only [List.mem_cons,List.not_mem_nil,or_false]at hp
   rcases hp with rfl|rfl
   · exact⟨by simp,_,rfl,.inl rfl⟩
   · exact⟨by simp,_,rfl,.inr ⟨.exact _,rfl,by simp [capOK],rfl⟩⟩
 obtain⟨t,ht⟩:∃t,W[i]? = some t:=⟨W[i],List.getElem?_eq_getElem hlt⟩
 obtain⟨t1,t2,t3⟩:=b3 t (List.mem_of_getElem? ht)
 have q2:decide ((i:Int)<(W.length:Int))=true:=by simp;omega
 have q3:IntKind.i64.wrap ((i:Int)+1)=((i+1:Nat):Int):=by rw [eB]<;>omega
 have hN0:N<16000:=by omega
 have r0:(gF W)[i]? = some (eHf t):=by simp only [gF,List.getElem?_map,ht,Option.map_some]
 have r1:eHf t=[.int .i64 t.inn,.int .i64 t.side,.int .i64 t.frm,.int .i64 t.to,.int .i64 t.runs,.int .i64 t.turns,.int .i64 t.outs,.int .i64 t.left]:=rfl
 obtain⟨j,hj⟩:∃j:Nat,t.inn=j+1:=⟨(t.inn-1).toNat,by omega⟩
 have q4:IntKind.i64.wrap (((j:Int)+1)-1)=(j:Int):=by rw [aS (by omega) (by omega)];omega
 have jn:j<n:=by omega
 have b5:((j:Int)<(n:Int))=True:=by simp only [eq_iff_iff,iff_true];omega
 have n0:(N=0)=False:=by simp only [eq_iff_iff,iff_false];omega
 have n3:(0=N)=False:=by simp only [eq_iff_iff,iff_false];omega
 have htk:W.take (i+1)=W.take i++[t]:=by rw [List.take_add_one,ht];rfl
 have hfold:(W.take (i+1)).foldl qN (List.replicate n p20)=qN ((W.take i).foldl qN (List.replicate n p20)) t:=by rw [htk,List.foldl_append];rfl
 have hGl:((W.take i).foldl qN (List.replicate n p20)).length=n:=by
  rw [fV,List.length_replicate]
 obtain⟨G,hG⟩:∃G,G=(W.take i).foldl qN (List.replicate n p20):=⟨_,rfl⟩
 rw [←hG]at hown hfold hGl
 obtain⟨g,hg2⟩:∃g,G[j]? = some g:=⟨G[j]'(by omega),List.getElem?_eq_getElem (by omega)⟩
 have hj2:(t.inn-1).toNat=j:=by omega
 have hgd:G.getD j p20=g:=by rw [List.getD_eq_getElem?_getD,hg2];rfl
 have sa:=cellQ_a hg2 t.runs
 have sb:=cellQ_b hg2 t.runs
 have d0:((0:Int)<((2:Nat):Int))=True:=by simp
 have d1:((1:Int)<((2:Nat):Int))=True:=by simp
 have d2:((0:Int)≤1)=True:=by simp
 have d3:Int.toNat 1=1:=rfl
 have b6:(j*2+0+1≤n*2)=True:=by simp only [eq_iff_iff,iff_true];omega
 have b7:(j*2+1+1≤n*2)=True:=by simp only [eq_iff_iff,iff_true];omega
 have sa':setRange (jU G) (j*2+0) [.int .i64 t.runs]=jU (G.set j ⟨t.runs,g.b⟩):=sa
 ((try simp only [aM,SS,TF10H4,kcall,setRange,repl,isNextM,eConvert,eField,eSlice,eBuild,eBuildSlice,Nat.reduceLT,Nat.reduceEqDiff,Nat.reduceAdd,Nat.reduceMul,Nat.reduceSub,Nat.reduceLeDiff,Nat.reduceBEq,reduceCtorEq,r0,q2,hN0,r1,n0,n3,rowsH_length]);(repeat' ((first|apply wpStep_not|apply wpStep_sym|apply wpCond_not|apply wpCond_sym|apply wpDStep_not|apply wpDStep_sym)<;>intro h<;>simp only [h,SS,TF10H4,kcall,setRange,repl,isNextM,eConvert,eField,eSlice,eBuild,eBuildSlice,Nat.reduceLT,Nat.reduceEqDiff,Nat.reduceAdd,Nat.reduceMul,Nat.reduceSub,Nat.reduceLeDiff,Nat.reduceBEq,reduceCtorEq,r0,q2,hN0,r1,n0,n3,rowsH_length])))
 refine bN (Top.draw mixed noNG (by kernel_rfl) ?_)
 rcases t3 with t3|t3
 · have hp:qN G t=G.set j ⟨t.runs,g.b⟩:=by unfold qN;rw [if_pos t3,hj2,hgd]
   rw [hp]at hfold
   rw [t3,hj]
   ((try simp only [aM,SS,TF10H4,kcall,repl,isNextM,eConvert,eField,eSlice,eBuild,eBuildSlice,Nat.reduceLT,Nat.reduceEqDiff,Nat.reduceAdd,Nat.reduceMul,Nat.reduceSub,Nat.reduceLeDiff,Nat.reduceBEq,reduceCtorEq,hN0,n0,n3,hown,q4,b5,cellQ_length,hGl,↓sa',q3,d0,d1,b6,b7]);(repeat' ((first|apply wpStep_not|apply wpStep_sym|apply wpCond_not|apply wpCond_sym|apply wpDStep_not|apply wpDStep_sym)<;>intro h<;>simp only [h,SS,TF10H4,kcall,repl,isNextM,eConvert,eField,eSlice,eBuild,eBuildSlice,Nat.reduceLT,Nat.reduceEqDiff,Nat.reduceAdd,Nat.reduceMul,Nat.reduceSub,Nat.reduceLeDiff,Nat.reduceBEq,reduceCtorEq,hN0,n0,n3,hown,q4,b5,cellQ_length,hGl,↓sa',q3,d0,d1,b6,b7])))
   refine⟨by kernel_rfl,?_⟩
   ((try simp only [aM,SS,TF10H4,kcall,setRange,repl,isNextM,eConvert,eField,eSlice,eBuild,eBuildSlice,Nat.reduceLT,Nat.reduceEqDiff,Nat.reduceAdd,Nat.reduceMul,Nat.reduceSub,Nat.reduceLeDiff,Nat.reduceBEq,reduceCtorEq,q3]);(repeat' ((first|apply wpStep_not|apply wpStep_sym|apply wpCond_not|apply wpCond_sym|apply wpDStep_not|apply wpDStep_sym)<;>intro h<;>simp only [h,SS,TF10H4,kcall,setRange,repl,isNextM,eConvert,eField,eSlice,eBuild,eBuildSlice,Nat.reduceLT,Nat.reduceEqDiff,Nat.reduceAdd,Nat.reduceMul,Nat.reduceSub,Nat.reduceLeDiff,Nat.reduceBEq,reduceCtorEq,q3])))
   exact⟨⟨(i+1,N+1,_),hlt,by show 1≤N+1;omega,by show N+1≤1+(i+1);omega,by simp only [lookG,if_true];rw [hfold]⟩,by show W.length-(i+1)<W.length-i;omega,View.sub (by simp [look])⟩
 · have hp:qN G t=G.set j ⟨g.a,t.runs⟩:=by unfold qN;rw [if_neg (by omega),hj2,hgd]
   rw [hp]at hfold
   rw [t3,hj]
   ((try simp only [aM,SS,TF10H4,kcall,repl,isNextM,eConvert,eField,eSlice,eBuild,eBuildSlice,Nat.reduceLT,Nat.reduceEqDiff,Nat.reduceAdd,Nat.reduceMul,Nat.reduceSub,Nat.reduceLeDiff,Nat.reduceBEq,reduceCtorEq,hN0,n0,n3,hown,q4,b5,cellQ_length,hGl,↓sb,q3,d0,d1,d2,d3,b6,b7]);(repeat' ((first|apply wpStep_not|apply wpStep_sym|apply wpCond_not|apply wpCond_sym|apply wpDStep_not|apply wpDStep_sym)<;>intro h<;>simp only [h,SS,TF10H4,kcall,repl,isNextM,eConvert,eField,eSlice,eBuild,eBuildSlice,Nat.reduceLT,Nat.reduceEqDiff,Nat.reduceAdd,Nat.reduceMul,Nat.reduceSub,Nat.reduceLeDiff,Nat.reduceBEq,reduceCtorEq,hN0,n0,n3,hown,q4,b5,cellQ_length,hGl,↓sb,q3,d0,d1,d2,d3,b6,b7])))
   refine⟨by kernel_rfl,?_⟩
   ((try simp only [aM,SS,TF10H4,kcall,setRange,repl,isNextM,eConvert,eField,eSlice,eBuild,eBuildSlice,Nat.reduceLT,Nat.reduceEqDiff,Nat.reduceAdd,Nat.reduceMul,Nat.reduceSub,Nat.reduceLeDiff,Nat.reduceBEq,reduceCtorEq,q3]);(repeat' ((first|apply wpStep_not|apply wpStep_sym|apply wpCond_not|apply wpCond_sym|apply wpDStep_not|apply wpDStep_sym)<;>intro h<;>simp only [h,SS,TF10H4,kcall,setRange,repl,isNextM,eConvert,eField,eSlice,eBuild,eBuildSlice,Nat.reduceLT,Nat.reduceEqDiff,Nat.reduceAdd,Nat.reduceMul,Nat.reduceSub,Nat.reduceLeDiff,Nat.reduceBEq,reduceCtorEq,q3])))
   exact⟨⟨(i+1,N+1,_),hlt,by show 1≤N+1;omega,by show N+1≤1+(i+1);omega,by simp only [lookG,if_true];rw [hfold]⟩,by show W.length-(i+1)<W.length-i;omega,View.sub (by simp [look])⟩
noncomputable def Kg49:Con Tryz.prog gT:=Con.of 10 Ag49 cG49 Sg49 fn49
end Go.Ev
