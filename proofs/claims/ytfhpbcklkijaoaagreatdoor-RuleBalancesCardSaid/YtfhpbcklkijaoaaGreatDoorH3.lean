import Derived.Test.YtfhpbcklkijaoaaGreatDoorH2
import Derived.Test.YtfhpbcklkijaoaaGreatDoorG4
set_option linter.unusedSimpArgs false
set_option linter.unusedVariables false
namespace Go.Ev
open Go.RowKit Go.Proofs
set_option linter.defProp false
def TF6H3:=Ai (Ai (Ai (Ai (Ai (Ai (@Tryz.underlying3) (@sz3)) (Ai (@info3) (Ai (@I3s) (@I3b)))) (Ai (Ai (@zero3) (Ai (@grow3) (@Tryz.underlying4))) (Ai (@sz4) (Ai (@info4) (@I4s))))) (Ai (Ai (Ai (@I4b) (@zero4)) (Ai (@grow4) (Ai (@Tryz.underlying9) (@sz9)))) (Ai (Ai (@info9) (Ai (@I9s) (@I9b))) (Ai (@zero9) (Ai (@grow9) (@Tryz.underlying22)))))) (Ai (Ai (Ai (Ai (@sz22) (@info22)) (Ai (@I22s) (Ai (@I22b) (@zero22)))) (Ai (Ai (@grow22) (Ai (@Tryz.underlying25) (@sz25))) (Ai (@info25) (Ai (@I25s) (@I25b))))) (Ai (Ai (Ai (@zero25) (@grow25)) (Ai (@Tryz.underlying26) (Ai (@sz26) (@info26)))) (Ai (Ai (@I26s) (Ai (@I26b) (@zero26))) (Ai (@grow26) (Ai (@Tryz.underlying43) (@sz43))))))) (Ai (Ai (Ai (Ai (Ai (@fok43) (@info43)) (Ai (@I43s) (Ai (@I43b) (@zero43)))) (Ai (Ai (@grow43) (Ai (@Tryz.underlying44) (@sz44))) (Ai (@info44) (Ai (@I44s) (@I44b))))) (Ai (Ai (Ai (@zero44) (@grow44)) (Ai (@Tryz.underlying46) (Ai (@sz46) (@fok46)))) (Ai (Ai (@info46) (Ai (@I46s) (@I46b))) (Ai (@zero46) (Ai (@grow46) (@Tryz.underlying57)))))) (Ai (Ai (Ai (Ai (@sz57) (@info57)) (Ai (@I57s) (Ai (@I57b) (@zero57)))) (Ai (Ai (@grow57) (Ai (@Tryz.underlying73) (@sz73))) (Ai (@info73) (Ai (@I73s) (@I73b))))) (Ai (Ai (Ai (@zero73) (Ai (@grow73) (@Tryz.underlying76))) (Ai (@sz76) (Ai (@fok76) (@info76)))) (Ai (Ai (@I76s) (Ai (@I76b) (@zero76))) (Ai (@grow76) (Ai (@call25) (@Tryz.results6)))))))
set_option maxRecDepth 20000
set_option maxHeartbeats 8000000
noncomputable def vS:Nat→List Hf→St→List Pl→List Hf×Int
 | _,acc,_,[]=>(acc,0)
 | i,acc,s,t::L=>if eE s t≠0 then([],eE s t)else vS (i+1) (sV acc i s t) (nxt (mvd s t)) L
theorem nD {i:Nat}{acc:List Hf}{s:St}{t:Pl}{L:List Pl}:vS i acc s (t::L)=if eE s t≠0 then([],eE s t)else vS (i+1) (sV acc i s t) (nxt (mvd s t)) L:=rfl
noncomputable def halv (L:List Pl):List Hf×Int:=if 256<L.length then([],5)else vS 0 [] bC L
theorem azq (l:List Hf) (i:Nat) (s:St) (t:Pl):(sV l i s t).length≤l.length+1:=by
 unfold sV withH
 rw [List.length_set]
 split<;>simp
abbrev cG48:Cod (List Hf×Int×Unit):=Cod.tup (Row.cons (Cod.list hf0 rHf) (Row.cons cI Row.nil))
def Ag48:Row (List Pl×Unit):=Row.cons (Cod.list pl0 rPl) Row.nil
noncomputable def ayw (x:List Pl×Unit):Option (List Hf×Int×Unit):=if gOK x.1=true then some ((halv x.1).1,(halv x.1).2,())else none
theorem c48 (l:List Hf) (a:Int):(cG48.v (l,a,())).c=.tup [.lsl (gF l),.int .i64 a]:=by
 show(V.tup [(Cod.list hf0 rHf).v l,V.int .i64 a]).c=_
 simp only [V.c,V.cs,vHfs_c]
structure HInv (L:List Pl) (i:Nat) (s:St) (N:Nat) (l:List (Nat×Option bL)):Prop where
 hN:N≤5+3*i
 hN2:1<N
 dat:∃acc v,(L.length≤256→halv L=vS i acc s (L.drop i))∧acc.length≤i∧HL 1 v acc N l∧lookG l 0=some (.row [v] 25 0 0 false)
theorem fn48:FnT 6 (fOf Ag48 cG48 ayw):=by
 refine Fn.intro mixed noNG Tryz.func6 rfl (KRx [(27,F103)]) (by simp only [KRx,List.forall_mem_cons];exact⟨fn85,fn86,fn22,fn103,fun _ h=>by cases h⟩) ?_
 intro args v hF
 obtain⟨⟨L,⟨⟩⟩,r,rfl,hs,rfl⟩:=jI hF
 unfold ayw at hs
 split at hs
 rotate_left
 · cases hs
 rename_i hg
 cases hs
 obtain⟨hlen,hok⟩:=aqc hg
 dsimp only at hlen hok
 have a48:V.cs (Ag48.v (L,()))=[.lsl (kS L)]:=a43 L
 rw [a48,c48]
 intro Q hV
 have hQ:=Viewed.of hV
 clear hF hg
 refine Top.view (View.start (n:=19) rfl (by simp)) (aT noNG _ _ _ _ ?_)
 have hkm:∀(h:H) (args:List EVal),kcall Tryz.prog (aG (KRx [(27,F103)])) h 25 args=none:=fun h a=>gL fun a=>rfl
 have e1:∀(h:H) (cs:List EVal),bF h 26 #[] (some []) (some cs)=some (.val (.func 26 cs) h):=fun _ _=>rfl
 ((try simp only [aM,SS,TF6H3,kcall,setRange,repl,isNextM,eConvert,eField,eSlice,eBuild,eBuildSlice,Nat.reduceLT,Nat.reduceEqDiff,Nat.reduceAdd,Nat.reduceMul,Nat.reduceSub,Nat.reduceLeDiff,Nat.reduceBEq,reduceCtorEq,e1,↓hkm]);(repeat' ((first|apply wpStep_not|apply wpStep_sym|apply wpCond_not|apply wpCond_sym|apply wpDStep_not|apply wpDStep_sym)<;>intro h<;>simp only [h,SS,TF6H3,kcall,setRange,repl,isNextM,eConvert,eField,eSlice,eBuild,eBuildSlice,Nat.reduceLT,Nat.reduceEqDiff,Nat.reduceAdd,Nat.reduceMul,Nat.reduceSub,Nat.reduceLeDiff,Nat.reduceBEq,reduceCtorEq,e1,↓hkm])))
 refine CallT.inn (HV.mode (m':=128) (by decide)) ?_
 refine ct99x (N0:=1) (INV:=HInv L) (fun h a=>call26) (fun a=>rfl) (by omega) hok (by omega) ?_ ?_ ?_ ?_ ?_ ?_ ?_
 · intro x y
   refine⟨by omega,by omega,[],.nilslice,?_,by simp,.inl ⟨rfl,rfl⟩,by simp [lookG]⟩
   intro h;unfold halv;rw [if_neg (by omega)];rfl
 · rintro i s N l x ⟨h1,h2,acc,v,h4,h5,h6,h7⟩
   exact⟨h1,h2,acc,v,h4,h5,HL_put (by omega) h6,by rw [lookG.eq_2,if_neg (by omega)];exact h7⟩
 · rintro i s N l ⟨h1,h2,-⟩
   omega
 · rintro i s N l t x y k ⟨h1,h2,acc,v,h4,h5,h6,h7⟩ hi ht okt he hk
   refine ct102 (ps:=acc) (v:=v) (axO okt he) (HL_new h6) (by omega) (by omega) (by omega) ?_ ?_
   · rw [lookG.eq_2,if_neg (by omega),lookG.eq_2,if_neg (by omega)];exact h7
   intro v2 N2 l2 n1 n2 S2 b2 f2
   refine hk _ _ ⟨by omega,by omega,sV acc i s t,v2,?_,by have:=azq acc i s t;omega,S2,b2⟩ ?_
   · intro hL
     rw [h4 hL,aQ ht,nD,if_neg (by simp [he])]
   · rw [f2,lookG.eq_2,if_neg (by omega),lookG.eq_2,if_neg (by omega)]
 · intro hbig
   have hgm:halv L=([],5):=by unfold halv;rw [if_pos hbig]
   rw [hgm]at hQ
   have z5:((5:Int)==0)=false:=rfl
   ((try simp only [aM,SS,TF6H3,kcall,setRange,repl,isNextM,eConvert,eField,eSlice,eBuild,eBuildSlice,Nat.reduceLT,Nat.reduceEqDiff,Nat.reduceAdd,Nat.reduceMul,Nat.reduceSub,Nat.reduceLeDiff,Nat.reduceBEq,reduceCtorEq,z5]);(repeat' ((first|apply wpStep_not|apply wpStep_sym|apply wpCond_not|apply wpCond_sym|apply wpDStep_not|apply wpDStep_sym)<;>intro h<;>simp only [h,SS,TF6H3,kcall,setRange,repl,isNextM,eConvert,eField,eSlice,eBuild,eBuildSlice,Nat.reduceLT,Nat.reduceEqDiff,Nat.reduceAdd,Nat.reduceMul,Nat.reduceSub,Nat.reduceLeDiff,Nat.reduceBEq,reduceCtorEq,z5])))
   (refine hQ _ _ _ (dS (by first|exact .inl rfl|exact .inr rfl) ?_);simp only [SS,TF6H3,kcall,setRange,repl,isNextM,eConvert,eField,eSlice,eBuild,eBuildSlice,Nat.reduceLT,Nat.reduceEqDiff,Nat.reduceAdd,Nat.reduceMul,Nat.reduceSub,Nat.reduceLeDiff,Nat.reduceBEq,reduceCtorEq])
   rfl
 · rintro i s N l t x y ⟨h1,h2,acc,v,h4,h5,h6,h7⟩ hL ht he
   have hgm:halv L=([],eE s t):=by
    rw [h4 hL,aQ ht,nD,if_pos he]
   rw [hgm]at hQ
   have z5:(eE s t==0)=false:=by simpa using he
   ((try simp only [aM,SS,TF6H3,kcall,setRange,repl,isNextM,eConvert,eField,eSlice,eBuild,eBuildSlice,Nat.reduceLT,Nat.reduceEqDiff,Nat.reduceAdd,Nat.reduceMul,Nat.reduceSub,Nat.reduceLeDiff,Nat.reduceBEq,reduceCtorEq,z5]);(repeat' ((first|apply wpStep_not|apply wpStep_sym|apply wpCond_not|apply wpCond_sym|apply wpDStep_not|apply wpDStep_sym)<;>intro h<;>simp only [h,SS,TF6H3,kcall,setRange,repl,isNextM,eConvert,eField,eSlice,eBuild,eBuildSlice,Nat.reduceLT,Nat.reduceEqDiff,Nat.reduceAdd,Nat.reduceMul,Nat.reduceSub,Nat.reduceLeDiff,Nat.reduceBEq,reduceCtorEq,z5])))
   (refine hQ _ _ _ (dS (by first|exact .inl rfl|exact .inr rfl) ?_);simp only [SS,TF6H3,kcall,setRange,repl,isNextM,eConvert,eField,eSlice,eBuild,eBuildSlice,Nat.reduceLT,Nat.reduceEqDiff,Nat.reduceAdd,Nat.reduceMul,Nat.reduceSub,Nat.reduceLeDiff,Nat.reduceBEq,reduceCtorEq])
   rfl
 · rintro s N l ⟨h1,h2,acc,v,h4,h5,h6,h7⟩ hL
   have hgm:halv L=(acc,0):=by
    rw [h4 hL,List.drop_length];rfl
   rw [hgm]at hV
   have z5:((0:Int)==0)=true:=rfl
   obtain⟨o1,o2,o3,o4,o5⟩:=bqo h6
   ((try simp only [aM,SS,TF6H3,kcall,setRange,repl,isNextM,eConvert,eField,eSlice,eBuild,eBuildSlice,Nat.reduceLT,Nat.reduceEqDiff,Nat.reduceAdd,Nat.reduceMul,Nat.reduceSub,Nat.reduceLeDiff,Nat.reduceBEq,reduceCtorEq,z5,h7,o1,o2,o3]);(repeat' ((first|apply wpStep_not|apply wpStep_sym|apply wpCond_not|apply wpCond_sym|apply wpDStep_not|apply wpDStep_sym)<;>intro h<;>simp only [h,SS,TF6H3,kcall,setRange,repl,isNextM,eConvert,eField,eSlice,eBuild,eBuildSlice,Nat.reduceLT,Nat.reduceEqDiff,Nat.reduceAdd,Nat.reduceMul,Nat.reduceSub,Nat.reduceLeDiff,Nat.reduceBEq,reduceCtorEq,z5,h7,o1,o2,o3])))
   rcases h6 with⟨rfl,rfl⟩ | ⟨id,_,h9,rfl,h8⟩
   · refine Viewed.of hV _ _ _ ?_
     refine dS (.inl rfl) ?_
     simp only [SS,TF6H3,kcall,setRange,repl,isNextM,eConvert,eField,eSlice,eBuild,eBuildSlice,Nat.reduceLT,Nat.reduceEqDiff,Nat.reduceAdd,Nat.reduceMul,Nat.reduceSub,Nat.reduceLeDiff,Nat.reduceBEq,reduceCtorEq]
     rfl
   · have hend:Ends Tryz.prog gT Tryz.f6 (.tup [.lsl (gF acc),.int .i64 0]) .ret (mkF 19 [(3,.int .i64 0),(2,.lsl (gF acc))]) (mkH N [] 128 []):=by
      refine dS (.inl rfl) ?_
      simp only [SS,TF6H3,kcall,setRange,repl,isNextM,eConvert,eField,eSlice,eBuild,eBuildSlice,Nat.reduceLT,Nat.reduceEqDiff,Nat.reduceAdd,Nat.reduceMul,Nat.reduceSub,Nat.reduceLeDiff,Nat.reduceBEq,reduceCtorEq]
     refine hV _ _ _ ⟨_,_,View.fz (sz:=8) (len:=acc.length) (fl2:=[(3,.int .i64 0),(2,.lsl (gF acc))]) (l2:=[]) (k2:=[]) id (by omega) h8 (aq7 _) (cellH_length _) ?_ (by simp) (by simp),hend⟩
     rw [aqv]
     intro p hp
     simp only [List.mem_cons,List.not_mem_nil,or_false]at hp
     rcases hp with rfl|rfl
     · exact⟨by simp,_,rfl,.inl rfl⟩
     · exact⟨by simp,_,rfl,.inr ⟨.slack 0,rfl,rfl,rfl⟩⟩
noncomputable def Kg48:Con Tryz.prog gT:=Con.of 6 Ag48 cG48 ayw fn48
end Go.Ev
