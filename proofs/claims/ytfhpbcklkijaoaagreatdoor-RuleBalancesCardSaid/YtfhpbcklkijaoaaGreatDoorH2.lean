import Derived.Test.YtfhpbcklkijaoaaGreatDoorH1
set_option linter.unusedSimpArgs false
set_option linter.unusedVariables false
namespace Go.Ev
open Go.RowKit Go.Proofs
set_option linter.defProp false
def TF26H2:=Ai (Ai (Ai (Ai (Ai (Ai (@Tryz.underlying3) (Ai (@sz3) (@info3))) (Ai (@I3s) (Ai (@I3b) (@zero3)))) (Ai (Ai (@grow3) (Ai (@Tryz.underlying4) (@sz4))) (Ai (Ai (@info4) (@I4s)) (Ai (@I4b) (@zero4))))) (Ai (Ai (Ai (@grow4) (Ai (@Tryz.underlying9) (@sz9))) (Ai (Ai (@info9) (@I9s)) (Ai (@I9b) (@zero9)))) (Ai (Ai (@grow9) (Ai (@Tryz.underlying25) (@sz25))) (Ai (Ai (@info25) (@I25s)) (Ai (@I25b) (@zero25)))))) (Ai (Ai (Ai (Ai (@grow25) (Ai (@Tryz.underlying33) (@sz33))) (Ai (@info33) (Ai (@I33s) (@I33b)))) (Ai (Ai (@zero33) (Ai (@grow33) (@Tryz.underlying34))) (Ai (Ai (@sz34) (@info34)) (Ai (@I34s) (@I34b))))) (Ai (Ai (Ai (@zero34) (Ai (@grow34) (@Tryz.underlying36))) (Ai (Ai (@sz36) (@fok36)) (Ai (@info36) (@I36s)))) (Ai (Ai (@I36b) (Ai (@zero36) (@grow36))) (Ai (Ai (@Tryz.underlying43) (@sz43)) (Ai (@fok43) (@info43))))))) (Ai (Ai (Ai (Ai (Ai (@I43s) (Ai (@I43b) (@zero43))) (Ai (@grow43) (Ai (@Tryz.underlying44) (@sz44)))) (Ai (Ai (@info44) (Ai (@I44s) (@I44b))) (Ai (Ai (@zero44) (@grow44)) (Ai (@Tryz.underlying46) (@sz46))))) (Ai (Ai (Ai (@fok46) (Ai (@info46) (@I46s))) (Ai (Ai (@I46b) (@zero46)) (Ai (@grow46) (@Tryz.underlying57)))) (Ai (Ai (@sz57) (Ai (@info57) (@I57s))) (Ai (Ai (@I57b) (@zero57)) (Ai (@grow57) (@Tryz.underlying68)))))) (Ai (Ai (Ai (Ai (@sz68) (Ai (@info68) (@I68s))) (Ai (Ai (@I68b) (@zero68)) (Ai (@grow68) (@Tryz.underlying69)))) (Ai (Ai (@sz69) (Ai (@info69) (@I69s))) (Ai (Ai (@I69b) (@zero69)) (Ai (@grow69) (@Tryz.underlying71))))) (Ai (Ai (Ai (@sz71) (Ai (@fok71) (@info71))) (Ai (Ai (@I71s) (@Tryz.underlying76)) (Ai (@sz76) (@fok76)))) (Ai (Ai (@info76) (Ai (@I76s) (@I76b))) (Ai (Ai (@zero76) (@grow76)) (Ai (@call27) (@Tryz.results26)))))))
set_option maxRecDepth 20000
set_option maxHeartbeats 8000000
theorem Top.join {A:Option Nat}{P:Program}{g:G}{K:aN}{x y:Code}{f:EFr}{h:H}{Q:eA}{σ:Type}(hng:kU P) (F2:σ→EFr) (H2:σ→H)
  (H1:∀R:eA,(∀s f1 h1,View A P f1 h1 (F2 s) (H2 s)→R .normal f1 h1)→wp A P g K x f h R) (H3:∀s,Top A P g K y (F2 s) (H2 s) Q):Top A P g K (.seq x y) f h Q:=
 Top.seq (aT hng _ _ _ _ (H1 _ fun s _ _ v=>Top.view v (H3 s)))
theorem w9 (l:List Hf) (i:Nat) (s:St):0<(withH l i s).length:=by
 unfold withH
 split
 · simp
 · rename_i h
   cases l with
   | nil=>exact absurd rfl h
   | cons a l=>simp
theorem ax6 (l:List Hf) (i:Nat) (s:St):(withH l i s)[(withH l i s).length-1]? = some ((withH l i s).getLastD hf0):=by
 have:=w9 l i s
 rw [List.getLastD_eq_getLast?,List.getLast?_eq_getElem?,List.getElem?_eq_getElem (by omega)];rfl
theorem ct102 {i:Nat}{s:St}{t:Pl}{ps:List Hf}{v:EVal}{N:Nat}{l:List (Nat×Option bL)}{kk:List (Nat×Option (Nat×TypeId))}{k:EVal→H→Prop}
  (A:Acc s t) (hS:HL 1 v ps N l) (hN:N<15000) (h1N:1<N) (hlen:ps.length≤900) (hb:lookG l 0=some (.row [v] 25 0 0 false))
  (hk:∀v2 N2 l2,N≤N2→N2≤N+1→HL 1 v2 (sV ps i s t) N2 l2→lookG l2 0=some (.row [v2] 25 0 0 false)→lookG l2 1=lookG l 1→k (.tup []) (mkH N2 l2 128 kk)) :
  CallT Tryz.prog gT (aG (KRx [(27,F103)])) 26 [.int .i64 (i:Nat),.lptr (eTn (cN s t)) 0,.ptr 0 0] (mkH N l 128 kk) k:=by
 refine CallT.intro Tryz.func26 rfl ?_
 refine Top.view (View.start (n:=64) rfl (by simp)) ?_
 obtain⟨o1,o2,o3,o4,oL⟩:=bqo hS
 have hN0:N<16000:=by omega
 refine Top.join (σ:=Unit) noNG (fun _=>mkF 64 [(5,.int .i64 (IntKind.i64.wrap ((ps.length:Int)-1))),(2,.ptr 0 0),(1,.lptr (eTn (cN s t)) 0),(0,.int .i64 (i:Nat))]) (fun _=>mkH N l 128 kk) ?_ ?_
 · intro R hR
   ((try simp only [aM,SS,TF26H2,kcall,setRange,repl,isNextM,eConvert,eField,eSlice,eBuild,eBuildSlice,Nat.reduceLT,Nat.reduceEqDiff,Nat.reduceAdd,Nat.reduceMul,Nat.reduceSub,Nat.reduceLeDiff,Nat.reduceBEq,reduceCtorEq,hb,o1,o2,o3,oL]);(repeat' ((first|apply wpStep_not|apply wpStep_sym|apply wpCond_not|apply wpCond_sym|apply wpDStep_not|apply wpDStep_sym)<;>intro h<;>simp only [h,SS,TF26H2,kcall,setRange,repl,isNextM,eConvert,eField,eSlice,eBuild,eBuildSlice,Nat.reduceLT,Nat.reduceEqDiff,Nat.reduceAdd,Nat.reduceMul,Nat.reduceSub,Nat.reduceLeDiff,Nat.reduceBEq,reduceCtorEq,hb,o1,o2,o3,oL])))
   exact hR () _ _ (View.sub (by simp [look]))
 rintro⟨⟩
 refine Top.join (σ:={ x:Nat×Nat×List (Nat×Option bL) // 1<x.1∧x.1<x.2.1∧N≤x.2.1∧x.2.1≤N+1∧lookG x.2.2 x.1=some (.row (fJ (withH ps i s)) 43 0 0 true)∧lookG x.2.2 0=some (.row [.slice x.1 0 (withH ps i s).length (.slack 0)] 25 0 0 false)∧lookG x.2.2 1=lookG l 1 }) noNG
  (fun _=>mkF 64 [(5,.int .i64 (((withH ps i s).length-1:Nat):Int)),(2,.ptr 0 0),(1,.lptr (eTn (cN s t)) 0),(0,.int .i64 (i:Nat))]) (fun x=>mkH x.1.2.1 x.1.2.2 128 kk) ?_ ?_
 · intro R hR
   have b0:=eTn0 (s:=s) (t:=t)
   have b1:=eTn1 (s:=s) (t:=t)
   obtain⟨v2,l2,hap,hv2,hl2,F2⟩:=axr (q:=⟨s.inn,s.half,(i:Nat),0,0,0,0,0⟩) (m:=128) (kk:=kk) hS h1N hN0 (by omega)
   dsimp only at hap
   have hb2:lookG l2 0=some (.row [v] 25 0 0 false):=(F2 0 (by omega)).trans hb
   have p1:v2.cells=[v2]:=by rw [hv2];rfl
   have p2:v2.one=true:=by rw [hv2];rfl
   have p3:allOne [v2]=true:=by rw [hv2];rfl
   have p4:v2.kept=false:=by rw [hv2];rfl
   have w2:IntKind.i64.wrap (IntKind.i64.wrap ((ps.length:Int)-1)+1)=((ps.length:Nat):Int):=by
    by_cases h0:ps.length=0
    · rw [h0];decide
    · rw [aS (n:=(ps.length:Int)-1) (by omega) (by omega),aS (by omega) (by omega)];omega
   have fin:∀fl,o9 ps s=true→look fl 5=some (.int .i64 ((ps.length:Nat):Int))→look fl 2=some (.ptr 0 0)→look fl 1=some (.lptr (eTn (cN s t)) 0)→look fl 0=some (.int .i64 (i:Nat))→R .normal (mkF 64 fl) (mkH (N+1) ((0,some (.row [v2] 25 0 0 false))::l2) 128 kk):=by
    intro fl ho e5 e2 e1 e0
    have hw:withH ps i s=ps++[⟨s.inn,s.half,(i:Nat),0,0,0,0,0⟩]:=by unfold withH;rw [if_pos ho]
    have hwl:(withH ps i s).length=ps.length+1:=by rw [hw];simp
    refine hR ⟨(N,N+1,(0,some (.row [v2] 25 0 0 false))::l2),h1N,by show N<N+1;omega,by show N≤N+1;omega,Nat.le_refl _,?_,?_,?_⟩ _ _ (View.sub ?_)
    · rw [lookG.eq_2,if_neg (by omega),hl2,hw]
    · simp only [lookG,if_true];rw [hv2,hwl]
    · rw [lookG.eq_2,if_neg (by omega)];exact F2 1 (by omega)
    · rw [hwl,Nat.add_sub_cancel]
      intro p hp
      simp only [List.mem_cons,List.not_mem_nil,or_false]at hp
      rcases hp with rfl|rfl|rfl|rfl
      · exact⟨by simp,e5⟩
      · exact⟨by simp,e2⟩
      · exact⟨by simp,e1⟩
      · exact⟨by simp,e0⟩
   by_cases h0:ps.length=0
   · have hop:o9 ps s=true:=by
      rw [List.length_eq_zero_iff.1 h0];rfl
     have e5:IntKind.i64.wrap ((ps.length:Int)-1)=-1:=by rw [h0];decide
     have e6:IntKind.i64.wrap (-1+1)=((ps.length:Nat):Int):=by rw [h0];decide
     have q0:decide ((-1:Int)<0)=true:=by decide
     rw [e5]
     ((try simp only [aM,SS,TF26H2,kcall,setRange,repl,isNextM,eConvert,eField,eSlice,eBuild,eBuildSlice,Nat.reduceLT,Nat.reduceEqDiff,Nat.reduceAdd,Nat.reduceMul,Nat.reduceSub,Nat.reduceLeDiff,Nat.reduceBEq,reduceCtorEq]);(repeat' ((first|apply wpStep_not|apply wpStep_sym|apply wpCond_not|apply wpCond_sym|apply wpDStep_not|apply wpDStep_sym)<;>intro h<;>simp only [h,SS,TF26H2,kcall,setRange,repl,isNextM,eConvert,eField,eSlice,eBuild,eBuildSlice,Nat.reduceLT,Nat.reduceEqDiff,Nat.reduceAdd,Nat.reduceMul,Nat.reduceSub,Nat.reduceLeDiff,Nat.reduceBEq,reduceCtorEq])))
     refine bN (Top.draw mixed noNG (by kernel_rfl) ?_)
     ((try simp only [aM,SS,TF26H2,kcall,setRange,repl,isNextM,eConvert,eField,eSlice,eBuild,eBuildSlice,Nat.reduceLT,Nat.reduceEqDiff,Nat.reduceAdd,Nat.reduceMul,Nat.reduceSub,Nat.reduceLeDiff,Nat.reduceBEq,reduceCtorEq,hb,o1,o2,o3,q0]);(repeat' ((first|apply wpStep_not|apply wpStep_sym|apply wpCond_not|apply wpCond_sym|apply wpDStep_not|apply wpDStep_sym)<;>intro h<;>simp only [h,SS,TF26H2,kcall,setRange,repl,isNextM,eConvert,eField,eSlice,eBuild,eBuildSlice,Nat.reduceLT,Nat.reduceEqDiff,Nat.reduceAdd,Nat.reduceMul,Nat.reduceSub,Nat.reduceLeDiff,Nat.reduceBEq,reduceCtorEq,hb,o1,o2,o3,q0])))
     refine⟨by kernel_rfl,?_⟩
     ((try simp only [aM,SS,TF26H2,kcall,setRange,repl,isNextM,eConvert,eField,eSlice,eBuild,eBuildSlice,Nat.reduceLT,Nat.reduceEqDiff,Nat.reduceAdd,Nat.reduceMul,Nat.reduceSub,Nat.reduceLeDiff,Nat.reduceBEq,reduceCtorEq]);(repeat' ((first|apply wpStep_not|apply wpStep_sym|apply wpCond_not|apply wpCond_sym|apply wpDStep_not|apply wpDStep_sym)<;>intro h<;>simp only [h,SS,TF26H2,kcall,setRange,repl,isNextM,eConvert,eField,eSlice,eBuild,eBuildSlice,Nat.reduceLT,Nat.reduceEqDiff,Nat.reduceAdd,Nat.reduceMul,Nat.reduceSub,Nat.reduceLeDiff,Nat.reduceBEq,reduceCtorEq])))
     refine bN (Top.draw mixed noNG (by kernel_rfl) ?_)
     ((try simp only [aM,SS,TF26H2,kcall,setRange,repl,isNextM,eConvert,eField,eSlice,eBuild,eBuildSlice,Nat.reduceLT,Nat.reduceEqDiff,Nat.reduceAdd,Nat.reduceMul,Nat.reduceSub,Nat.reduceLeDiff,Nat.reduceBEq,reduceCtorEq,hb,b0,b1,o1,o2,o3,o4,p1,p2,p3,p4,↓hap,hb2]);(repeat' ((first|apply wpStep_not|apply wpStep_sym|apply wpCond_not|apply wpCond_sym|apply wpDStep_not|apply wpDStep_sym)<;>intro h<;>simp only [h,SS,TF26H2,kcall,setRange,repl,isNextM,eConvert,eField,eSlice,eBuild,eBuildSlice,Nat.reduceLT,Nat.reduceEqDiff,Nat.reduceAdd,Nat.reduceMul,Nat.reduceSub,Nat.reduceLeDiff,Nat.reduceBEq,reduceCtorEq,hb,b0,b1,o1,o2,o3,o4,p1,p2,p3,p4,↓hap,hb2])))
     refine⟨by kernel_rfl,?_⟩
     ((try simp only [aM,SS,TF26H2,kcall,setRange,repl,isNextM,eConvert,eField,eSlice,eBuild,eBuildSlice,Nat.reduceLT,Nat.reduceEqDiff,Nat.reduceAdd,Nat.reduceMul,Nat.reduceSub,Nat.reduceLeDiff,Nat.reduceBEq,reduceCtorEq,e6]);(repeat' ((first|apply wpStep_not|apply wpStep_sym|apply wpCond_not|apply wpCond_sym|apply wpDStep_not|apply wpDStep_sym)<;>intro h<;>simp only [h,SS,TF26H2,kcall,setRange,repl,isNextM,eConvert,eField,eSlice,eBuild,eBuildSlice,Nat.reduceLT,Nat.reduceEqDiff,Nat.reduceAdd,Nat.reduceMul,Nat.reduceSub,Nat.reduceLeDiff,Nat.reduceBEq,reduceCtorEq,e6])))
     exact fin _ hop (by simp [look]) (by simp [look]) (by simp [look]) (by simp [look])
   obtain⟨k,hk1⟩:∃k,ps.length=k+1:=⟨ps.length-1,by omega⟩
   rcases hS with⟨_,rfl⟩ | ⟨id,i1,i2,rfl,i4⟩
   · exact absurd rfl h0
   obtain⟨h,hh⟩:∃h,ps[k]? = some h:=⟨ps[k],List.getElem?_eq_getElem (by omega)⟩
   have hlast:ps.getLast? = some h:=by rw [List.getLast?_eq_getElem?,hk1];exact hh
   have hopen:o9 ps s=(!(h.inn==s.inn)||!(h.side==s.half)):=by unfold o9;rw [hlast]
   have c0:=zA hh (j:=0) (by omega)
   have c1:=zA hh (j:=1) (by omega)
   have e5:IntKind.i64.wrap ((ps.length:Int)-1)=(k:Int):=by rw [aS (by omega) (by omega)];omega
   have e6:IntKind.i64.wrap ((k:Int)+1)=((ps.length:Nat):Int):=by rw [aS (by omega) (by omega)];omega
   have q0:decide ((k:Int)<0)=false:=by simp
   have b2:((k:Int)<((ps.length:Nat):Int))=True:=by simp only [eq_iff_iff,iff_true];omega
   have hid0:id<16000:=by omega
   have d0:(eHf h)[0]? = some (.int .i64 h.inn):=rfl
   have d1:(eHf h)[1]? = some (.int .i64 h.side):=rfl
   rw [d0]at c0
   rw [d1]at c1
   rw [e5]
   cases hq1:(h.inn==s.inn)with
   | false=>
     have hop:o9 ps s=true:=by rw [hopen,hq1];rfl
     ((try simp only [aM,SS,TF26H2,kcall,setRange,repl,isNextM,eConvert,eField,eSlice,eBuild,eBuildSlice,Nat.reduceLT,Nat.reduceEqDiff,Nat.reduceAdd,Nat.reduceMul,Nat.reduceSub,Nat.reduceLeDiff,Nat.reduceBEq,reduceCtorEq]);(repeat' ((first|apply wpStep_not|apply wpStep_sym|apply wpCond_not|apply wpCond_sym|apply wpDStep_not|apply wpDStep_sym)<;>intro h<;>simp only [h,SS,TF26H2,kcall,setRange,repl,isNextM,eConvert,eField,eSlice,eBuild,eBuildSlice,Nat.reduceLT,Nat.reduceEqDiff,Nat.reduceAdd,Nat.reduceMul,Nat.reduceSub,Nat.reduceLeDiff,Nat.reduceBEq,reduceCtorEq])))
     refine bN (Top.draw mixed noNG (by kernel_rfl) ?_)
     ((try simp only [aM,SS,TF26H2,kcall,setRange,repl,isNextM,eConvert,eField,eSlice,eBuild,eBuildSlice,Nat.reduceLT,Nat.reduceEqDiff,Nat.reduceAdd,Nat.reduceMul,Nat.reduceSub,Nat.reduceLeDiff,Nat.reduceBEq,reduceCtorEq,hb,b0,b1,o1,o2,o3,q0,b2,hid0,i4,c0,c1,hq1]);(repeat' ((first|apply wpStep_not|apply wpStep_sym|apply wpCond_not|apply wpCond_sym|apply wpDStep_not|apply wpDStep_sym)<;>intro h<;>simp only [h,SS,TF26H2,kcall,setRange,repl,isNextM,eConvert,eField,eSlice,eBuild,eBuildSlice,Nat.reduceLT,Nat.reduceEqDiff,Nat.reduceAdd,Nat.reduceMul,Nat.reduceSub,Nat.reduceLeDiff,Nat.reduceBEq,reduceCtorEq,hb,b0,b1,o1,o2,o3,q0,b2,hid0,i4,c0,c1,hq1])))
     refine⟨by kernel_rfl,?_⟩
     ((try simp only [aM,SS,TF26H2,kcall,setRange,repl,isNextM,eConvert,eField,eSlice,eBuild,eBuildSlice,Nat.reduceLT,Nat.reduceEqDiff,Nat.reduceAdd,Nat.reduceMul,Nat.reduceSub,Nat.reduceLeDiff,Nat.reduceBEq,reduceCtorEq]);(repeat' ((first|apply wpStep_not|apply wpStep_sym|apply wpCond_not|apply wpCond_sym|apply wpDStep_not|apply wpDStep_sym)<;>intro h<;>simp only [h,SS,TF26H2,kcall,setRange,repl,isNextM,eConvert,eField,eSlice,eBuild,eBuildSlice,Nat.reduceLT,Nat.reduceEqDiff,Nat.reduceAdd,Nat.reduceMul,Nat.reduceSub,Nat.reduceLeDiff,Nat.reduceBEq,reduceCtorEq])))
     refine bN (Top.draw mixed noNG (by kernel_rfl) ?_)
     ((try simp only [aM,SS,TF26H2,kcall,setRange,repl,isNextM,eConvert,eField,eSlice,eBuild,eBuildSlice,Nat.reduceLT,Nat.reduceEqDiff,Nat.reduceAdd,Nat.reduceMul,Nat.reduceSub,Nat.reduceLeDiff,Nat.reduceBEq,reduceCtorEq,hb,b0,b1,o1,o2,o3,o4,p1,p2,p3,p4,↓hap,hb2]);(repeat' ((first|apply wpStep_not|apply wpStep_sym|apply wpCond_not|apply wpCond_sym|apply wpDStep_not|apply wpDStep_sym)<;>intro h<;>simp only [h,SS,TF26H2,kcall,setRange,repl,isNextM,eConvert,eField,eSlice,eBuild,eBuildSlice,Nat.reduceLT,Nat.reduceEqDiff,Nat.reduceAdd,Nat.reduceMul,Nat.reduceSub,Nat.reduceLeDiff,Nat.reduceBEq,reduceCtorEq,hb,b0,b1,o1,o2,o3,o4,p1,p2,p3,p4,↓hap,hb2])))
     refine⟨by kernel_rfl,?_⟩
     ((try simp only [aM,SS,TF26H2,kcall,setRange,repl,isNextM,eConvert,eField,eSlice,eBuild,eBuildSlice,Nat.reduceLT,Nat.reduceEqDiff,Nat.reduceAdd,Nat.reduceMul,Nat.reduceSub,Nat.reduceLeDiff,Nat.reduceBEq,reduceCtorEq,e6]);(repeat' ((first|apply wpStep_not|apply wpStep_sym|apply wpCond_not|apply wpCond_sym|apply wpDStep_not|apply wpDStep_sym)<;>intro h<;>simp only [h,SS,TF26H2,kcall,setRange,repl,isNextM,eConvert,eField,eSlice,eBuild,eBuildSlice,Nat.reduceLT,Nat.reduceEqDiff,Nat.reduceAdd,Nat.reduceMul,Nat.reduceSub,Nat.reduceLeDiff,Nat.reduceBEq,reduceCtorEq,e6])))
     exact fin _ hop (by simp [look]) (by simp [look]) (by simp [look]) (by simp [look])
   | true=>
   cases hq2:(h.side==s.half)with
   | false=>
     have hop:o9 ps s=true:=by rw [hopen,hq1,hq2];rfl
     ((try simp only [aM,SS,TF26H2,kcall,setRange,repl,isNextM,eConvert,eField,eSlice,eBuild,eBuildSlice,Nat.reduceLT,Nat.reduceEqDiff,Nat.reduceAdd,Nat.reduceMul,Nat.reduceSub,Nat.reduceLeDiff,Nat.reduceBEq,reduceCtorEq]);(repeat' ((first|apply wpStep_not|apply wpStep_sym|apply wpCond_not|apply wpCond_sym|apply wpDStep_not|apply wpDStep_sym)<;>intro h<;>simp only [h,SS,TF26H2,kcall,setRange,repl,isNextM,eConvert,eField,eSlice,eBuild,eBuildSlice,Nat.reduceLT,Nat.reduceEqDiff,Nat.reduceAdd,Nat.reduceMul,Nat.reduceSub,Nat.reduceLeDiff,Nat.reduceBEq,reduceCtorEq])))
     refine bN (Top.draw mixed noNG (by kernel_rfl) ?_)
     ((try simp only [aM,SS,TF26H2,kcall,setRange,repl,isNextM,eConvert,eField,eSlice,eBuild,eBuildSlice,Nat.reduceLT,Nat.reduceEqDiff,Nat.reduceAdd,Nat.reduceMul,Nat.reduceSub,Nat.reduceLeDiff,Nat.reduceBEq,reduceCtorEq,hb,b0,b1,o1,o2,o3,q0,b2,hid0,i4,c0,c1,hq1,hq2]);(repeat' ((first|apply wpStep_not|apply wpStep_sym|apply wpCond_not|apply wpCond_sym|apply wpDStep_not|apply wpDStep_sym)<;>intro h<;>simp only [h,SS,TF26H2,kcall,setRange,repl,isNextM,eConvert,eField,eSlice,eBuild,eBuildSlice,Nat.reduceLT,Nat.reduceEqDiff,Nat.reduceAdd,Nat.reduceMul,Nat.reduceSub,Nat.reduceLeDiff,Nat.reduceBEq,reduceCtorEq,hb,b0,b1,o1,o2,o3,q0,b2,hid0,i4,c0,c1,hq1,hq2])))
     refine⟨by kernel_rfl,?_⟩
     ((try simp only [aM,SS,TF26H2,kcall,setRange,repl,isNextM,eConvert,eField,eSlice,eBuild,eBuildSlice,Nat.reduceLT,Nat.reduceEqDiff,Nat.reduceAdd,Nat.reduceMul,Nat.reduceSub,Nat.reduceLeDiff,Nat.reduceBEq,reduceCtorEq]);(repeat' ((first|apply wpStep_not|apply wpStep_sym|apply wpCond_not|apply wpCond_sym|apply wpDStep_not|apply wpDStep_sym)<;>intro h<;>simp only [h,SS,TF26H2,kcall,setRange,repl,isNextM,eConvert,eField,eSlice,eBuild,eBuildSlice,Nat.reduceLT,Nat.reduceEqDiff,Nat.reduceAdd,Nat.reduceMul,Nat.reduceSub,Nat.reduceLeDiff,Nat.reduceBEq,reduceCtorEq])))
     refine bN (Top.draw mixed noNG (by kernel_rfl) ?_)
     ((try simp only [aM,SS,TF26H2,kcall,setRange,repl,isNextM,eConvert,eField,eSlice,eBuild,eBuildSlice,Nat.reduceLT,Nat.reduceEqDiff,Nat.reduceAdd,Nat.reduceMul,Nat.reduceSub,Nat.reduceLeDiff,Nat.reduceBEq,reduceCtorEq,hb,b0,b1,o1,o2,o3,o4,p1,p2,p3,p4,↓hap,hb2]);(repeat' ((first|apply wpStep_not|apply wpStep_sym|apply wpCond_not|apply wpCond_sym|apply wpDStep_not|apply wpDStep_sym)<;>intro h<;>simp only [h,SS,TF26H2,kcall,setRange,repl,isNextM,eConvert,eField,eSlice,eBuild,eBuildSlice,Nat.reduceLT,Nat.reduceEqDiff,Nat.reduceAdd,Nat.reduceMul,Nat.reduceSub,Nat.reduceLeDiff,Nat.reduceBEq,reduceCtorEq,hb,b0,b1,o1,o2,o3,o4,p1,p2,p3,p4,↓hap,hb2])))
     refine⟨by kernel_rfl,?_⟩
     ((try simp only [aM,SS,TF26H2,kcall,setRange,repl,isNextM,eConvert,eField,eSlice,eBuild,eBuildSlice,Nat.reduceLT,Nat.reduceEqDiff,Nat.reduceAdd,Nat.reduceMul,Nat.reduceSub,Nat.reduceLeDiff,Nat.reduceBEq,reduceCtorEq,e6]);(repeat' ((first|apply wpStep_not|apply wpStep_sym|apply wpCond_not|apply wpCond_sym|apply wpDStep_not|apply wpDStep_sym)<;>intro h<;>simp only [h,SS,TF26H2,kcall,setRange,repl,isNextM,eConvert,eField,eSlice,eBuild,eBuildSlice,Nat.reduceLT,Nat.reduceEqDiff,Nat.reduceAdd,Nat.reduceMul,Nat.reduceSub,Nat.reduceLeDiff,Nat.reduceBEq,reduceCtorEq,e6])))
     exact fin _ hop (by simp [look]) (by simp [look]) (by simp [look]) (by simp [look])
   | true=>
     have hop:o9 ps s=false:=by rw [hopen,hq1,hq2];rfl
     ((try simp only [aM,SS,TF26H2,kcall,setRange,repl,isNextM,eConvert,eField,eSlice,eBuild,eBuildSlice,Nat.reduceLT,Nat.reduceEqDiff,Nat.reduceAdd,Nat.reduceMul,Nat.reduceSub,Nat.reduceLeDiff,Nat.reduceBEq,reduceCtorEq]);(repeat' ((first|apply wpStep_not|apply wpStep_sym|apply wpCond_not|apply wpCond_sym|apply wpDStep_not|apply wpDStep_sym)<;>intro h<;>simp only [h,SS,TF26H2,kcall,setRange,repl,isNextM,eConvert,eField,eSlice,eBuild,eBuildSlice,Nat.reduceLT,Nat.reduceEqDiff,Nat.reduceAdd,Nat.reduceMul,Nat.reduceSub,Nat.reduceLeDiff,Nat.reduceBEq,reduceCtorEq])))
     refine bN (Top.draw mixed noNG (by kernel_rfl) ?_)
     ((try simp only [aM,SS,TF26H2,kcall,setRange,repl,isNextM,eConvert,eField,eSlice,eBuild,eBuildSlice,Nat.reduceLT,Nat.reduceEqDiff,Nat.reduceAdd,Nat.reduceMul,Nat.reduceSub,Nat.reduceLeDiff,Nat.reduceBEq,reduceCtorEq,hb,b0,b1,o1,o2,o3,q0,b2,hid0,i4,c0,c1,hq1,hq2]);(repeat' ((first|apply wpStep_not|apply wpStep_sym|apply wpCond_not|apply wpCond_sym|apply wpDStep_not|apply wpDStep_sym)<;>intro h<;>simp only [h,SS,TF26H2,kcall,setRange,repl,isNextM,eConvert,eField,eSlice,eBuild,eBuildSlice,Nat.reduceLT,Nat.reduceEqDiff,Nat.reduceAdd,Nat.reduceMul,Nat.reduceSub,Nat.reduceLeDiff,Nat.reduceBEq,reduceCtorEq,hb,b0,b1,o1,o2,o3,q0,b2,hid0,i4,c0,c1,hq1,hq2])))
     refine⟨by kernel_rfl,?_⟩
     ((try simp only [aM,SS,TF26H2,kcall,setRange,repl,isNextM,eConvert,eField,eSlice,eBuild,eBuildSlice,Nat.reduceLT,Nat.reduceEqDiff,Nat.reduceAdd,Nat.reduceMul,Nat.reduceSub,Nat.reduceLeDiff,Nat.reduceBEq,reduceCtorEq]);(repeat' ((first|apply wpStep_not|apply wpStep_sym|apply wpCond_not|apply wpCond_sym|apply wpDStep_not|apply wpDStep_sym)<;>intro h<;>simp only [h,SS,TF26H2,kcall,setRange,repl,isNextM,eConvert,eField,eSlice,eBuild,eBuildSlice,Nat.reduceLT,Nat.reduceEqDiff,Nat.reduceAdd,Nat.reduceMul,Nat.reduceSub,Nat.reduceLeDiff,Nat.reduceBEq,reduceCtorEq])))
     have hw:withH ps i s=ps:=by unfold withH;rw [if_neg (by rw [hop];simp)]
     refine hR ⟨(id,N,l),i1,i2,Nat.le_refl _,Nat.le_succ _,?_,?_,rfl⟩ _ _ (View.sub ?_)
     · rw [hw];exact i4
     · rw [hw];exact hb
     · rw [hw,hk1,Nat.add_sub_cancel]
       simp [look]
 · rintro ⟨⟨id,N',l'⟩,i1,i2,i3,i4,i5,i6,i7⟩
   dsimp only at i1 i2 i3 i4 i5 i6 i7
   have hp:=w9 ps i s
   have hl:=ax6 ps i s
   have hL:(withH ps i s).length≤ps.length+1:=by unfold withH;split<;>simp
   generalize hW:withH ps i s=W at *
   generalize hG:W.getLastD hf0=G at *
   obtain⟨k,hk1⟩:∃k,W.length=k+1:=⟨W.length-1,by omega⟩
   have hk2:W.length-1=k:=by omega
   rw [hk2]at hl
   have h103:=e103 A G i
   simp only [eHf]at h103
   have tk:=axF hl
   simp only [eHf]at tk
   have hset:=akc (l:=W) (k:=k) (q:=longS G i s t) (by omega)
   simp only [eHf]at hset
   have b2:((k:Int)<((W.length:Nat):Int))=True:=by simp only [eq_iff_iff,iff_true];omega
   have b3:(k*8+8≤W.length*8)=True:=by simp only [eq_iff_iff,iff_true];omega
   have hid0:id<16000:=by omega
   refine aT noNG _ _ _ _ ?_
   refine bN (Top.draw mixed noNG (by kernel_rfl) ?_)
   ((try simp only [aM,SS,TF26H2,kcall,repl,isNextM,eConvert,eField,eSlice,eBuild,eBuildSlice,Nat.reduceLT,Nat.reduceEqDiff,Nat.reduceAdd,Nat.reduceMul,Nat.reduceSub,Nat.reduceLeDiff,Nat.reduceBEq,reduceCtorEq,hk2,i6,i5,hid0,b2,b3,tk,h103,cellH_length,↓hset]);(repeat' ((first|apply wpStep_not|apply wpStep_sym|apply wpCond_not|apply wpCond_sym|apply wpDStep_not|apply wpDStep_sym)<;>intro h<;>simp only [h,SS,TF26H2,kcall,repl,isNextM,eConvert,eField,eSlice,eBuild,eBuildSlice,Nat.reduceLT,Nat.reduceEqDiff,Nat.reduceAdd,Nat.reduceMul,Nat.reduceSub,Nat.reduceLeDiff,Nat.reduceBEq,reduceCtorEq,hk2,i6,i5,hid0,b2,b3,tk,h103,cellH_length,↓hset])))
   refine⟨by kernel_rfl,?_⟩
   have hst:sV ps i s t=W.set k (longS G i s t):=by unfold sV;rw [hW,hG,hk2]
   refine eV (es:=[]) (.inr rfl) rfl rfl (hk (.slice id 0 W.length (.slack 0)) N' _ i3 i4 (.inr ⟨id,i1,i2,by rw [hst,List.length_set],by rw [hst];simp only [lookG,if_true]⟩) ?_ ?_)
   · rw [lookG.eq_2,if_neg (by omega)];exact i6
   · rw [lookG.eq_2,if_neg (by omega)];exact i7
end Go.Ev
