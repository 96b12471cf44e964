import Derived.Test.YtfhpbcklkijaoaaGreatDoorH0
set_option linter.unusedSimpArgs false
set_option linter.unusedVariables false
namespace Go.Ev
open Go.RowKit Go.Proofs
set_option linter.defProp false
def akv:=Ai (Ai (Ai (Ai (Ai (Ai (@Tryz.underlying3) (Ai (@sz3) (@info3))) (Ai (@I3s) (Ai (@I3b) (@zero3)))) (Ai (Ai (@grow3) (Ai (@Tryz.underlying4) (@sz4))) (Ai (Ai (@info4) (@I4s)) (Ai (@I4b) (@zero4))))) (Ai (Ai (Ai (@grow4) (Ai (@Tryz.underlying9) (@sz9))) (Ai (Ai (@info9) (@I9s)) (Ai (@I9b) (@zero9)))) (Ai (Ai (@grow9) (Ai (@Tryz.underlying25) (@sz25))) (Ai (Ai (@info25) (@I25s)) (Ai (@I25b) (@zero25)))))) (Ai (Ai (Ai (Ai (@grow25) (Ai (@Tryz.underlying33) (@sz33))) (Ai (@info33) (Ai (@I33s) (@I33b)))) (Ai (Ai (@zero33) (Ai (@grow33) (@Tryz.underlying34))) (Ai (Ai (@sz34) (@info34)) (Ai (@I34s) (@I34b))))) (Ai (Ai (Ai (@zero34) (Ai (@grow34) (@Tryz.underlying36))) (Ai (Ai (@sz36) (@fok36)) (Ai (@info36) (@I36s)))) (Ai (Ai (@I36b) (Ai (@zero36) (@grow36))) (Ai (Ai (@Tryz.underlying43) (@sz43)) (Ai (@fok43) (@info43))))))) (Ai (Ai (Ai (Ai (Ai (@I43s) (Ai (@I43b) (@zero43))) (Ai (@grow43) (Ai (@Tryz.underlying44) (@sz44)))) (Ai (Ai (@info44) (Ai (@I44s) (@I44b))) (Ai (Ai (@zero44) (@grow44)) (Ai (@Tryz.underlying46) (@sz46))))) (Ai (Ai (Ai (@fok46) (Ai (@info46) (@I46s))) (Ai (Ai (@I46b) (@zero46)) (Ai (@grow46) (@Tryz.underlying57)))) (Ai (Ai (@sz57) (Ai (@info57) (@I57s))) (Ai (Ai (@I57b) (@zero57)) (Ai (@grow57) (@Tryz.underlying68)))))) (Ai (Ai (Ai (Ai (@sz68) (Ai (@info68) (@I68s))) (Ai (Ai (@I68b) (@zero68)) (Ai (@grow68) (@Tryz.underlying69)))) (Ai (Ai (@sz69) (Ai (@info69) (@I69s))) (Ai (Ai (@I69b) (@zero69)) (Ai (@grow69) (@Tryz.underlying71))))) (Ai (Ai (Ai (@sz71) (Ai (@fok71) (@info71))) (Ai (Ai (@I71s) (@Tryz.underlying76)) (Ai (@sz76) (@fok76)))) (Ai (Ai (@info76) (Ai (@I76s) (@I76b))) (Ai (Ai (@zero76) (@grow76)) (Ai (@call27) (@Tryz.results26)))))))
set_option maxRecDepth 20000
set_option maxHeartbeats 8000000
def eHf (h:Hf):List EVal:=[.int .i64 h.inn,.int .i64 h.side,.int .i64 h.frm,.int .i64 h.to,.int .i64 h.runs,.int .i64 h.turns,.int .i64 h.outs,.int .i64 h.left]
def gF (l:List Hf):List (List EVal):=l.map eHf
def fJ (l:List Hf):List EVal:=(gF l).flatten
theorem rowsH_length (l:List Hf):(gF l).length=l.length:=by simp [gF]
theorem c9 (h:Hf):(eHf h).length=8:=rfl
theorem vHf_c (h:Hf):V.cs (rHf.v h)=eHf h:=by
 show V.cs [V.int .i64 h.inn,V.int .i64 h.side,V.int .i64 h.frm,V.int .i64 h.to,V.int .i64 h.runs,V.int .i64 h.turns,V.int .i64 h.outs,V.int .i64 h.left]=_
 simp only [V.cs,V.c,eHf]
theorem vHfs_c (l:List Hf):((Cod.list hf0 rHf).v l).c=.lsl (gF l):=by
 have h1:(V.el (l.map rHf.v)).c=((Cod.list hf0 rHf).v l).c:=aY
 refine h1.symm.trans ?_
 rw [V.c,V.css_map,List.map_map,gF]
 exact congrArg EVal.lsl (List.map_congr_left fun p _=>vHf_c p)
theorem dT (q:Hf) (l:List Hf):fJ (q::l)=eHf q++fJ l:=by simp [fJ,gF]
theorem cellH_length (l:List Hf):(fJ l).length=l.length*8:=by
 induction l with
 | nil=>rfl
 | cons q l ih=>rw [dT,List.length_append,ih,c9,List.length_cons];omega
theorem azG (l:List Hf) (q:Hf):fJ (l++[q])=fJ l++eHf q:=by simp [fJ,gF]
theorem azF (l:List Hf):(fJ l).take (l.length*8)=fJ l:=by rw [←cellH_length l,List.take_length]
theorem aq7 (l:List Hf):keepL (fJ l)=some (fJ l):=by
 induction l with
 | nil=>rfl
 | cons q l ih=>
   rw [dT]
   exact dW (rfl:keepL (eHf q)=some (eHf q)) ih
theorem aqv (l:List Hf):chunk 8 l.length (fJ l)=gF l:=by
 induction l with
 | nil=>rfl
 | cons q l ih=>
   rw [dT]
   show(eHf q++fJ l).take 8::chunk 8 l.length ((eHf q++fJ l).drop 8)=_
   rw [List.take_left' (c9 q),List.drop_left' (c9 q),ih];rfl
theorem axF {l:List Hf}{k:Nat}{q:Hf}(h:l[k]? = some q):((fJ l).drop (k*8)).take 8=eHf q:=by
 induction l generalizing k with
 | nil=>cases h
 | cons x l ih=>
   rw [dT]
   cases k with
   | zero=>
     simp only [List.getElem?_cons_zero,Oi]at h
     subst h
     rw [Nat.zero_mul,List.drop_zero,List.take_left' (c9 x)]
   | succ k=>
     simp only [List.getElem?_cons_succ]at h
     rw [show(k+1)*8=(eHf x).length+k*8 by rw [c9];omega,List.drop_append,List.drop_of_length_le (by omega),Nat.add_sub_cancel_left,List.nil_append]
     exact ih h
theorem zA {l:List Hf}{k:Nat}{q:Hf}(h:l[k]? = some q) {j:Nat}(hj:j<8):(fJ l)[k*8+j]? = (eHf q)[j]? := by
 have:=axF h
 rw [←this,List.getElem?_take_of_lt hj,List.getElem?_drop]
theorem akc {l:List Hf}{k:Nat}{q:Hf}(hk:k<l.length):setRange (fJ l) (k*8) (eHf q)=fJ (l.set k q):=by
 unfold setRange
 induction l generalizing k with
 | nil=>simp at hk
 | cons x l ih=>
   rw [dT]
   cases k with
   | zero=>rw [List.set_cons_zero,dT,Nat.zero_mul,List.take_zero,List.nil_append,c9,Nat.zero_add,List.drop_left' (c9 x)]
   | succ k=>
     rw [List.set_cons_succ,dT,←ih (by simpa using hk)]
     have e:(k+1)*8=(eHf x).length+k*8:=by rw [c9];omega
     rw [e,Nat.add_assoc,List.take_length_add_append,List.drop_length_add_append,List.append_assoc,List.append_assoc,List.append_assoc]
def HL (c7:Nat) (v:EVal) (ps:List Hf) (N:Nat) (l:List (Nat×Option bL)):Prop:=
 (v=.nilslice∧ps=[])∨∃id,c7<id∧id<N∧v=.slice id 0 ps.length (.slack 0)∧lookG l id=some (.row (fJ ps) 43 0 0 true)
theorem bqo {c7:Nat}{v:EVal}{ps:List Hf}{N:Nat}{l:List (Nat×Option bL)}(h:HL c7 v ps N l):v.cells=[v]∧v.one=true∧allOne [v]=true∧v.kept=false∧∀h,eLen Tryz.prog h 25 v=some (.int .i64 (ps.length:Nat)):=by
 rcases h with⟨rfl,rfl⟩ | ⟨id,_,_,rfl,_⟩<;>exact⟨rfl,rfl,rfl,rfl,fun h=>by simp only [SS,akv,kcall,setRange,repl,isNextM,eConvert,eField,eSlice,eBuild,eBuildSlice,Nat.reduceLT,Nat.reduceEqDiff,Nat.reduceAdd,Nat.reduceMul,Nat.reduceSub,Nat.reduceLeDiff,Nat.reduceBEq,reduceCtorEq]⟩
theorem HL_put {c7 j:Nat}{v:EVal}{ps:List Hf}{N:Nat}{l:List (Nat×Option bL)}{x:Option bL}(hj:j≤c7) (h:HL c7 v ps N l):HL c7 v ps N ((j,x)::l):=by
 rcases h with h|⟨id,h1,h2,h3,h4⟩
 · exact .inl h
 · exact .inr ⟨id,h1,h2,h3,by rw [lookG.eq_2,if_neg (by omega)];exact h4⟩
theorem HL_new {c7:Nat}{v:EVal}{ps:List Hf}{N:Nat}{l:List (Nat×Option bL)}{x y:Option bL}(h:HL c7 v ps N l):HL c7 v ps (N+1) ((N,x)::(N,y)::l):=by
 rcases h with h|⟨id,h1,h2,h3,h4⟩
 · exact .inl h
 · exact .inr ⟨id,h1,by omega,h3,by rw [lookG.eq_2,if_neg (by omega),lookG.eq_2,if_neg (by omega)];exact h4⟩
theorem axr {c7:Nat}{v:EVal}{ps:List Hf}{q:Hf}{N m:Nat}{l:List (Nat×Option bL)}{kk:List (Nat×Option (Nat×TypeId))}(h:HL c7 v ps N l) (hc:c7<N) (hN:N<16000) (hlen:ps.length≤1000) :
  ∃v2 l2,eAppend Tryz.prog (mkH N l m kk) 25 v (.lsl [[.int .i64 q.inn,.int .i64 q.side,.int .i64 q.frm,.int .i64 q.to,.int .i64 q.runs,.int .i64 q.turns,.int .i64 q.outs,.int .i64 q.left]])=some (v2,mkH (N+1) l2 m kk)∧v2=.slice N 0 (ps.length+1) (.slack 0)∧lookG l2 N=some (.row (fJ (ps++[q])) 43 0 0 true)∧∀i,i≤c7→lookG l2 i=lookG l i:=by
 have g2:aZ 8 [[EVal.int .i64 q.inn,EVal.int .i64 q.side,EVal.int .i64 q.frm,EVal.int .i64 q.to,EVal.int .i64 q.runs,EVal.int .i64 q.turns,EVal.int .i64 q.outs,EVal.int .i64 q.left]]=true:=rfl
 rcases h with⟨rfl,rfl⟩ | ⟨id,hlo2,hid,rfl,hl⟩
 · have g1:decide (64*1≤1000000)=true:=by decide
   refine⟨.slice N 0 1 (.slack 0),(N,some (.row (eHf q) 43 0 0 true))::l,?_,rfl,by simp [lookG,fJ,gF],?_⟩
   · simp only [SS,akv,kcall,setRange,repl,isNextM,eConvert,eField,eSlice,eBuild,eBuildSlice,Nat.reduceLT,Nat.reduceEqDiff,Nat.reduceAdd,Nat.reduceMul,Nat.reduceSub,Nat.reduceLeDiff,Nat.reduceBEq,reduceCtorEq,g1,g2]
     rfl
   · intro i hi
     rw [lookG.eq_2,if_neg (by omega)]
 · have hid0:id<16000:=by omega
   have g1:decide (64*(ps.length+1)≤1000000)=true:=by simp;omega
   have g3:((ps.length+1)*8≤ps.length*8)=False:=by simp only [eq_iff_iff,iff_false];omega
   refine⟨.slice N 0 (ps.length+1) (.slack 0),(N,some (.row (fJ ps++eHf q) 43 0 0 true))::(id,none)::l,?_,rfl,by rw [azG];simp [lookG],?_⟩
   · simp only [SS,akv,kcall,setRange,repl,isNextM,eConvert,eField,eSlice,eBuild,eBuildSlice,Nat.reduceLT,Nat.reduceEqDiff,Nat.reduceAdd,Nat.reduceMul,Nat.reduceSub,Nat.reduceLeDiff,Nat.reduceBEq,reduceCtorEq,hid0,hl,g1,g2,g3,cellH_length,azF]
     rfl
   · intro i hi
     rw [lookG.eq_2,if_neg (by omega),lookG.eq_2,if_neg (by omega)]
noncomputable def longS (h:Hf) (i:Nat) (s:St) (t:Pl):Hf:=⟨h.inn,h.side,h.frm,IntKind.i64.wrap ((i:Int)+1),IntKind.i64.wrap (h.runs+eO s t),if t.e=[]then h.turns else IntKind.i64.wrap (h.turns+1),outsI s t,((yB s t).length:Nat)⟩
def o9 (l:List Hf) (s:St):Bool:=match l.getLast? with
 | none=>true
 | some h=>!(h.inn==s.inn)||!(h.side==s.half)
def withH (l:List Hf) (i:Nat) (s:St):List Hf:=if o9 l s=true then l++[⟨s.inn,s.half,(i:Nat),0,0,0,0,0⟩]else l
noncomputable def sV (l:List Hf) (i:Nat) (s:St) (t:Pl):List Hf:=(withH l i s).set ((withH l i s).length-1) (longS ((withH l i s).getLastD hf0) i s t)
noncomputable def F103:List EVal→Option EVal:=fOf bqN (Cod.agg rHf) Sz103
theorem fn103:FnT 27 F103:=Kz103.ok
theorem s103 {s:St}{t:Pl}(A:Acc s t) (h:Hf) (i:Nat):Sz103 (h,(i:Int),cN s t,())=some (longS h i s t):=by
 have e89:axT (cN s t,())=some (iR (outsI s t) t.l t.m):=s89 (s:=cN s t) A.mv
 have e93:=s93 A.mv (aqb A.st).half A.good
 have e145:pD (cN s t,())=some (decide (t.e=[])):=rfl
 show Ez103 h (i:Int) (cN s t)=_
 unfold Ez103 Tz103
 simp only [TS,w6]
 rw [e89,obind_some,e145,obind_some]
 unfold longS eO
 by_cases he:t.e=[]
 · simp only [he,decide_true,Bool.not_true,cond_false,e93,obind_some,if_true];rfl
 · simp only [he,decide_false,Bool.not_false,cond_true,e93,obind_some,if_false];rfl
theorem e103 {s:St}{t:Pl}(A:Acc s t) (h:Hf) (i:Nat):F103 [.agg (eHf h),.int .i64 (i:Nat),.lptr (eTn (cN s t)) 0]=some (.agg (eHf (longS h i s t))):=by
 have e:V.cs (bqN.v (h,(i:Int),cN s t,()))=[.agg (eHf h),.int .i64 (i:Nat),.lptr (eTn (cN s t)) 0]:=by
  show V.cs [V.agg (rHf.v h),V.int .i64 (i:Int),V.lptr (rTn.v (cN s t)) 0]=_
  simp only [V.cs,V.c,eTn,vHf_c]
 rw [←e]
 unfold F103 fOf
 rw [bqN.rt,Option.bind_some,s103 A h i]
 show some ((V.agg (rHf.v _)).c)=_
 rw [V.c,vHf_c]
theorem eTn0 {s:St}{t:Pl}:(eTn (cN s t))[0]? = some (.int .i64 s.inn):=by
 show(V.cs (V.int .i64 s.inn::_))[0]? = _
 rw [V.cs,V.c];rfl
theorem eTn1 {s:St}{t:Pl}:(eTn (cN s t))[1]? = some (.int .i64 s.half):=by
 show(V.cs (V.int .i64 s.inn::V.int .i64 s.half::_))[1]? = _
 rw [V.cs,V.cs,V.c,V.c];rfl
end Go.Ev
