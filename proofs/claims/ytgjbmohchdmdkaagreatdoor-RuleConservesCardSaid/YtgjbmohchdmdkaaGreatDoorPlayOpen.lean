import Derived.Test.YtgjbmohchdmdkaaGreatDoorEvD
import Derived.Test.YtgjbmohchdmdkaaGreatDoorCardBase
import Derived.Test.YtgjbmohchdmdkaaGreatDoorStOpen
import Derived.Test.YtgjbmohchdmdkaaGreatDoorStrOpen
set_option linter.unusedSimpArgs false
set_option linter.unusedVariables false
namespace Go.Proofs.YtgjbmohchdmdkaaGreatDoor.base
open Go.ChangeShapes Go.WideShapes Go.ChangeAt Go.RowKit Go.Lib Go.Ev Go.Joins Go.Deep
set_option maxRecDepth 100000
theorem k3:Tryz.prog.cellsOf 3=1:=by kernel_rfl
theorem k4:Tryz.prog.cellsOf 4=1:=by kernel_rfl
theorem k9:Tryz.prog.cellsOf 9=1:=by kernel_rfl
theorem k56:Tryz.prog.cellsOf 56=4:=by kernel_rfl
theorem k30:Tryz.prog.cellsOf 30=1:=by kernel_rfl
theorem k106:Tryz.prog.cellsOf 106=5:=by kernel_rfl
section
variable {H:Type}{enc:TypeId×Value→H}{w:World}
theorem bqQ {n:Nat}{v:Value}{x:DataW H×List MemPlace}(h:DataW.trod enc Tryz.prog w 0 (fun _=>true) true n 30 [v]=some x):∃zs:List Int,VRel (ρ0 w) (.lsl (avR zs)) v∧zs.length<9223372036854775808:=by
 rcases open_slice Tryz.underlying30 h with⟨hcs,_⟩ | ⟨a,len,cap,m,n',D,Pl,hcs,_,hl,hm,hmm,_,hx⟩
 · simp only [List.cons.injEq,and_true]at hcs
   subst hcs
   exact⟨[],.lsln,by simp⟩
 · simp only [List.cons.injEq,and_true]at hcs
   subst hcs
   have hle:len≤m:=by rw [hmm];simp;omega
   rw [k3]at hx
   obtain⟨V,hV⟩:=choose_lt (α:=Int) (n:=len) (p:=fun i z=>w.cells? 0 (a.add (i*1)) 1=some [.int .i64 z]) (fun i hi=>by
    obtain⟨cs',h1,h2⟩:=hx i (by omega)
    obtain⟨z,rfl,_⟩:=DataW.trod_int Tryz.underlying3 h2
    exact⟨z,h1⟩)
   refine⟨(List.range len).map V,?_,by simp;have:=aqF;omega⟩
   have e:avR ((List.range len).map V)=(List.range len).map fun i=>[EVal.int .i64 (V i)]:=by simp [avR,Function.comp_def]
   rw [e]
   exact VRel.rows hl (by omega) _ (fun i=>[.int .i64 (V i)]) hV (fun i _=>.cons _ _ _ _ (.int _ _) .nil)
theorem list5 {α:Type}{l:List α}(h:l.length=5):∃a b c d e,l=[a,b,c,d,e]:=by
 match l,h with
 | [a,b,c,d,e],_=>exact⟨a,b,c,d,e,rfl⟩
theorem bqP {n:Nat}{cs:List Value}{x:DataW H×List MemPlace}(h:DataW.trod enc Tryz.prog w 0 (fun _=>true) true n 106 cs=some x):∃m:Mv,VsRel (ρ0 w) (ajy m) cs∧okMv m:=by
 obtain⟨xs,n',_,_,hl,hlen,hf⟩:=DataW.trod_struct Tryz.underlying106 h
 rw [k106]at hl
 obtain⟨c0,c1,c2,c3,c4,rfl⟩:=list5 hl
 have hxs:∀i,i<5→∃y,xs[i]? = some y:=fun i hi=>⟨xs[i]'(by rw [hlen];exact hi),List.getElem?_eq_getElem _⟩
 obtain⟨y0,e0⟩:=hxs 0 (by omega)
 obtain⟨y1,e1⟩:=hxs 1 (by omega)
 obtain⟨y2,e2⟩:=hxs 2 (by omega)
 obtain⟨y3,e3⟩:=hxs 3 (by omega)
 obtain⟨y4,e4⟩:=hxs 4 (by omega)
 have f0:DataW.trod enc Tryz.prog w 0 (fun _=>true) true n' 3 (([c0,c1,c2,c3,c4].drop 0).take (Tryz.prog.cellsOf 3))=xs[0]? := hf 0 ⟨"From",3,0,false, "", "",0⟩ rfl
 have f1:DataW.trod enc Tryz.prog w 0 (fun _=>true) true n' 3 (([c0,c1,c2,c3,c4].drop 1).take (Tryz.prog.cellsOf 3))=xs[1]? := hf 1 ⟨"To",3,1,false, "", "",8⟩ rfl
 have f2:DataW.trod enc Tryz.prog w 0 (fun _=>true) true n' 4 (([c0,c1,c2,c3,c4].drop 2).take (Tryz.prog.cellsOf 4))=xs[2]? := hf 2 ⟨"Out",4,2,false, "", "",16⟩ rfl
 have f3:DataW.trod enc Tryz.prog w 0 (fun _=>true) true n' 9 (([c0,c1,c2,c3,c4].drop 3).take (Tryz.prog.cellsOf 9))=xs[3]? := hf 3 ⟨"How",9,3,false, "", "",24⟩ rfl
 have f4:DataW.trod enc Tryz.prog w 0 (fun _=>true) true n' 30 (([c0,c1,c2,c3,c4].drop 4).take (Tryz.prog.cellsOf 30))=xs[4]? := hf 4 ⟨"By",30,4,false, "", "",40⟩ rfl
 simp only [k3,k4,k9,k30,e0,e1,e2,e3,e4,List.drop_zero,List.drop_succ_cons,List.take_succ_cons,List.take_zero]at f0 f1 f2 f3 f4
 obtain⟨z0,g0,_⟩:=DataW.trod_int Tryz.underlying3 f0
 obtain⟨z1,g1,_⟩:=DataW.trod_int Tryz.underlying3 f1
 obtain⟨z2,g2,_⟩:=DataW.trod_bool Tryz.underlying4 f2
 obtain⟨z3,g3,_⟩:=DataW.trod_string Tryz.underlying9 f3
 obtain⟨zs,g4,g5⟩:=bqQ f4
 simp only [List.cons.injEq,and_true]at g0 g1 g2 g3
 subst g0 g1 g2 g3
 exact⟨⟨z0,z1,z2,z3.data.toList.map UInt8.toNat,zs⟩,.cons _ _ _ _ (.int _ _) (.cons _ _ _ _ (.int _ _) (.cons _ _ _ _ (.bool _) (.cons _ _ _ _ (.str _ _ rfl) (.cons _ _ _ _ g4 .nil)))),g5⟩
theorem aku {n:Nat}{v:Value}{x:DataW H×List MemPlace}(h:DataW.trod enc Tryz.prog w 0 (fun _=>true) true n 54 [v]=some x):∃l:List Mv,VRel (ρ0 w) (.lsl (lY l)) v∧l.length<9223372036854775808∧∀m∈l,okMv m:=by
 rcases open_slice Tryz.underlying54 h with⟨hcs,_⟩ | ⟨a,len,cap,m,n',D,Pl,hcs,_,hl,hm,hmm,_,hx⟩
 · simp only [List.cons.injEq,and_true]at hcs
   subst hcs
   exact⟨[],.lsln,by simp,by simp⟩
 · simp only [List.cons.injEq,and_true]at hcs
   subst hcs
   have hle:len≤m:=by rw [hmm];simp;omega
   rw [k106]at hx
   have:Inhabited Mv:=⟨⟨0,0,false,[],[]⟩⟩
   obtain⟨C,hC⟩:=choose_lt (α:=List Value) (n:=len) (p:=fun i cs=>w.cells? 0 (a.add (i*5)) 5=some cs∧∃m:Mv,VsRel (ρ0 w) (ajy m) cs∧okMv m) (fun i hi=>by
    obtain⟨cs',h1,h2⟩:=hx i (by omega)
    exact⟨cs',h1,bqP h2⟩)
   obtain⟨V,hV⟩:=choose_lt (α:=Mv) (n:=len) (p:=fun i m=>VsRel (ρ0 w) (ajy m) (C i)∧okMv m) (fun i hi=>(hC i hi).2)
   refine⟨(List.range len).map V,?_,by simp;have:=aqF;omega,?_⟩
   · have e:lY ((List.range len).map V)=(List.range len).map fun i=>ajy (V i):=by simp [lY,Function.comp_def]
     rw [e]
     exact VRel.rows hl (by omega) _ C (fun i hi=>(hC i hi).1) (fun i hi=>(hV i hi).1)
   · intro y hy
     obtain⟨i,hi,rfl⟩:=List.mem_map.1 hy
     exact(hV i (by simpa using hi)).2
theorem hone56:∃f0 f1 f2 f3:Field,Tryz.prog.underlying 56=some (.struct #[f0,f1,f2,f3])∧oneCellFields Tryz.prog #[f0,f1,f2,f3]=true∧f0.type=9∧f1.type=9∧f2.type=4∧f3.type=54:=
 ⟨_,_,_,_,Tryz.underlying56,by kernel_rfl,rfl,rfl,rfl,rfl⟩
theorem awE {r:Reach}{b0:Nat}{v:Value}{d:DataW H}{p:List MemPlace}(hv:Value.okWide Tryz.prog w r b0 56 v) (h:DataW.Trod enc Tryz.prog w 0 (fun _=>true) true 56 v d p) :
  ∃(s e:ByteArray) (late:Bool) (l:List Mv),VRel (ρ0 w) (.agg [.str (s.data.toList.map UInt8.toNat),.str (e.data.toList.map UInt8.toNat),.bool late,.lsl (lY l)]) v∧l.length<9223372036854775808∧∀m∈l,okMv m:=by
 obtain⟨f0,f1,f2,f3,hu,hone,t0,t1,t2,t3⟩:=hone56
 obtain⟨v0,v1,v2,v3,y0,y1,y2,y3,k,rfl,rfl,rfl,h0,h1,h2,h3⟩:=open_agg4 hu hone k56 hv h
 rw [t0]at h0
 rw [t1]at h1
 rw [t2]at h2
 rw [t3]at h3
 obtain⟨s,g0,_⟩:=DataW.trod_string Tryz.underlying9 h0
 obtain⟨e,g1,_⟩:=DataW.trod_string Tryz.underlying9 h1
 obtain⟨late,g2,_⟩:=DataW.trod_bool Tryz.underlying4 h2
 obtain⟨l,g3,g4,g5⟩:=aku h3
 simp only [List.cons.injEq,and_true]at g0 g1 g2
 subst g0 g1 g2
 exact⟨s,e,late,l,.agg _ _ (.cons _ _ _ _ (.str _ _ rfl) (.cons _ _ _ _ (.str _ _ rfl) (.cons _ _ _ _ (.bool _) (.cons _ _ _ _ g3 .nil)))),g4,g5⟩
theorem akS {v:Value}{d:DataW H}{p:List MemPlace}{W':World}{sp:Nat→Bool}(h:DataW.Trod enc Tryz.prog w 0 (fun _=>true) true 56 v d p) (hb:Below w.heap.size w W') (hlt:∀x∈p,x.block<w.heap.size) (hs:∀x∈p,sp x.block=true) :
  DataW.Trod enc Tryz.prog W' 0 sp true 56 v d p:=
 Go.WideElems.Trod_stays awP (by kernel_rfl) (of_decide_eq_true (by kernel_rfl)) h (fun x hx=>hb.same (hlt x hx)) hs
end
end Go.Proofs.YtgjbmohchdmdkaaGreatDoor.base
