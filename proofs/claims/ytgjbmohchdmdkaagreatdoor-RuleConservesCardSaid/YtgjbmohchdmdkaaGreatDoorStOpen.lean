import Derived.Test.YtgjbmohchdmdkaaGreatDoorEvD
import Derived.Test.YtgjbmohchdmdkaaGreatDoorCardBase
import Derived.Test.YtgjbmohchdmdkaaGreatDoorDSpec
import Derived.OpenShut
set_option linter.unusedSimpArgs false
set_option linter.unusedVariables false
namespace Go.Proofs.YtgjbmohchdmdkaaGreatDoor.base
open Go.ChangeShapes Go.WideShapes Go.ChangeAt Go.RowKit Go.Lib Go.Ev Go.Joins Go.Deep
set_option maxRecDepth 100000
theorem c3:Tryz.prog.cellsOf 3=1:=by kernel_rfl
theorem c4:Tryz.prog.cellsOf 4=1:=by kernel_rfl
theorem c22:Tryz.prog.cellsOf 22=3:=by kernel_rfl
theorem c23:Tryz.prog.cellsOf 23=2:=by kernel_rfl
theorem c25:Tryz.prog.cellsOf 25=13:=by kernel_rfl
theorem awP:laidOutB Tryz.prog=true:=by kernel_rfl
section
variable {H:Type}{enc:TypeId×Value→H}{w:World}
theorem list13 {α:Type}{l:List α}(h:l.length=13):∃a b c d e f g h i j k m n,l=[a,b,c,d,e,f,g,h,i,j,k,m,n]:=by
 match l,h with
 | [a,b,c,d,e,f,g,h,i,j,k,m,n],_=>exact⟨a,b,c,d,e,f,g,h,i,j,k,m,n,rfl⟩
theorem jK {n m:Nat}{e:TypeId}{cs:List Value}{xs:List (DataW H×List MemPlace)}(hl:xs.length=m) (h:∀i,i<m→DataW.trod enc Tryz.prog w 0 (fun _=>true) true n e ((cs.drop (i*Tryz.prog.cellsOf e)).take (Tryz.prog.cellsOf e))=xs[i]?) {i:Nat}(hi:i<m):∃y,DataW.trod enc Tryz.prog w 0 (fun _=>true) true n e ((cs.drop (i*Tryz.prog.cellsOf e)).take (Tryz.prog.cellsOf e))=some y:=
 ⟨xs[i]'(by omega),by rw [h i hi];exact List.getElem?_eq_getElem _⟩
theorem cC {n:Nat}{fs:Array Field}{cs:List Value}{xs:List (DataW H×List MemPlace)}(hl:xs.length=fs.size) (h:∀(i:Nat) (f:Field),fs[i]? = some f→DataW.trod enc Tryz.prog w 0 (fun _=>true) true n f.type ((cs.drop f.offset).take (Tryz.prog.cellsOf f.type))=xs[i]?) (i:Nat) {f:Field}(hf:fs[i]? = some f):∃y,DataW.trod enc Tryz.prog w 0 (fun _=>true) true n f.type ((cs.drop f.offset).take (Tryz.prog.cellsOf f.type))=some y:=by
 have hi:i<fs.size:=(Array.getElem?_eq_some_iff.1 hf).1
 exact⟨xs[i]'(by omega),by rw [h i f hf];exact List.getElem?_eq_getElem _⟩
theorem rel_i3 {n:Nat}{a b c:Value}{x:DataW H×List MemPlace}(h:DataW.trod enc Tryz.prog w 0 (fun _=>true) true n 22 [a,b,c]=some x):∃i j k:Int,a=.int .i64 i∧b=.int .i64 j∧c=.int .i64 k:=by
 obtain⟨xs,m,_,_,_,hxl,hxs⟩:=DataW.trod_array Tryz.underlying22 h
 obtain⟨y0,e0⟩:=jK hxl hxs (i:=0) (by omega)
 obtain⟨y1,e1⟩:=jK hxl hxs (i:=1) (by omega)
 obtain⟨y2,e2⟩:=jK hxl hxs (i:=2) (by omega)
 simp only [c3,Nat.zero_mul,Nat.mul_one,List.drop_zero,List.drop_succ_cons,List.take_succ_cons,List.take_zero]at e0 e1 e2
 obtain⟨z0,g0,_⟩:=DataW.trod_int Tryz.underlying3 e0
 obtain⟨z1,g1,_⟩:=DataW.trod_int Tryz.underlying3 e1
 obtain⟨z2,g2,_⟩:=DataW.trod_int Tryz.underlying3 e2
 simp only [List.cons.injEq,and_true]at g0 g1 g2
 exact⟨z0,z1,z2,g0,g1,g2⟩
theorem bxG {n:Nat}{a b:Value}{x:DataW H×List MemPlace}(h:DataW.trod enc Tryz.prog w 0 (fun _=>true) true n 23 [a,b]=some x):∃i j:Int,a=.int .i64 i∧b=.int .i64 j:=by
 obtain⟨xs,m,_,_,_,hxl,hxs⟩:=DataW.trod_array Tryz.underlying23 h
 obtain⟨y0,e0⟩:=jK hxl hxs (i:=0) (by omega)
 obtain⟨y1,e1⟩:=jK hxl hxs (i:=1) (by omega)
 simp only [c3,Nat.zero_mul,Nat.mul_one,List.drop_zero,List.drop_succ_cons,List.take_succ_cons,List.take_zero]at e0 e1
 obtain⟨z0,g0,_⟩:=DataW.trod_int Tryz.underlying3 e0
 obtain⟨z1,g1,_⟩:=DataW.trod_int Tryz.underlying3 e1
 simp only [List.cons.injEq,and_true]at g0 g1
 exact⟨z0,z1,g0,g1⟩
theorem akt {n:Nat}{cs:List Value}{x:DataW H×List MemPlace}(h:DataW.trod enc Tryz.prog w 0 (fun _=>true) true n 25 cs=some x):∃s:St,VsRel (ρ0 w) (eSt s) cs:=by
 obtain⟨xs,n',_,_,hl,hlen,hf⟩:=DataW.trod_struct Tryz.underlying25 h
 rw [c25]at hl
 obtain⟨c0,c1,c2,c3',c4',c5,c6,c7,c8,c9,c10,c11,c12,rfl⟩:=list13 hl
 obtain⟨y0,e0⟩:=cC hlen hf 0 (f:=⟨"Inning",3,0,false, "", "",0⟩) rfl
 obtain⟨y1,e1⟩:=cC hlen hf 1 (f:=⟨"Half",3,1,false, "", "",8⟩) rfl
 obtain⟨y2,e2⟩:=cC hlen hf 2 (f:=⟨"Outs",3,2,false, "", "",16⟩) rfl
 obtain⟨y3,e3⟩:=cC hlen hf 3 (f:=⟨"Balls",3,3,false, "", "",24⟩) rfl
 obtain⟨y4,e4⟩:=cC hlen hf 4 (f:=⟨"Strikes",3,4,false, "", "",32⟩) rfl
 obtain⟨y5,e5⟩:=cC hlen hf 5 (f:=⟨"Bases",22,5,false, "", "",40⟩) rfl
 obtain⟨y6,e6⟩:=cC hlen hf 6 (f:=⟨"Next",23,8,false, "", "",64⟩) rfl
 obtain⟨y7,e7⟩:=cC hlen hf 7 (f:=⟨"Score",23,10,false, "", "",80⟩) rfl
 obtain⟨y8,e8⟩:=cC hlen hf 8 (f:=⟨"Over",4,12,false, "", "",96⟩) rfl
 simp only [c3,c4,c22,c23,List.drop_zero,List.drop_succ_cons,List.take_succ_cons,List.take_zero]at e0 e1 e2 e3 e4 e5 e6 e7 e8
 obtain⟨z0,g0,_⟩:=DataW.trod_int Tryz.underlying3 e0
 obtain⟨z1,g1,_⟩:=DataW.trod_int Tryz.underlying3 e1
 obtain⟨z2,g2,_⟩:=DataW.trod_int Tryz.underlying3 e2
 obtain⟨z3,g3,_⟩:=DataW.trod_int Tryz.underlying3 e3
 obtain⟨z4,g4,_⟩:=DataW.trod_int Tryz.underlying3 e4
 obtain⟨i,j,k,rfl,rfl,rfl⟩:=rel_i3 e5
 obtain⟨p,q,rfl,rfl⟩:=bxG e6
 obtain⟨r,t,rfl,rfl⟩:=bxG e7
 obtain⟨z8,g8,_⟩:=DataW.trod_bool Tryz.underlying4 e8
 simp only [List.cons.injEq,and_true]at g0 g1 g2 g3 g4 g8
 subst g0 g1 g2 g3 g4 g8
 exact⟨⟨z0,z1,z2,z3,z4,i,j,k,p,q,r,t,z8⟩,.cons _ _ _ _ (.int _ _) (.cons _ _ _ _ (.int _ _) (.cons _ _ _ _ (.int _ _) (.cons _ _ _ _ (.int _ _) (.cons _ _ _ _ (.int _ _) (.cons _ _ _ _ (.int _ _) (.cons _ _ _ _ (.int _ _) (.cons _ _ _ _ (.int _ _) (.cons _ _ _ _ (.int _ _) (.cons _ _ _ _ (.int _ _) (.cons _ _ _ _ (.int _ _) (.cons _ _ _ _ (.int _ _) (.cons _ _ _ _ (.bool _) .nil))))))))))))⟩
theorem avD {r:Reach}{b0:Nat}{v:Value}{d:DataW H}{p:List MemPlace}(hv:Value.okWide Tryz.prog w r b0 25 v) (h:DataW.Trod enc Tryz.prog w 0 (fun _=>true) true 25 v d p) :
  ∃s:St,VRel (ρ0 w) (.agg (eSt s)) v:=by
 simp only [Value.okWide,Tryz.underlying25]at hv
 obtain⟨cs,rfl,_⟩:=hv
 obtain⟨fuel,hf⟩:=h
 obtain⟨s,h1⟩:=akt hf
 exact⟨s,.agg _ _ h1⟩
theorem azu {v:Value}{d:DataW H}{p:List MemPlace}{W':World}{sp:Nat→Bool}(h:DataW.Trod enc Tryz.prog w 0 (fun _=>true) true 25 v d p) (hb:Below w.heap.size w W') (hlt:∀x∈p,x.block<w.heap.size) (hs:∀x∈p,sp x.block=true) :
  DataW.Trod enc Tryz.prog W' 0 sp true 25 v d p:=
 Go.WideElems.Trod_stays awP (by kernel_rfl) (of_decide_eq_true (by kernel_rfl)) h (fun x hx=>hb.same (hlt x hx)) hs
end
end Go.Proofs.YtgjbmohchdmdkaaGreatDoor.base
