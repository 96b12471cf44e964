import Derived.Test.YtknnagbemkdlgaaGreatDoorEvD
import Derived.Test.YtknnagbemkdlgaaGreatDoorBase
import Derived.Test.YtknnagbemkdlgaaGreatDoorDCD
import Derived.Test.YtknnagbemkdlgaaGreatDoorDQP
import Derived.Test.YtknnagbemkdlgaaGreatDoorDP2
set_option linter.unusedSimpArgs false
set_option linter.unusedVariables false
namespace Go.Ev
open Go.RowKit Go.Proofs
noncomputable def dTI:TypeInfo:={ desc:=.bool,str := "",size:=0,bytes:=0,hasPointers:=false,align:=0,fieldAlign:=0,zero:=none,comparable:=false,methods:=#[] }
theorem sz3:aL Tryz.prog 3=some 1:=by kernel_rfl
noncomputable def I3:TypeInfo:=(Tryz.prog.info? 3).getD dTI
theorem info3:Tryz.prog.info? 3=some I3:=by kernel_rfl
theorem I3s:I3.size=1:=by kernel_rfl
theorem I3b:I3.bytes=8:=by kernel_rfl
theorem zero3:cM Tryz.prog 3=some [.int .i64 0]:=by kernel_rfl
theorem grow3 {need:Nat}:aR Tryz.prog 3 1 8 need=decide (8*need≤1000000):=b6 zero3 rfl (by decide)
theorem sz4:aL Tryz.prog 4=some 1:=by kernel_rfl
noncomputable def I4:TypeInfo:=(Tryz.prog.info? 4).getD dTI
theorem info4:Tryz.prog.info? 4=some I4:=by kernel_rfl
theorem I4s:I4.size=1:=by kernel_rfl
theorem I4b:I4.bytes=1:=by kernel_rfl
theorem zero4:cM Tryz.prog 4=some [.bool false]:=by kernel_rfl
theorem grow4 {need:Nat}:aR Tryz.prog 4 1 1 need=decide (1*need≤1000000):=b6 zero4 rfl (by decide)
theorem sz5:aL Tryz.prog 5=some 1:=by kernel_rfl
noncomputable def I5:TypeInfo:=(Tryz.prog.info? 5).getD dTI
theorem info5:Tryz.prog.info? 5=some I5:=by kernel_rfl
theorem I5s:I5.size=1:=by kernel_rfl
theorem I5b:I5.bytes=1:=by kernel_rfl
theorem zero5:cM Tryz.prog 5=some [.int .u8 0]:=by kernel_rfl
theorem grow5 {need:Nat}:aR Tryz.prog 5 1 1 need=decide (1*need≤1000000):=b6 zero5 rfl (by decide)
theorem sz9:aL Tryz.prog 9=some 1:=by kernel_rfl
noncomputable def I9:TypeInfo:=(Tryz.prog.info? 9).getD dTI
theorem info9:Tryz.prog.info? 9=some I9:=by kernel_rfl
theorem I9s:I9.size=1:=by kernel_rfl
theorem I9b:I9.bytes=16:=by kernel_rfl
theorem zero9:cM Tryz.prog 9=some [.str []]:=by kernel_rfl
theorem grow9 {need:Nat}:aR Tryz.prog 9 1 16 need=decide (16*need≤1000000):=b6 zero9 rfl (by decide)
theorem sz22:aL Tryz.prog 22=some 1:=by kernel_rfl
noncomputable def I22:TypeInfo:=(Tryz.prog.info? 22).getD dTI
theorem info22:Tryz.prog.info? 22=some I22:=by kernel_rfl
theorem I22s:I22.size=1:=by kernel_rfl
theorem I22b:I22.bytes=24:=by kernel_rfl
theorem zero22:cM Tryz.prog 22=some [.nilslice]:=by kernel_rfl
theorem grow22 {need:Nat}:aR Tryz.prog 22 1 24 need=decide (24*need≤1000000):=b6 zero22 rfl (by decide)
theorem sz23:aL Tryz.prog 23=some 1:=by kernel_rfl
noncomputable def I23:TypeInfo:=(Tryz.prog.info? 23).getD dTI
theorem info23:Tryz.prog.info? 23=some I23:=by kernel_rfl
theorem I23s:I23.size=1:=by kernel_rfl
theorem I23b:I23.bytes=24:=by kernel_rfl
theorem zero23:cM Tryz.prog 23=some [.nilslice]:=by kernel_rfl
theorem grow23 {need:Nat}:aR Tryz.prog 23 1 24 need=decide (24*need≤1000000):=b6 zero23 rfl (by decide)
theorem sz25:aL Tryz.prog 25=some 4:=by kernel_rfl
noncomputable def I25:TypeInfo:=(Tryz.prog.info? 25).getD dTI
theorem info25:Tryz.prog.info? 25=some I25:=by kernel_rfl
theorem I25s:I25.size=4:=by kernel_rfl
theorem I25b:I25.bytes=64:=by kernel_rfl
theorem zero25:cM Tryz.prog 25=some [.str [],.str [],.bool false,.nilslice]:=by kernel_rfl
theorem grow25 {need:Nat}:aR Tryz.prog 25 4 64 need=decide (64*need≤1000000):=b6 zero25 rfl (by decide)
theorem fok25:fN Tryz.prog #[{ name := "Pitches",type:=9,offset:=0,embedded:=false,tag := "",pkgPath := "",byteOffset:=0 },{ name := "Event",type:=9,offset:=1,embedded:=false,tag := "",pkgPath := "",byteOffset:=16 },{ name := "Late",type:=4,offset:=2,embedded:=false,tag := "",pkgPath := "",byteOffset:=32 },{ name := "Moves",type:=23,offset:=3,embedded:=false,tag := "",pkgPath := "",byteOffset:=40 }]=true:=by kernel_rfl
theorem sz29:aL Tryz.prog 29=some 1:=by kernel_rfl
noncomputable def I29:TypeInfo:=(Tryz.prog.info? 29).getD dTI
theorem info29:Tryz.prog.info? 29=some I29:=by kernel_rfl
theorem I29s:I29.size=1:=by kernel_rfl
theorem I29b:I29.bytes=24:=by kernel_rfl
theorem zero29:cM Tryz.prog 29=some [.nilslice]:=by kernel_rfl
theorem grow29 {need:Nat}:aR Tryz.prog 29 1 24 need=decide (24*need≤1000000):=b6 zero29 rfl (by decide)
theorem sz30:aL Tryz.prog 30=some 1:=by kernel_rfl
noncomputable def I30:TypeInfo:=(Tryz.prog.info? 30).getD dTI
theorem info30:Tryz.prog.info? 30=some I30:=by kernel_rfl
theorem I30s:I30.size=1:=by kernel_rfl
theorem I30b:I30.bytes=8:=by kernel_rfl
theorem zero30:cM Tryz.prog 30=some [.int .i64 0]:=by kernel_rfl
theorem grow30 {need:Nat}:aR Tryz.prog 30 1 8 need=decide (8*need≤1000000):=b6 zero30 rfl (by decide)
theorem sz34:aL Tryz.prog 34=some 3:=by kernel_rfl
noncomputable def I34:TypeInfo:=(Tryz.prog.info? 34).getD dTI
theorem info34:Tryz.prog.info? 34=some I34:=by kernel_rfl
theorem I34s:I34.size=3:=by kernel_rfl
theorem I34b:I34.bytes=24:=by kernel_rfl
theorem zero34:cM Tryz.prog 34=some [.int .i64 0,.int .i64 0,.int .i64 0]:=by kernel_rfl
theorem grow34 {need:Nat}:aR Tryz.prog 34 3 24 need=decide (24*need≤1000000):=b6 zero34 rfl (by decide)
theorem sz35:aL Tryz.prog 35=some 2:=by kernel_rfl
noncomputable def I35:TypeInfo:=(Tryz.prog.info? 35).getD dTI
theorem info35:Tryz.prog.info? 35=some I35:=by kernel_rfl
theorem I35s:I35.size=2:=by kernel_rfl
theorem I35b:I35.bytes=16:=by kernel_rfl
theorem zero35:cM Tryz.prog 35=some [.int .i64 0,.int .i64 0]:=by kernel_rfl
theorem grow35 {need:Nat}:aR Tryz.prog 35 2 16 need=decide (16*need≤1000000):=b6 zero35 rfl (by decide)
theorem sz37:aL Tryz.prog 37=some 13:=by kernel_rfl
noncomputable def I37:TypeInfo:=(Tryz.prog.info? 37).getD dTI
theorem info37:Tryz.prog.info? 37=some I37:=by kernel_rfl
theorem I37s:I37.size=13:=by kernel_rfl
theorem I37b:I37.bytes=104:=by kernel_rfl
theorem zero37:cM Tryz.prog 37=some [.int .i64 0,.int .i64 0,.int .i64 0,.int .i64 0,.int .i64 0,.int .i64 0,.int .i64 0,.int .i64 0,.int .i64 0,.int .i64 0,.int .i64 0,.int .i64 0,.bool false]:=by kernel_rfl
theorem grow37 {need:Nat}:aR Tryz.prog 37 13 104 need=decide (104*need≤1000000):=b6 zero37 rfl (by decide)
theorem fok37:fN Tryz.prog #[{ name := "Inning",type:=3,offset:=0,embedded:=false,tag := "",pkgPath := "",byteOffset:=0 },{ name := "Half",type:=3,offset:=1,embedded:=false,tag := "",pkgPath := "",byteOffset:=8 },{ name := "Outs",type:=3,offset:=2,embedded:=false,tag := "",pkgPath := "",byteOffset:=16 },{ name := "Balls",type:=3,offset:=3,embedded:=false,tag := "",pkgPath := "",byteOffset:=24 },{ name := "Strikes",type:=3,offset:=4,embedded:=false,tag := "",pkgPath := "",byteOffset:=32 },{ name := "Bases",type:=34,offset:=5,embedded:=false,tag := "",pkgPath := "",byteOffset:=40 },{ name := "Next",type:=35,offset:=8,embedded:=false,tag := "",pkgPath := "",byteOffset:=64 },{ name := "Score",type:=35,offset:=10,embedded:=false,tag := "",pkgPath := "",byteOffset:=80 },{ name := "Over",type:=4,offset:=12,embedded:=false,tag := "",pkgPath := "",byteOffset:=96 }]=true:=by kernel_rfl
theorem sz49:aL Tryz.prog 49=some 1:=by kernel_rfl
noncomputable def I49:TypeInfo:=(Tryz.prog.info? 49).getD dTI
theorem info49:Tryz.prog.info? 49=some I49:=by kernel_rfl
theorem I49s:I49.size=1:=by kernel_rfl
theorem I49b:I49.bytes=24:=by kernel_rfl
theorem zero49:cM Tryz.prog 49=some [.nilslice]:=by kernel_rfl
theorem grow49 {need:Nat}:aR Tryz.prog 49 1 24 need=decide (24*need≤1000000):=b6 zero49 rfl (by decide)
theorem sz65:aL Tryz.prog 65=some 1:=by kernel_rfl
noncomputable def I65:TypeInfo:=(Tryz.prog.info? 65).getD dTI
theorem info65:Tryz.prog.info? 65=some I65:=by kernel_rfl
theorem I65s:I65.size=1:=by kernel_rfl
theorem I65b:I65.bytes=8:=by kernel_rfl
theorem zero65:cM Tryz.prog 65=some [.nilp]:=by kernel_rfl
theorem grow65 {need:Nat}:aR Tryz.prog 65 1 8 need=decide (8*need≤1000000):=b6 zero65 rfl (by decide)
theorem sz66:aL Tryz.prog 66=some 1:=by kernel_rfl
noncomputable def I66:TypeInfo:=(Tryz.prog.info? 66).getD dTI
theorem info66:Tryz.prog.info? 66=some I66:=by kernel_rfl
theorem I66s:I66.size=1:=by kernel_rfl
theorem I66b:I66.bytes=8:=by kernel_rfl
theorem zero66:cM Tryz.prog 66=some [.nilfunc]:=by kernel_rfl
theorem grow66 {need:Nat}:aR Tryz.prog 66 1 8 need=decide (8*need≤1000000):=b6 zero66 rfl (by decide)
theorem sz71:aL Tryz.prog 71=some 5:=by kernel_rfl
noncomputable def I71:TypeInfo:=(Tryz.prog.info? 71).getD dTI
theorem info71:Tryz.prog.info? 71=some I71:=by kernel_rfl
theorem I71s:I71.size=5:=by kernel_rfl
theorem I71b:I71.bytes=64:=by kernel_rfl
theorem zero71:cM Tryz.prog 71=some [.int .i64 0,.int .i64 0,.bool false,.str [],.nilslice]:=by kernel_rfl
theorem grow71 {need:Nat}:aR Tryz.prog 71 5 64 need=decide (64*need≤1000000):=b6 zero71 rfl (by decide)
theorem fok71:fN Tryz.prog #[{ name := "From",type:=3,offset:=0,embedded:=false,tag := "",pkgPath := "",byteOffset:=0 },{ name := "To",type:=3,offset:=1,embedded:=false,tag := "",pkgPath := "",byteOffset:=8 },{ name := "Out",type:=4,offset:=2,embedded:=false,tag := "",pkgPath := "",byteOffset:=16 },{ name := "How",type:=9,offset:=3,embedded:=false,tag := "",pkgPath := "",byteOffset:=24 },{ name := "By",type:=49,offset:=4,embedded:=false,tag := "",pkgPath := "",byteOffset:=40 }]=true:=by kernel_rfl
theorem sz87:aL Tryz.prog 87=some 4:=by kernel_rfl
noncomputable def I87:TypeInfo:=(Tryz.prog.info? 87).getD dTI
theorem info87:Tryz.prog.info? 87=some I87:=by kernel_rfl
theorem I87s:I87.size=4:=by kernel_rfl
theorem I87b:I87.bytes=4:=by kernel_rfl
theorem zero87:cM Tryz.prog 87=some [.bool false,.bool false,.bool false,.bool false]:=by kernel_rfl
theorem grow87 {need:Nat}:aR Tryz.prog 87 4 4 need=decide (4*need≤1000000):=b6 zero87 rfl (by decide)
theorem sz89:aL Tryz.prog 89=some 25:=by kernel_rfl
noncomputable def I89:TypeInfo:=(Tryz.prog.info? 89).getD dTI
theorem info89:Tryz.prog.info? 89=some I89:=by kernel_rfl
theorem I89s:I89.size=25:=by kernel_rfl
theorem fok89:fN Tryz.prog #[{ name := "state",type:=37,offset:=0,embedded:=false,tag := "",pkgPath := "dugout/rule",byteOffset:=0 },{ name := "play",type:=25,offset:=13,embedded:=false,tag := "",pkgPath := "dugout/rule",byteOffset:=104 },{ name := "count",type:=35,offset:=17,embedded:=false,tag := "",pkgPath := "dugout/rule",byteOffset:=168 },{ name := "counted",type:=4,offset:=19,embedded:=false,tag := "",pkgPath := "dugout/rule",byteOffset:=184 },{ name := "outs",type:=3,offset:=20,embedded:=false,tag := "",pkgPath := "dugout/rule",byteOffset:=192 },{ name := "forced",type:=87,offset:=21,embedded:=false,tag := "",pkgPath := "dugout/rule",byteOffset:=200 }]=true:=by kernel_rfl
theorem body4:Tryz.f4.body.isNone=false:=by kernel_rfl
theorem call4 {h:H}{args:List EVal}:bN Tryz.prog h 4 args=some (.enter 4 args h):=cU Tryz.func4 body4
theorem body5:Tryz.f5.body.isNone=false:=by kernel_rfl
theorem call5 {h:H}{args:List EVal}:bN Tryz.prog h 5 args=some (.enter 5 args h):=cU Tryz.func5 body5
theorem body6:Tryz.f6.body.isNone=false:=by kernel_rfl
theorem call6 {h:H}{args:List EVal}:bN Tryz.prog h 6 args=some (.enter 6 args h):=cU Tryz.func6 body6
theorem body7:Tryz.f7.body.isNone=false:=by kernel_rfl
theorem call7 {h:H}{args:List EVal}:bN Tryz.prog h 7 args=some (.enter 7 args h):=cU Tryz.func7 body7
theorem body8:Tryz.f8.body.isNone=false:=by kernel_rfl
theorem call8 {h:H}{args:List EVal}:bN Tryz.prog h 8 args=some (.enter 8 args h):=cU Tryz.func8 body8
theorem body9:Tryz.f9.body.isNone=false:=by kernel_rfl
theorem call9 {h:H}{args:List EVal}:bN Tryz.prog h 9 args=some (.enter 9 args h):=cU Tryz.func9 body9
theorem body10:Tryz.f10.body.isNone=false:=by kernel_rfl
theorem call10 {h:H}{args:List EVal}:bN Tryz.prog h 10 args=some (.enter 10 args h):=cU Tryz.func10 body10
theorem body11:Tryz.f11.body.isNone=false:=by kernel_rfl
theorem call11 {h:H}{args:List EVal}:bN Tryz.prog h 11 args=some (.enter 11 args h):=cU Tryz.func11 body11
theorem body25:Tryz.f25.body.isNone=false:=by kernel_rfl
theorem call25 {h:H}{args:List EVal}:bN Tryz.prog h 25 args=some (.enter 25 args h):=cU Tryz.func25 body25
theorem body26:Tryz.f26.body.isNone=false:=by kernel_rfl
theorem call26 {h:H}{args:List EVal}:bN Tryz.prog h 26 args=some (.enter 26 args h):=cU Tryz.func26 body26
theorem body27:Tryz.f27.body.isNone=false:=by kernel_rfl
theorem call27 {h:H}{args:List EVal}:bN Tryz.prog h 27 args=some (.enter 27 args h):=cU Tryz.func27 body27
theorem body28:Tryz.f28.body.isNone=false:=by kernel_rfl
theorem call28 {h:H}{args:List EVal}:bN Tryz.prog h 28 args=some (.enter 28 args h):=cU Tryz.func28 body28
end Go.Ev
namespace Go.Ev
open Go.RowKit Go.Proofs
set_option maxRecDepth 100000
set_option maxHeartbeats 8000000
set_option linter.unusedSimpArgs false
noncomputable section
theorem oT {s:St}(h:stE s=0):axi s=0∧mT s=0∧ajs s=0∧endE s=0∧azc s=0:=by
 unfold stE axv at h
 simp only [tD]at h
 by_cases h1:axi s=0
 · rw [if_pos h1]at h
   by_cases h2:mT s=0
   · rw [if_pos h2]at h
     by_cases h3:ajs s=0
     · rw [if_pos h3]at h
       by_cases h4:endE s=0
       · rw [if_pos h4]at h
         by_cases h5:azc s=0
         · exact⟨h1,h2,h3,h4,h5⟩
         · rw [if_neg h5]at h;exact absurd h h5
       · rw [if_neg h4]at h;exact absurd h h4
     · rw [if_neg h3]at h;exact absurd h h3
   · rw [if_neg h2]at h;exact absurd h h2
 · rw [if_neg h1]at h;exact absurd h h1
theorem t7 {s:St}(h1:axi s=0) (h2:mT s=0) (h3:ajs s=0) (h4:endE s=0) (h5:azc s=0):stE s=0:=by
 unfold stE axv
 simp only [tD,h1,h2,h3,h4,h5,if_true]
structure Num (s:St):Prop where
 inn:1≤s.inn∧s.inn≤30
 half:s.half=0∨s.half=1
 outs:0≤s.outs∧s.outs≤2
 balls:0≤s.balls∧s.balls≤3
 strikes:0≤s.strikes∧s.strikes≤2
 b1:0≤s.b1∧s.b1≤9
 b2:0≤s.b2∧s.b2≤9
 b3:0≤s.b3∧s.b3≤9
 n0:1≤s.n0∧s.n0≤9
 n1:1≤s.n1∧s.n1≤9
 c0:0≤s.c0∧s.c0≤9999
 c1:0≤s.c1∧s.c1≤9999
theorem uM {s:St}:(axi s=0∧mT s=0∧ajs s=0)↔Num s:=by
 have e1:axi s=0↔inB s.inn 1 30=true:=by unfold axi;split<;>simp_all
 have e2:mT s=0↔inB s.half 0 1=true:=by unfold mT;split<;>simp_all
 have e3:ajs s=0↔nuB s 2=true:=by unfold ajs;split<;>simp_all
 rw [e1,e2,e3]
 simp only [nuB,baB,cnB,inB,Bool.and_eq_true,decide_eq_true_eq]
 constructor
 · rintro ⟨a,b,c⟩
   exact⟨a,by omega,by omega,by omega,by omega,by omega,by omega,by omega,by omega,by omega,by omega,by omega⟩
 · rintro ⟨a,b,c,d,e,f,g,h,i,j,k,l⟩
   exact⟨a,by omega,⟨⟨⟨⟨⟨⟨⟨⟨⟨c,d⟩,e⟩,f⟩,g⟩,h⟩,i⟩,k⟩,j⟩,l⟩⟩
theorem uB {s:St}:azc s=0↔akj s:=by
 rw [←fit_iff]
 unfold azc
 split<;>simp_all
theorem Num.good {s:St}(n:Num s):Good s:=⟨n.half,n.outs,n.b1,n.b2,n.b3,n.n0,n.n1⟩
theorem fit0 {s:St}(h1:s.b1=0) (h2:s.b2=0) (h3:s.b3=0):akj s:=
 ⟨fun h=>absurd h1 h,fun h=>absurd h2 h,fun h=>absurd h3 h,fun h=>absurd h1 h,fun h=>absurd h1 h,fun h=>absurd h2 h⟩
section
variable {s:St}{t:Pl}
theorem zF (h:aI t.m=0) (g:jL s t) (G:Good s) {i:Int}(hi:i=1∨i=2∨i=3):0≤kM s t i∧kM s t i≤9:=by
 have r:=oW h g hi
 have Z:=ayX (zfin h g true).1
 by_cases hz:zr s t i=0
 · rw [if_pos hz]at r;omega
 · rw [if_neg hz]at r
   have e:aqt (zr s t i)=[zr s t i-1]:=by unfold aqt;rw [show(zr s t i==0)=false by simpa using hz];rfl
   have hm:zr s t i-1∈zB s t:=by
    have ez:zB s t=aqt (zr s t 1)++(aqt (zr s t 2)++aqt (zr s t 3)):=rfl
    rw [ez]
    rcases hi with rfl|rfl|rfl<;>simp [e]
   have:=sl_nz G (Z.all _ (List.mem_append_left _ hm))
   omega
theorem cnt_in (g:jL s t) (he:t.e=[]):0≤(jF s t).1.1∧(jF s t).1.1≤3∧0≤(jF s t).1.2.1∧(jF s t).1.2.1≤2:=by
 have hk:=avo g.cnt
 have ha:=g.asks
 rw [he]at ha
 have h1:(jF s t).1.1≠4:=by
  intro q
  unfold askC at ha
  rw [if_pos (show((jF s t).1.1,(jF s t).1.2.1).1=4 from q)]at ha
  simp [aqU]at ha
 have h2:(jF s t).1.2.1≠3:=by
  intro q
  unfold askC at ha
  rw [if_neg (show ¬((jF s t).1.1,(jF s t).1.2.1).1=4 from h1),if_pos (show((jF s t).1.1,(jF s t).1.2.1).2=3 from q)]at ha
  simp [aqU]at ha
 have e:jF s t=axT s.balls s.strikes t.p:=rfl
 rw [e]at h1 h2 ⊢
 omega
theorem akz (h:aI t.m=0):0≤iS s t∧iS s t≤4:=by
 have l:=gA h
 have:=(aza (o:=outsI s t) (b:=t.l) (l:=t.m)).1
 unfold iS;omega
structure Num3 (s:St):Prop where
 inn:1≤s.inn∧s.inn≤30
 half:s.half=0∨s.half=1
 outs:0≤s.outs∧s.outs≤3
 balls:0≤s.balls∧s.balls≤3
 strikes:0≤s.strikes∧s.strikes≤2
 b1:0≤s.b1∧s.b1≤9
 b2:0≤s.b2∧s.b2≤9
 b3:0≤s.b3∧s.b3≤9
 n0:1≤s.n0∧s.n0≤9
 n1:1≤s.n1∧s.n1≤9
 c0:0≤s.c0∧s.c0≤9999
 c1:0≤s.c1∧s.c1≤9999
theorem num_mvd (h:aI t.m=0) (g:jL s t) (n:Num s) (hb:ayk s t=false):Num3 (mvd s t):=by
 have G:=n.good
 have oo:=ay5 h G
 have o3:=g.outs
 have rn:=akz (s:=s) h
 have v1:=zF h g G (i:=1) (by simp)
 have v2:=zF h g G (i:=2) (by simp)
 have v3:=zF h g G (i:=3) (by simp)
 have n0:=n.n0;have n1:=n.n1;have c0:=n.c0;have c1:=n.c1;have no:=n.outs
 have w0:IntKind.i64.wrap (s.c0+iS s t)=s.c0+iS s t:=dG (by omega) (by omega)
 have w1:IntKind.i64.wrap (s.c1+iS s t)=s.c1+iS s t:=dG (by omega) (by omega)
 unfold ayk at hb
 rw [w0,w1]at hb
 simp only [decide_eq_false_iff_not]at hb
 have cn:t.e=[]→0≤(jF s t).1.1∧(jF s t).1.1≤3∧0≤(jF s t).1.2.1∧(jF s t).1.2.1≤2:=cnt_in g
 refine⟨n.inn,n.half,?_,?_,?_,v1,v2,v3,?_,?_,?_,?_⟩
 · show 0≤outsI s t∧outsI s t≤3;omega
 · show 0≤(if t.e=[]then(jF s t).1.1 else 0)∧(if t.e=[]then(jF s t).1.1 else 0)≤3
   split
   · have:=cn ‹_›;omega
   · omega
 · show 0≤(if t.e=[]then(jF s t).1.2.1 else 0)∧(if t.e=[]then(jF s t).1.2.1 else 0)≤2
   split
   · have:=cn ‹_›;omega
   · omega
 · show 1≤(if ¬t.e=[]∧s.half=0 then awl s.n0 else s.n0)∧(if ¬t.e=[]∧s.half=0 then awl s.n0 else s.n0)≤9
   rw [aj2 n0];split<;>omega
 · show 1≤(if ¬t.e=[]∧s.half=1 then awl s.n1 else s.n1)∧(if ¬t.e=[]∧s.half=1 then awl s.n1 else s.n1)≤9
   rw [aj2 n1];split<;>omega
 · show 0≤(if s.half=0 then IntKind.i64.wrap (s.c0+iS s t)else s.c0)∧(if s.half=0 then IntKind.i64.wrap (s.c0+iS s t)else s.c0)≤9999
   rw [w0]
   split
   · rename_i hh;rw [if_pos hh]at hb;omega
   · exact c0
 · show 0≤(if s.half=1 then IntKind.i64.wrap (s.c1+iS s t)else s.c1)∧(if s.half=1 then IntKind.i64.wrap (s.c1+iS s t)else s.c1)≤9999
   rw [w1]
   split
   · rename_i hh;rw [if_neg (show ¬s.half=0 by omega)]at hb;omega
   · exact c1
end
theorem nxt_ok {x:St}(n:Num3 x) (hv:x.over=false) (F:akj x):stE (nxt x)=0:=by
 have ee:∀(y:St),endE y=0↔(y.over&&!overB y||!y.over&&decB y)=false:=by
  intro y;unfold endE
  cases(y.over&&!overB y||!y.over&&decB y)<;>simp
 have fin:∀(y:St),y=endI x→(decI x=true∨lastI x=true)→stE y=0:=by
  intro y hy hc
  subst hy
  obtain⟨k1,k2,k3⟩:=uM.2 (⟨n.inn,n.half,⟨by show(0:Int)≤0;omega,by show(0:Int)≤2;omega⟩,⟨by show(0:Int)≤0;omega,by show(0:Int)≤3;omega⟩,⟨by show(0:Int)≤0;omega,by show(0:Int)≤2;omega⟩,
   ⟨by show(0:Int)≤0;omega,by show(0:Int)≤9;omega⟩,⟨by show(0:Int)≤0;omega,by show(0:Int)≤9;omega⟩,⟨by show(0:Int)≤0;omega,by show(0:Int)≤9;omega⟩,n.n0,n.n1,n.c0,n.c1⟩:Num (endI x))
  refine t7 k1 k2 k3 ((ee _).2 ?_) (uB.2 (fit0 rfl rfl rfl))
  have hl:overB (endI x)=true:=by
   unfold overB
   rw [Bool.and_eq_true]
   refine⟨decide_eq_true rfl,?_⟩
   show(decide (9≤x.inn)&&(decide (x.c0<x.c1)||decide (x.half=1)&&(decide (x.c0≠x.c1)||decide (x.inn=30))))=true
   rcases hc with hc|hc
   · simp only [decI,Bool.and_eq_true,decide_eq_true_eq,beq_iff_eq]at hc
     simp [hc.1,hc.2.2]
   · simp only [lastI,Bool.and_eq_true,Bool.or_eq_true,decide_eq_true_eq,beq_iff_eq,Bool.not_eq_true',decide_eq_false_iff_not,beq_eq_false_iff_ne,ne_eq]at hc
     have:9≤x.inn:=by omega
     simp only [this,decide_true,Bool.true_and,Bool.or_eq_true,Bool.and_eq_true,decide_eq_true_eq]
     rcases hc.2 with q|⟨q,q2|q2⟩
     · exact .inl q
     · exact .inr ⟨q,.inl q2⟩
     · exact .inr ⟨q,.inr q2⟩
  rw [hl];rfl
 unfold nxt
 cases hd:decI x with
 | true=>exact fin _ rfl (.inl hd)
 | false =>
   rw [cond_false]
   cases ho:(x.outs==3)with
   | true =>
     rw [cond_true]
     cases hl:lastI x with
     | true=>exact fin _ rfl (.inr hl)
     | false=>
       rw [cond_false]
       have hi:=n.inn;have hh:=n.half
       have hlf:¬(9≤x.inn∧(x.c0<x.c1∨(x.half=1∧(x.c0≠x.c1∨x.inn=30)))):=by
        rintro⟨q1,q2⟩
        have:lastI x=true:=by
         simp only [lastI,Bool.and_eq_true,Bool.or_eq_true,decide_eq_true_eq,beq_iff_eq,Bool.not_eq_true',decide_eq_false_iff_not,beq_eq_false_iff_ne,ne_eq]
         exact⟨by omega,q2⟩
        rw [this]at hl;cases hl
       have e1:(rW x).inn=if x.half=1 then x.inn+1 else x.inn:=by
        show(bif x.half==1 then IntKind.i64.wrap (x.inn+1)else x.inn)=_
        rcases hh with q|q
        · simp [q]
        · simp only [q,beq_self_eq_true,cond_true,if_true]
          exact dG (by omega) (by omega)
       have e2:(rW x).half=1-x.half:=dG (by omega) (by omega)
       have i2:1≤(rW x).inn∧(rW x).inn≤30:=by
        rw [e1]
        split
        · rename_i q
          have:¬x.inn=30:=fun w=>hlf ⟨by omega,.inr ⟨q,.inr w⟩⟩
          omega
        · exact hi
       obtain⟨k1,k2,k3⟩:=uM.2 (⟨i2,by rw [e2];omega,⟨by show(0:Int)≤0;omega,by show(0:Int)≤2;omega⟩,⟨by show(0:Int)≤0;omega,by show(0:Int)≤3;omega⟩,⟨by show(0:Int)≤0;omega,by show(0:Int)≤2;omega⟩,
        ⟨by show(0:Int)≤0;omega,by show(0:Int)≤9;omega⟩,⟨by show(0:Int)≤0;omega,by show(0:Int)≤9;omega⟩,⟨by show(0:Int)≤0;omega,by show(0:Int)≤9;omega⟩,n.n0,n.n1,n.c0,n.c1⟩:Num (rW x))
       refine t7 k1 k2 k3 ((ee _).2 ?_) (uB.2 (fit0 rfl rfl rfl))
       have hov:(rW x).over=false:=hv
       rw [hov]
       simp only [Bool.false_and,Bool.not_false,Bool.true_and,Bool.false_or]
       cases hb:decB (rW x)with
       | false=>rfl
       | true=>
         exfalso
         simp only [decB,leadB,Bool.and_eq_true,decide_eq_true_eq]at hb
         obtain⟨⟨q1,q2⟩,q3⟩:=hb
         rw [e2]at q2
         rw [e1,if_neg (by omega)]at q1
         exact hlf ⟨q1,.inl q3⟩
   | false=>
     rw [cond_false]
     have ho:x.outs≠3:=by simpa using ho
     have o:=n.outs
     obtain⟨k1,k2,k3⟩:=uM.2 (⟨n.inn,n.half,by omega,n.balls,n.strikes,n.b1,n.b2,n.b3,n.n0,n.n1,n.c0,n.c1⟩:Num x)
     refine t7 k1 k2 k3 ((ee _).2 ?_) (uB.2 F)
     rw [hv]
     simp only [Bool.false_and,Bool.not_false,Bool.true_and,Bool.false_or]
     cases hb:decB x with
     | false=>rfl
     | true=>
       exfalso
       simp only [decB,leadB,Bool.and_eq_true,decide_eq_true_eq]at hb
       have:decI x=true:=by
        simp only [decI,Bool.and_eq_true,decide_eq_true_eq,beq_iff_eq]
        exact⟨hb.1.1,hb.1.2,hb.2⟩
       rw [this]at hd;cases hd
end
end Go.Ev
namespace Go.Ev
open Go.RowKit Go.Proofs
set_option maxRecDepth 100000
set_option maxHeartbeats 8000000
set_option linter.unusedSimpArgs false
set_option linter.unusedVariables false
noncomputable section
theorem aky {a:Tn}:vU (a,())=aT (ayE (a,())) fun r=>cond r (some (1:Int)) (aT (akY (a,())) fun r=>cond r (some 2) (aT (akX (a,())) fun r=>cond r (some 3) (aT (akW (a,())) fun r=>cond r (some 4) (aT (akV (a,())) fun r=>cond r (some 5) (aT (akU (a,())) fun r=>cond r (some 6) (aT (akT (a,())) fun r=>cond r (some 7) (aT (akS (a,())) fun r=>cond r (some 8) (aT (akR (a,())) fun r=>cond r (some 9) (aT (akQ (a,())) fun r=>cond r (some 10) (aT (akP (a,())) fun r=>cond r (some 11) (aT (akO (a,())) fun r=>cond r (some 12) (aT (akN (a,())) fun r=>cond r (some 13) (some 0))))))))))))):=by
 show Ez144 (a.p_m.length+64) a=_
 unfold Ez144 Tz144
 simp only [TS,w6]
 have e74:Sz74 ()=Ez74:=rfl
 rw [e74]
 unfold Ez74 Tz74
 simp only [TS,w6]
 rw [obind_some,show a.p_m.length+64=(a.p_m.length+50)+14 from rfl]
 generalize a.p_m.length+50=n
 rw [u144_0 a (n+13),u144_1 a (n+12),u144_2 a (n+11),u144_3 a (n+10),u144_4 a (n+9),u144_5 a (n+8),u144_6 a (n+7),u144_7 a (n+6),u144_8 a (n+5),u144_9 a (n+4),u144_10 a (n+3),u144_11 a (n+2),u144_12 a (n+1),u144_13 a n]
theorem mI {x:Option Bool}{b:Bool}{k:Int}{A:Option Int}{F:Prop}(hx:x=some b) (hk:k≠0) (h:b=false→∃j,A=some j∧(j=0→F)):∃j,(aT x fun r=>cond r (some k) A)=some j∧(j=0→F):=by
 subst hx
 cases b with
 | true=>exact⟨k,rfl,fun h0=>absurd h0 hk⟩
 | false=>exact h rfl
theorem prog_ok {s:St}{t:Pl}(h:aI t.m=0) (hv:vEv t.e) (hb:aW t.p=true) (hl:t.p.length<9223372036854775808):∃k,vU (fR s t,())=some k∧(k=0→jL s t):=by
 rw [aky]
 refine mI (b:=!((jF s t).2.2.1==0)) rfl (by decide) fun g1=>?_
 have g1':(jF s t).2.2.1=0:=by simpa using g1
 have hk:=avo g1'
 refine mI (r2_p (s:=fR s t) hv hl hk) (by decide) fun g2=>?_
 refine mI (r3_p (s:=fR s t) h) (by decide) fun g3=>?_
 have g3':(mAt t.m 0).isSome=!decide (t.e=[]):=by
  have g3:((mAt t.m 0).isSome==decide (t.e=[]))=false:=g3
  revert g3
  cases(mAt t.m 0).isSome<;>cases decide (t.e=[])<;>decide
 refine mI (r4_p (s:=fR s t) h) (by decide) fun g4=>?_
 refine mI (r5_p (s:=fR s t) h hv g3') (by decide) fun g5=>?_
 have g5':∀m,mAt t.m 0=some m→batFits t.e m=true:=by
  intro m hm
  have g5:(match mAt t.m 0 with
   | some m=>!batFits t.e m
   | none=>false)=false:=g5
  rw [hm]at g5
  simpa using g5
 refine mI (r6_p (s:=fR s t) h hv) (by decide) fun g6=>?_
 refine mI (r7_p (s:=fR s t) hv) (by decide) fun g7=>?_
 refine mI (r8_p (s:=fR s t) h hv) (by decide) fun g8=>?_
 refine mI (r9_p (s:=fR s t) h) (by decide) fun g9=>?_
 refine mI (r10_p (s:=fR s t) h hv) (by decide) fun g10=>?_
 refine mI (r11_p (s:=fR s t) h) (by decide) fun g11=>?_
 refine mI (b:=decide (3<outsI s t)) r12_p (by decide) fun g12=>?_
 have g12':outsI s t≤3:=by simp at g12;exact g12
 refine mI (r13_p (s:=fR s t) h) (by decide) fun g13=>?_
 exact⟨0,rfl,fun _=>⟨g1',g3',g4,g5',g11,g12',g13,by have g2:(!aqU (askC ((jF s t).1.1,(jF s t).1.2.1) t.p) t.e)=false:=g2;simpa using g2⟩⟩
def brk (s:St) (t:Pl):Int:=(vU (fR s t,())).getD 0
theorem ajZ {s:St}{t:Pl}(ok:okP t):(sE s t=0→vU (fR s t,())=some (brk s t))∧(brk s t=0→sE s t=0→jL s t):=by
 by_cases hc:sE s t=0
 · obtain ⟨e1,e2,e3⟩:=lU hc
   obtain⟨p1,p2,p3⟩:=playE_zero e2
   obtain⟨k,a,c⟩:=prog_ok (s:=s) p3 p2 ok.2.1 (by omega)
   have e:brk s t=k:=by unfold brk;rw [a];rfl
   rw [e]
   exact⟨fun _=>a,fun h _=>c h⟩
 · exact⟨fun h=>absurd h hc,fun _ h=>absurd h hc⟩
end
end Go.Ev
namespace Go.Ev
open Go.RowKit Go.Proofs
set_option maxRecDepth 100000
set_option maxHeartbeats 4000000
set_option linter.unusedVariables false
noncomputable section
def Az22:=Row.nil
def Tz22:Tr St Empty noS (Cod.agg rSt).v:=(.r (⟨1,0,0,0,0,0,0,0,1,1,0,0,false⟩:St))
def Ez22:=(Tz22).d noE
def Sz22 (x:Unit):=Ez22
def wz22:Wk (Unit) St Empty (Cod.agg rSt).v:=wk0 fun x=>Tz22
def Kz22:=a4 9 Tryz.func9 [] noZ ⟨3,noL,noL,noL⟩ 128 Az22 (Cod.agg rSt) Sz22 wz22 (fun _=>0)
def Az42:=(Row.cons (Cod.list pl0 rPl) (Row.cons cI Row.nil))
inductive Lz42 where
 | k8 (x2:Int)
def uz42:Lz42→Nat
 | .k8 _=>8
def sLz42 (s:List (Pl)) (t:Int):Lz42→D
 | .k8 x2=>mD [(0,(Cod.list pl0 rPl).v s),(5,.int .i64 x2)] 0 [] 128 []
noncomputable def akI (s:List (Pl)) (t:Int):(l_:Lz42)→Tr Bool Lz42 (sLz42 s t) cB.v
 | .k8 x2=>(.i (decide (x2<((s.length:Nat):Int))) (.i (inR x2 s.length) (.c Az84 Sz84 ((s.getD x2.toNat pl0),()) fun r4=>(.i (!r4) (.r false) (.g (.k8 (w6 (x2+1)))))) .n) (.r true))
noncomputable def Tz42 (s:List (Pl)) (t:Int):Tr Bool Lz42 (sLz42 s t) cB.v:=(.i (decide (t<((s.length:Nat):Int))) (.i (decide (((s.length:Nat):Int)≤256)) (.r false) (.i (decide (258<((s.length:Nat):Int))) (.r false) (.g (.k8 0)))) (.i (decide (258<((s.length:Nat):Int))) (.r false) (.g (.k8 0))))
def akc (s:List (Pl)) (t:Int):=Tr.lp (akI s t)
theorem akb {s:List (Pl)}{t:Int}{n:Nat}{l_:Lz42}:akc s t (n+1) l_=(akI s t l_).d (akc s t n):=rfl
def Ez42 (n:Nat) (s:List (Pl)) (t:Int):=(Tz42 s t).d (akc s t n)
def Sz42 (x:(List (Pl))×Int×Unit):=Ez42 (x.1.length+64) x.1 x.2.1
def wz42:Wk ((List (Pl))×Int×Unit) Bool Lz42 cB.v:=⟨fun x=>sLz42 x.1 x.2.1,uz42,fun x=>Tz42 x.1 x.2.1,fun x=>akI x.1 x.2.1⟩
def Kz42:=a4 4 Tryz.func4 [Kz84] noZ ⟨32,(lookA [(4,⟨[0,5],[],0,[],[],[],[]⟩)]),noL,noL⟩ 128 Az42 cB Sz42 wz42 (fun x=>x.1.length+64)
def Az44:=(Row.cons (Cod.list pl0 rPl) Row.nil)
def Wz44 (r:(List (Pl))):V:=.el (r.map rPl.v)
theorem hWz44 (r:(List (Pl))):(Wz44 r).c=((Cod.list pl0 rPl).v r).c:=by
 first|rfl|exact b5|(show EVal.tup (V.cs _)=EVal.tup (V.cs _);simp only [V.cs_map,List.map_cons,List.map_nil,b5];rfl)
inductive Lz44 where
 | k6 (x2:Int) (x3:List (Pl))
def uz44:Lz44→Nat
 | .k6 _ _=>6
def azD (s:List (Pl)) (x2:Int) (x3:List (List V)):D:=mD [(0,(Cod.list pl0 rPl).v s),(3,.gl 128),(4,.int .i64 x2)] 0 [] 129 [(128,(x3,25))]
def akw (s:List (Pl)):Lz44→D
 | .k6 x2 x3=>azD s x2 (x3.map rPl.v)
noncomputable def akH (s:List (Pl)):(l_:Lz44)→Tr (List (Pl)) Lz44 (akw s) Wz44
 | .k6 x2 x3=>(.i (decide (x2<((s.length:Nat):Int))) (.i (inR x2 s.length) (.c A33 S33 ((s.getD x2.toNat pl0),()) fun r5=>(.i (Nat.ble (64*(((x3.map rPl.v)).length+1)) 1000000) (.j (.k6 (w6 (x2+1)) (x3++[r5])) (azD s (w6 (x2+1)) ((x3.map rPl.v)++[(rPl.v r5)])) ⟨by simp only [akw,List.map_append,List.map_cons,List.map_nil]<;>rfl⟩) .n)) .n) (.r x3))
def Tz44 (s:List (Pl)):Tr (List (Pl)) Lz44 (akw s) Wz44:=(.g (.k6 0 []))
def ayR (s:List (Pl)):=Tr.lp (akH s)
theorem aka {s:List (Pl)}{n:Nat}{l_:Lz44}:ayR s (n+1) l_=(akH s l_).d (ayR s n):=rfl
def Ez44 (n:Nat) (s:List (Pl)):=(Tz44 s).d (ayR s n)
def Sz44 (x:(List (Pl))×Unit):=Ez44 (x.1.length+64) x.1
def wz44:Wk ((List (Pl))×Unit) (List (Pl)) Lz44 Wz44:=⟨fun x=>akw x.1,uz44,fun x=>Tz44 x.1,fun x=>akH x.1⟩
def Kz44:=a4 8 Tryz.func8 [K33] noZ ⟨20,(lookA [(3,⟨[0,3,4],[],0,[(3,25)],[128],[],[]⟩)]),noL,noL⟩ 128 Az44 (Cod.list pl0 rPl) Sz44 wz44 (fun x=>x.1.length+64) hWz44
end
end Go.Ev
namespace Go.Ev
open Go.RowKit Go.Proofs
set_option maxRecDepth 20000
set_option maxHeartbeats 8000000
def sB (q:Pl):List EVal:=[.str q.p,.str q.e,.bool q.l,.lsl (dQ q.m)]
def aZ (l:List Pl):List (List EVal):=l.map sB
def cX (l:List St):List (List EVal):=l.map eSt
theorem rowsP_length (l:List Pl):(aZ l).length=l.length:=by simp [aZ]
theorem rowsS_length (l:List St):(cX l).length=l.length:=by simp [cX]
theorem rowsP_get (l:List Pl) (i:Nat):(aZ l)[i]? = (l[i]?).map sB:=by simp [aZ]
theorem iU (l:List St) (i:Nat):(cX l)[i]? = (l[i]?).map eSt:=by simp [cX]
theorem aqd (l:List Pl):((Cod.list pl0 rPl).v l).c=.lsl (aZ l):=by
 have h1:(V.el (l.map rPl.v)).c=((Cod.list pl0 rPl).v l).c:=b5
 refine h1.symm.trans ?_
 rw [V.c,V.css_map,List.map_map,aZ]
 refine congrArg EVal.lsl (List.map_congr_left fun p _=>?_)
 have h:=axw p
 have e:((Cod.agg rPl).v p).c=.agg (V.cs (rPl.v p)):=by show(V.agg (rPl.v p)).c=_;rw [V.c]
 rw [e]at h
 exact EVal.agg.inj h
theorem vSts_c (l:List St):((Cod.list st0 rSt).v l).c=.lsl (cX l):=by
 have h1:(V.el (l.map rSt.v)).c=((Cod.list st0 rSt).v l).c:=b5
 refine h1.symm.trans ?_
 rw [V.c,V.css_map,List.map_map,cX]
 exact congrArg EVal.lsl (List.map_congr_left fun p _=>yZ p)
noncomputable def eE (s:St) (t:Pl):Int:=avS s t (brk s t)
noncomputable def nN (s:St) (t:Pl):Int:=numA s t (brk s t)
noncomputable def eTn (x:Tn):List EVal:=V.cs (rTn.v x)
noncomputable def F85:List EVal→Option EVal:=fOf Az85 (Cod.tup (Row.cons (Cod.opt rTn) (Row.cons cI (Row.cons cI Row.nil)))) Sz85
theorem fn85:FnT 28 F85:=Kz85.ok
noncomputable def F86:List EVal→Option EVal:=fOf Az86 (Cod.agg rSt) Sz86
theorem fn86:FnT 27 F86:=Kz86.ok
noncomputable def F22:List EVal→Option EVal:=fOf Az22 (Cod.agg rSt) Sz22
theorem fn22:FnT 9 F22:=Kz22.ok
def aS:St:=⟨1,0,0,0,0,0,0,0,1,1,0,0,false⟩
theorem e22:F22 []=some (.agg (eSt aS)):=by
 have e:V.cs (Az22.v ())=[]:=by show V.cs []=_;rw [V.cs]
 have h:fOf Az22 (Cod.agg rSt) Sz22 (V.cs (Az22.v ()))=some (.agg (eSt aS)):=by
  unfold fOf
  rw [Az22.rt,Option.bind_some]
  have:Sz22 ()=some aS:=rfl
  rw [this]
  show some ((V.agg (rSt.v aS)).c)=_
  rw [V.c,yZ]
 rw [e]at h
 exact h
section
variable {s:St}{t:Pl}
theorem a85:V.cs (Az85.v (s,t,()))=[.agg (eSt s),.agg (sB t)]:=by
 show V.cs [V.agg (rSt.v s),(Cod.agg rPl).v t]=_
 rw [V.cs,V.cs,V.cs,axw]
 simp only [V.c,yZ];rfl
theorem e85 (ok:okP t):F85 [.agg (eSt s),.agg (sB t)]=some (((Cod.tup (Row.cons (Cod.opt rTn) (Row.cons cI (Row.cons cI Row.nil)))).v (accR s t (brk s t))).c):=by
 rw [←a85]
 unfold F85 fOf
 rw [Az85.rt,Option.bind_some,s85 ok (ajZ ok).1];rfl
theorem e85_bad (ok:okP t) (h:eE s t≠0):F85 [.agg (eSt s),.agg (sB t)]=some (.tup [.nilp,.int .i64 (nN s t),.int .i64 (eE s t)]):=by
 rw [e85 ok]
 rcases acc_cases s t (brk s t)with⟨_,h2⟩ | ⟨h1,_⟩
 · rw [h2]
   show some ((V.tup [V.raw .nilp,V.int .i64 (nN s t),V.int .i64 (eE s t)]).c)=_
   simp only [V.c,V.cs]
 · exact absurd h1 h
theorem awY (ok:okP t) (h:eE s t=0):F85 [.agg (eSt s),.agg (sB t)]=some (.tup [.lptr (eTn (fR s t)) 0,.int .i64 0,.int .i64 0]):=by
 rw [e85 ok]
 rcases acc_cases s t (brk s t)with⟨h1,_⟩ | ⟨_,_,_,h2⟩
 · exact absurd h h1
 · rw [h2]
   show some ((V.tup [V.lptr (rTn.v (fR s t)) 0,V.int .i64 0,V.int .i64 0]).c)=_
   simp only [V.c,V.cs,eTn]
structure Acc (s:St) (t:Pl):Prop where
 st:stE s=0
 pl:playE t.p t.e t.m=0
 on:s.over=false
 mv:aI t.m=0
 ev:vEv t.e
 len:t.p.length≤24
 good:jL s t
 big:ayk s t=false
theorem akE (ok:okP t) (h:eE s t=0):Acc s t:=by
 rcases acc_cases s t (brk s t)with⟨h1,_⟩ | ⟨h1,h2,h3,_⟩
 · exact absurd h h1
 · obtain ⟨e1,e2,e3⟩:=lU h2
   obtain⟨p1,p2,p3⟩:=playE_zero e2
   refine⟨e1,e2,e3,p3,p2,p1,(ajZ ok).2 h3 h2,?_⟩
   unfold avS at h1
   cases hx:ayk s t with
   | false=>rfl
   | true=>simp [h2,h3,hx]at h1
theorem e86 (ok:okP t) (h:eE s t=0):F86 [.lptr (eTn (fR s t)) 0]=some (.agg (eSt (nxt (mvd s t)))):=by
 have A:=akE ok h
 have e:V.cs (Az86.v (fR s t,()))=[.lptr (eTn (fR s t)) 0]:=by
  show V.cs [V.lptr (rTn.v (fR s t)) 0]=_
  simp only [V.cs,V.c,eTn]
 rw [←e]
 unfold F86 fOf
 rw [Az86.rt,Option.bind_some,s86 A.mv (z7 A.st).half A.good]
 show some ((V.agg (rSt.v _)).c)=_
 rw [V.c,yZ]
theorem awq (A:Acc s t):stE (nxt (mvd s t))=0:=by
 have n:Num s:=uM.1 ⟨(oT A.st).1,(oT A.st).2.1,(oT A.st).2.2.1⟩
 have F:akj s:=uB.1 (oT A.st).2.2.2.2
 exact nxt_ok (num_mvd A.mv A.good n A.big) A.on (fit_mvd A.mv A.good n.good F)
end
abbrev GameR:=List St×Nat×Int×Int
noncomputable def gI:Nat→List St→St→List Pl→GameR
 | _,acc,_,[]=>(acc,0,0,0)
 | i,acc,s,t::L=>if eE s t≠0 then([],i,nN s t,eE s t)else gI (i+1) (acc++[nxt (mvd s t)]) (nxt (mvd s t)) L
theorem bQ {i:Nat}{acc:List St}{s:St}{t:Pl}{L:List Pl}:gI i acc s (t::L)=if eE s t≠0 then([],i,nN s t,eE s t)else gI (i+1) (acc++[nxt (mvd s t)]) (nxt (mvd s t)) L:=rfl
noncomputable def game (L:List Pl):GameR:=if 256<L.length then([],0,0,5)else gI 0 [aS] aS L
theorem aks:stE aS=0:=by decide +kernel
end Go.Ev
