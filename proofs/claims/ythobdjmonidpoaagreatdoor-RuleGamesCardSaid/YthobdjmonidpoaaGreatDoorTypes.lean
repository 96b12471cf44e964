import Derived.Test.YthobdjmonidpoaaGreatDoorEvD
import Derived.Test.YthobdjmonidpoaaGreatDoorBase
set_option linter.unusedSimpArgs false
set_option linter.unusedVariables false
namespace Go.Ev
open Go.RowKit Go.Proofs
theorem sz3:aM Tryz.prog 3=some 1:=by kernel_rfl
noncomputable def I3:TypeInfo:=(Tryz.prog.info? 3).getD { desc:=.bool,str := "",size:=0,bytes:=0,hasPointers:=false,align:=0,fieldAlign:=0,zero:=none,comparable:=false,methods:=#[] }
theorem info3:Tryz.prog.info? 3=some I3:=by kernel_rfl
theorem I3s:I3.size=1:=by kernel_rfl
theorem I3b:I3.bytes=8:=by kernel_rfl
theorem zero3:cG Tryz.prog 3=some [.int .i64 0]:=by kernel_rfl
theorem grow3 {need:Nat}:aS Tryz.prog 3 1 8 need=decide (8*need≤1000000):=bX zero3 rfl (by decide)
theorem sz4:aM Tryz.prog 4=some 1:=by kernel_rfl
noncomputable def I4:TypeInfo:=(Tryz.prog.info? 4).getD { desc:=.bool,str := "",size:=0,bytes:=0,hasPointers:=false,align:=0,fieldAlign:=0,zero:=none,comparable:=false,methods:=#[] }
theorem info4:Tryz.prog.info? 4=some I4:=by kernel_rfl
theorem I4s:I4.size=1:=by kernel_rfl
theorem I4b:I4.bytes=1:=by kernel_rfl
theorem zero4:cG Tryz.prog 4=some [.bool false]:=by kernel_rfl
theorem grow4 {need:Nat}:aS Tryz.prog 4 1 1 need=decide (1*need≤1000000):=bX zero4 rfl (by decide)
theorem sz9:aM Tryz.prog 9=some 1:=by kernel_rfl
noncomputable def I9:TypeInfo:=(Tryz.prog.info? 9).getD { desc:=.bool,str := "",size:=0,bytes:=0,hasPointers:=false,align:=0,fieldAlign:=0,zero:=none,comparable:=false,methods:=#[] }
theorem info9:Tryz.prog.info? 9=some I9:=by kernel_rfl
theorem I9s:I9.size=1:=by kernel_rfl
theorem I9b:I9.bytes=16:=by kernel_rfl
theorem zero9:cG Tryz.prog 9=some [.str []]:=by kernel_rfl
theorem grow9 {need:Nat}:aS Tryz.prog 9 1 16 need=decide (16*need≤1000000):=bX zero9 rfl (by decide)
theorem sz22:aM Tryz.prog 22=some 1:=by kernel_rfl
noncomputable def I22:TypeInfo:=(Tryz.prog.info? 22).getD { desc:=.bool,str := "",size:=0,bytes:=0,hasPointers:=false,align:=0,fieldAlign:=0,zero:=none,comparable:=false,methods:=#[] }
theorem info22:Tryz.prog.info? 22=some I22:=by kernel_rfl
theorem I22s:I22.size=1:=by kernel_rfl
theorem I22b:I22.bytes=24:=by kernel_rfl
theorem zero22:cG Tryz.prog 22=some [.nilslice]:=by kernel_rfl
theorem grow22 {need:Nat}:aS Tryz.prog 22 1 24 need=decide (24*need≤1000000):=bX zero22 rfl (by decide)
theorem sz25:aM Tryz.prog 25=some 1:=by kernel_rfl
noncomputable def I25:TypeInfo:=(Tryz.prog.info? 25).getD { desc:=.bool,str := "",size:=0,bytes:=0,hasPointers:=false,align:=0,fieldAlign:=0,zero:=none,comparable:=false,methods:=#[] }
theorem info25:Tryz.prog.info? 25=some I25:=by kernel_rfl
theorem I25s:I25.size=1:=by kernel_rfl
theorem I25b:I25.bytes=24:=by kernel_rfl
theorem zero25:cG Tryz.prog 25=some [.nilslice]:=by kernel_rfl
theorem grow25 {need:Nat}:aS Tryz.prog 25 1 24 need=decide (24*need≤1000000):=bX zero25 rfl (by decide)
theorem sz26:aM Tryz.prog 26=some 1:=by kernel_rfl
noncomputable def I26:TypeInfo:=(Tryz.prog.info? 26).getD { desc:=.bool,str := "",size:=0,bytes:=0,hasPointers:=false,align:=0,fieldAlign:=0,zero:=none,comparable:=false,methods:=#[] }
theorem info26:Tryz.prog.info? 26=some I26:=by kernel_rfl
theorem I26s:I26.size=1:=by kernel_rfl
theorem I26b:I26.bytes=8:=by kernel_rfl
theorem zero26:cG Tryz.prog 26=some [.int .i64 0]:=by kernel_rfl
theorem grow26 {need:Nat}:aS Tryz.prog 26 1 8 need=decide (8*need≤1000000):=bX zero26 rfl (by decide)
theorem sz30:aM Tryz.prog 30=some 3:=by kernel_rfl
noncomputable def I30:TypeInfo:=(Tryz.prog.info? 30).getD { desc:=.bool,str := "",size:=0,bytes:=0,hasPointers:=false,align:=0,fieldAlign:=0,zero:=none,comparable:=false,methods:=#[] }
theorem info30:Tryz.prog.info? 30=some I30:=by kernel_rfl
theorem I30s:I30.size=3:=by kernel_rfl
theorem I30b:I30.bytes=24:=by kernel_rfl
theorem zero30:cG Tryz.prog 30=some [.int .i64 0,.int .i64 0,.int .i64 0]:=by kernel_rfl
theorem grow30 {need:Nat}:aS Tryz.prog 30 3 24 need=decide (24*need≤1000000):=bX zero30 rfl (by decide)
theorem sz31:aM Tryz.prog 31=some 2:=by kernel_rfl
noncomputable def I31:TypeInfo:=(Tryz.prog.info? 31).getD { desc:=.bool,str := "",size:=0,bytes:=0,hasPointers:=false,align:=0,fieldAlign:=0,zero:=none,comparable:=false,methods:=#[] }
theorem info31:Tryz.prog.info? 31=some I31:=by kernel_rfl
theorem I31s:I31.size=2:=by kernel_rfl
theorem I31b:I31.bytes=16:=by kernel_rfl
theorem zero31:cG Tryz.prog 31=some [.int .i64 0,.int .i64 0]:=by kernel_rfl
theorem grow31 {need:Nat}:aS Tryz.prog 31 2 16 need=decide (16*need≤1000000):=bX zero31 rfl (by decide)
theorem sz33:aM Tryz.prog 33=some 13:=by kernel_rfl
noncomputable def I33:TypeInfo:=(Tryz.prog.info? 33).getD { desc:=.bool,str := "",size:=0,bytes:=0,hasPointers:=false,align:=0,fieldAlign:=0,zero:=none,comparable:=false,methods:=#[] }
theorem info33:Tryz.prog.info? 33=some I33:=by kernel_rfl
theorem I33s:I33.size=13:=by kernel_rfl
theorem I33b:I33.bytes=104:=by kernel_rfl
theorem zero33:cG Tryz.prog 33=some [.int .i64 0,.int .i64 0,.int .i64 0,.int .i64 0,.int .i64 0,.int .i64 0,.int .i64 0,.int .i64 0,.int .i64 0,.int .i64 0,.int .i64 0,.int .i64 0,.bool false]:=by kernel_rfl
theorem grow33 {need:Nat}:aS Tryz.prog 33 13 104 need=decide (104*need≤1000000):=bX zero33 rfl (by decide)
theorem fok33:eQ Tryz.prog #[{ name := "Inning",type:=3,offset:=0,embedded:=false,tag := "",pkgPath := "",byteOffset:=0 },{ name := "Half",type:=3,offset:=1,embedded:=false,tag := "",pkgPath := "",byteOffset:=8 },{ name := "Outs",type:=3,offset:=2,embedded:=false,tag := "",pkgPath := "",byteOffset:=16 },{ name := "Balls",type:=3,offset:=3,embedded:=false,tag := "",pkgPath := "",byteOffset:=24 },{ name := "Strikes",type:=3,offset:=4,embedded:=false,tag := "",pkgPath := "",byteOffset:=32 },{ name := "Bases",type:=30,offset:=5,embedded:=false,tag := "",pkgPath := "",byteOffset:=40 },{ name := "Next",type:=31,offset:=8,embedded:=false,tag := "",pkgPath := "",byteOffset:=64 },{ name := "Score",type:=31,offset:=10,embedded:=false,tag := "",pkgPath := "",byteOffset:=80 },{ name := "Over",type:=4,offset:=12,embedded:=false,tag := "",pkgPath := "",byteOffset:=96 }]=true:=by kernel_rfl
theorem sz36:aM Tryz.prog 36=some 1:=by kernel_rfl
noncomputable def I36:TypeInfo:=(Tryz.prog.info? 36).getD { desc:=.bool,str := "",size:=0,bytes:=0,hasPointers:=false,align:=0,fieldAlign:=0,zero:=none,comparable:=false,methods:=#[] }
theorem info36:Tryz.prog.info? 36=some I36:=by kernel_rfl
theorem I36s:I36.size=1:=by kernel_rfl
theorem I36b:I36.bytes=24:=by kernel_rfl
theorem zero36:cG Tryz.prog 36=some [.nilslice]:=by kernel_rfl
theorem grow36 {need:Nat}:aS Tryz.prog 36 1 24 need=decide (24*need≤1000000):=bX zero36 rfl (by decide)
theorem sz39:aM Tryz.prog 39=some 13:=by kernel_rfl
noncomputable def I39:TypeInfo:=(Tryz.prog.info? 39).getD { desc:=.bool,str := "",size:=0,bytes:=0,hasPointers:=false,align:=0,fieldAlign:=0,zero:=none,comparable:=false,methods:=#[] }
theorem info39:Tryz.prog.info? 39=some I39:=by kernel_rfl
theorem I39s:I39.size=13:=by kernel_rfl
theorem I39b:I39.bytes=104:=by kernel_rfl
theorem zero39:cG Tryz.prog 39=some [.int .i64 0,.int .i64 0,.int .i64 0,.int .i64 0,.int .i64 0,.int .i64 0,.int .i64 0,.int .i64 0,.int .i64 0,.int .i64 0,.int .i64 0,.int .i64 0,.bool false]:=by kernel_rfl
theorem grow39 {need:Nat}:aS Tryz.prog 39 13 104 need=decide (104*need≤1000000):=bX zero39 rfl (by decide)
theorem fok39:eQ Tryz.prog #[{ name := "Inning",type:=3,offset:=0,embedded:=false,tag := "",pkgPath := "",byteOffset:=0 },{ name := "Half",type:=3,offset:=1,embedded:=false,tag := "",pkgPath := "",byteOffset:=8 },{ name := "Outs",type:=3,offset:=2,embedded:=false,tag := "",pkgPath := "",byteOffset:=16 },{ name := "Balls",type:=3,offset:=3,embedded:=false,tag := "",pkgPath := "",byteOffset:=24 },{ name := "Strikes",type:=3,offset:=4,embedded:=false,tag := "",pkgPath := "",byteOffset:=32 },{ name := "Bases",type:=30,offset:=5,embedded:=false,tag := "",pkgPath := "",byteOffset:=40 },{ name := "Next",type:=31,offset:=8,embedded:=false,tag := "",pkgPath := "",byteOffset:=64 },{ name := "Score",type:=31,offset:=10,embedded:=false,tag := "",pkgPath := "",byteOffset:=80 },{ name := "Over",type:=4,offset:=12,embedded:=false,tag := "",pkgPath := "",byteOffset:=96 }]=true:=by kernel_rfl
theorem sz43:aM Tryz.prog 43=some 1:=by kernel_rfl
noncomputable def I43:TypeInfo:=(Tryz.prog.info? 43).getD { desc:=.bool,str := "",size:=0,bytes:=0,hasPointers:=false,align:=0,fieldAlign:=0,zero:=none,comparable:=false,methods:=#[] }
theorem info43:Tryz.prog.info? 43=some I43:=by kernel_rfl
theorem I43s:I43.size=1:=by kernel_rfl
theorem I43b:I43.bytes=24:=by kernel_rfl
theorem zero43:cG Tryz.prog 43=some [.nilslice]:=by kernel_rfl
theorem grow43 {need:Nat}:aS Tryz.prog 43 1 24 need=decide (24*need≤1000000):=bX zero43 rfl (by decide)
theorem sz45:aM Tryz.prog 45=some 4:=by kernel_rfl
noncomputable def I45:TypeInfo:=(Tryz.prog.info? 45).getD { desc:=.bool,str := "",size:=0,bytes:=0,hasPointers:=false,align:=0,fieldAlign:=0,zero:=none,comparable:=false,methods:=#[] }
theorem info45:Tryz.prog.info? 45=some I45:=by kernel_rfl
theorem I45s:I45.size=4:=by kernel_rfl
theorem I45b:I45.bytes=64:=by kernel_rfl
theorem zero45:cG Tryz.prog 45=some [.str [],.str [],.bool false,.nilslice]:=by kernel_rfl
theorem grow45 {need:Nat}:aS Tryz.prog 45 4 64 need=decide (64*need≤1000000):=bX zero45 rfl (by decide)
theorem fok45:eQ Tryz.prog #[{ name := "Pitches",type:=9,offset:=0,embedded:=false,tag := "",pkgPath := "",byteOffset:=0 },{ name := "Event",type:=9,offset:=1,embedded:=false,tag := "",pkgPath := "",byteOffset:=16 },{ name := "Late",type:=4,offset:=2,embedded:=false,tag := "",pkgPath := "",byteOffset:=32 },{ name := "Moves",type:=43,offset:=3,embedded:=false,tag := "",pkgPath := "",byteOffset:=40 }]=true:=by kernel_rfl
theorem sz53:aM Tryz.prog 53=some 1:=by kernel_rfl
noncomputable def I53:TypeInfo:=(Tryz.prog.info? 53).getD { desc:=.bool,str := "",size:=0,bytes:=0,hasPointers:=false,align:=0,fieldAlign:=0,zero:=none,comparable:=false,methods:=#[] }
theorem info53:Tryz.prog.info? 53=some I53:=by kernel_rfl
theorem I53s:I53.size=1:=by kernel_rfl
theorem I53b:I53.bytes=24:=by kernel_rfl
theorem zero53:cG Tryz.prog 53=some [.nilslice]:=by kernel_rfl
theorem grow53 {need:Nat}:aS Tryz.prog 53 1 24 need=decide (24*need≤1000000):=bX zero53 rfl (by decide)
theorem sz69:aM Tryz.prog 69=some 1:=by kernel_rfl
noncomputable def I69:TypeInfo:=(Tryz.prog.info? 69).getD { desc:=.bool,str := "",size:=0,bytes:=0,hasPointers:=false,align:=0,fieldAlign:=0,zero:=none,comparable:=false,methods:=#[] }
theorem info69:Tryz.prog.info? 69=some I69:=by kernel_rfl
theorem I69s:I69.size=1:=by kernel_rfl
theorem I69b:I69.bytes=8:=by kernel_rfl
theorem zero69:cG Tryz.prog 69=some [.nilp]:=by kernel_rfl
theorem grow69 {need:Nat}:aS Tryz.prog 69 1 8 need=decide (8*need≤1000000):=bX zero69 rfl (by decide)
theorem sz70:aM Tryz.prog 70=some 1:=by kernel_rfl
noncomputable def I70:TypeInfo:=(Tryz.prog.info? 70).getD { desc:=.bool,str := "",size:=0,bytes:=0,hasPointers:=false,align:=0,fieldAlign:=0,zero:=none,comparable:=false,methods:=#[] }
theorem info70:Tryz.prog.info? 70=some I70:=by kernel_rfl
theorem I70s:I70.size=1:=by kernel_rfl
theorem I70b:I70.bytes=8:=by kernel_rfl
theorem zero70:cG Tryz.prog 70=some [.nilfunc]:=by kernel_rfl
theorem grow70 {need:Nat}:aS Tryz.prog 70 1 8 need=decide (8*need≤1000000):=bX zero70 rfl (by decide)
theorem sz77:aM Tryz.prog 77=some 5:=by kernel_rfl
noncomputable def I77:TypeInfo:=(Tryz.prog.info? 77).getD { desc:=.bool,str := "",size:=0,bytes:=0,hasPointers:=false,align:=0,fieldAlign:=0,zero:=none,comparable:=false,methods:=#[] }
theorem info77:Tryz.prog.info? 77=some I77:=by kernel_rfl
theorem I77s:I77.size=5:=by kernel_rfl
theorem I77b:I77.bytes=64:=by kernel_rfl
theorem zero77:cG Tryz.prog 77=some [.int .i64 0,.int .i64 0,.bool false,.str [],.nilslice]:=by kernel_rfl
theorem grow77 {need:Nat}:aS Tryz.prog 77 5 64 need=decide (64*need≤1000000):=bX zero77 rfl (by decide)
theorem fok77:eQ Tryz.prog #[{ name := "From",type:=3,offset:=0,embedded:=false,tag := "",pkgPath := "",byteOffset:=0 },{ name := "To",type:=3,offset:=1,embedded:=false,tag := "",pkgPath := "",byteOffset:=8 },{ name := "Out",type:=4,offset:=2,embedded:=false,tag := "",pkgPath := "",byteOffset:=16 },{ name := "How",type:=9,offset:=3,embedded:=false,tag := "",pkgPath := "",byteOffset:=24 },{ name := "By",type:=53,offset:=4,embedded:=false,tag := "",pkgPath := "",byteOffset:=40 }]=true:=by kernel_rfl
theorem sz96:aM Tryz.prog 96=some 4:=by kernel_rfl
noncomputable def I96:TypeInfo:=(Tryz.prog.info? 96).getD { desc:=.bool,str := "",size:=0,bytes:=0,hasPointers:=false,align:=0,fieldAlign:=0,zero:=none,comparable:=false,methods:=#[] }
theorem info96:Tryz.prog.info? 96=some I96:=by kernel_rfl
theorem I96s:I96.size=4:=by kernel_rfl
theorem I96b:I96.bytes=4:=by kernel_rfl
theorem zero96:cG Tryz.prog 96=some [.bool false,.bool false,.bool false,.bool false]:=by kernel_rfl
theorem grow96 {need:Nat}:aS Tryz.prog 96 4 4 need=decide (4*need≤1000000):=bX zero96 rfl (by decide)
theorem sz98:aM Tryz.prog 98=some 25:=by kernel_rfl
noncomputable def I98:TypeInfo:=(Tryz.prog.info? 98).getD { desc:=.bool,str := "",size:=0,bytes:=0,hasPointers:=false,align:=0,fieldAlign:=0,zero:=none,comparable:=false,methods:=#[] }
theorem info98:Tryz.prog.info? 98=some I98:=by kernel_rfl
theorem I98s:I98.size=25:=by kernel_rfl
theorem fok98:eQ Tryz.prog #[{ name := "state",type:=33,offset:=0,embedded:=false,tag := "",pkgPath := "dugout/rule",byteOffset:=0 },{ name := "play",type:=45,offset:=13,embedded:=false,tag := "",pkgPath := "dugout/rule",byteOffset:=104 },{ name := "count",type:=31,offset:=17,embedded:=false,tag := "",pkgPath := "dugout/rule",byteOffset:=168 },{ name := "counted",type:=4,offset:=19,embedded:=false,tag := "",pkgPath := "dugout/rule",byteOffset:=184 },{ name := "outs",type:=3,offset:=20,embedded:=false,tag := "",pkgPath := "dugout/rule",byteOffset:=192 },{ name := "forced",type:=96,offset:=21,embedded:=false,tag := "",pkgPath := "dugout/rule",byteOffset:=200 }]=true:=by kernel_rfl
theorem body13:Tryz.f13.body.isNone=false:=by kernel_rfl
theorem call13 {h:H}{args:List EVal}:cE Tryz.prog h 13 args=some (.enter 13 args h):=eS Tryz.func13 body13
theorem body25:Tryz.f25.body.isNone=false:=by kernel_rfl
theorem call25 {h:H}{args:List EVal}:cE Tryz.prog h 25 args=some (.enter 25 args h):=eS Tryz.func25 body25
theorem body26:Tryz.f26.body.isNone=false:=by kernel_rfl
theorem call26 {h:H}{args:List EVal}:cE Tryz.prog h 26 args=some (.enter 26 args h):=eS Tryz.func26 body26
theorem body27:Tryz.f27.body.isNone=false:=by kernel_rfl
theorem call27 {h:H}{args:List EVal}:cE Tryz.prog h 27 args=some (.enter 27 args h):=eS Tryz.func27 body27
theorem body29:Tryz.f29.body.isNone=false:=by kernel_rfl
theorem call29 {h:H}{args:List EVal}:cE Tryz.prog h 29 args=some (.enter 29 args h):=eS Tryz.func29 body29
theorem body30:Tryz.f30.body.isNone=false:=by kernel_rfl
theorem call30 {h:H}{args:List EVal}:cE Tryz.prog h 30 args=some (.enter 30 args h):=eS Tryz.func30 body30
theorem body31:Tryz.f31.body.isNone=false:=by kernel_rfl
theorem call31 {h:H}{args:List EVal}:cE Tryz.prog h 31 args=some (.enter 31 args h):=eS Tryz.func31 body31
theorem body32:Tryz.f32.body.isNone=false:=by kernel_rfl
theorem call32 {h:H}{args:List EVal}:cE Tryz.prog h 32 args=some (.enter 32 args h):=eS Tryz.func32 body32
theorem body44:Tryz.f44.body.isNone=false:=by kernel_rfl
theorem call44 {h:H}{args:List EVal}:cE Tryz.prog h 44 args=some (.enter 44 args h):=eS Tryz.func44 body44
end Go.Ev
