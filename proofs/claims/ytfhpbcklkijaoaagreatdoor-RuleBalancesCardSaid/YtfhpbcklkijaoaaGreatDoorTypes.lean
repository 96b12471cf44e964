import Derived.Test.YtfhpbcklkijaoaaGreatDoorEvD
import Derived.Test.YtfhpbcklkijaoaaGreatDoorBase
set_option linter.unusedSimpArgs false
set_option linter.unusedVariables false
namespace Go.Ev
open Go.RowKit Go.Proofs
theorem sz3:aF Tryz.prog 3=some 1:=by kernel_rfl
noncomputable def I3:TypeInfo:=(Tryz.prog.info? 3).getD { desc:=.bool,str := "",size:=0,bytes:=0,hasPointers:=false,align:=0,fieldAlign:=0,zero:=none,comparable:=false,methods:=#[] }
theorem info3:Tryz.prog.info? 3=some I3:=by kernel_rfl
theorem I3s:I3.size=1:=by kernel_rfl
theorem I3b:I3.bytes=8:=by kernel_rfl
theorem zero3:bZ Tryz.prog 3=some [.int .i64 0]:=by kernel_rfl
theorem grow3 {need:Nat}:aJ Tryz.prog 3 1 8 need=decide (8*need≤1000000):=bK zero3 rfl (by decide)
theorem sz4:aF Tryz.prog 4=some 1:=by kernel_rfl
noncomputable def I4:TypeInfo:=(Tryz.prog.info? 4).getD { desc:=.bool,str := "",size:=0,bytes:=0,hasPointers:=false,align:=0,fieldAlign:=0,zero:=none,comparable:=false,methods:=#[] }
theorem info4:Tryz.prog.info? 4=some I4:=by kernel_rfl
theorem I4s:I4.size=1:=by kernel_rfl
theorem I4b:I4.bytes=1:=by kernel_rfl
theorem zero4:bZ Tryz.prog 4=some [.bool false]:=by kernel_rfl
theorem grow4 {need:Nat}:aJ Tryz.prog 4 1 1 need=decide (1*need≤1000000):=bK zero4 rfl (by decide)
theorem sz9:aF Tryz.prog 9=some 1:=by kernel_rfl
noncomputable def I9:TypeInfo:=(Tryz.prog.info? 9).getD { desc:=.bool,str := "",size:=0,bytes:=0,hasPointers:=false,align:=0,fieldAlign:=0,zero:=none,comparable:=false,methods:=#[] }
theorem info9:Tryz.prog.info? 9=some I9:=by kernel_rfl
theorem I9s:I9.size=1:=by kernel_rfl
theorem I9b:I9.bytes=16:=by kernel_rfl
theorem zero9:bZ Tryz.prog 9=some [.str []]:=by kernel_rfl
theorem grow9 {need:Nat}:aJ Tryz.prog 9 1 16 need=decide (16*need≤1000000):=bK zero9 rfl (by decide)
theorem sz22:aF Tryz.prog 22=some 1:=by kernel_rfl
noncomputable def I22:TypeInfo:=(Tryz.prog.info? 22).getD { desc:=.bool,str := "",size:=0,bytes:=0,hasPointers:=false,align:=0,fieldAlign:=0,zero:=none,comparable:=false,methods:=#[] }
theorem info22:Tryz.prog.info? 22=some I22:=by kernel_rfl
theorem I22s:I22.size=1:=by kernel_rfl
theorem I22b:I22.bytes=24:=by kernel_rfl
theorem zero22:bZ Tryz.prog 22=some [.nilslice]:=by kernel_rfl
theorem grow22 {need:Nat}:aJ Tryz.prog 22 1 24 need=decide (24*need≤1000000):=bK zero22 rfl (by decide)
theorem sz25:aF Tryz.prog 25=some 1:=by kernel_rfl
noncomputable def I25:TypeInfo:=(Tryz.prog.info? 25).getD { desc:=.bool,str := "",size:=0,bytes:=0,hasPointers:=false,align:=0,fieldAlign:=0,zero:=none,comparable:=false,methods:=#[] }
theorem info25:Tryz.prog.info? 25=some I25:=by kernel_rfl
theorem I25s:I25.size=1:=by kernel_rfl
theorem I25b:I25.bytes=24:=by kernel_rfl
theorem zero25:bZ Tryz.prog 25=some [.nilslice]:=by kernel_rfl
theorem grow25 {need:Nat}:aJ Tryz.prog 25 1 24 need=decide (24*need≤1000000):=bK zero25 rfl (by decide)
theorem sz26:aF Tryz.prog 26=some 1:=by kernel_rfl
noncomputable def I26:TypeInfo:=(Tryz.prog.info? 26).getD { desc:=.bool,str := "",size:=0,bytes:=0,hasPointers:=false,align:=0,fieldAlign:=0,zero:=none,comparable:=false,methods:=#[] }
theorem info26:Tryz.prog.info? 26=some I26:=by kernel_rfl
theorem I26s:I26.size=1:=by kernel_rfl
theorem I26b:I26.bytes=8:=by kernel_rfl
theorem zero26:bZ Tryz.prog 26=some [.int .i64 0]:=by kernel_rfl
theorem grow26 {need:Nat}:aJ Tryz.prog 26 1 8 need=decide (8*need≤1000000):=bK zero26 rfl (by decide)
theorem sz30:aF Tryz.prog 30=some 1:=by kernel_rfl
noncomputable def I30:TypeInfo:=(Tryz.prog.info? 30).getD { desc:=.bool,str := "",size:=0,bytes:=0,hasPointers:=false,align:=0,fieldAlign:=0,zero:=none,comparable:=false,methods:=#[] }
theorem info30:Tryz.prog.info? 30=some I30:=by kernel_rfl
theorem I30s:I30.size=1:=by kernel_rfl
theorem I30b:I30.bytes=24:=by kernel_rfl
theorem zero30:bZ Tryz.prog 30=some [.nilslice]:=by kernel_rfl
theorem grow30 {need:Nat}:aJ Tryz.prog 30 1 24 need=decide (24*need≤1000000):=bK zero30 rfl (by decide)
theorem sz33:aF Tryz.prog 33=some 3:=by kernel_rfl
noncomputable def I33:TypeInfo:=(Tryz.prog.info? 33).getD { desc:=.bool,str := "",size:=0,bytes:=0,hasPointers:=false,align:=0,fieldAlign:=0,zero:=none,comparable:=false,methods:=#[] }
theorem info33:Tryz.prog.info? 33=some I33:=by kernel_rfl
theorem I33s:I33.size=3:=by kernel_rfl
theorem I33b:I33.bytes=24:=by kernel_rfl
theorem zero33:bZ Tryz.prog 33=some [.int .i64 0,.int .i64 0,.int .i64 0]:=by kernel_rfl
theorem grow33 {need:Nat}:aJ Tryz.prog 33 3 24 need=decide (24*need≤1000000):=bK zero33 rfl (by decide)
theorem sz34:aF Tryz.prog 34=some 2:=by kernel_rfl
noncomputable def I34:TypeInfo:=(Tryz.prog.info? 34).getD { desc:=.bool,str := "",size:=0,bytes:=0,hasPointers:=false,align:=0,fieldAlign:=0,zero:=none,comparable:=false,methods:=#[] }
theorem info34:Tryz.prog.info? 34=some I34:=by kernel_rfl
theorem I34s:I34.size=2:=by kernel_rfl
theorem I34b:I34.bytes=16:=by kernel_rfl
theorem zero34:bZ Tryz.prog 34=some [.int .i64 0,.int .i64 0]:=by kernel_rfl
theorem grow34 {need:Nat}:aJ Tryz.prog 34 2 16 need=decide (16*need≤1000000):=bK zero34 rfl (by decide)
theorem sz36:aF Tryz.prog 36=some 13:=by kernel_rfl
noncomputable def I36:TypeInfo:=(Tryz.prog.info? 36).getD { desc:=.bool,str := "",size:=0,bytes:=0,hasPointers:=false,align:=0,fieldAlign:=0,zero:=none,comparable:=false,methods:=#[] }
theorem info36:Tryz.prog.info? 36=some I36:=by kernel_rfl
theorem I36s:I36.size=13:=by kernel_rfl
theorem I36b:I36.bytes=104:=by kernel_rfl
theorem zero36:bZ Tryz.prog 36=some [.int .i64 0,.int .i64 0,.int .i64 0,.int .i64 0,.int .i64 0,.int .i64 0,.int .i64 0,.int .i64 0,.int .i64 0,.int .i64 0,.int .i64 0,.int .i64 0,.bool false]:=by kernel_rfl
theorem grow36 {need:Nat}:aJ Tryz.prog 36 13 104 need=decide (104*need≤1000000):=bK zero36 rfl (by decide)
theorem fok36:eQ Tryz.prog #[{ name := "Inning",type:=3,offset:=0,embedded:=false,tag := "",pkgPath := "",byteOffset:=0 },{ name := "Half",type:=3,offset:=1,embedded:=false,tag := "",pkgPath := "",byteOffset:=8 },{ name := "Outs",type:=3,offset:=2,embedded:=false,tag := "",pkgPath := "",byteOffset:=16 },{ name := "Balls",type:=3,offset:=3,embedded:=false,tag := "",pkgPath := "",byteOffset:=24 },{ name := "Strikes",type:=3,offset:=4,embedded:=false,tag := "",pkgPath := "",byteOffset:=32 },{ name := "Bases",type:=33,offset:=5,embedded:=false,tag := "",pkgPath := "",byteOffset:=40 },{ name := "Next",type:=34,offset:=8,embedded:=false,tag := "",pkgPath := "",byteOffset:=64 },{ name := "Score",type:=34,offset:=10,embedded:=false,tag := "",pkgPath := "",byteOffset:=80 },{ name := "Over",type:=4,offset:=12,embedded:=false,tag := "",pkgPath := "",byteOffset:=96 }]=true:=by kernel_rfl
theorem sz39:aF Tryz.prog 39=some 1:=by kernel_rfl
noncomputable def I39:TypeInfo:=(Tryz.prog.info? 39).getD { desc:=.bool,str := "",size:=0,bytes:=0,hasPointers:=false,align:=0,fieldAlign:=0,zero:=none,comparable:=false,methods:=#[] }
theorem info39:Tryz.prog.info? 39=some I39:=by kernel_rfl
theorem I39s:I39.size=1:=by kernel_rfl
theorem I39b:I39.bytes=24:=by kernel_rfl
theorem zero39:bZ Tryz.prog 39=some [.nilslice]:=by kernel_rfl
theorem grow39 {need:Nat}:aJ Tryz.prog 39 1 24 need=decide (24*need≤1000000):=bK zero39 rfl (by decide)
theorem sz43:aF Tryz.prog 43=some 8:=by kernel_rfl
noncomputable def I43:TypeInfo:=(Tryz.prog.info? 43).getD { desc:=.bool,str := "",size:=0,bytes:=0,hasPointers:=false,align:=0,fieldAlign:=0,zero:=none,comparable:=false,methods:=#[] }
theorem info43:Tryz.prog.info? 43=some I43:=by kernel_rfl
theorem I43s:I43.size=8:=by kernel_rfl
theorem I43b:I43.bytes=64:=by kernel_rfl
theorem zero43:bZ Tryz.prog 43=some [.int .i64 0,.int .i64 0,.int .i64 0,.int .i64 0,.int .i64 0,.int .i64 0,.int .i64 0,.int .i64 0]:=by kernel_rfl
theorem grow43 {need:Nat}:aJ Tryz.prog 43 8 64 need=decide (64*need≤1000000):=bK zero43 rfl (by decide)
theorem fok43:eQ Tryz.prog #[{ name := "Inning",type:=3,offset:=0,embedded:=false,tag := "",pkgPath := "",byteOffset:=0 },{ name := "Side",type:=3,offset:=1,embedded:=false,tag := "",pkgPath := "",byteOffset:=8 },{ name := "From",type:=3,offset:=2,embedded:=false,tag := "",pkgPath := "",byteOffset:=16 },{ name := "To",type:=3,offset:=3,embedded:=false,tag := "",pkgPath := "",byteOffset:=24 },{ name := "Runs",type:=3,offset:=4,embedded:=false,tag := "",pkgPath := "",byteOffset:=32 },{ name := "Turns",type:=3,offset:=5,embedded:=false,tag := "",pkgPath := "",byteOffset:=40 },{ name := "Outs",type:=3,offset:=6,embedded:=false,tag := "",pkgPath := "",byteOffset:=48 },{ name := "Left",type:=3,offset:=7,embedded:=false,tag := "",pkgPath := "",byteOffset:=56 }]=true:=by kernel_rfl
theorem sz44:aF Tryz.prog 44=some 1:=by kernel_rfl
noncomputable def I44:TypeInfo:=(Tryz.prog.info? 44).getD { desc:=.bool,str := "",size:=0,bytes:=0,hasPointers:=false,align:=0,fieldAlign:=0,zero:=none,comparable:=false,methods:=#[] }
theorem info44:Tryz.prog.info? 44=some I44:=by kernel_rfl
theorem I44s:I44.size=1:=by kernel_rfl
theorem I44b:I44.bytes=24:=by kernel_rfl
theorem zero44:bZ Tryz.prog 44=some [.nilslice]:=by kernel_rfl
theorem grow44 {need:Nat}:aJ Tryz.prog 44 1 24 need=decide (24*need≤1000000):=bK zero44 rfl (by decide)
theorem sz46:aF Tryz.prog 46=some 4:=by kernel_rfl
noncomputable def I46:TypeInfo:=(Tryz.prog.info? 46).getD { desc:=.bool,str := "",size:=0,bytes:=0,hasPointers:=false,align:=0,fieldAlign:=0,zero:=none,comparable:=false,methods:=#[] }
theorem info46:Tryz.prog.info? 46=some I46:=by kernel_rfl
theorem I46s:I46.size=4:=by kernel_rfl
theorem I46b:I46.bytes=64:=by kernel_rfl
theorem zero46:bZ Tryz.prog 46=some [.str [],.str [],.bool false,.nilslice]:=by kernel_rfl
theorem grow46 {need:Nat}:aJ Tryz.prog 46 4 64 need=decide (64*need≤1000000):=bK zero46 rfl (by decide)
theorem fok46:eQ Tryz.prog #[{ name := "Pitches",type:=9,offset:=0,embedded:=false,tag := "",pkgPath := "",byteOffset:=0 },{ name := "Event",type:=9,offset:=1,embedded:=false,tag := "",pkgPath := "",byteOffset:=16 },{ name := "Late",type:=4,offset:=2,embedded:=false,tag := "",pkgPath := "",byteOffset:=32 },{ name := "Moves",type:=44,offset:=3,embedded:=false,tag := "",pkgPath := "",byteOffset:=40 }]=true:=by kernel_rfl
theorem sz57:aF Tryz.prog 57=some 1:=by kernel_rfl
noncomputable def I57:TypeInfo:=(Tryz.prog.info? 57).getD { desc:=.bool,str := "",size:=0,bytes:=0,hasPointers:=false,align:=0,fieldAlign:=0,zero:=none,comparable:=false,methods:=#[] }
theorem info57:Tryz.prog.info? 57=some I57:=by kernel_rfl
theorem I57s:I57.size=1:=by kernel_rfl
theorem I57b:I57.bytes=24:=by kernel_rfl
theorem zero57:bZ Tryz.prog 57=some [.nilslice]:=by kernel_rfl
theorem grow57 {need:Nat}:aJ Tryz.prog 57 1 24 need=decide (24*need≤1000000):=bK zero57 rfl (by decide)
theorem sz68:aF Tryz.prog 68=some 1:=by kernel_rfl
noncomputable def I68:TypeInfo:=(Tryz.prog.info? 68).getD { desc:=.bool,str := "",size:=0,bytes:=0,hasPointers:=false,align:=0,fieldAlign:=0,zero:=none,comparable:=false,methods:=#[] }
theorem info68:Tryz.prog.info? 68=some I68:=by kernel_rfl
theorem I68s:I68.size=1:=by kernel_rfl
theorem I68b:I68.bytes=8:=by kernel_rfl
theorem zero68:bZ Tryz.prog 68=some [.nilp]:=by kernel_rfl
theorem grow68 {need:Nat}:aJ Tryz.prog 68 1 8 need=decide (8*need≤1000000):=bK zero68 rfl (by decide)
theorem sz69:aF Tryz.prog 69=some 4:=by kernel_rfl
noncomputable def I69:TypeInfo:=(Tryz.prog.info? 69).getD { desc:=.bool,str := "",size:=0,bytes:=0,hasPointers:=false,align:=0,fieldAlign:=0,zero:=none,comparable:=false,methods:=#[] }
theorem info69:Tryz.prog.info? 69=some I69:=by kernel_rfl
theorem I69s:I69.size=4:=by kernel_rfl
theorem I69b:I69.bytes=4:=by kernel_rfl
theorem zero69:bZ Tryz.prog 69=some [.bool false,.bool false,.bool false,.bool false]:=by kernel_rfl
theorem grow69 {need:Nat}:aJ Tryz.prog 69 4 4 need=decide (4*need≤1000000):=bK zero69 rfl (by decide)
theorem sz71:aF Tryz.prog 71=some 25:=by kernel_rfl
noncomputable def I71:TypeInfo:=(Tryz.prog.info? 71).getD { desc:=.bool,str := "",size:=0,bytes:=0,hasPointers:=false,align:=0,fieldAlign:=0,zero:=none,comparable:=false,methods:=#[] }
theorem info71:Tryz.prog.info? 71=some I71:=by kernel_rfl
theorem I71s:I71.size=25:=by kernel_rfl
theorem fok71:eQ Tryz.prog #[{ name := "state",type:=36,offset:=0,embedded:=false,tag := "",pkgPath := "dugout/rule",byteOffset:=0 },{ name := "play",type:=46,offset:=13,embedded:=false,tag := "",pkgPath := "dugout/rule",byteOffset:=104 },{ name := "count",type:=34,offset:=17,embedded:=false,tag := "",pkgPath := "dugout/rule",byteOffset:=168 },{ name := "counted",type:=4,offset:=19,embedded:=false,tag := "",pkgPath := "dugout/rule",byteOffset:=184 },{ name := "outs",type:=3,offset:=20,embedded:=false,tag := "",pkgPath := "dugout/rule",byteOffset:=192 },{ name := "forced",type:=69,offset:=21,embedded:=false,tag := "",pkgPath := "dugout/rule",byteOffset:=200 }]=true:=by kernel_rfl
theorem sz73:aF Tryz.prog 73=some 1:=by kernel_rfl
noncomputable def I73:TypeInfo:=(Tryz.prog.info? 73).getD { desc:=.bool,str := "",size:=0,bytes:=0,hasPointers:=false,align:=0,fieldAlign:=0,zero:=none,comparable:=false,methods:=#[] }
theorem info73:Tryz.prog.info? 73=some I73:=by kernel_rfl
theorem I73s:I73.size=1:=by kernel_rfl
theorem I73b:I73.bytes=8:=by kernel_rfl
theorem zero73:bZ Tryz.prog 73=some [.nilfunc]:=by kernel_rfl
theorem grow73 {need:Nat}:aJ Tryz.prog 73 1 8 need=decide (8*need≤1000000):=bK zero73 rfl (by decide)
theorem sz76:aF Tryz.prog 76=some 5:=by kernel_rfl
noncomputable def I76:TypeInfo:=(Tryz.prog.info? 76).getD { desc:=.bool,str := "",size:=0,bytes:=0,hasPointers:=false,align:=0,fieldAlign:=0,zero:=none,comparable:=false,methods:=#[] }
theorem info76:Tryz.prog.info? 76=some I76:=by kernel_rfl
theorem I76s:I76.size=5:=by kernel_rfl
theorem I76b:I76.bytes=64:=by kernel_rfl
theorem zero76:bZ Tryz.prog 76=some [.int .i64 0,.int .i64 0,.bool false,.str [],.nilslice]:=by kernel_rfl
theorem grow76 {need:Nat}:aJ Tryz.prog 76 5 64 need=decide (64*need≤1000000):=bK zero76 rfl (by decide)
theorem fok76:eQ Tryz.prog #[{ name := "From",type:=3,offset:=0,embedded:=false,tag := "",pkgPath := "",byteOffset:=0 },{ name := "To",type:=3,offset:=1,embedded:=false,tag := "",pkgPath := "",byteOffset:=8 },{ name := "Out",type:=4,offset:=2,embedded:=false,tag := "",pkgPath := "",byteOffset:=16 },{ name := "How",type:=9,offset:=3,embedded:=false,tag := "",pkgPath := "",byteOffset:=24 },{ name := "By",type:=57,offset:=4,embedded:=false,tag := "",pkgPath := "",byteOffset:=40 }]=true:=by kernel_rfl
theorem body6:Tryz.f6.body.isNone=false:=by kernel_rfl
theorem call6 {h:H}{args:List EVal}:bY Tryz.prog h 6 args=some (.enter 6 args h):=eU Tryz.func6 body6
theorem body14:Tryz.f14.body.isNone=false:=by kernel_rfl
theorem call14 {h:H}{args:List EVal}:bY Tryz.prog h 14 args=some (.enter 14 args h):=eU Tryz.func14 body14
theorem body25:Tryz.f25.body.isNone=false:=by kernel_rfl
theorem call25 {h:H}{args:List EVal}:bY Tryz.prog h 25 args=some (.enter 25 args h):=eU Tryz.func25 body25
theorem body26:Tryz.f26.body.isNone=false:=by kernel_rfl
theorem call26 {h:H}{args:List EVal}:bY Tryz.prog h 26 args=some (.enter 26 args h):=eU Tryz.func26 body26
theorem body27:Tryz.f27.body.isNone=false:=by kernel_rfl
theorem call27 {h:H}{args:List EVal}:bY Tryz.prog h 27 args=some (.enter 27 args h):=eU Tryz.func27 body27
theorem body29:Tryz.f29.body.isNone=false:=by kernel_rfl
theorem call29 {h:H}{args:List EVal}:bY Tryz.prog h 29 args=some (.enter 29 args h):=eU Tryz.func29 body29
theorem body30:Tryz.f30.body.isNone=false:=by kernel_rfl
theorem call30 {h:H}{args:List EVal}:bY Tryz.prog h 30 args=some (.enter 30 args h):=eU Tryz.func30 body30
theorem body31:Tryz.f31.body.isNone=false:=by kernel_rfl
theorem call31 {h:H}{args:List EVal}:bY Tryz.prog h 31 args=some (.enter 31 args h):=eU Tryz.func31 body31
theorem body43:Tryz.f43.body.isNone=false:=by kernel_rfl
theorem call43 {h:H}{args:List EVal}:bY Tryz.prog h 43 args=some (.enter 43 args h):=eU Tryz.func43 body43
end Go.Ev
