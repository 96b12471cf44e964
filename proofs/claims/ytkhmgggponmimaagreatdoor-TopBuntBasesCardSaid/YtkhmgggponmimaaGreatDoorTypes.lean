import Derived.Test.YtkhmgggponmimaaGreatDoorEvE
import Derived.Test.YtkhmgggponmimaaGreatDoorBase
set_option linter.unusedSimpArgs false
set_option linter.unusedVariables false
namespace Go.Ev
open Go.RowKit Go.Proofs
noncomputable def dTI:TypeInfo:={ desc:=.bool,str := "",size:=0,bytes:=0,hasPointers:=false,align:=0,fieldAlign:=0,zero:=none,comparable:=false,methods:=#[] }
theorem sz3:aH Tryz.prog 3=some 1:=by kernel_rfl
noncomputable def I3:TypeInfo:=(Tryz.prog.info? 3).getD dTI
theorem info3:Tryz.prog.info? 3=some I3:=by kernel_rfl
theorem I3s:I3.size=1:=by kernel_rfl
theorem I3b:I3.bytes=8:=by kernel_rfl
theorem zero3:bK Tryz.prog 3=some [.int .i64 0]:=by kernel_rfl
theorem grow3 {need:Nat}:aL Tryz.prog 3 1 8 need=decide (8*need≤1000000):=cE zero3 rfl (by decide)
theorem sz4:aH Tryz.prog 4=some 1:=by kernel_rfl
noncomputable def I4:TypeInfo:=(Tryz.prog.info? 4).getD dTI
theorem info4:Tryz.prog.info? 4=some I4:=by kernel_rfl
theorem I4s:I4.size=1:=by kernel_rfl
theorem I4b:I4.bytes=1:=by kernel_rfl
theorem zero4:bK Tryz.prog 4=some [.bool false]:=by kernel_rfl
theorem grow4 {need:Nat}:aL Tryz.prog 4 1 1 need=decide (1*need≤1000000):=cE zero4 rfl (by decide)
theorem sz9:aH Tryz.prog 9=some 1:=by kernel_rfl
noncomputable def I9:TypeInfo:=(Tryz.prog.info? 9).getD dTI
theorem info9:Tryz.prog.info? 9=some I9:=by kernel_rfl
theorem I9s:I9.size=1:=by kernel_rfl
theorem I9b:I9.bytes=16:=by kernel_rfl
theorem zero9:bK Tryz.prog 9=some [.str []]:=by kernel_rfl
theorem grow9 {need:Nat}:aL Tryz.prog 9 1 16 need=decide (16*need≤1000000):=cE zero9 rfl (by decide)
theorem sz22:aH Tryz.prog 22=some 1:=by kernel_rfl
noncomputable def I22:TypeInfo:=(Tryz.prog.info? 22).getD dTI
theorem info22:Tryz.prog.info? 22=some I22:=by kernel_rfl
theorem I22s:I22.size=1:=by kernel_rfl
theorem I22b:I22.bytes=24:=by kernel_rfl
theorem zero22:bK Tryz.prog 22=some [.nilslice]:=by kernel_rfl
theorem grow22 {need:Nat}:aL Tryz.prog 22 1 24 need=decide (24*need≤1000000):=cE zero22 rfl (by decide)
theorem sz23:aH Tryz.prog 23=some 1:=by kernel_rfl
noncomputable def I23:TypeInfo:=(Tryz.prog.info? 23).getD dTI
theorem info23:Tryz.prog.info? 23=some I23:=by kernel_rfl
theorem I23s:I23.size=1:=by kernel_rfl
theorem I23b:I23.bytes=24:=by kernel_rfl
theorem zero23:bK Tryz.prog 23=some [.nilslice]:=by kernel_rfl
theorem grow23 {need:Nat}:aL Tryz.prog 23 1 24 need=decide (24*need≤1000000):=cE zero23 rfl (by decide)
theorem sz27:aH Tryz.prog 27=some 1:=by kernel_rfl
noncomputable def I27:TypeInfo:=(Tryz.prog.info? 27).getD dTI
theorem info27:Tryz.prog.info? 27=some I27:=by kernel_rfl
theorem I27s:I27.size=1:=by kernel_rfl
theorem I27b:I27.bytes=24:=by kernel_rfl
theorem zero27:bK Tryz.prog 27=some [.nilslice]:=by kernel_rfl
theorem grow27 {need:Nat}:aL Tryz.prog 27 1 24 need=decide (24*need≤1000000):=cE zero27 rfl (by decide)
theorem sz29:aH Tryz.prog 29=some 4:=by kernel_rfl
noncomputable def I29:TypeInfo:=(Tryz.prog.info? 29).getD dTI
theorem info29:Tryz.prog.info? 29=some I29:=by kernel_rfl
theorem I29s:I29.size=4:=by kernel_rfl
theorem I29b:I29.bytes=64:=by kernel_rfl
theorem zero29:bK Tryz.prog 29=some [.str [],.str [],.bool false,.nilslice]:=by kernel_rfl
theorem grow29 {need:Nat}:aL Tryz.prog 29 4 64 need=decide (64*need≤1000000):=cE zero29 rfl (by decide)
theorem fok29:fU Tryz.prog #[{ name := "Pitches",type:=9,offset:=0,embedded:=false,tag := "",pkgPath := "",byteOffset:=0 },{ name := "Event",type:=9,offset:=1,embedded:=false,tag := "",pkgPath := "",byteOffset:=16 },{ name := "Late",type:=4,offset:=2,embedded:=false,tag := "",pkgPath := "",byteOffset:=32 },{ name := "Moves",type:=27,offset:=3,embedded:=false,tag := "",pkgPath := "",byteOffset:=40 }]=true:=by kernel_rfl
theorem sz30:aH Tryz.prog 30=some 3:=by kernel_rfl
noncomputable def I30:TypeInfo:=(Tryz.prog.info? 30).getD dTI
theorem info30:Tryz.prog.info? 30=some I30:=by kernel_rfl
theorem I30s:I30.size=3:=by kernel_rfl
theorem I30b:I30.bytes=24:=by kernel_rfl
theorem zero30:bK Tryz.prog 30=some [.int .i64 0,.int .i64 0,.int .i64 0]:=by kernel_rfl
theorem grow30 {need:Nat}:aL Tryz.prog 30 3 24 need=decide (24*need≤1000000):=cE zero30 rfl (by decide)
theorem sz31:aH Tryz.prog 31=some 2:=by kernel_rfl
noncomputable def I31:TypeInfo:=(Tryz.prog.info? 31).getD dTI
theorem info31:Tryz.prog.info? 31=some I31:=by kernel_rfl
theorem I31s:I31.size=2:=by kernel_rfl
theorem I31b:I31.bytes=16:=by kernel_rfl
theorem zero31:bK Tryz.prog 31=some [.int .i64 0,.int .i64 0]:=by kernel_rfl
theorem grow31 {need:Nat}:aL Tryz.prog 31 2 16 need=decide (16*need≤1000000):=cE zero31 rfl (by decide)
theorem sz33:aH Tryz.prog 33=some 13:=by kernel_rfl
noncomputable def I33:TypeInfo:=(Tryz.prog.info? 33).getD dTI
theorem info33:Tryz.prog.info? 33=some I33:=by kernel_rfl
theorem I33s:I33.size=13:=by kernel_rfl
theorem I33b:I33.bytes=104:=by kernel_rfl
theorem zero33:bK Tryz.prog 33=some [.int .i64 0,.int .i64 0,.int .i64 0,.int .i64 0,.int .i64 0,.int .i64 0,.int .i64 0,.int .i64 0,.int .i64 0,.int .i64 0,.int .i64 0,.int .i64 0,.bool false]:=by kernel_rfl
theorem grow33 {need:Nat}:aL Tryz.prog 33 13 104 need=decide (104*need≤1000000):=cE zero33 rfl (by decide)
theorem fok33:fU Tryz.prog #[{ name := "Inning",type:=3,offset:=0,embedded:=false,tag := "",pkgPath := "",byteOffset:=0 },{ name := "Half",type:=3,offset:=1,embedded:=false,tag := "",pkgPath := "",byteOffset:=8 },{ name := "Outs",type:=3,offset:=2,embedded:=false,tag := "",pkgPath := "",byteOffset:=16 },{ name := "Balls",type:=3,offset:=3,embedded:=false,tag := "",pkgPath := "",byteOffset:=24 },{ name := "Strikes",type:=3,offset:=4,embedded:=false,tag := "",pkgPath := "",byteOffset:=32 },{ name := "Bases",type:=30,offset:=5,embedded:=false,tag := "",pkgPath := "",byteOffset:=40 },{ name := "Next",type:=31,offset:=8,embedded:=false,tag := "",pkgPath := "",byteOffset:=64 },{ name := "Score",type:=31,offset:=10,embedded:=false,tag := "",pkgPath := "",byteOffset:=80 },{ name := "Over",type:=4,offset:=12,embedded:=false,tag := "",pkgPath := "",byteOffset:=96 }]=true:=by kernel_rfl
theorem sz34:aH Tryz.prog 34=some 1:=by kernel_rfl
noncomputable def I34:TypeInfo:=(Tryz.prog.info? 34).getD dTI
theorem info34:Tryz.prog.info? 34=some I34:=by kernel_rfl
theorem I34s:I34.size=1:=by kernel_rfl
theorem I34b:I34.bytes=8:=by kernel_rfl
theorem zero34:bK Tryz.prog 34=some [.int .i64 0]:=by kernel_rfl
theorem grow34 {need:Nat}:aL Tryz.prog 34 1 8 need=decide (8*need≤1000000):=cE zero34 rfl (by decide)
theorem sz38:aH Tryz.prog 38=some 1:=by kernel_rfl
noncomputable def I38:TypeInfo:=(Tryz.prog.info? 38).getD dTI
theorem info38:Tryz.prog.info? 38=some I38:=by kernel_rfl
theorem I38s:I38.size=1:=by kernel_rfl
theorem I38b:I38.bytes=24:=by kernel_rfl
theorem zero38:bK Tryz.prog 38=some [.nilslice]:=by kernel_rfl
theorem grow38 {need:Nat}:aL Tryz.prog 38 1 24 need=decide (24*need≤1000000):=cE zero38 rfl (by decide)
theorem sz45:aH Tryz.prog 45=some 5:=by kernel_rfl
noncomputable def I45:TypeInfo:=(Tryz.prog.info? 45).getD dTI
theorem info45:Tryz.prog.info? 45=some I45:=by kernel_rfl
theorem I45s:I45.size=5:=by kernel_rfl
theorem I45b:I45.bytes=64:=by kernel_rfl
theorem zero45:bK Tryz.prog 45=some [.int .i64 0,.int .i64 0,.bool false,.str [],.nilslice]:=by kernel_rfl
theorem grow45 {need:Nat}:aL Tryz.prog 45 5 64 need=decide (64*need≤1000000):=cE zero45 rfl (by decide)
theorem fok45:fU Tryz.prog #[{ name := "From",type:=3,offset:=0,embedded:=false,tag := "",pkgPath := "",byteOffset:=0 },{ name := "To",type:=3,offset:=1,embedded:=false,tag := "",pkgPath := "",byteOffset:=8 },{ name := "Out",type:=4,offset:=2,embedded:=false,tag := "",pkgPath := "",byteOffset:=16 },{ name := "How",type:=9,offset:=3,embedded:=false,tag := "",pkgPath := "",byteOffset:=24 },{ name := "By",type:=38,offset:=4,embedded:=false,tag := "",pkgPath := "",byteOffset:=40 }]=true:=by kernel_rfl
theorem sz62:aH Tryz.prog 62=some 1:=by kernel_rfl
noncomputable def I62:TypeInfo:=(Tryz.prog.info? 62).getD dTI
theorem info62:Tryz.prog.info? 62=some I62:=by kernel_rfl
theorem I62s:I62.size=1:=by kernel_rfl
theorem I62b:I62.bytes=8:=by kernel_rfl
theorem zero62:bK Tryz.prog 62=some [.nilp]:=by kernel_rfl
theorem grow62 {need:Nat}:aL Tryz.prog 62 1 8 need=decide (8*need≤1000000):=cE zero62 rfl (by decide)
theorem sz77:aH Tryz.prog 77=some 1:=by kernel_rfl
noncomputable def I77:TypeInfo:=(Tryz.prog.info? 77).getD dTI
theorem info77:Tryz.prog.info? 77=some I77:=by kernel_rfl
theorem I77s:I77.size=1:=by kernel_rfl
theorem I77b:I77.bytes=8:=by kernel_rfl
theorem zero77:bK Tryz.prog 77=some [.nilfunc]:=by kernel_rfl
theorem grow77 {need:Nat}:aL Tryz.prog 77 1 8 need=decide (8*need≤1000000):=cE zero77 rfl (by decide)
theorem sz93:aH Tryz.prog 93=some 4:=by kernel_rfl
noncomputable def I93:TypeInfo:=(Tryz.prog.info? 93).getD dTI
theorem info93:Tryz.prog.info? 93=some I93:=by kernel_rfl
theorem I93s:I93.size=4:=by kernel_rfl
theorem I93b:I93.bytes=4:=by kernel_rfl
theorem zero93:bK Tryz.prog 93=some [.bool false,.bool false,.bool false,.bool false]:=by kernel_rfl
theorem grow93 {need:Nat}:aL Tryz.prog 93 4 4 need=decide (4*need≤1000000):=cE zero93 rfl (by decide)
theorem sz95:aH Tryz.prog 95=some 25:=by kernel_rfl
noncomputable def I95:TypeInfo:=(Tryz.prog.info? 95).getD dTI
theorem info95:Tryz.prog.info? 95=some I95:=by kernel_rfl
theorem I95s:I95.size=25:=by kernel_rfl
theorem fok95:fU Tryz.prog #[{ name := "state",type:=33,offset:=0,embedded:=false,tag := "",pkgPath := "dugout/rule",byteOffset:=0 },{ name := "play",type:=29,offset:=13,embedded:=false,tag := "",pkgPath := "dugout/rule",byteOffset:=104 },{ name := "count",type:=31,offset:=17,embedded:=false,tag := "",pkgPath := "dugout/rule",byteOffset:=168 },{ name := "counted",type:=4,offset:=19,embedded:=false,tag := "",pkgPath := "dugout/rule",byteOffset:=184 },{ name := "outs",type:=3,offset:=20,embedded:=false,tag := "",pkgPath := "dugout/rule",byteOffset:=192 },{ name := "forced",type:=93,offset:=21,embedded:=false,tag := "",pkgPath := "dugout/rule",byteOffset:=200 }]=true:=by kernel_rfl
theorem body25:Tryz.f25.body.isNone=false:=by kernel_rfl
theorem call25 {h:H}{args:List EVal}:dW Tryz.prog h 25 args=some (.enter 25 args h):=mK Tryz.func25 body25
theorem body36:Tryz.f36.body.isNone=false:=by kernel_rfl
theorem call36 {h:H}{args:List EVal}:dW Tryz.prog h 36 args=some (.enter 36 args h):=mK Tryz.func36 body36
theorem body37:Tryz.f37.body.isNone=false:=by kernel_rfl
theorem call37 {h:H}{args:List EVal}:dW Tryz.prog h 37 args=some (.enter 37 args h):=mK Tryz.func37 body37
theorem body38:Tryz.f38.body.isNone=false:=by kernel_rfl
theorem call38 {h:H}{args:List EVal}:dW Tryz.prog h 38 args=some (.enter 38 args h):=mK Tryz.func38 body38
theorem body39:Tryz.f39.body.isNone=false:=by kernel_rfl
theorem call39 {h:H}{args:List EVal}:dW Tryz.prog h 39 args=some (.enter 39 args h):=mK Tryz.func39 body39
end Go.Ev
