import Derived.Test.YtgnnhpffealmmaaGreatDoorEvE
import Derived.Test.YtgnnhpffealmmaaGreatDoorBase
set_option linter.unusedSimpArgs false
set_option linter.unusedVariables false
namespace Go.Ev
open Go.RowKit Go.Proofs
noncomputable def dTI:TypeInfo:={ desc:=.bool,str := "",size:=0,bytes:=0,hasPointers:=false,align:=0,fieldAlign:=0,zero:=none,comparable:=false,methods:=#[] }
theorem sz3:aG Tryz.prog 3=some 1:=by kernel_rfl
noncomputable def I3:TypeInfo:=(Tryz.prog.info? 3).getD dTI
theorem info3:Tryz.prog.info? 3=some I3:=by kernel_rfl
theorem I3s:I3.size=1:=by kernel_rfl
theorem I3b:I3.bytes=8:=by kernel_rfl
theorem zero3:bJ Tryz.prog 3=some [.int .i64 0]:=by kernel_rfl
theorem grow3 {need:Nat}:aI Tryz.prog 3 1 8 need=decide (8*need≤1000000):=cV zero3 rfl (by decide)
theorem sz9:aG Tryz.prog 9=some 1:=by kernel_rfl
noncomputable def I9:TypeInfo:=(Tryz.prog.info? 9).getD dTI
theorem info9:Tryz.prog.info? 9=some I9:=by kernel_rfl
theorem I9s:I9.size=1:=by kernel_rfl
theorem I9b:I9.bytes=16:=by kernel_rfl
theorem zero9:bJ Tryz.prog 9=some [.str []]:=by kernel_rfl
theorem grow9 {need:Nat}:aI Tryz.prog 9 1 16 need=decide (16*need≤1000000):=cV zero9 rfl (by decide)
theorem sz22:aG Tryz.prog 22=some 1:=by kernel_rfl
noncomputable def I22:TypeInfo:=(Tryz.prog.info? 22).getD dTI
theorem info22:Tryz.prog.info? 22=some I22:=by kernel_rfl
theorem I22s:I22.size=1:=by kernel_rfl
theorem I22b:I22.bytes=24:=by kernel_rfl
theorem zero22:bJ Tryz.prog 22=some [.nilslice]:=by kernel_rfl
theorem grow22 {need:Nat}:aI Tryz.prog 22 1 24 need=decide (24*need≤1000000):=cV zero22 rfl (by decide)
theorem sz23:aG Tryz.prog 23=some 2:=by kernel_rfl
noncomputable def I23:TypeInfo:=(Tryz.prog.info? 23).getD dTI
theorem info23:Tryz.prog.info? 23=some I23:=by kernel_rfl
theorem I23s:I23.size=2:=by kernel_rfl
theorem I23b:I23.bytes=32:=by kernel_rfl
theorem zero23:bJ Tryz.prog 23=some [.str [],.str []]:=by kernel_rfl
theorem grow23 {need:Nat}:aI Tryz.prog 23 2 32 need=decide (32*need≤1000000):=cV zero23 rfl (by decide)
theorem sz24:aG Tryz.prog 24=some 2:=by kernel_rfl
noncomputable def I24:TypeInfo:=(Tryz.prog.info? 24).getD dTI
theorem info24:Tryz.prog.info? 24=some I24:=by kernel_rfl
theorem I24s:I24.size=2:=by kernel_rfl
theorem I24b:I24.bytes=16:=by kernel_rfl
theorem zero24:bJ Tryz.prog 24=some [.int .i64 0,.int .i64 0]:=by kernel_rfl
theorem grow24 {need:Nat}:aI Tryz.prog 24 2 16 need=decide (16*need≤1000000):=cV zero24 rfl (by decide)
theorem sz25:aG Tryz.prog 25=some 1:=by kernel_rfl
noncomputable def I25:TypeInfo:=(Tryz.prog.info? 25).getD dTI
theorem info25:Tryz.prog.info? 25=some I25:=by kernel_rfl
theorem I25s:I25.size=1:=by kernel_rfl
theorem I25b:I25.bytes=24:=by kernel_rfl
theorem zero25:bJ Tryz.prog 25=some [.nilslice]:=by kernel_rfl
theorem grow25 {need:Nat}:aI Tryz.prog 25 1 24 need=decide (24*need≤1000000):=cV zero25 rfl (by decide)
theorem sz27:aG Tryz.prog 27=some 8:=by kernel_rfl
noncomputable def I27:TypeInfo:=(Tryz.prog.info? 27).getD dTI
theorem info27:Tryz.prog.info? 27=some I27:=by kernel_rfl
theorem I27s:I27.size=8:=by kernel_rfl
theorem I27b:I27.bytes=104:=by kernel_rfl
theorem zero27:bJ Tryz.prog 27=some [.str [],.int .i64 0,.int .i64 0,.str [],.str [],.int .i64 0,.int .i64 0,.nilslice]:=by kernel_rfl
theorem grow27 {need:Nat}:aI Tryz.prog 27 8 104 need=decide (104*need≤1000000):=cV zero27 rfl (by decide)
theorem fok27:eL Tryz.prog #[{ name := "Name",type:=9,offset:=0,embedded:=false,tag := "",pkgPath := "",byteOffset:=0 },{ name := "Version",type:=3,offset:=1,embedded:=false,tag := "",pkgPath := "",byteOffset:=16 },{ name := "Day",type:=3,offset:=2,embedded:=false,tag := "",pkgPath := "",byteOffset:=24 },{ name := "Teams",type:=23,offset:=3,embedded:=false,tag := "",pkgPath := "",byteOffset:=32 },{ name := "Score",type:=24,offset:=5,embedded:=false,tag := "",pkgPath := "",byteOffset:=64 },{ name := "Lines",type:=25,offset:=7,embedded:=false,tag := "",pkgPath := "",byteOffset:=80 }]=true:=by kernel_rfl
theorem sz32:aG Tryz.prog 32=some 1:=by kernel_rfl
noncomputable def I32:TypeInfo:=(Tryz.prog.info? 32).getD dTI
theorem info32:Tryz.prog.info? 32=some I32:=by kernel_rfl
theorem I32s:I32.size=1:=by kernel_rfl
theorem I32b:I32.bytes=24:=by kernel_rfl
theorem zero32:bJ Tryz.prog 32=some [.nilslice]:=by kernel_rfl
theorem grow32 {need:Nat}:aI Tryz.prog 32 1 24 need=decide (24*need≤1000000):=cV zero32 rfl (by decide)
theorem sz38:aG Tryz.prog 38=some 1:=by kernel_rfl
noncomputable def I38:TypeInfo:=(Tryz.prog.info? 38).getD dTI
theorem info38:Tryz.prog.info? 38=some I38:=by kernel_rfl
theorem I38s:I38.size=1:=by kernel_rfl
theorem I38b:I38.bytes=24:=by kernel_rfl
theorem zero38:bJ Tryz.prog 38=some [.nilslice]:=by kernel_rfl
theorem grow38 {need:Nat}:aI Tryz.prog 38 1 24 need=decide (24*need≤1000000):=cV zero38 rfl (by decide)
theorem sz40:aG Tryz.prog 40=some 8:=by kernel_rfl
noncomputable def I40:TypeInfo:=(Tryz.prog.info? 40).getD dTI
theorem info40:Tryz.prog.info? 40=some I40:=by kernel_rfl
theorem I40s:I40.size=8:=by kernel_rfl
theorem I40b:I40.bytes=104:=by kernel_rfl
theorem zero40:bJ Tryz.prog 40=some [.str [],.int .i64 0,.int .i64 0,.str [],.str [],.int .i64 0,.int .i64 0,.nilslice]:=by kernel_rfl
theorem grow40 {need:Nat}:aI Tryz.prog 40 8 104 need=decide (104*need≤1000000):=cV zero40 rfl (by decide)
theorem fok40:eL Tryz.prog #[{ name := "Name",type:=9,offset:=0,embedded:=false,tag := "",pkgPath := "",byteOffset:=0 },{ name := "Version",type:=3,offset:=1,embedded:=false,tag := "",pkgPath := "",byteOffset:=16 },{ name := "Day",type:=3,offset:=2,embedded:=false,tag := "",pkgPath := "",byteOffset:=24 },{ name := "Teams",type:=23,offset:=3,embedded:=false,tag := "",pkgPath := "",byteOffset:=32 },{ name := "Score",type:=24,offset:=5,embedded:=false,tag := "",pkgPath := "",byteOffset:=64 },{ name := "Lines",type:=38,offset:=7,embedded:=false,tag := "",pkgPath := "",byteOffset:=80 }]=true:=by kernel_rfl
theorem sz68:aG Tryz.prog 68=some 12:=by kernel_rfl
noncomputable def I68:TypeInfo:=(Tryz.prog.info? 68).getD dTI
theorem info68:Tryz.prog.info? 68=some I68:=by kernel_rfl
theorem I68s:I68.size=12:=by kernel_rfl
theorem I68b:I68.bytes=96:=by kernel_rfl
theorem zero68:bJ Tryz.prog 68=some [.int .i64 0,.int .i64 0,.int .i64 0,.int .i64 0,.int .i64 0,.int .i64 0,.int .i64 0,.int .i64 0,.int .i64 0,.int .i64 0,.int .i64 0,.int .i64 0]:=by kernel_rfl
theorem grow68 {need:Nat}:aI Tryz.prog 68 12 96 need=decide (96*need≤1000000):=cV zero68 rfl (by decide)
theorem sz86:aG Tryz.prog 86=some 14:=by kernel_rfl
noncomputable def I86:TypeInfo:=(Tryz.prog.info? 86).getD dTI
theorem info86:Tryz.prog.info? 86=some I86:=by kernel_rfl
theorem I86s:I86.size=14:=by kernel_rfl
theorem I86b:I86.bytes=128:=by kernel_rfl
theorem zero86:bJ Tryz.prog 86=some [.str [],.str [],.int .i64 0,.int .i64 0,.int .i64 0,.int .i64 0,.int .i64 0,.int .i64 0,.int .i64 0,.int .i64 0,.int .i64 0,.int .i64 0,.int .i64 0,.int .i64 0]:=by kernel_rfl
theorem grow86 {need:Nat}:aI Tryz.prog 86 14 128 need=decide (128*need≤1000000):=cV zero86 rfl (by decide)
theorem fok86:eL Tryz.prog #[{ name := "Player",type:=9,offset:=0,embedded:=false,tag := "",pkgPath := "",byteOffset:=0 },{ name := "Team",type:=9,offset:=1,embedded:=false,tag := "",pkgPath := "",byteOffset:=16 },{ name := "Counts",type:=68,offset:=2,embedded:=false,tag := "",pkgPath := "",byteOffset:=32 }]=true:=by kernel_rfl
theorem sz106:aG Tryz.prog 106=some 14:=by kernel_rfl
noncomputable def I106:TypeInfo:=(Tryz.prog.info? 106).getD dTI
theorem info106:Tryz.prog.info? 106=some I106:=by kernel_rfl
theorem I106s:I106.size=14:=by kernel_rfl
theorem I106b:I106.bytes=128:=by kernel_rfl
theorem zero106:bJ Tryz.prog 106=some [.str [],.str [],.int .i64 0,.int .i64 0,.int .i64 0,.int .i64 0,.int .i64 0,.int .i64 0,.int .i64 0,.int .i64 0,.int .i64 0,.int .i64 0,.int .i64 0,.int .i64 0]:=by kernel_rfl
theorem grow106 {need:Nat}:aI Tryz.prog 106 14 128 need=decide (128*need≤1000000):=cV zero106 rfl (by decide)
theorem fok106:eL Tryz.prog #[{ name := "Player",type:=9,offset:=0,embedded:=false,tag := "",pkgPath := "",byteOffset:=0 },{ name := "Team",type:=9,offset:=1,embedded:=false,tag := "",pkgPath := "",byteOffset:=16 },{ name := "Counts",type:=68,offset:=2,embedded:=false,tag := "",pkgPath := "",byteOffset:=32 }]=true:=by kernel_rfl
end Go.Ev
