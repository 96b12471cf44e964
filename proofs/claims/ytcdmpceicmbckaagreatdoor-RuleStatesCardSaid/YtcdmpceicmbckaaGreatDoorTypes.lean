import Derived.Test.YtcdmpceicmbckaaGreatDoorBase
set_option linter.unusedSimpArgs false
set_option linter.unusedVariables false
namespace Go.Ev
open Go.RowKit Go.Proofs

noncomputable def I2 : TypeInfo := (Tryz.prog.info? 2).getD { desc := .bool, str := "", size := 0, bytes := 0, hasPointers := false, align := 0, fieldAlign := 0, zero := none, comparable := false, methods := #[] }
theorem sz3 : aZ Tryz.prog 3 = some 1 := by kernel_rfl
noncomputable def I3 : TypeInfo := (Tryz.prog.info? 3).getD { desc := .bool, str := "", size := 0, bytes := 0, hasPointers := false, align := 0, fieldAlign := 0, zero := none, comparable := false, methods := #[] }
theorem bP : Tryz.prog.info? 3 = some I3 := by kernel_rfl
theorem I3s : I3.size = 1 := by kernel_rfl
theorem I3b : I3.bytes = 8 := by kernel_rfl
theorem bM : zeroE Tryz.prog 3 = some [.int .i64 0] := by kernel_rfl
theorem bQ {need : Nat} : growOK Tryz.prog 3 1 8 need = decide (8 * need ≤ 1000000) := grow_of bM rfl (by decide)
theorem sz4 : aZ Tryz.prog 4 = some 1 := by kernel_rfl
noncomputable def I4 : TypeInfo := (Tryz.prog.info? 4).getD { desc := .bool, str := "", size := 0, bytes := 0, hasPointers := false, align := 0, fieldAlign := 0, zero := none, comparable := false, methods := #[] }
theorem bW : Tryz.prog.info? 4 = some I4 := by kernel_rfl
theorem I4s : I4.size = 1 := by kernel_rfl
theorem I4b : I4.bytes = 1 := by kernel_rfl
theorem bU : zeroE Tryz.prog 4 = some [.bool false] := by kernel_rfl
theorem bX {need : Nat} : growOK Tryz.prog 4 1 1 need = decide (1 * need ≤ 1000000) := grow_of bU rfl (by decide)
theorem sz9 : aZ Tryz.prog 9 = some 1 := by kernel_rfl
noncomputable def I9 : TypeInfo := (Tryz.prog.info? 9).getD { desc := .bool, str := "", size := 0, bytes := 0, hasPointers := false, align := 0, fieldAlign := 0, zero := none, comparable := false, methods := #[] }
theorem info9 : Tryz.prog.info? 9 = some I9 := by kernel_rfl
theorem I9s : I9.size = 1 := by kernel_rfl
theorem I9b : I9.bytes = 16 := by kernel_rfl
theorem zero9 : zeroE Tryz.prog 9 = some [.str []] := by kernel_rfl
theorem grow9 {need : Nat} : growOK Tryz.prog 9 1 16 need = decide (16 * need ≤ 1000000) := grow_of zero9 rfl (by decide)
theorem cE : aZ Tryz.prog 22 = some 3 := by kernel_rfl
noncomputable def I22 : TypeInfo := (Tryz.prog.info? 22).getD { desc := .bool, str := "", size := 0, bytes := 0, hasPointers := false, align := 0, fieldAlign := 0, zero := none, comparable := false, methods := #[] }
theorem bJ : Tryz.prog.info? 22 = some I22 := by kernel_rfl
theorem cH : I22.size = 3 := by kernel_rfl
theorem cI : I22.bytes = 24 := by kernel_rfl
theorem bH : zeroE Tryz.prog 22 = some [.int .i64 0, .int .i64 0, .int .i64 0] := by kernel_rfl
theorem bL {need : Nat} : growOK Tryz.prog 22 3 24 need = decide (24 * need ≤ 1000000) := grow_of bH rfl (by decide)
theorem cD : aZ Tryz.prog 23 = some 2 := by kernel_rfl
noncomputable def I23 : TypeInfo := (Tryz.prog.info? 23).getD { desc := .bool, str := "", size := 0, bytes := 0, hasPointers := false, align := 0, fieldAlign := 0, zero := none, comparable := false, methods := #[] }
theorem bI : Tryz.prog.info? 23 = some I23 := by kernel_rfl
theorem cF : I23.size = 2 := by kernel_rfl
theorem cG : I23.bytes = 16 := by kernel_rfl
theorem bG : zeroE Tryz.prog 23 = some [.int .i64 0, .int .i64 0] := by kernel_rfl
theorem bK {need : Nat} : growOK Tryz.prog 23 2 16 need = decide (16 * need ≤ 1000000) := grow_of bG rfl (by decide)
theorem sz25 : aZ Tryz.prog 25 = some 13 := by kernel_rfl
noncomputable def I25 : TypeInfo := (Tryz.prog.info? 25).getD { desc := .bool, str := "", size := 0, bytes := 0, hasPointers := false, align := 0, fieldAlign := 0, zero := none, comparable := false, methods := #[] }
theorem info25 : Tryz.prog.info? 25 = some I25 := by kernel_rfl
theorem I25s : I25.size = 13 := by kernel_rfl
theorem I25b : I25.bytes = 104 := by kernel_rfl
theorem zero25 : zeroE Tryz.prog 25 = some [.int .i64 0, .int .i64 0, .int .i64 0, .int .i64 0, .int .i64 0, .int .i64 0, .int .i64 0, .int .i64 0, .int .i64 0, .int .i64 0, .int .i64 0, .int .i64 0, .bool false] := by kernel_rfl
theorem grow25 {need : Nat} : growOK Tryz.prog 25 13 104 need = decide (104 * need ≤ 1000000) := grow_of zero25 rfl (by decide)
theorem fok25 : fieldsOK Tryz.prog #[{ name := "Inning", type := 3, offset := 0, embedded := false, tag := "", pkgPath := "", byteOffset := 0 }, { name := "Half", type := 3, offset := 1, embedded := false, tag := "", pkgPath := "", byteOffset := 8 }, { name := "Outs", type := 3, offset := 2, embedded := false, tag := "", pkgPath := "", byteOffset := 16 }, { name := "Balls", type := 3, offset := 3, embedded := false, tag := "", pkgPath := "", byteOffset := 24 }, { name := "Strikes", type := 3, offset := 4, embedded := false, tag := "", pkgPath := "", byteOffset := 32 }, { name := "Bases", type := 22, offset := 5, embedded := false, tag := "", pkgPath := "", byteOffset := 40 }, { name := "Next", type := 23, offset := 8, embedded := false, tag := "", pkgPath := "", byteOffset := 64 }, { name := "Score", type := 23, offset := 10, embedded := false, tag := "", pkgPath := "", byteOffset := 80 }, { name := "Over", type := 4, offset := 12, embedded := false, tag := "", pkgPath := "", byteOffset := 96 }] = true := by kernel_rfl
theorem sz26 : aZ Tryz.prog 26 = some 13 := by kernel_rfl
noncomputable def I26 : TypeInfo := (Tryz.prog.info? 26).getD { desc := .bool, str := "", size := 0, bytes := 0, hasPointers := false, align := 0, fieldAlign := 0, zero := none, comparable := false, methods := #[] }
theorem info26 : Tryz.prog.info? 26 = some I26 := by kernel_rfl
theorem I26s : I26.size = 13 := by kernel_rfl
theorem I26b : I26.bytes = 104 := by kernel_rfl
theorem zero26 : zeroE Tryz.prog 26 = some [.int .i64 0, .int .i64 0, .int .i64 0, .int .i64 0, .int .i64 0, .int .i64 0, .int .i64 0, .int .i64 0, .int .i64 0, .int .i64 0, .int .i64 0, .int .i64 0, .bool false] := by kernel_rfl
theorem grow26 {need : Nat} : growOK Tryz.prog 26 13 104 need = decide (104 * need ≤ 1000000) := grow_of zero26 rfl (by decide)
theorem fok26 : fieldsOK Tryz.prog #[{ name := "Inning", type := 3, offset := 0, embedded := false, tag := "", pkgPath := "", byteOffset := 0 }, { name := "Half", type := 3, offset := 1, embedded := false, tag := "", pkgPath := "", byteOffset := 8 }, { name := "Outs", type := 3, offset := 2, embedded := false, tag := "", pkgPath := "", byteOffset := 16 }, { name := "Balls", type := 3, offset := 3, embedded := false, tag := "", pkgPath := "", byteOffset := 24 }, { name := "Strikes", type := 3, offset := 4, embedded := false, tag := "", pkgPath := "", byteOffset := 32 }, { name := "Bases", type := 22, offset := 5, embedded := false, tag := "", pkgPath := "", byteOffset := 40 }, { name := "Next", type := 23, offset := 8, embedded := false, tag := "", pkgPath := "", byteOffset := 64 }, { name := "Score", type := 23, offset := 10, embedded := false, tag := "", pkgPath := "", byteOffset := 80 }, { name := "Over", type := 4, offset := 12, embedded := false, tag := "", pkgPath := "", byteOffset := 96 }] = true := by kernel_rfl
theorem sz27 : aZ Tryz.prog 27 = some 1 := by kernel_rfl
noncomputable def I27 : TypeInfo := (Tryz.prog.info? 27).getD { desc := .bool, str := "", size := 0, bytes := 0, hasPointers := false, align := 0, fieldAlign := 0, zero := none, comparable := false, methods := #[] }
theorem info27 : Tryz.prog.info? 27 = some I27 := by kernel_rfl
theorem I27s : I27.size = 1 := by kernel_rfl
theorem I27b : I27.bytes = 8 := by kernel_rfl
theorem zero27 : zeroE Tryz.prog 27 = some [.int .i64 0] := by kernel_rfl
theorem grow27 {need : Nat} : growOK Tryz.prog 27 1 8 need = decide (8 * need ≤ 1000000) := grow_of zero27 rfl (by decide)
theorem sz30 : aZ Tryz.prog 30 = some 1 := by kernel_rfl
noncomputable def I30 : TypeInfo := (Tryz.prog.info? 30).getD { desc := .bool, str := "", size := 0, bytes := 0, hasPointers := false, align := 0, fieldAlign := 0, zero := none, comparable := false, methods := #[] }
theorem info30 : Tryz.prog.info? 30 = some I30 := by kernel_rfl
theorem I30s : I30.size = 1 := by kernel_rfl
theorem I30b : I30.bytes = 24 := by kernel_rfl
theorem zero30 : zeroE Tryz.prog 30 = some [.nilslice] := by kernel_rfl
theorem grow30 {need : Nat} : growOK Tryz.prog 30 1 24 need = decide (24 * need ≤ 1000000) := grow_of zero30 rfl (by decide)
theorem sz33 : aZ Tryz.prog 33 = some 4 := by kernel_rfl
noncomputable def I33 : TypeInfo := (Tryz.prog.info? 33).getD { desc := .bool, str := "", size := 0, bytes := 0, hasPointers := false, align := 0, fieldAlign := 0, zero := none, comparable := false, methods := #[] }
theorem info33 : Tryz.prog.info? 33 = some I33 := by kernel_rfl
theorem I33s : I33.size = 4 := by kernel_rfl
theorem I33b : I33.bytes = 4 := by kernel_rfl
theorem zero33 : zeroE Tryz.prog 33 = some [.bool false, .bool false, .bool false, .bool false] := by kernel_rfl
theorem grow33 {need : Nat} : growOK Tryz.prog 33 4 4 need = decide (4 * need ≤ 1000000) := grow_of zero33 rfl (by decide)
theorem sz37 : aZ Tryz.prog 37 = some 1 := by kernel_rfl
noncomputable def I37 : TypeInfo := (Tryz.prog.info? 37).getD { desc := .bool, str := "", size := 0, bytes := 0, hasPointers := false, align := 0, fieldAlign := 0, zero := none, comparable := false, methods := #[] }
theorem info37 : Tryz.prog.info? 37 = some I37 := by kernel_rfl
theorem I37s : I37.size = 1 := by kernel_rfl
theorem I37b : I37.bytes = 8 := by kernel_rfl
theorem zero37 : zeroE Tryz.prog 37 = some [.nilfunc] := by kernel_rfl
theorem grow37 {need : Nat} : growOK Tryz.prog 37 1 8 need = decide (8 * need ≤ 1000000) := grow_of zero37 rfl (by decide)
theorem sz39 : aZ Tryz.prog 39 = some 1 := by kernel_rfl
noncomputable def I39 : TypeInfo := (Tryz.prog.info? 39).getD { desc := .bool, str := "", size := 0, bytes := 0, hasPointers := false, align := 0, fieldAlign := 0, zero := none, comparable := false, methods := #[] }
theorem info39 : Tryz.prog.info? 39 = some I39 := by kernel_rfl
theorem I39s : I39.size = 1 := by kernel_rfl
theorem I39b : I39.bytes = 24 := by kernel_rfl
theorem zero39 : zeroE Tryz.prog 39 = some [.nilslice] := by kernel_rfl
theorem grow39 {need : Nat} : growOK Tryz.prog 39 1 24 need = decide (24 * need ≤ 1000000) := grow_of zero39 rfl (by decide)
theorem sz162 : aZ Tryz.prog 162 = some 1 := by kernel_rfl
noncomputable def I162 : TypeInfo := (Tryz.prog.info? 162).getD { desc := .bool, str := "", size := 0, bytes := 0, hasPointers := false, align := 0, fieldAlign := 0, zero := none, comparable := false, methods := #[] }
theorem info162 : Tryz.prog.info? 162 = some I162 := by kernel_rfl
theorem I162s : I162.size = 1 := by kernel_rfl
theorem I162b : I162.bytes = 24 := by kernel_rfl
theorem zero162 : zeroE Tryz.prog 162 = some [.nilslice] := by kernel_rfl
theorem grow162 {need : Nat} : growOK Tryz.prog 162 1 24 need = decide (24 * need ≤ 1000000) := grow_of zero162 rfl (by decide)
theorem body14 : Tryz.f14.body.isNone = false := by kernel_rfl
theorem call14 {h : H} {args : List EVal} : aU Tryz.prog h 14 args = some (.enter 14 args h) := aR Tryz.func14 body14
theorem body15 : Tryz.f15.body.isNone = false := by kernel_rfl
theorem call15 {h : H} {args : List EVal} : aU Tryz.prog h 15 args = some (.enter 15 args h) := aR Tryz.func15 body15
theorem body16 : Tryz.f16.body.isNone = false := by kernel_rfl
theorem call16 {h : H} {args : List EVal} : aU Tryz.prog h 16 args = some (.enter 16 args h) := aR Tryz.func16 body16
theorem body17 : Tryz.f17.body.isNone = false := by kernel_rfl
theorem call17 {h : H} {args : List EVal} : aU Tryz.prog h 17 args = some (.enter 17 args h) := aR Tryz.func17 body17
theorem body18 : Tryz.f18.body.isNone = false := by kernel_rfl
theorem call18 {h : H} {args : List EVal} : aU Tryz.prog h 18 args = some (.enter 18 args h) := aR Tryz.func18 body18
theorem body19 : Tryz.f19.body.isNone = false := by kernel_rfl
theorem call19 {h : H} {args : List EVal} : aU Tryz.prog h 19 args = some (.enter 19 args h) := aR Tryz.func19 body19
theorem body20 : Tryz.f20.body.isNone = false := by kernel_rfl
theorem call20 {h : H} {args : List EVal} : aU Tryz.prog h 20 args = some (.enter 20 args h) := aR Tryz.func20 body20
theorem body21 : Tryz.f21.body.isNone = false := by kernel_rfl
theorem call21 {h : H} {args : List EVal} : aU Tryz.prog h 21 args = some (.enter 21 args h) := aR Tryz.func21 body21
theorem body22 : Tryz.f22.body.isNone = false := by kernel_rfl
theorem call22 {h : H} {args : List EVal} : aU Tryz.prog h 22 args = some (.enter 22 args h) := aR Tryz.func22 body22
theorem body23 : Tryz.f23.body.isNone = false := by kernel_rfl
theorem call23 {h : H} {args : List EVal} : aU Tryz.prog h 23 args = some (.enter 23 args h) := aR Tryz.func23 body23
theorem body24 : Tryz.f24.body.isNone = false := by kernel_rfl
theorem call24 {h : H} {args : List EVal} : aU Tryz.prog h 24 args = some (.enter 24 args h) := aR Tryz.func24 body24
theorem body25 : Tryz.f25.body.isNone = false := by kernel_rfl
theorem call25 {h : H} {args : List EVal} : aU Tryz.prog h 25 args = some (.enter 25 args h) := aR Tryz.func25 body25
theorem body26 : Tryz.f26.body.isNone = false := by kernel_rfl
theorem call26 {h : H} {args : List EVal} : aU Tryz.prog h 26 args = some (.enter 26 args h) := aR Tryz.func26 body26
theorem body27 : Tryz.f27.body.isNone = false := by kernel_rfl
theorem call27 {h : H} {args : List EVal} : aU Tryz.prog h 27 args = some (.enter 27 args h) := aR Tryz.func27 body27
theorem body60 : Tryz.f60.body.isNone = false := by kernel_rfl
theorem call60 {h : H} {args : List EVal} : aU Tryz.prog h 60 args = some (.enter 60 args h) := aR Tryz.func60 body60
theorem body61 : Tryz.f61.body.isNone = false := by kernel_rfl
theorem call61 {h : H} {args : List EVal} : aU Tryz.prog h 61 args = some (.enter 61 args h) := aR Tryz.func61 body61
theorem body62 : Tryz.f62.body.isNone = false := by kernel_rfl
theorem call62 {h : H} {args : List EVal} : aU Tryz.prog h 62 args = some (.enter 62 args h) := aR Tryz.func62 body62
theorem body63 : Tryz.f63.body.isNone = false := by kernel_rfl
theorem call63 {h : H} {args : List EVal} : aU Tryz.prog h 63 args = some (.enter 63 args h) := aR Tryz.func63 body63
theorem body64 : Tryz.f64.body.isNone = false := by kernel_rfl
theorem call64 {h : H} {args : List EVal} : aU Tryz.prog h 64 args = some (.enter 64 args h) := aR Tryz.func64 body64
theorem body65 : Tryz.f65.body.isNone = false := by kernel_rfl
theorem call65 {h : H} {args : List EVal} : aU Tryz.prog h 65 args = some (.enter 65 args h) := aR Tryz.func65 body65
theorem body66 : Tryz.f66.body.isNone = false := by kernel_rfl
theorem call66 {h : H} {args : List EVal} : aU Tryz.prog h 66 args = some (.enter 66 args h) := aR Tryz.func66 body66
theorem body67 : Tryz.f67.body.isNone = false := by kernel_rfl
theorem call67 {h : H} {args : List EVal} : aU Tryz.prog h 67 args = some (.enter 67 args h) := aR Tryz.func67 body67
theorem body68 : Tryz.f68.body.isNone = false := by kernel_rfl
theorem call68 {h : H} {args : List EVal} : aU Tryz.prog h 68 args = some (.enter 68 args h) := aR Tryz.func68 body68
theorem body69 : Tryz.f69.body.isNone = false := by kernel_rfl
theorem call69 {h : H} {args : List EVal} : aU Tryz.prog h 69 args = some (.enter 69 args h) := aR Tryz.func69 body69
theorem body70 : Tryz.f70.body.isNone = false := by kernel_rfl
theorem call70 {h : H} {args : List EVal} : aU Tryz.prog h 70 args = some (.enter 70 args h) := aR Tryz.func70 body70
theorem body71 : Tryz.f71.body.isNone = false := by kernel_rfl
theorem call71 {h : H} {args : List EVal} : aU Tryz.prog h 71 args = some (.enter 71 args h) := aR Tryz.func71 body71
theorem body72 : Tryz.f72.body.isNone = false := by kernel_rfl
theorem call72 {h : H} {args : List EVal} : aU Tryz.prog h 72 args = some (.enter 72 args h) := aR Tryz.func72 body72
theorem body73 : Tryz.f73.body.isNone = false := by kernel_rfl
theorem call73 {h : H} {args : List EVal} : aU Tryz.prog h 73 args = some (.enter 73 args h) := aR Tryz.func73 body73
theorem body117 : Tryz.f117.body.isNone = false := by kernel_rfl
theorem call117 {h : H} {args : List EVal} : aU Tryz.prog h 117 args = some (.enter 117 args h) := aR Tryz.func117 body117
theorem body118 : Tryz.f118.body.isNone = false := by kernel_rfl
theorem call118 {h : H} {args : List EVal} : aU Tryz.prog h 118 args = some (.enter 118 args h) := aR Tryz.func118 body118
theorem body119 : Tryz.f119.body.isNone = false := by kernel_rfl
theorem call119 {h : H} {args : List EVal} : aU Tryz.prog h 119 args = some (.enter 119 args h) := aR Tryz.func119 body119
theorem body120 : Tryz.f120.body.isNone = false := by kernel_rfl
theorem call120 {h : H} {args : List EVal} : aU Tryz.prog h 120 args = some (.enter 120 args h) := aR Tryz.func120 body120
theorem body121 : Tryz.f121.body.isNone = false := by kernel_rfl
theorem call121 {h : H} {args : List EVal} : aU Tryz.prog h 121 args = some (.enter 121 args h) := aR Tryz.func121 body121
theorem body146 : Tryz.f146.body.isNone = false := by kernel_rfl
theorem call146 {h : H} {args : List EVal} : aU Tryz.prog h 146 args = some (.enter 146 args h) := aR Tryz.func146 body146
theorem body154 : Tryz.f154.body.isNone = false := by kernel_rfl
theorem call154 {h : H} {args : List EVal} : aU Tryz.prog h 154 args = some (.enter 154 args h) := aR Tryz.func154 body154
theorem body175 : Tryz.f175.body.isNone = false := by kernel_rfl
theorem call175 {h : H} {args : List EVal} : aU Tryz.prog h 175 args = some (.enter 175 args h) := aR Tryz.func175 body175
theorem body176 : Tryz.f176.body.isNone = false := by kernel_rfl
theorem call176 {h : H} {args : List EVal} : aU Tryz.prog h 176 args = some (.enter 176 args h) := aR Tryz.func176 body176
theorem body177 : Tryz.f177.body.isNone = false := by kernel_rfl
theorem call177 {h : H} {args : List EVal} : aU Tryz.prog h 177 args = some (.enter 177 args h) := aR Tryz.func177 body177
end Go.Ev
