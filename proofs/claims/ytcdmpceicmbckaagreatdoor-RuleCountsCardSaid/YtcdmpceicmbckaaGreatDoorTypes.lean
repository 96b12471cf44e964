import Derived.Test.YtcdmpceicmbckaaGreatDoorBase
set_option linter.unusedSimpArgs false
set_option linter.unusedVariables false
namespace Go.Ev
open Go.RowKit Go.Proofs

noncomputable def I2 : TypeInfo := (Tryz.prog.info? 2).getD { desc := .bool, str := "", size := 0, bytes := 0, hasPointers := false, align := 0, fieldAlign := 0, zero := none, comparable := false, methods := #[] }
theorem sz3 : aR Tryz.prog 3 = some 1 := by kernel_rfl
noncomputable def I3 : TypeInfo := (Tryz.prog.info? 3).getD { desc := .bool, str := "", size := 0, bytes := 0, hasPointers := false, align := 0, fieldAlign := 0, zero := none, comparable := false, methods := #[] }
theorem bP : Tryz.prog.info? 3 = some I3 := by kernel_rfl
theorem I3s : I3.size = 1 := by kernel_rfl
theorem I3b : I3.bytes = 8 := by kernel_rfl
theorem bN : bU Tryz.prog 3 = some [.int .i64 0] := by kernel_rfl
theorem bQ {need : Nat} : bJ Tryz.prog 3 1 8 need = decide (8 * need ≤ 1000000) := grow_of bN rfl (by decide)
theorem sz4 : aR Tryz.prog 4 = some 1 := by kernel_rfl
noncomputable def I4 : TypeInfo := (Tryz.prog.info? 4).getD { desc := .bool, str := "", size := 0, bytes := 0, hasPointers := false, align := 0, fieldAlign := 0, zero := none, comparable := false, methods := #[] }
theorem info4 : Tryz.prog.info? 4 = some I4 := by kernel_rfl
theorem I4s : I4.size = 1 := by kernel_rfl
theorem I4b : I4.bytes = 1 := by kernel_rfl
theorem zero4 : bU Tryz.prog 4 = some [.bool false] := by kernel_rfl
theorem grow4 {need : Nat} : bJ Tryz.prog 4 1 1 need = decide (1 * need ≤ 1000000) := grow_of zero4 rfl (by decide)
theorem sz5 : aR Tryz.prog 5 = some 1 := by kernel_rfl
noncomputable def I5 : TypeInfo := (Tryz.prog.info? 5).getD { desc := .bool, str := "", size := 0, bytes := 0, hasPointers := false, align := 0, fieldAlign := 0, zero := none, comparable := false, methods := #[] }
theorem info5 : Tryz.prog.info? 5 = some I5 := by kernel_rfl
theorem I5s : I5.size = 1 := by kernel_rfl
theorem I5b : I5.bytes = 1 := by kernel_rfl
theorem zero5 : bU Tryz.prog 5 = some [.int .u8 0] := by kernel_rfl
theorem grow5 {need : Nat} : bJ Tryz.prog 5 1 1 need = decide (1 * need ≤ 1000000) := grow_of zero5 rfl (by decide)
theorem sz9 : aR Tryz.prog 9 = some 1 := by kernel_rfl
noncomputable def I9 : TypeInfo := (Tryz.prog.info? 9).getD { desc := .bool, str := "", size := 0, bytes := 0, hasPointers := false, align := 0, fieldAlign := 0, zero := none, comparable := false, methods := #[] }
theorem info9 : Tryz.prog.info? 9 = some I9 := by kernel_rfl
theorem I9s : I9.size = 1 := by kernel_rfl
theorem I9b : I9.bytes = 16 := by kernel_rfl
theorem zero9 : bU Tryz.prog 9 = some [.str []] := by kernel_rfl
theorem grow9 {need : Nat} : bJ Tryz.prog 9 1 16 need = decide (16 * need ≤ 1000000) := grow_of zero9 rfl (by decide)
theorem sz21 : aR Tryz.prog 21 = some 1 := by kernel_rfl
noncomputable def I21 : TypeInfo := (Tryz.prog.info? 21).getD { desc := .bool, str := "", size := 0, bytes := 0, hasPointers := false, align := 0, fieldAlign := 0, zero := none, comparable := false, methods := #[] }
theorem info21 : Tryz.prog.info? 21 = some I21 := by kernel_rfl
theorem I21s : I21.size = 1 := by kernel_rfl
theorem I21b : I21.bytes = 4 := by kernel_rfl
theorem zero21 : bU Tryz.prog 21 = some [.int .i32 0] := by kernel_rfl
theorem grow21 {need : Nat} : bJ Tryz.prog 21 1 4 need = decide (4 * need ≤ 1000000) := grow_of zero21 rfl (by decide)
theorem sz22 : aR Tryz.prog 22 = some 3 := by kernel_rfl
noncomputable def I22 : TypeInfo := (Tryz.prog.info? 22).getD { desc := .bool, str := "", size := 0, bytes := 0, hasPointers := false, align := 0, fieldAlign := 0, zero := none, comparable := false, methods := #[] }
theorem info22 : Tryz.prog.info? 22 = some I22 := by kernel_rfl
theorem I22s : I22.size = 3 := by kernel_rfl
theorem I22b : I22.bytes = 24 := by kernel_rfl
theorem zero22 : bU Tryz.prog 22 = some [.int .i64 0, .int .i64 0, .int .i64 0] := by kernel_rfl
theorem grow22 {need : Nat} : bJ Tryz.prog 22 3 24 need = decide (24 * need ≤ 1000000) := grow_of zero22 rfl (by decide)
theorem sz23 : aR Tryz.prog 23 = some 2 := by kernel_rfl
noncomputable def I23 : TypeInfo := (Tryz.prog.info? 23).getD { desc := .bool, str := "", size := 0, bytes := 0, hasPointers := false, align := 0, fieldAlign := 0, zero := none, comparable := false, methods := #[] }
theorem info23 : Tryz.prog.info? 23 = some I23 := by kernel_rfl
theorem I23s : I23.size = 2 := by kernel_rfl
theorem I23b : I23.bytes = 16 := by kernel_rfl
theorem zero23 : bU Tryz.prog 23 = some [.int .i64 0, .int .i64 0] := by kernel_rfl
theorem grow23 {need : Nat} : bJ Tryz.prog 23 2 16 need = decide (16 * need ≤ 1000000) := grow_of zero23 rfl (by decide)
theorem sz25 : aR Tryz.prog 25 = some 13 := by kernel_rfl
noncomputable def I25 : TypeInfo := (Tryz.prog.info? 25).getD { desc := .bool, str := "", size := 0, bytes := 0, hasPointers := false, align := 0, fieldAlign := 0, zero := none, comparable := false, methods := #[] }
theorem info25 : Tryz.prog.info? 25 = some I25 := by kernel_rfl
theorem I25s : I25.size = 13 := by kernel_rfl
theorem I25b : I25.bytes = 104 := by kernel_rfl
theorem zero25 : bU Tryz.prog 25 = some [.int .i64 0, .int .i64 0, .int .i64 0, .int .i64 0, .int .i64 0, .int .i64 0, .int .i64 0, .int .i64 0, .int .i64 0, .int .i64 0, .int .i64 0, .int .i64 0, .bool false] := by kernel_rfl
theorem grow25 {need : Nat} : bJ Tryz.prog 25 13 104 need = decide (104 * need ≤ 1000000) := grow_of zero25 rfl (by decide)
theorem fok25 : fieldsOK Tryz.prog #[{ name := "Inning", type := 3, offset := 0, embedded := false, tag := "", pkgPath := "", byteOffset := 0 }, { name := "Half", type := 3, offset := 1, embedded := false, tag := "", pkgPath := "", byteOffset := 8 }, { name := "Outs", type := 3, offset := 2, embedded := false, tag := "", pkgPath := "", byteOffset := 16 }, { name := "Balls", type := 3, offset := 3, embedded := false, tag := "", pkgPath := "", byteOffset := 24 }, { name := "Strikes", type := 3, offset := 4, embedded := false, tag := "", pkgPath := "", byteOffset := 32 }, { name := "Bases", type := 22, offset := 5, embedded := false, tag := "", pkgPath := "", byteOffset := 40 }, { name := "Next", type := 23, offset := 8, embedded := false, tag := "", pkgPath := "", byteOffset := 64 }, { name := "Score", type := 23, offset := 10, embedded := false, tag := "", pkgPath := "", byteOffset := 80 }, { name := "Over", type := 4, offset := 12, embedded := false, tag := "", pkgPath := "", byteOffset := 96 }] = true := by kernel_rfl
theorem sz26 : aR Tryz.prog 26 = some 13 := by kernel_rfl
noncomputable def I26 : TypeInfo := (Tryz.prog.info? 26).getD { desc := .bool, str := "", size := 0, bytes := 0, hasPointers := false, align := 0, fieldAlign := 0, zero := none, comparable := false, methods := #[] }
theorem info26 : Tryz.prog.info? 26 = some I26 := by kernel_rfl
theorem I26s : I26.size = 13 := by kernel_rfl
theorem I26b : I26.bytes = 104 := by kernel_rfl
theorem zero26 : bU Tryz.prog 26 = some [.int .i64 0, .int .i64 0, .int .i64 0, .int .i64 0, .int .i64 0, .int .i64 0, .int .i64 0, .int .i64 0, .int .i64 0, .int .i64 0, .int .i64 0, .int .i64 0, .bool false] := by kernel_rfl
theorem grow26 {need : Nat} : bJ Tryz.prog 26 13 104 need = decide (104 * need ≤ 1000000) := grow_of zero26 rfl (by decide)
theorem fok26 : fieldsOK Tryz.prog #[{ name := "Inning", type := 3, offset := 0, embedded := false, tag := "", pkgPath := "", byteOffset := 0 }, { name := "Half", type := 3, offset := 1, embedded := false, tag := "", pkgPath := "", byteOffset := 8 }, { name := "Outs", type := 3, offset := 2, embedded := false, tag := "", pkgPath := "", byteOffset := 16 }, { name := "Balls", type := 3, offset := 3, embedded := false, tag := "", pkgPath := "", byteOffset := 24 }, { name := "Strikes", type := 3, offset := 4, embedded := false, tag := "", pkgPath := "", byteOffset := 32 }, { name := "Bases", type := 22, offset := 5, embedded := false, tag := "", pkgPath := "", byteOffset := 40 }, { name := "Next", type := 23, offset := 8, embedded := false, tag := "", pkgPath := "", byteOffset := 64 }, { name := "Score", type := 23, offset := 10, embedded := false, tag := "", pkgPath := "", byteOffset := 80 }, { name := "Over", type := 4, offset := 12, embedded := false, tag := "", pkgPath := "", byteOffset := 96 }] = true := by kernel_rfl
theorem sz27 : aR Tryz.prog 27 = some 1 := by kernel_rfl
noncomputable def I27 : TypeInfo := (Tryz.prog.info? 27).getD { desc := .bool, str := "", size := 0, bytes := 0, hasPointers := false, align := 0, fieldAlign := 0, zero := none, comparable := false, methods := #[] }
theorem info27 : Tryz.prog.info? 27 = some I27 := by kernel_rfl
theorem I27s : I27.size = 1 := by kernel_rfl
theorem I27b : I27.bytes = 8 := by kernel_rfl
theorem zero27 : bU Tryz.prog 27 = some [.int .i64 0] := by kernel_rfl
theorem grow27 {need : Nat} : bJ Tryz.prog 27 1 8 need = decide (8 * need ≤ 1000000) := grow_of zero27 rfl (by decide)
theorem sz30 : aR Tryz.prog 30 = some 1 := by kernel_rfl
noncomputable def I30 : TypeInfo := (Tryz.prog.info? 30).getD { desc := .bool, str := "", size := 0, bytes := 0, hasPointers := false, align := 0, fieldAlign := 0, zero := none, comparable := false, methods := #[] }
theorem info30 : Tryz.prog.info? 30 = some I30 := by kernel_rfl
theorem I30s : I30.size = 1 := by kernel_rfl
theorem I30b : I30.bytes = 24 := by kernel_rfl
theorem zero30 : bU Tryz.prog 30 = some [.nilslice] := by kernel_rfl
theorem grow30 {need : Nat} : bJ Tryz.prog 30 1 24 need = decide (24 * need ≤ 1000000) := grow_of zero30 rfl (by decide)
theorem sz37 : aR Tryz.prog 37 = some 1 := by kernel_rfl
noncomputable def I37 : TypeInfo := (Tryz.prog.info? 37).getD { desc := .bool, str := "", size := 0, bytes := 0, hasPointers := false, align := 0, fieldAlign := 0, zero := none, comparable := false, methods := #[] }
theorem info37 : Tryz.prog.info? 37 = some I37 := by kernel_rfl
theorem I37s : I37.size = 1 := by kernel_rfl
theorem I37b : I37.bytes = 8 := by kernel_rfl
theorem zero37 : bU Tryz.prog 37 = some [.nilfunc] := by kernel_rfl
theorem grow37 {need : Nat} : bJ Tryz.prog 37 1 8 need = decide (8 * need ≤ 1000000) := grow_of zero37 rfl (by decide)
theorem sz162 : aR Tryz.prog 162 = some 1 := by kernel_rfl
noncomputable def I162 : TypeInfo := (Tryz.prog.info? 162).getD { desc := .bool, str := "", size := 0, bytes := 0, hasPointers := false, align := 0, fieldAlign := 0, zero := none, comparable := false, methods := #[] }
theorem info162 : Tryz.prog.info? 162 = some I162 := by kernel_rfl
theorem I162s : I162.size = 1 := by kernel_rfl
theorem I162b : I162.bytes = 24 := by kernel_rfl
theorem zero162 : bU Tryz.prog 162 = some [.nilslice] := by kernel_rfl
theorem grow162 {need : Nat} : bJ Tryz.prog 162 1 24 need = decide (24 * need ≤ 1000000) := grow_of zero162 rfl (by decide)
theorem body18 : Tryz.f18.body.isNone = false := by kernel_rfl
theorem call18 {h : H} {args : List EVal} : aU Tryz.prog h 18 args = some (.enter 18 args h) := aS Tryz.func18 body18
theorem body60 : Tryz.f60.body.isNone = false := by kernel_rfl
theorem call60 {h : H} {args : List EVal} : aU Tryz.prog h 60 args = some (.enter 60 args h) := aS Tryz.func60 body60
theorem body61 : Tryz.f61.body.isNone = false := by kernel_rfl
theorem call61 {h : H} {args : List EVal} : aU Tryz.prog h 61 args = some (.enter 61 args h) := aS Tryz.func61 body61
theorem body62 : Tryz.f62.body.isNone = false := by kernel_rfl
theorem call62 {h : H} {args : List EVal} : aU Tryz.prog h 62 args = some (.enter 62 args h) := aS Tryz.func62 body62
theorem body64 : Tryz.f64.body.isNone = false := by kernel_rfl
theorem call64 {h : H} {args : List EVal} : aU Tryz.prog h 64 args = some (.enter 64 args h) := aS Tryz.func64 body64
theorem body65 : Tryz.f65.body.isNone = false := by kernel_rfl
theorem call65 {h : H} {args : List EVal} : aU Tryz.prog h 65 args = some (.enter 65 args h) := aS Tryz.func65 body65
theorem body66 : Tryz.f66.body.isNone = false := by kernel_rfl
theorem call66 {h : H} {args : List EVal} : aU Tryz.prog h 66 args = some (.enter 66 args h) := aS Tryz.func66 body66
theorem body67 : Tryz.f67.body.isNone = false := by kernel_rfl
theorem call67 {h : H} {args : List EVal} : aU Tryz.prog h 67 args = some (.enter 67 args h) := aS Tryz.func67 body67
theorem body68 : Tryz.f68.body.isNone = false := by kernel_rfl
theorem call68 {h : H} {args : List EVal} : aU Tryz.prog h 68 args = some (.enter 68 args h) := aS Tryz.func68 body68
theorem body69 : Tryz.f69.body.isNone = false := by kernel_rfl
theorem call69 {h : H} {args : List EVal} : aU Tryz.prog h 69 args = some (.enter 69 args h) := aS Tryz.func69 body69
theorem body70 : Tryz.f70.body.isNone = false := by kernel_rfl
theorem call70 {h : H} {args : List EVal} : aU Tryz.prog h 70 args = some (.enter 70 args h) := aS Tryz.func70 body70
theorem body71 : Tryz.f71.body.isNone = false := by kernel_rfl
theorem call71 {h : H} {args : List EVal} : aU Tryz.prog h 71 args = some (.enter 71 args h) := aS Tryz.func71 body71
theorem body72 : Tryz.f72.body.isNone = false := by kernel_rfl
theorem call72 {h : H} {args : List EVal} : aU Tryz.prog h 72 args = some (.enter 72 args h) := aS Tryz.func72 body72
theorem body73 : Tryz.f73.body.isNone = false := by kernel_rfl
theorem call73 {h : H} {args : List EVal} : aU Tryz.prog h 73 args = some (.enter 73 args h) := aS Tryz.func73 body73
theorem body117 : Tryz.f117.body.isNone = false := by kernel_rfl
theorem call117 {h : H} {args : List EVal} : aU Tryz.prog h 117 args = some (.enter 117 args h) := aS Tryz.func117 body117
theorem body118 : Tryz.f118.body.isNone = false := by kernel_rfl
theorem call118 {h : H} {args : List EVal} : aU Tryz.prog h 118 args = some (.enter 118 args h) := aS Tryz.func118 body118
theorem body119 : Tryz.f119.body.isNone = false := by kernel_rfl
theorem call119 {h : H} {args : List EVal} : aU Tryz.prog h 119 args = some (.enter 119 args h) := aS Tryz.func119 body119
theorem body120 : Tryz.f120.body.isNone = false := by kernel_rfl
theorem call120 {h : H} {args : List EVal} : aU Tryz.prog h 120 args = some (.enter 120 args h) := aS Tryz.func120 body120
theorem body121 : Tryz.f121.body.isNone = false := by kernel_rfl
theorem call121 {h : H} {args : List EVal} : aU Tryz.prog h 121 args = some (.enter 121 args h) := aS Tryz.func121 body121
theorem body136 : Tryz.f136.body.isNone = false := by kernel_rfl
theorem call136 {h : H} {args : List EVal} : aU Tryz.prog h 136 args = some (.enter 136 args h) := aS Tryz.func136 body136
theorem body137 : Tryz.f137.body.isNone = false := by kernel_rfl
theorem call137 {h : H} {args : List EVal} : aU Tryz.prog h 137 args = some (.enter 137 args h) := aS Tryz.func137 body137
theorem body138 : Tryz.f138.body.isNone = false := by kernel_rfl
theorem call138 {h : H} {args : List EVal} : aU Tryz.prog h 138 args = some (.enter 138 args h) := aS Tryz.func138 body138
theorem body139 : Tryz.f139.body.isNone = false := by kernel_rfl
theorem call139 {h : H} {args : List EVal} : aU Tryz.prog h 139 args = some (.enter 139 args h) := aS Tryz.func139 body139
theorem body146 : Tryz.f146.body.isNone = false := by kernel_rfl
theorem call146 {h : H} {args : List EVal} : aU Tryz.prog h 146 args = some (.enter 146 args h) := aS Tryz.func146 body146
theorem body154 : Tryz.f154.body.isNone = false := by kernel_rfl
theorem call154 {h : H} {args : List EVal} : aU Tryz.prog h 154 args = some (.enter 154 args h) := aS Tryz.func154 body154
theorem body175 : Tryz.f175.body.isNone = false := by kernel_rfl
theorem call175 {h : H} {args : List EVal} : aU Tryz.prog h 175 args = some (.enter 175 args h) := aS Tryz.func175 body175
theorem body176 : Tryz.f176.body.isNone = false := by kernel_rfl
theorem call176 {h : H} {args : List EVal} : aU Tryz.prog h 176 args = some (.enter 176 args h) := aS Tryz.func176 body176
theorem body177 : Tryz.f177.body.isNone = false := by kernel_rfl
theorem call177 {h : H} {args : List EVal} : aU Tryz.prog h 177 args = some (.enter 177 args h) := aS Tryz.func177 body177
theorem body190 : Tryz.f190.body.isNone = false := by kernel_rfl
theorem call190 {h : H} {args : List EVal} : aU Tryz.prog h 190 args = some (.enter 190 args h) := aS Tryz.func190 body190
theorem body214 : Tryz.f214.body.isNone = false := by kernel_rfl
theorem call214 {h : H} {args : List EVal} : aU Tryz.prog h 214 args = some (.enter 214 args h) := aS Tryz.func214 body214
theorem body230 : Tryz.f230.body.isNone = false := by kernel_rfl
theorem call230 {h : H} {args : List EVal} : aU Tryz.prog h 230 args = some (.enter 230 args h) := aS Tryz.func230 body230
theorem body231 : Tryz.f231.body.isNone = false := by kernel_rfl
theorem call231 {h : H} {args : List EVal} : aU Tryz.prog h 231 args = some (.enter 231 args h) := aS Tryz.func231 body231
theorem body232 : Tryz.f232.body.isNone = false := by kernel_rfl
theorem call232 {h : H} {args : List EVal} : aU Tryz.prog h 232 args = some (.enter 232 args h) := aS Tryz.func232 body232
theorem body245 : Tryz.f245.body.isNone = false := by kernel_rfl
theorem call245 {h : H} {args : List EVal} : aU Tryz.prog h 245 args = some (.enter 245 args h) := aS Tryz.func245 body245
end Go.Ev
