import Derived.Test.YtcmlciebgapmjaaGreatDoorBase
set_option linter.unusedSimpArgs false
set_option linter.unusedVariables false
namespace Go.Ev
open Go.RowKit Go.Proofs

noncomputable def I2 : TypeInfo := (Tryz.prog.info? 2).getD { desc := .bool, str := "", size := 0, bytes := 0, hasPointers := false, align := 0, fieldAlign := 0, zero := none, comparable := false, methods := #[] }
theorem sz3 : cF Tryz.prog 3 = some 1 := by kernel_rfl
noncomputable def I3 : TypeInfo := (Tryz.prog.info? 3).getD { desc := .bool, str := "", size := 0, bytes := 0, hasPointers := false, align := 0, fieldAlign := 0, zero := none, comparable := false, methods := #[] }
theorem bT : Tryz.prog.info? 3 = some I3 := by kernel_rfl
theorem I3s : I3.size = 1 := by kernel_rfl
theorem I3b : I3.bytes = 8 := by kernel_rfl
theorem bS : dJ Tryz.prog 3 = some [.int .i64 0] := by kernel_rfl
theorem bV {need : Nat} : cT Tryz.prog 3 1 8 need = decide (8 * need ≤ 1000000) := grow_of bS rfl (by decide)
theorem sz4 : cF Tryz.prog 4 = some 1 := by kernel_rfl
noncomputable def I4 : TypeInfo := (Tryz.prog.info? 4).getD { desc := .bool, str := "", size := 0, bytes := 0, hasPointers := false, align := 0, fieldAlign := 0, zero := none, comparable := false, methods := #[] }
theorem cV : Tryz.prog.info? 4 = some I4 := by kernel_rfl
theorem I4s : I4.size = 1 := by kernel_rfl
theorem I4b : I4.bytes = 1 := by kernel_rfl
theorem cU : dJ Tryz.prog 4 = some [.bool false] := by kernel_rfl
theorem cW {need : Nat} : cT Tryz.prog 4 1 1 need = decide (1 * need ≤ 1000000) := grow_of cU rfl (by decide)
theorem sz5 : cF Tryz.prog 5 = some 1 := by kernel_rfl
noncomputable def I5 : TypeInfo := (Tryz.prog.info? 5).getD { desc := .bool, str := "", size := 0, bytes := 0, hasPointers := false, align := 0, fieldAlign := 0, zero := none, comparable := false, methods := #[] }
theorem info5 : Tryz.prog.info? 5 = some I5 := by kernel_rfl
theorem I5s : I5.size = 1 := by kernel_rfl
theorem I5b : I5.bytes = 1 := by kernel_rfl
theorem zero5 : dJ Tryz.prog 5 = some [.int .u8 0] := by kernel_rfl
theorem grow5 {need : Nat} : cT Tryz.prog 5 1 1 need = decide (1 * need ≤ 1000000) := grow_of zero5 rfl (by decide)
theorem sz9 : cF Tryz.prog 9 = some 1 := by kernel_rfl
noncomputable def I9 : TypeInfo := (Tryz.prog.info? 9).getD { desc := .bool, str := "", size := 0, bytes := 0, hasPointers := false, align := 0, fieldAlign := 0, zero := none, comparable := false, methods := #[] }
theorem cL : Tryz.prog.info? 9 = some I9 := by kernel_rfl
theorem I9s : I9.size = 1 := by kernel_rfl
theorem I9b : I9.bytes = 16 := by kernel_rfl
theorem cI : dJ Tryz.prog 9 = some [.str []] := by kernel_rfl
theorem cM {need : Nat} : cT Tryz.prog 9 1 16 need = decide (16 * need ≤ 1000000) := grow_of cI rfl (by decide)
theorem sz21 : cF Tryz.prog 21 = some 1 := by kernel_rfl
noncomputable def I21 : TypeInfo := (Tryz.prog.info? 21).getD { desc := .bool, str := "", size := 0, bytes := 0, hasPointers := false, align := 0, fieldAlign := 0, zero := none, comparable := false, methods := #[] }
theorem info21 : Tryz.prog.info? 21 = some I21 := by kernel_rfl
theorem I21s : I21.size = 1 := by kernel_rfl
theorem I21b : I21.bytes = 4 := by kernel_rfl
theorem zero21 : dJ Tryz.prog 21 = some [.int .i32 0] := by kernel_rfl
theorem grow21 {need : Nat} : cT Tryz.prog 21 1 4 need = decide (4 * need ≤ 1000000) := grow_of zero21 rfl (by decide)
theorem sz22 : cF Tryz.prog 22 = some 1 := by kernel_rfl
noncomputable def I22 : TypeInfo := (Tryz.prog.info? 22).getD { desc := .bool, str := "", size := 0, bytes := 0, hasPointers := false, align := 0, fieldAlign := 0, zero := none, comparable := false, methods := #[] }
theorem info22 : Tryz.prog.info? 22 = some I22 := by kernel_rfl
theorem I22s : I22.size = 1 := by kernel_rfl
theorem I22b : I22.bytes = 24 := by kernel_rfl
theorem zero22 : dJ Tryz.prog 22 = some [.nilslice] := by kernel_rfl
theorem grow22 {need : Nat} : cT Tryz.prog 22 1 24 need = decide (24 * need ≤ 1000000) := grow_of zero22 rfl (by decide)
theorem sz24 : cF Tryz.prog 24 = some 4 := by kernel_rfl
noncomputable def I24 : TypeInfo := (Tryz.prog.info? 24).getD { desc := .bool, str := "", size := 0, bytes := 0, hasPointers := false, align := 0, fieldAlign := 0, zero := none, comparable := false, methods := #[] }
theorem info24 : Tryz.prog.info? 24 = some I24 := by kernel_rfl
theorem I24s : I24.size = 4 := by kernel_rfl
theorem I24b : I24.bytes = 64 := by kernel_rfl
theorem zero24 : dJ Tryz.prog 24 = some [.str [], .str [], .bool false, .nilslice] := by kernel_rfl
theorem grow24 {need : Nat} : cT Tryz.prog 24 4 64 need = decide (64 * need ≤ 1000000) := grow_of zero24 rfl (by decide)
theorem fok24 : fieldsOK Tryz.prog #[{ name := "Pitches", type := 9, offset := 0, embedded := false, tag := "", pkgPath := "", byteOffset := 0 }, { name := "Event", type := 9, offset := 1, embedded := false, tag := "", pkgPath := "", byteOffset := 16 }, { name := "Late", type := 4, offset := 2, embedded := false, tag := "", pkgPath := "", byteOffset := 32 }, { name := "Moves", type := 22, offset := 3, embedded := false, tag := "", pkgPath := "", byteOffset := 40 }] = true := by kernel_rfl
theorem dF : cF Tryz.prog 25 = some 1 := by kernel_rfl
noncomputable def I25 : TypeInfo := (Tryz.prog.info? 25).getD { desc := .bool, str := "", size := 0, bytes := 0, hasPointers := false, align := 0, fieldAlign := 0, zero := none, comparable := false, methods := #[] }
theorem bZ : Tryz.prog.info? 25 = some I25 := by kernel_rfl
theorem dG : I25.size = 1 := by kernel_rfl
theorem dH : I25.bytes = 24 := by kernel_rfl
theorem bX : dJ Tryz.prog 25 = some [.nilslice] := by kernel_rfl
theorem cA {need : Nat} : cT Tryz.prog 25 1 24 need = decide (24 * need ≤ 1000000) := grow_of bX rfl (by decide)
theorem dQ : cF Tryz.prog 27 = some 5 := by kernel_rfl
noncomputable def I27 : TypeInfo := (Tryz.prog.info? 27).getD { desc := .bool, str := "", size := 0, bytes := 0, hasPointers := false, align := 0, fieldAlign := 0, zero := none, comparable := false, methods := #[] }
theorem cN : Tryz.prog.info? 27 = some I27 := by kernel_rfl
theorem dR : I27.size = 5 := by kernel_rfl
theorem dS : I27.bytes = 64 := by kernel_rfl
theorem cK : dJ Tryz.prog 27 = some [.int .i64 0, .int .i64 0, .bool false, .str [], .nilslice] := by kernel_rfl
theorem cO {need : Nat} : cT Tryz.prog 27 5 64 need = decide (64 * need ≤ 1000000) := grow_of cK rfl (by decide)
theorem dB : fieldsOK Tryz.prog #[{ name := "From", type := 3, offset := 0, embedded := false, tag := "", pkgPath := "", byteOffset := 0 }, { name := "To", type := 3, offset := 1, embedded := false, tag := "", pkgPath := "", byteOffset := 8 }, { name := "Out", type := 4, offset := 2, embedded := false, tag := "", pkgPath := "", byteOffset := 16 }, { name := "How", type := 9, offset := 3, embedded := false, tag := "", pkgPath := "", byteOffset := 24 }, { name := "By", type := 25, offset := 4, embedded := false, tag := "", pkgPath := "", byteOffset := 40 }] = true := by kernel_rfl
theorem sz30 : cF Tryz.prog 30 = some 1 := by kernel_rfl
noncomputable def I30 : TypeInfo := (Tryz.prog.info? 30).getD { desc := .bool, str := "", size := 0, bytes := 0, hasPointers := false, align := 0, fieldAlign := 0, zero := none, comparable := false, methods := #[] }
theorem info30 : Tryz.prog.info? 30 = some I30 := by kernel_rfl
theorem I30s : I30.size = 1 := by kernel_rfl
theorem I30b : I30.bytes = 8 := by kernel_rfl
theorem zero30 : dJ Tryz.prog 30 = some [.int .i64 0] := by kernel_rfl
theorem grow30 {need : Nat} : cT Tryz.prog 30 1 8 need = decide (8 * need ≤ 1000000) := grow_of zero30 rfl (by decide)
theorem sz75 : cF Tryz.prog 75 = some 2 := by kernel_rfl
noncomputable def I75 : TypeInfo := (Tryz.prog.info? 75).getD { desc := .bool, str := "", size := 0, bytes := 0, hasPointers := false, align := 0, fieldAlign := 0, zero := none, comparable := false, methods := #[] }
theorem info75 : Tryz.prog.info? 75 = some I75 := by kernel_rfl
theorem I75s : I75.size = 2 := by kernel_rfl
theorem I75b : I75.bytes = 16 := by kernel_rfl
theorem zero75 : dJ Tryz.prog 75 = some [.int .i64 0, .int .i64 0] := by kernel_rfl
theorem grow75 {need : Nat} : cT Tryz.prog 75 2 16 need = decide (16 * need ≤ 1000000) := grow_of zero75 rfl (by decide)
theorem sz86 : cF Tryz.prog 86 = some 9 := by kernel_rfl
noncomputable def I86 : TypeInfo := (Tryz.prog.info? 86).getD { desc := .bool, str := "", size := 0, bytes := 0, hasPointers := false, align := 0, fieldAlign := 0, zero := none, comparable := false, methods := #[] }
theorem info86 : Tryz.prog.info? 86 = some I86 := by kernel_rfl
theorem I86s : I86.size = 9 := by kernel_rfl
theorem I86b : I86.bytes = 72 := by kernel_rfl
theorem zero86 : dJ Tryz.prog 86 = some [.int .i64 0, .int .i64 0, .int .i64 0, .int .i64 0, .int .i64 0, .int .i64 0, .int .i64 0, .int .i64 0, .int .i64 0] := by kernel_rfl
theorem grow86 {need : Nat} : cT Tryz.prog 86 9 72 need = decide (72 * need ≤ 1000000) := grow_of zero86 rfl (by decide)
theorem sz123 : cF Tryz.prog 123 = some 1 := by kernel_rfl
noncomputable def I123 : TypeInfo := (Tryz.prog.info? 123).getD { desc := .bool, str := "", size := 0, bytes := 0, hasPointers := false, align := 0, fieldAlign := 0, zero := none, comparable := false, methods := #[] }
theorem info123 : Tryz.prog.info? 123 = some I123 := by kernel_rfl
theorem I123s : I123.size = 1 := by kernel_rfl
theorem I123b : I123.bytes = 8 := by kernel_rfl
theorem zero123 : dJ Tryz.prog 123 = some [.nilfunc] := by kernel_rfl
theorem grow123 {need : Nat} : cT Tryz.prog 123 1 8 need = decide (8 * need ≤ 1000000) := grow_of zero123 rfl (by decide)
theorem sz152 : cF Tryz.prog 152 = some 1 := by kernel_rfl
noncomputable def I152 : TypeInfo := (Tryz.prog.info? 152).getD { desc := .bool, str := "", size := 0, bytes := 0, hasPointers := false, align := 0, fieldAlign := 0, zero := none, comparable := false, methods := #[] }
theorem info152 : Tryz.prog.info? 152 = some I152 := by kernel_rfl
theorem I152s : I152.size = 1 := by kernel_rfl
theorem I152b : I152.bytes = 8 := by kernel_rfl
theorem zero152 : dJ Tryz.prog 152 = some [.nilmap] := by kernel_rfl
theorem grow152 {need : Nat} : cT Tryz.prog 152 1 8 need = decide (8 * need ≤ 1000000) := grow_of zero152 rfl (by decide)
theorem sz155 : cF Tryz.prog 155 = some 1 := by kernel_rfl
noncomputable def I155 : TypeInfo := (Tryz.prog.info? 155).getD { desc := .bool, str := "", size := 0, bytes := 0, hasPointers := false, align := 0, fieldAlign := 0, zero := none, comparable := false, methods := #[] }
theorem info155 : Tryz.prog.info? 155 = some I155 := by kernel_rfl
theorem I155s : I155.size = 1 := by kernel_rfl
theorem I155b : I155.bytes = 8 := by kernel_rfl
theorem zero155 : dJ Tryz.prog 155 = some [.nilfunc] := by kernel_rfl
theorem grow155 {need : Nat} : cT Tryz.prog 155 1 8 need = decide (8 * need ≤ 1000000) := grow_of zero155 rfl (by decide)
theorem sz158 : cF Tryz.prog 158 = some 1 := by kernel_rfl
noncomputable def I158 : TypeInfo := (Tryz.prog.info? 158).getD { desc := .bool, str := "", size := 0, bytes := 0, hasPointers := false, align := 0, fieldAlign := 0, zero := none, comparable := false, methods := #[] }
theorem info158 : Tryz.prog.info? 158 = some I158 := by kernel_rfl
theorem I158s : I158.size = 1 := by kernel_rfl
theorem I158b : I158.bytes = 24 := by kernel_rfl
theorem zero158 : dJ Tryz.prog 158 = some [.nilslice] := by kernel_rfl
theorem grow158 {need : Nat} : cT Tryz.prog 158 1 24 need = decide (24 * need ≤ 1000000) := grow_of zero158 rfl (by decide)
theorem sz160 : cF Tryz.prog 160 = some 4 := by kernel_rfl
noncomputable def I160 : TypeInfo := (Tryz.prog.info? 160).getD { desc := .bool, str := "", size := 0, bytes := 0, hasPointers := false, align := 0, fieldAlign := 0, zero := none, comparable := false, methods := #[] }
theorem info160 : Tryz.prog.info? 160 = some I160 := by kernel_rfl
theorem I160s : I160.size = 4 := by kernel_rfl
theorem I160b : I160.bytes = 40 := by kernel_rfl
theorem zero160 : dJ Tryz.prog 160 = some [.bool false, .str [], .int .i64 0, .int .i64 0] := by kernel_rfl
theorem grow160 {need : Nat} : cT Tryz.prog 160 4 40 need = decide (40 * need ≤ 1000000) := grow_of zero160 rfl (by decide)
theorem fok160 : fieldsOK Tryz.prog #[{ name := "out", type := 4, offset := 0, embedded := false, tag := "", pkgPath := "dugout/play", byteOffset := 0 }, { name := "letter", type := 9, offset := 1, embedded := false, tag := "", pkgPath := "dugout/play", byteOffset := 8 }, { name := "batter", type := 3, offset := 2, embedded := false, tag := "", pkgPath := "dugout/play", byteOffset := 24 }, { name := "runner", type := 3, offset := 3, embedded := false, tag := "", pkgPath := "dugout/play", byteOffset := 32 }] = true := by kernel_rfl
theorem sz181 : cF Tryz.prog 181 = some 56 := by kernel_rfl
noncomputable def I181 : TypeInfo := (Tryz.prog.info? 181).getD { desc := .bool, str := "", size := 0, bytes := 0, hasPointers := false, align := 0, fieldAlign := 0, zero := none, comparable := false, methods := #[] }
theorem info181 : Tryz.prog.info? 181 = some I181 := by kernel_rfl
theorem I181s : I181.size = 56 := by kernel_rfl
theorem sz195 : cF Tryz.prog 195 = some 1 := by kernel_rfl
noncomputable def I195 : TypeInfo := (Tryz.prog.info? 195).getD { desc := .bool, str := "", size := 0, bytes := 0, hasPointers := false, align := 0, fieldAlign := 0, zero := none, comparable := false, methods := #[] }
theorem info195 : Tryz.prog.info? 195 = some I195 := by kernel_rfl
theorem I195s : I195.size = 1 := by kernel_rfl
theorem I195b : I195.bytes = 8 := by kernel_rfl
theorem zero195 : dJ Tryz.prog 195 = some [.int .u64 0] := by kernel_rfl
theorem grow195 {need : Nat} : cT Tryz.prog 195 1 8 need = decide (8 * need ≤ 1000000) := grow_of zero195 rfl (by decide)
theorem sz203 : cF Tryz.prog 203 = some 1 := by kernel_rfl
noncomputable def I203 : TypeInfo := (Tryz.prog.info? 203).getD { desc := .bool, str := "", size := 0, bytes := 0, hasPointers := false, align := 0, fieldAlign := 0, zero := none, comparable := false, methods := #[] }
theorem info203 : Tryz.prog.info? 203 = some I203 := by kernel_rfl
theorem I203s : I203.size = 1 := by kernel_rfl
theorem I203b : I203.bytes = 8 := by kernel_rfl
theorem zero203 : dJ Tryz.prog 203 = some [.int .i64 0] := by kernel_rfl
theorem grow203 {need : Nat} : cT Tryz.prog 203 1 8 need = decide (8 * need ≤ 1000000) := grow_of zero203 rfl (by decide)
theorem body16 : Tryz.f16.body.isNone = false := by kernel_rfl
theorem call16 {h : H} {args : List EVal} : bK Tryz.prog h 16 args = some (.enter 16 args h) := bD Tryz.func16 body16
theorem body18 : Tryz.f18.body.isNone = false := by kernel_rfl
theorem call18 {h : H} {args : List EVal} : bK Tryz.prog h 18 args = some (.enter 18 args h) := bD Tryz.func18 body18
theorem body19 : Tryz.f19.body.isNone = false := by kernel_rfl
theorem call19 {h : H} {args : List EVal} : bK Tryz.prog h 19 args = some (.enter 19 args h) := bD Tryz.func19 body19
theorem body20 : Tryz.f20.body.isNone = false := by kernel_rfl
theorem call20 {h : H} {args : List EVal} : bK Tryz.prog h 20 args = some (.enter 20 args h) := bD Tryz.func20 body20
theorem body21 : Tryz.f21.body.isNone = false := by kernel_rfl
theorem call21 {h : H} {args : List EVal} : bK Tryz.prog h 21 args = some (.enter 21 args h) := bD Tryz.func21 body21
theorem body22 : Tryz.f22.body.isNone = false := by kernel_rfl
theorem call22 {h : H} {args : List EVal} : bK Tryz.prog h 22 args = some (.enter 22 args h) := bD Tryz.func22 body22
theorem body23 : Tryz.f23.body.isNone = false := by kernel_rfl
theorem call23 {h : H} {args : List EVal} : bK Tryz.prog h 23 args = some (.enter 23 args h) := bD Tryz.func23 body23
theorem body47 : Tryz.f47.body.isNone = false := by kernel_rfl
theorem call47 {h : H} {args : List EVal} : bK Tryz.prog h 47 args = some (.enter 47 args h) := bD Tryz.func47 body47
theorem body50 : Tryz.f50.body.isNone = false := by kernel_rfl
theorem call50 {h : H} {args : List EVal} : bK Tryz.prog h 50 args = some (.enter 50 args h) := bD Tryz.func50 body50
theorem body51 : Tryz.f51.body.isNone = false := by kernel_rfl
theorem call51 {h : H} {args : List EVal} : bK Tryz.prog h 51 args = some (.enter 51 args h) := bD Tryz.func51 body51
theorem body52 : Tryz.f52.body.isNone = false := by kernel_rfl
theorem call52 {h : H} {args : List EVal} : bK Tryz.prog h 52 args = some (.enter 52 args h) := bD Tryz.func52 body52
theorem body57 : Tryz.f57.body.isNone = false := by kernel_rfl
theorem call57 {h : H} {args : List EVal} : bK Tryz.prog h 57 args = some (.enter 57 args h) := bD Tryz.func57 body57
theorem body58 : Tryz.f58.body.isNone = false := by kernel_rfl
theorem call58 {h : H} {args : List EVal} : bK Tryz.prog h 58 args = some (.enter 58 args h) := bD Tryz.func58 body58
theorem body59 : Tryz.f59.body.isNone = false := by kernel_rfl
theorem call59 {h : H} {args : List EVal} : bK Tryz.prog h 59 args = some (.enter 59 args h) := bD Tryz.func59 body59
theorem body60 : Tryz.f60.body.isNone = false := by kernel_rfl
theorem call60 {h : H} {args : List EVal} : bK Tryz.prog h 60 args = some (.enter 60 args h) := bD Tryz.func60 body60
theorem body61 : Tryz.f61.body.isNone = false := by kernel_rfl
theorem call61 {h : H} {args : List EVal} : bK Tryz.prog h 61 args = some (.enter 61 args h) := bD Tryz.func61 body61
theorem body66 : Tryz.f66.body.isNone = false := by kernel_rfl
theorem call66 {h : H} {args : List EVal} : bK Tryz.prog h 66 args = some (.enter 66 args h) := bD Tryz.func66 body66
theorem body74 : Tryz.f74.body.isNone = false := by kernel_rfl
theorem call74 {h : H} {args : List EVal} : bK Tryz.prog h 74 args = some (.enter 74 args h) := bD Tryz.func74 body74
theorem body75 : Tryz.f75.body.isNone = false := by kernel_rfl
theorem call75 {h : H} {args : List EVal} : bK Tryz.prog h 75 args = some (.enter 75 args h) := bD Tryz.func75 body75
theorem body78 : Tryz.f78.body.isNone = false := by kernel_rfl
theorem call78 {h : H} {args : List EVal} : bK Tryz.prog h 78 args = some (.enter 78 args h) := bD Tryz.func78 body78
theorem body79 : Tryz.f79.body.isNone = false := by kernel_rfl
theorem call79 {h : H} {args : List EVal} : bK Tryz.prog h 79 args = some (.enter 79 args h) := bD Tryz.func79 body79
theorem body80 : Tryz.f80.body.isNone = false := by kernel_rfl
theorem call80 {h : H} {args : List EVal} : bK Tryz.prog h 80 args = some (.enter 80 args h) := bD Tryz.func80 body80
theorem body81 : Tryz.f81.body.isNone = false := by kernel_rfl
theorem call81 {h : H} {args : List EVal} : bK Tryz.prog h 81 args = some (.enter 81 args h) := bD Tryz.func81 body81
theorem body82 : Tryz.f82.body.isNone = false := by kernel_rfl
theorem call82 {h : H} {args : List EVal} : bK Tryz.prog h 82 args = some (.enter 82 args h) := bD Tryz.func82 body82
theorem body83 : Tryz.f83.body.isNone = false := by kernel_rfl
theorem call83 {h : H} {args : List EVal} : bK Tryz.prog h 83 args = some (.enter 83 args h) := bD Tryz.func83 body83
theorem body84 : Tryz.f84.body.isNone = false := by kernel_rfl
theorem call84 {h : H} {args : List EVal} : bK Tryz.prog h 84 args = some (.enter 84 args h) := bD Tryz.func84 body84
theorem body85 : Tryz.f85.body.isNone = false := by kernel_rfl
theorem call85 {h : H} {args : List EVal} : bK Tryz.prog h 85 args = some (.enter 85 args h) := bD Tryz.func85 body85
theorem body86 : Tryz.f86.body.isNone = false := by kernel_rfl
theorem call86 {h : H} {args : List EVal} : bK Tryz.prog h 86 args = some (.enter 86 args h) := bD Tryz.func86 body86
theorem body87 : Tryz.f87.body.isNone = false := by kernel_rfl
theorem call87 {h : H} {args : List EVal} : bK Tryz.prog h 87 args = some (.enter 87 args h) := bD Tryz.func87 body87
theorem body88 : Tryz.f88.body.isNone = false := by kernel_rfl
theorem call88 {h : H} {args : List EVal} : bK Tryz.prog h 88 args = some (.enter 88 args h) := bD Tryz.func88 body88
theorem body89 : Tryz.f89.body.isNone = false := by kernel_rfl
theorem call89 {h : H} {args : List EVal} : bK Tryz.prog h 89 args = some (.enter 89 args h) := bD Tryz.func89 body89
theorem body90 : Tryz.f90.body.isNone = false := by kernel_rfl
theorem call90 {h : H} {args : List EVal} : bK Tryz.prog h 90 args = some (.enter 90 args h) := bD Tryz.func90 body90
theorem body91 : Tryz.f91.body.isNone = false := by kernel_rfl
theorem call91 {h : H} {args : List EVal} : bK Tryz.prog h 91 args = some (.enter 91 args h) := bD Tryz.func91 body91
theorem body92 : Tryz.f92.body.isNone = false := by kernel_rfl
theorem call92 {h : H} {args : List EVal} : bK Tryz.prog h 92 args = some (.enter 92 args h) := bD Tryz.func92 body92
theorem body93 : Tryz.f93.body.isNone = false := by kernel_rfl
theorem call93 {h : H} {args : List EVal} : bK Tryz.prog h 93 args = some (.enter 93 args h) := bD Tryz.func93 body93
theorem body117 : Tryz.f117.body.isNone = false := by kernel_rfl
theorem call117 {h : H} {args : List EVal} : bK Tryz.prog h 117 args = some (.enter 117 args h) := bD Tryz.func117 body117
theorem body119 : Tryz.f119.body.isNone = false := by kernel_rfl
theorem call119 {h : H} {args : List EVal} : bK Tryz.prog h 119 args = some (.enter 119 args h) := bD Tryz.func119 body119
theorem body120 : Tryz.f120.body.isNone = false := by kernel_rfl
theorem call120 {h : H} {args : List EVal} : bK Tryz.prog h 120 args = some (.enter 120 args h) := bD Tryz.func120 body120
theorem body121 : Tryz.f121.body.isNone = false := by kernel_rfl
theorem call121 {h : H} {args : List EVal} : bK Tryz.prog h 121 args = some (.enter 121 args h) := bD Tryz.func121 body121
theorem body122 : Tryz.f122.body.isNone = false := by kernel_rfl
theorem call122 {h : H} {args : List EVal} : bK Tryz.prog h 122 args = some (.enter 122 args h) := bD Tryz.func122 body122
theorem body123 : Tryz.f123.body.isNone = false := by kernel_rfl
theorem call123 {h : H} {args : List EVal} : bK Tryz.prog h 123 args = some (.enter 123 args h) := bD Tryz.func123 body123
theorem body124 : Tryz.f124.body.isNone = false := by kernel_rfl
theorem call124 {h : H} {args : List EVal} : bK Tryz.prog h 124 args = some (.enter 124 args h) := bD Tryz.func124 body124
theorem body125 : Tryz.f125.body.isNone = false := by kernel_rfl
theorem call125 {h : H} {args : List EVal} : bK Tryz.prog h 125 args = some (.enter 125 args h) := bD Tryz.func125 body125
theorem body126 : Tryz.f126.body.isNone = false := by kernel_rfl
theorem call126 {h : H} {args : List EVal} : bK Tryz.prog h 126 args = some (.enter 126 args h) := bD Tryz.func126 body126
theorem body130 : Tryz.f130.body.isNone = false := by kernel_rfl
theorem call130 {h : H} {args : List EVal} : bK Tryz.prog h 130 args = some (.enter 130 args h) := bD Tryz.func130 body130
theorem body131 : Tryz.f131.body.isNone = false := by kernel_rfl
theorem call131 {h : H} {args : List EVal} : bK Tryz.prog h 131 args = some (.enter 131 args h) := bD Tryz.func131 body131
theorem body132 : Tryz.f132.body.isNone = false := by kernel_rfl
theorem call132 {h : H} {args : List EVal} : bK Tryz.prog h 132 args = some (.enter 132 args h) := bD Tryz.func132 body132
theorem body133 : Tryz.f133.body.isNone = false := by kernel_rfl
theorem call133 {h : H} {args : List EVal} : bK Tryz.prog h 133 args = some (.enter 133 args h) := bD Tryz.func133 body133
theorem body145 : Tryz.f145.body.isNone = false := by kernel_rfl
theorem call145 {h : H} {args : List EVal} : bK Tryz.prog h 145 args = some (.enter 145 args h) := bD Tryz.func145 body145
theorem body154 : Tryz.f154.body.isNone = false := by kernel_rfl
theorem call154 {h : H} {args : List EVal} : bK Tryz.prog h 154 args = some (.enter 154 args h) := bD Tryz.func154 body154
theorem body155 : Tryz.f155.body.isNone = false := by kernel_rfl
theorem call155 {h : H} {args : List EVal} : bK Tryz.prog h 155 args = some (.enter 155 args h) := bD Tryz.func155 body155
theorem body156 : Tryz.f156.body.isNone = false := by kernel_rfl
theorem call156 {h : H} {args : List EVal} : bK Tryz.prog h 156 args = some (.enter 156 args h) := bD Tryz.func156 body156
theorem body160 : Tryz.f160.body.isNone = false := by kernel_rfl
theorem call160 {h : H} {args : List EVal} : bK Tryz.prog h 160 args = some (.enter 160 args h) := bD Tryz.func160 body160
theorem body170 : Tryz.f170.body.isNone = false := by kernel_rfl
theorem call170 {h : H} {args : List EVal} : bK Tryz.prog h 170 args = some (.enter 170 args h) := bD Tryz.func170 body170
theorem body173 : Tryz.f173.body.isNone = false := by kernel_rfl
theorem call173 {h : H} {args : List EVal} : bK Tryz.prog h 173 args = some (.enter 173 args h) := bD Tryz.func173 body173
theorem body174 : Tryz.f174.body.isNone = false := by kernel_rfl
theorem call174 {h : H} {args : List EVal} : bK Tryz.prog h 174 args = some (.enter 174 args h) := bD Tryz.func174 body174
theorem body176 : Tryz.f176.body.isNone = false := by kernel_rfl
theorem call176 {h : H} {args : List EVal} : bK Tryz.prog h 176 args = some (.enter 176 args h) := bD Tryz.func176 body176
theorem body177 : Tryz.f177.body.isNone = false := by kernel_rfl
theorem call177 {h : H} {args : List EVal} : bK Tryz.prog h 177 args = some (.enter 177 args h) := bD Tryz.func177 body177
theorem body178 : Tryz.f178.body.isNone = false := by kernel_rfl
theorem call178 {h : H} {args : List EVal} : bK Tryz.prog h 178 args = some (.enter 178 args h) := bD Tryz.func178 body178
theorem body196 : Tryz.f196.body.isNone = false := by kernel_rfl
theorem call196 {h : H} {args : List EVal} : bK Tryz.prog h 196 args = some (.enter 196 args h) := bD Tryz.func196 body196
theorem body197 : Tryz.f197.body.isNone = false := by kernel_rfl
theorem call197 {h : H} {args : List EVal} : bK Tryz.prog h 197 args = some (.enter 197 args h) := bD Tryz.func197 body197
theorem body199 : Tryz.f199.body.isNone = false := by kernel_rfl
theorem call199 {h : H} {args : List EVal} : bK Tryz.prog h 199 args = some (.enter 199 args h) := bD Tryz.func199 body199
theorem body200 : Tryz.f200.body.isNone = false := by kernel_rfl
theorem call200 {h : H} {args : List EVal} : bK Tryz.prog h 200 args = some (.enter 200 args h) := bD Tryz.func200 body200
theorem body201 : Tryz.f201.body.isNone = false := by kernel_rfl
theorem call201 {h : H} {args : List EVal} : bK Tryz.prog h 201 args = some (.enter 201 args h) := bD Tryz.func201 body201
theorem body202 : Tryz.f202.body.isNone = false := by kernel_rfl
theorem call202 {h : H} {args : List EVal} : bK Tryz.prog h 202 args = some (.enter 202 args h) := bD Tryz.func202 body202
theorem body203 : Tryz.f203.body.isNone = false := by kernel_rfl
theorem call203 {h : H} {args : List EVal} : bK Tryz.prog h 203 args = some (.enter 203 args h) := bD Tryz.func203 body203
theorem body204 : Tryz.f204.body.isNone = false := by kernel_rfl
theorem call204 {h : H} {args : List EVal} : bK Tryz.prog h 204 args = some (.enter 204 args h) := bD Tryz.func204 body204
theorem body205 : Tryz.f205.body.isNone = false := by kernel_rfl
theorem call205 {h : H} {args : List EVal} : bK Tryz.prog h 205 args = some (.enter 205 args h) := bD Tryz.func205 body205
theorem body206 : Tryz.f206.body.isNone = false := by kernel_rfl
theorem call206 {h : H} {args : List EVal} : bK Tryz.prog h 206 args = some (.enter 206 args h) := bD Tryz.func206 body206
theorem body207 : Tryz.f207.body.isNone = false := by kernel_rfl
theorem call207 {h : H} {args : List EVal} : bK Tryz.prog h 207 args = some (.enter 207 args h) := bD Tryz.func207 body207
end Go.Ev
