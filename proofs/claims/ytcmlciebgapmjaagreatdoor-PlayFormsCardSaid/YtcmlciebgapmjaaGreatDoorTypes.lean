import Derived.Test.YtcmlciebgapmjaaGreatDoorBase
set_option linter.unusedSimpArgs false
set_option linter.unusedVariables false
namespace Go.Ev
open Go.RowKit Go.Proofs

theorem sz2 : sizeT Tryz.prog 2 = some 1 := by kernel_rfl
noncomputable def I2 : TypeInfo := (Tryz.prog.info? 2).getD { desc := .bool, str := "", size := 0, bytes := 0, hasPointers := false, align := 0, fieldAlign := 0, zero := none, comparable := false, methods := #[] }
theorem info2 : Tryz.prog.info? 2 = some I2 := by kernel_rfl
theorem I2s : I2.size = 1 := by kernel_rfl
theorem I2b : I2.bytes = 8 := by kernel_rfl
theorem zero2 : zeroE Tryz.prog 2 = some [.int .i64 0] := by kernel_rfl
theorem grow2 {need : Nat} : growOK Tryz.prog 2 1 8 need = decide (8 * need ≤ 1000000) := grow_of zero2 rfl (by decide)
theorem sz3 : sizeT Tryz.prog 3 = some 1 := by kernel_rfl
noncomputable def I3 : TypeInfo := (Tryz.prog.info? 3).getD { desc := .bool, str := "", size := 0, bytes := 0, hasPointers := false, align := 0, fieldAlign := 0, zero := none, comparable := false, methods := #[] }
theorem info3 : Tryz.prog.info? 3 = some I3 := by kernel_rfl
theorem I3s : I3.size = 1 := by kernel_rfl
theorem I3b : I3.bytes = 8 := by kernel_rfl
theorem zero3 : zeroE Tryz.prog 3 = some [.int .i64 0] := by kernel_rfl
theorem grow3 {need : Nat} : growOK Tryz.prog 3 1 8 need = decide (8 * need ≤ 1000000) := grow_of zero3 rfl (by decide)
theorem sz4 : sizeT Tryz.prog 4 = some 1 := by kernel_rfl
noncomputable def I4 : TypeInfo := (Tryz.prog.info? 4).getD { desc := .bool, str := "", size := 0, bytes := 0, hasPointers := false, align := 0, fieldAlign := 0, zero := none, comparable := false, methods := #[] }
theorem info4 : Tryz.prog.info? 4 = some I4 := by kernel_rfl
theorem I4s : I4.size = 1 := by kernel_rfl
theorem I4b : I4.bytes = 1 := by kernel_rfl
theorem zero4 : zeroE Tryz.prog 4 = some [.bool false] := by kernel_rfl
theorem grow4 {need : Nat} : growOK Tryz.prog 4 1 1 need = decide (1 * need ≤ 1000000) := grow_of zero4 rfl (by decide)
theorem sz5 : sizeT Tryz.prog 5 = some 1 := by kernel_rfl
noncomputable def I5 : TypeInfo := (Tryz.prog.info? 5).getD { desc := .bool, str := "", size := 0, bytes := 0, hasPointers := false, align := 0, fieldAlign := 0, zero := none, comparable := false, methods := #[] }
theorem info5 : Tryz.prog.info? 5 = some I5 := by kernel_rfl
theorem I5s : I5.size = 1 := by kernel_rfl
theorem I5b : I5.bytes = 1 := by kernel_rfl
theorem zero5 : zeroE Tryz.prog 5 = some [.int .u8 0] := by kernel_rfl
theorem grow5 {need : Nat} : growOK Tryz.prog 5 1 1 need = decide (1 * need ≤ 1000000) := grow_of zero5 rfl (by decide)
theorem sz9 : sizeT Tryz.prog 9 = some 1 := by kernel_rfl
noncomputable def I9 : TypeInfo := (Tryz.prog.info? 9).getD { desc := .bool, str := "", size := 0, bytes := 0, hasPointers := false, align := 0, fieldAlign := 0, zero := none, comparable := false, methods := #[] }
theorem info9 : Tryz.prog.info? 9 = some I9 := by kernel_rfl
theorem I9s : I9.size = 1 := by kernel_rfl
theorem I9b : I9.bytes = 16 := by kernel_rfl
theorem zero9 : zeroE Tryz.prog 9 = some [.str []] := by kernel_rfl
theorem grow9 {need : Nat} : growOK Tryz.prog 9 1 16 need = decide (16 * need ≤ 1000000) := grow_of zero9 rfl (by decide)
theorem sz21 : sizeT Tryz.prog 21 = some 1 := by kernel_rfl
noncomputable def I21 : TypeInfo := (Tryz.prog.info? 21).getD { desc := .bool, str := "", size := 0, bytes := 0, hasPointers := false, align := 0, fieldAlign := 0, zero := none, comparable := false, methods := #[] }
theorem info21 : Tryz.prog.info? 21 = some I21 := by kernel_rfl
theorem I21s : I21.size = 1 := by kernel_rfl
theorem I21b : I21.bytes = 4 := by kernel_rfl
theorem zero21 : zeroE Tryz.prog 21 = some [.int .i32 0] := by kernel_rfl
theorem grow21 {need : Nat} : growOK Tryz.prog 21 1 4 need = decide (4 * need ≤ 1000000) := grow_of zero21 rfl (by decide)
theorem sz22 : sizeT Tryz.prog 22 = some 1 := by kernel_rfl
noncomputable def I22 : TypeInfo := (Tryz.prog.info? 22).getD { desc := .bool, str := "", size := 0, bytes := 0, hasPointers := false, align := 0, fieldAlign := 0, zero := none, comparable := false, methods := #[] }
theorem info22 : Tryz.prog.info? 22 = some I22 := by kernel_rfl
theorem I22s : I22.size = 1 := by kernel_rfl
theorem I22b : I22.bytes = 24 := by kernel_rfl
theorem zero22 : zeroE Tryz.prog 22 = some [.nilslice] := by kernel_rfl
theorem grow22 {need : Nat} : growOK Tryz.prog 22 1 24 need = decide (24 * need ≤ 1000000) := grow_of zero22 rfl (by decide)
theorem sz24 : sizeT Tryz.prog 24 = some 4 := by kernel_rfl
noncomputable def I24 : TypeInfo := (Tryz.prog.info? 24).getD { desc := .bool, str := "", size := 0, bytes := 0, hasPointers := false, align := 0, fieldAlign := 0, zero := none, comparable := false, methods := #[] }
theorem info24 : Tryz.prog.info? 24 = some I24 := by kernel_rfl
theorem I24s : I24.size = 4 := by kernel_rfl
theorem I24b : I24.bytes = 64 := by kernel_rfl
theorem zero24 : zeroE Tryz.prog 24 = some [.str [], .str [], .bool false, .nilslice] := by kernel_rfl
theorem grow24 {need : Nat} : growOK Tryz.prog 24 4 64 need = decide (64 * need ≤ 1000000) := grow_of zero24 rfl (by decide)
theorem fok24 : fieldsOK Tryz.prog #[{ name := "Pitches", type := 9, offset := 0, embedded := false, tag := "", pkgPath := "", byteOffset := 0 }, { name := "Event", type := 9, offset := 1, embedded := false, tag := "", pkgPath := "", byteOffset := 16 }, { name := "Late", type := 4, offset := 2, embedded := false, tag := "", pkgPath := "", byteOffset := 32 }, { name := "Moves", type := 22, offset := 3, embedded := false, tag := "", pkgPath := "", byteOffset := 40 }] = true := by kernel_rfl
theorem sz25 : sizeT Tryz.prog 25 = some 1 := by kernel_rfl
noncomputable def I25 : TypeInfo := (Tryz.prog.info? 25).getD { desc := .bool, str := "", size := 0, bytes := 0, hasPointers := false, align := 0, fieldAlign := 0, zero := none, comparable := false, methods := #[] }
theorem info25 : Tryz.prog.info? 25 = some I25 := by kernel_rfl
theorem I25s : I25.size = 1 := by kernel_rfl
theorem I25b : I25.bytes = 24 := by kernel_rfl
theorem zero25 : zeroE Tryz.prog 25 = some [.nilslice] := by kernel_rfl
theorem grow25 {need : Nat} : growOK Tryz.prog 25 1 24 need = decide (24 * need ≤ 1000000) := grow_of zero25 rfl (by decide)
theorem sz27 : sizeT Tryz.prog 27 = some 5 := by kernel_rfl
noncomputable def I27 : TypeInfo := (Tryz.prog.info? 27).getD { desc := .bool, str := "", size := 0, bytes := 0, hasPointers := false, align := 0, fieldAlign := 0, zero := none, comparable := false, methods := #[] }
theorem info27 : Tryz.prog.info? 27 = some I27 := by kernel_rfl
theorem I27s : I27.size = 5 := by kernel_rfl
theorem I27b : I27.bytes = 64 := by kernel_rfl
theorem zero27 : zeroE Tryz.prog 27 = some [.int .i64 0, .int .i64 0, .bool false, .str [], .nilslice] := by kernel_rfl
theorem grow27 {need : Nat} : growOK Tryz.prog 27 5 64 need = decide (64 * need ≤ 1000000) := grow_of zero27 rfl (by decide)
theorem fok27 : fieldsOK Tryz.prog #[{ name := "From", type := 3, offset := 0, embedded := false, tag := "", pkgPath := "", byteOffset := 0 }, { name := "To", type := 3, offset := 1, embedded := false, tag := "", pkgPath := "", byteOffset := 8 }, { name := "Out", type := 4, offset := 2, embedded := false, tag := "", pkgPath := "", byteOffset := 16 }, { name := "How", type := 9, offset := 3, embedded := false, tag := "", pkgPath := "", byteOffset := 24 }, { name := "By", type := 25, offset := 4, embedded := false, tag := "", pkgPath := "", byteOffset := 40 }] = true := by kernel_rfl
theorem sz30 : sizeT Tryz.prog 30 = some 1 := by kernel_rfl
noncomputable def I30 : TypeInfo := (Tryz.prog.info? 30).getD { desc := .bool, str := "", size := 0, bytes := 0, hasPointers := false, align := 0, fieldAlign := 0, zero := none, comparable := false, methods := #[] }
theorem info30 : Tryz.prog.info? 30 = some I30 := by kernel_rfl
theorem I30s : I30.size = 1 := by kernel_rfl
theorem I30b : I30.bytes = 8 := by kernel_rfl
theorem zero30 : zeroE Tryz.prog 30 = some [.int .i64 0] := by kernel_rfl
theorem grow30 {need : Nat} : growOK Tryz.prog 30 1 8 need = decide (8 * need ≤ 1000000) := grow_of zero30 rfl (by decide)
theorem sz54 : sizeT Tryz.prog 54 = some 1 := by kernel_rfl
noncomputable def I54 : TypeInfo := (Tryz.prog.info? 54).getD { desc := .bool, str := "", size := 0, bytes := 0, hasPointers := false, align := 0, fieldAlign := 0, zero := none, comparable := false, methods := #[] }
theorem info54 : Tryz.prog.info? 54 = some I54 := by kernel_rfl
theorem I54s : I54.size = 1 := by kernel_rfl
theorem I54b : I54.bytes = 24 := by kernel_rfl
theorem zero54 : zeroE Tryz.prog 54 = some [.nilslice] := by kernel_rfl
theorem grow54 {need : Nat} : growOK Tryz.prog 54 1 24 need = decide (24 * need ≤ 1000000) := grow_of zero54 rfl (by decide)
theorem sz56 : sizeT Tryz.prog 56 = some 1 := by kernel_rfl
noncomputable def I56 : TypeInfo := (Tryz.prog.info? 56).getD { desc := .bool, str := "", size := 0, bytes := 0, hasPointers := false, align := 0, fieldAlign := 0, zero := none, comparable := false, methods := #[] }
theorem info56 : Tryz.prog.info? 56 = some I56 := by kernel_rfl
theorem I56s : I56.size = 1 := by kernel_rfl
theorem I56b : I56.bytes = 24 := by kernel_rfl
theorem zero56 : zeroE Tryz.prog 56 = some [.nilslice] := by kernel_rfl
theorem grow56 {need : Nat} : growOK Tryz.prog 56 1 24 need = decide (24 * need ≤ 1000000) := grow_of zero56 rfl (by decide)
theorem sz75 : sizeT Tryz.prog 75 = some 2 := by kernel_rfl
noncomputable def I75 : TypeInfo := (Tryz.prog.info? 75).getD { desc := .bool, str := "", size := 0, bytes := 0, hasPointers := false, align := 0, fieldAlign := 0, zero := none, comparable := false, methods := #[] }
theorem info75 : Tryz.prog.info? 75 = some I75 := by kernel_rfl
theorem I75s : I75.size = 2 := by kernel_rfl
theorem I75b : I75.bytes = 16 := by kernel_rfl
theorem zero75 : zeroE Tryz.prog 75 = some [.int .i64 0, .int .i64 0] := by kernel_rfl
theorem grow75 {need : Nat} : growOK Tryz.prog 75 2 16 need = decide (16 * need ≤ 1000000) := grow_of zero75 rfl (by decide)
theorem sz86 : sizeT Tryz.prog 86 = some 9 := by kernel_rfl
noncomputable def I86 : TypeInfo := (Tryz.prog.info? 86).getD { desc := .bool, str := "", size := 0, bytes := 0, hasPointers := false, align := 0, fieldAlign := 0, zero := none, comparable := false, methods := #[] }
theorem info86 : Tryz.prog.info? 86 = some I86 := by kernel_rfl
theorem I86s : I86.size = 9 := by kernel_rfl
theorem I86b : I86.bytes = 72 := by kernel_rfl
theorem zero86 : zeroE Tryz.prog 86 = some [.int .i64 0, .int .i64 0, .int .i64 0, .int .i64 0, .int .i64 0, .int .i64 0, .int .i64 0, .int .i64 0, .int .i64 0] := by kernel_rfl
theorem grow86 {need : Nat} : growOK Tryz.prog 86 9 72 need = decide (72 * need ≤ 1000000) := grow_of zero86 rfl (by decide)
theorem sz99 : sizeT Tryz.prog 99 = some 2 := by kernel_rfl
noncomputable def I99 : TypeInfo := (Tryz.prog.info? 99).getD { desc := .bool, str := "", size := 0, bytes := 0, hasPointers := false, align := 0, fieldAlign := 0, zero := none, comparable := false, methods := #[] }
theorem info99 : Tryz.prog.info? 99 = some I99 := by kernel_rfl
theorem I99s : I99.size = 2 := by kernel_rfl
theorem I99b : I99.bytes = 16 := by kernel_rfl
theorem zero99 : zeroE Tryz.prog 99 = some [.int .i64 0, .int .i64 0] := by kernel_rfl
theorem grow99 {need : Nat} : growOK Tryz.prog 99 2 16 need = decide (16 * need ≤ 1000000) := grow_of zero99 rfl (by decide)
theorem fok99 : fieldsOK Tryz.prog #[{ name := "Num", type := 3, offset := 0, embedded := false, tag := "", pkgPath := "", byteOffset := 0 }, { name := "Den", type := 3, offset := 1, embedded := false, tag := "", pkgPath := "", byteOffset := 8 }] = true := by kernel_rfl
theorem sz123 : sizeT Tryz.prog 123 = some 1 := by kernel_rfl
noncomputable def I123 : TypeInfo := (Tryz.prog.info? 123).getD { desc := .bool, str := "", size := 0, bytes := 0, hasPointers := false, align := 0, fieldAlign := 0, zero := none, comparable := false, methods := #[] }
theorem info123 : Tryz.prog.info? 123 = some I123 := by kernel_rfl
theorem I123s : I123.size = 1 := by kernel_rfl
theorem I123b : I123.bytes = 8 := by kernel_rfl
theorem zero123 : zeroE Tryz.prog 123 = some [.nilfunc] := by kernel_rfl
theorem grow123 {need : Nat} : growOK Tryz.prog 123 1 8 need = decide (8 * need ≤ 1000000) := grow_of zero123 rfl (by decide)
theorem sz125 : sizeT Tryz.prog 125 = some 1 := by kernel_rfl
noncomputable def I125 : TypeInfo := (Tryz.prog.info? 125).getD { desc := .bool, str := "", size := 0, bytes := 0, hasPointers := false, align := 0, fieldAlign := 0, zero := none, comparable := false, methods := #[] }
theorem info125 : Tryz.prog.info? 125 = some I125 := by kernel_rfl
theorem I125s : I125.size = 1 := by kernel_rfl
theorem I125b : I125.bytes = 8 := by kernel_rfl
theorem zero125 : zeroE Tryz.prog 125 = some [.nilfunc] := by kernel_rfl
theorem grow125 {need : Nat} : growOK Tryz.prog 125 1 8 need = decide (8 * need ≤ 1000000) := grow_of zero125 rfl (by decide)
theorem sz134 : sizeT Tryz.prog 134 = some 1 := by kernel_rfl
noncomputable def I134 : TypeInfo := (Tryz.prog.info? 134).getD { desc := .bool, str := "", size := 0, bytes := 0, hasPointers := false, align := 0, fieldAlign := 0, zero := none, comparable := false, methods := #[] }
theorem info134 : Tryz.prog.info? 134 = some I134 := by kernel_rfl
theorem I134s : I134.size = 1 := by kernel_rfl
theorem I134b : I134.bytes = 8 := by kernel_rfl
theorem zero134 : zeroE Tryz.prog 134 = some [.nilp] := by kernel_rfl
theorem grow134 {need : Nat} : growOK Tryz.prog 134 1 8 need = decide (8 * need ≤ 1000000) := grow_of zero134 rfl (by decide)
theorem sz135 : sizeT Tryz.prog 135 = some 1 := by kernel_rfl
noncomputable def I135 : TypeInfo := (Tryz.prog.info? 135).getD { desc := .bool, str := "", size := 0, bytes := 0, hasPointers := false, align := 0, fieldAlign := 0, zero := none, comparable := false, methods := #[] }
theorem info135 : Tryz.prog.info? 135 = some I135 := by kernel_rfl
theorem I135s : I135.size = 1 := by kernel_rfl
theorem I135b : I135.bytes = 24 := by kernel_rfl
theorem zero135 : zeroE Tryz.prog 135 = some [.nilslice] := by kernel_rfl
theorem grow135 {need : Nat} : growOK Tryz.prog 135 1 24 need = decide (24 * need ≤ 1000000) := grow_of zero135 rfl (by decide)
theorem sz137 : sizeT Tryz.prog 137 = some 2 := by kernel_rfl
noncomputable def I137 : TypeInfo := (Tryz.prog.info? 137).getD { desc := .bool, str := "", size := 0, bytes := 0, hasPointers := false, align := 0, fieldAlign := 0, zero := none, comparable := false, methods := #[] }
theorem info137 : Tryz.prog.info? 137 = some I137 := by kernel_rfl
theorem I137s : I137.size = 2 := by kernel_rfl
theorem I137b : I137.bytes = 32 := by kernel_rfl
theorem zero137 : zeroE Tryz.prog 137 = some [.nilp, .nilslice] := by kernel_rfl
theorem grow137 {need : Nat} : growOK Tryz.prog 137 2 32 need = decide (32 * need ≤ 1000000) := grow_of zero137 rfl (by decide)
theorem fok137 : fieldsOK Tryz.prog #[{ name := "addr", type := 134, offset := 0, embedded := false, tag := "", pkgPath := "strings", byteOffset := 0 }, { name := "buf", type := 135, offset := 1, embedded := false, tag := "", pkgPath := "strings", byteOffset := 8 }] = true := by kernel_rfl
theorem sz152 : sizeT Tryz.prog 152 = some 1 := by kernel_rfl
noncomputable def I152 : TypeInfo := (Tryz.prog.info? 152).getD { desc := .bool, str := "", size := 0, bytes := 0, hasPointers := false, align := 0, fieldAlign := 0, zero := none, comparable := false, methods := #[] }
theorem info152 : Tryz.prog.info? 152 = some I152 := by kernel_rfl
theorem I152s : I152.size = 1 := by kernel_rfl
theorem I152b : I152.bytes = 8 := by kernel_rfl
theorem zero152 : zeroE Tryz.prog 152 = some [.nilmap] := by kernel_rfl
theorem grow152 {need : Nat} : growOK Tryz.prog 152 1 8 need = decide (8 * need ≤ 1000000) := grow_of zero152 rfl (by decide)
theorem sz155 : sizeT Tryz.prog 155 = some 1 := by kernel_rfl
noncomputable def I155 : TypeInfo := (Tryz.prog.info? 155).getD { desc := .bool, str := "", size := 0, bytes := 0, hasPointers := false, align := 0, fieldAlign := 0, zero := none, comparable := false, methods := #[] }
theorem info155 : Tryz.prog.info? 155 = some I155 := by kernel_rfl
theorem I155s : I155.size = 1 := by kernel_rfl
theorem I155b : I155.bytes = 8 := by kernel_rfl
theorem zero155 : zeroE Tryz.prog 155 = some [.nilfunc] := by kernel_rfl
theorem grow155 {need : Nat} : growOK Tryz.prog 155 1 8 need = decide (8 * need ≤ 1000000) := grow_of zero155 rfl (by decide)
theorem sz158 : sizeT Tryz.prog 158 = some 1 := by kernel_rfl
noncomputable def I158 : TypeInfo := (Tryz.prog.info? 158).getD { desc := .bool, str := "", size := 0, bytes := 0, hasPointers := false, align := 0, fieldAlign := 0, zero := none, comparable := false, methods := #[] }
theorem info158 : Tryz.prog.info? 158 = some I158 := by kernel_rfl
theorem I158s : I158.size = 1 := by kernel_rfl
theorem I158b : I158.bytes = 24 := by kernel_rfl
theorem zero158 : zeroE Tryz.prog 158 = some [.nilslice] := by kernel_rfl
theorem grow158 {need : Nat} : growOK Tryz.prog 158 1 24 need = decide (24 * need ≤ 1000000) := grow_of zero158 rfl (by decide)
theorem sz160 : sizeT Tryz.prog 160 = some 4 := by kernel_rfl
noncomputable def I160 : TypeInfo := (Tryz.prog.info? 160).getD { desc := .bool, str := "", size := 0, bytes := 0, hasPointers := false, align := 0, fieldAlign := 0, zero := none, comparable := false, methods := #[] }
theorem info160 : Tryz.prog.info? 160 = some I160 := by kernel_rfl
theorem I160s : I160.size = 4 := by kernel_rfl
theorem I160b : I160.bytes = 40 := by kernel_rfl
theorem zero160 : zeroE Tryz.prog 160 = some [.bool false, .str [], .int .i64 0, .int .i64 0] := by kernel_rfl
theorem grow160 {need : Nat} : growOK Tryz.prog 160 4 40 need = decide (40 * need ≤ 1000000) := grow_of zero160 rfl (by decide)
theorem fok160 : fieldsOK Tryz.prog #[{ name := "out", type := 4, offset := 0, embedded := false, tag := "", pkgPath := "dugout/play", byteOffset := 0 }, { name := "letter", type := 9, offset := 1, embedded := false, tag := "", pkgPath := "dugout/play", byteOffset := 8 }, { name := "batter", type := 3, offset := 2, embedded := false, tag := "", pkgPath := "dugout/play", byteOffset := 24 }, { name := "runner", type := 3, offset := 3, embedded := false, tag := "", pkgPath := "dugout/play", byteOffset := 32 }] = true := by kernel_rfl
theorem sz169 : sizeT Tryz.prog 169 = some 1 := by kernel_rfl
noncomputable def I169 : TypeInfo := (Tryz.prog.info? 169).getD { desc := .bool, str := "", size := 0, bytes := 0, hasPointers := false, align := 0, fieldAlign := 0, zero := none, comparable := false, methods := #[] }
theorem info169 : Tryz.prog.info? 169 = some I169 := by kernel_rfl
theorem I169s : I169.size = 1 := by kernel_rfl
theorem I169b : I169.bytes = 8 := by kernel_rfl
theorem zero169 : zeroE Tryz.prog 169 = some [.nilp] := by kernel_rfl
theorem grow169 {need : Nat} : growOK Tryz.prog 169 1 8 need = decide (8 * need ≤ 1000000) := grow_of zero169 rfl (by decide)
theorem sz174 : sizeT Tryz.prog 174 = some 1 := by kernel_rfl
noncomputable def I174 : TypeInfo := (Tryz.prog.info? 174).getD { desc := .bool, str := "", size := 0, bytes := 0, hasPointers := false, align := 0, fieldAlign := 0, zero := none, comparable := false, methods := #[] }
theorem info174 : Tryz.prog.info? 174 = some I174 := by kernel_rfl
theorem I174s : I174.size = 1 := by kernel_rfl
theorem I174b : I174.bytes = 8 := by kernel_rfl
theorem zero174 : zeroE Tryz.prog 174 = some [.nilfunc] := by kernel_rfl
theorem grow174 {need : Nat} : growOK Tryz.prog 174 1 8 need = decide (8 * need ≤ 1000000) := grow_of zero174 rfl (by decide)
theorem sz181 : sizeT Tryz.prog 181 = some 56 := by kernel_rfl
noncomputable def I181 : TypeInfo := (Tryz.prog.info? 181).getD { desc := .bool, str := "", size := 0, bytes := 0, hasPointers := false, align := 0, fieldAlign := 0, zero := none, comparable := false, methods := #[] }
theorem info181 : Tryz.prog.info? 181 = some I181 := by kernel_rfl
theorem I181s : I181.size = 56 := by kernel_rfl
theorem sz195 : sizeT Tryz.prog 195 = some 1 := by kernel_rfl
noncomputable def I195 : TypeInfo := (Tryz.prog.info? 195).getD { desc := .bool, str := "", size := 0, bytes := 0, hasPointers := false, align := 0, fieldAlign := 0, zero := none, comparable := false, methods := #[] }
theorem info195 : Tryz.prog.info? 195 = some I195 := by kernel_rfl
theorem I195s : I195.size = 1 := by kernel_rfl
theorem I195b : I195.bytes = 8 := by kernel_rfl
theorem zero195 : zeroE Tryz.prog 195 = some [.int .u64 0] := by kernel_rfl
theorem grow195 {need : Nat} : growOK Tryz.prog 195 1 8 need = decide (8 * need ≤ 1000000) := grow_of zero195 rfl (by decide)
theorem sz203 : sizeT Tryz.prog 203 = some 1 := by kernel_rfl
noncomputable def I203 : TypeInfo := (Tryz.prog.info? 203).getD { desc := .bool, str := "", size := 0, bytes := 0, hasPointers := false, align := 0, fieldAlign := 0, zero := none, comparable := false, methods := #[] }
theorem info203 : Tryz.prog.info? 203 = some I203 := by kernel_rfl
theorem I203s : I203.size = 1 := by kernel_rfl
theorem I203b : I203.bytes = 8 := by kernel_rfl
theorem zero203 : zeroE Tryz.prog 203 = some [.int .i64 0] := by kernel_rfl
theorem grow203 {need : Nat} : growOK Tryz.prog 203 1 8 need = decide (8 * need ≤ 1000000) := grow_of zero203 rfl (by decide)
theorem sz210 : sizeT Tryz.prog 210 = some 1 := by kernel_rfl
noncomputable def I210 : TypeInfo := (Tryz.prog.info? 210).getD { desc := .bool, str := "", size := 0, bytes := 0, hasPointers := false, align := 0, fieldAlign := 0, zero := none, comparable := false, methods := #[] }
theorem info210 : Tryz.prog.info? 210 = some I210 := by kernel_rfl
theorem I210s : I210.size = 1 := by kernel_rfl
theorem I210b : I210.bytes = 4 := by kernel_rfl
theorem zero210 : zeroE Tryz.prog 210 = some [.int .u32 0] := by kernel_rfl
theorem grow210 {need : Nat} : growOK Tryz.prog 210 1 4 need = decide (4 * need ≤ 1000000) := grow_of zero210 rfl (by decide)
theorem sz212 : sizeT Tryz.prog 212 = some 1 := by kernel_rfl
noncomputable def I212 : TypeInfo := (Tryz.prog.info? 212).getD { desc := .bool, str := "", size := 0, bytes := 0, hasPointers := false, align := 0, fieldAlign := 0, zero := none, comparable := false, methods := #[] }
theorem info212 : Tryz.prog.info? 212 = some I212 := by kernel_rfl
theorem I212s : I212.size = 1 := by kernel_rfl
theorem I212b : I212.bytes = 8 := by kernel_rfl
theorem zero212 : zeroE Tryz.prog 212 = some [.int .u64 0] := by kernel_rfl
theorem grow212 {need : Nat} : growOK Tryz.prog 212 1 8 need = decide (8 * need ≤ 1000000) := grow_of zero212 rfl (by decide)
theorem sz220 : sizeT Tryz.prog 220 = some 1 := by kernel_rfl
noncomputable def I220 : TypeInfo := (Tryz.prog.info? 220).getD { desc := .bool, str := "", size := 0, bytes := 0, hasPointers := false, align := 0, fieldAlign := 0, zero := none, comparable := false, methods := #[] }
theorem info220 : Tryz.prog.info? 220 = some I220 := by kernel_rfl
theorem I220s : I220.size = 1 := by kernel_rfl
theorem I220b : I220.bytes = 8 := by kernel_rfl
theorem zero220 : zeroE Tryz.prog 220 = some [.int .u64 0] := by kernel_rfl
theorem grow220 {need : Nat} : growOK Tryz.prog 220 1 8 need = decide (8 * need ≤ 1000000) := grow_of zero220 rfl (by decide)
theorem sz224 : sizeT Tryz.prog 224 = some 1 := by kernel_rfl
noncomputable def I224 : TypeInfo := (Tryz.prog.info? 224).getD { desc := .bool, str := "", size := 0, bytes := 0, hasPointers := false, align := 0, fieldAlign := 0, zero := none, comparable := false, methods := #[] }
theorem info224 : Tryz.prog.info? 224 = some I224 := by kernel_rfl
theorem I224s : I224.size = 1 := by kernel_rfl
theorem I224b : I224.bytes = 8 := by kernel_rfl
theorem zero224 : zeroE Tryz.prog 224 = some [.nilp] := by kernel_rfl
theorem grow224 {need : Nat} : growOK Tryz.prog 224 1 8 need = decide (8 * need ≤ 1000000) := grow_of zero224 rfl (by decide)
theorem body2 : Tryz.f2.body.isNone = false := by kernel_rfl
theorem call2 {h : H} {args : List EVal} : eCallF Tryz.prog h 2 args = some (.enter 2 args h) := callF_of Tryz.func2 body2
theorem body3 : Tryz.f3.body.isNone = false := by kernel_rfl
theorem call3 {h : H} {args : List EVal} : eCallF Tryz.prog h 3 args = some (.enter 3 args h) := callF_of Tryz.func3 body3
theorem body4 : Tryz.f4.body.isNone = false := by kernel_rfl
theorem call4 {h : H} {args : List EVal} : eCallF Tryz.prog h 4 args = some (.enter 4 args h) := callF_of Tryz.func4 body4
theorem body5 : Tryz.f5.body.isNone = false := by kernel_rfl
theorem call5 {h : H} {args : List EVal} : eCallF Tryz.prog h 5 args = some (.enter 5 args h) := callF_of Tryz.func5 body5
theorem body6 : Tryz.f6.body.isNone = false := by kernel_rfl
theorem call6 {h : H} {args : List EVal} : eCallF Tryz.prog h 6 args = some (.enter 6 args h) := callF_of Tryz.func6 body6
theorem body7 : Tryz.f7.body.isNone = false := by kernel_rfl
theorem call7 {h : H} {args : List EVal} : eCallF Tryz.prog h 7 args = some (.enter 7 args h) := callF_of Tryz.func7 body7
theorem body8 : Tryz.f8.body.isNone = false := by kernel_rfl
theorem call8 {h : H} {args : List EVal} : eCallF Tryz.prog h 8 args = some (.enter 8 args h) := callF_of Tryz.func8 body8
theorem body9 : Tryz.f9.body.isNone = false := by kernel_rfl
theorem call9 {h : H} {args : List EVal} : eCallF Tryz.prog h 9 args = some (.enter 9 args h) := callF_of Tryz.func9 body9
theorem body10 : Tryz.f10.body.isNone = false := by kernel_rfl
theorem call10 {h : H} {args : List EVal} : eCallF Tryz.prog h 10 args = some (.enter 10 args h) := callF_of Tryz.func10 body10
theorem body11 : Tryz.f11.body.isNone = false := by kernel_rfl
theorem call11 {h : H} {args : List EVal} : eCallF Tryz.prog h 11 args = some (.enter 11 args h) := callF_of Tryz.func11 body11
theorem body12 : Tryz.f12.body.isNone = false := by kernel_rfl
theorem call12 {h : H} {args : List EVal} : eCallF Tryz.prog h 12 args = some (.enter 12 args h) := callF_of Tryz.func12 body12
theorem body13 : Tryz.f13.body.isNone = false := by kernel_rfl
theorem call13 {h : H} {args : List EVal} : eCallF Tryz.prog h 13 args = some (.enter 13 args h) := callF_of Tryz.func13 body13
theorem body14 : Tryz.f14.body.isNone = false := by kernel_rfl
theorem call14 {h : H} {args : List EVal} : eCallF Tryz.prog h 14 args = some (.enter 14 args h) := callF_of Tryz.func14 body14
theorem body15 : Tryz.f15.body.isNone = false := by kernel_rfl
theorem call15 {h : H} {args : List EVal} : eCallF Tryz.prog h 15 args = some (.enter 15 args h) := callF_of Tryz.func15 body15
theorem body16 : Tryz.f16.body.isNone = false := by kernel_rfl
theorem call16 {h : H} {args : List EVal} : eCallF Tryz.prog h 16 args = some (.enter 16 args h) := callF_of Tryz.func16 body16
theorem body17 : Tryz.f17.body.isNone = false := by kernel_rfl
theorem call17 {h : H} {args : List EVal} : eCallF Tryz.prog h 17 args = some (.enter 17 args h) := callF_of Tryz.func17 body17
theorem body18 : Tryz.f18.body.isNone = false := by kernel_rfl
theorem call18 {h : H} {args : List EVal} : eCallF Tryz.prog h 18 args = some (.enter 18 args h) := callF_of Tryz.func18 body18
theorem body19 : Tryz.f19.body.isNone = false := by kernel_rfl
theorem call19 {h : H} {args : List EVal} : eCallF Tryz.prog h 19 args = some (.enter 19 args h) := callF_of Tryz.func19 body19
theorem body20 : Tryz.f20.body.isNone = false := by kernel_rfl
theorem call20 {h : H} {args : List EVal} : eCallF Tryz.prog h 20 args = some (.enter 20 args h) := callF_of Tryz.func20 body20
theorem body21 : Tryz.f21.body.isNone = false := by kernel_rfl
theorem call21 {h : H} {args : List EVal} : eCallF Tryz.prog h 21 args = some (.enter 21 args h) := callF_of Tryz.func21 body21
theorem body22 : Tryz.f22.body.isNone = false := by kernel_rfl
theorem call22 {h : H} {args : List EVal} : eCallF Tryz.prog h 22 args = some (.enter 22 args h) := callF_of Tryz.func22 body22
theorem body23 : Tryz.f23.body.isNone = false := by kernel_rfl
theorem call23 {h : H} {args : List EVal} : eCallF Tryz.prog h 23 args = some (.enter 23 args h) := callF_of Tryz.func23 body23
theorem body24 : Tryz.f24.body.isNone = false := by kernel_rfl
theorem call24 {h : H} {args : List EVal} : eCallF Tryz.prog h 24 args = some (.enter 24 args h) := callF_of Tryz.func24 body24
theorem body25 : Tryz.f25.body.isNone = false := by kernel_rfl
theorem call25 {h : H} {args : List EVal} : eCallF Tryz.prog h 25 args = some (.enter 25 args h) := callF_of Tryz.func25 body25
theorem body26 : Tryz.f26.body.isNone = false := by kernel_rfl
theorem call26 {h : H} {args : List EVal} : eCallF Tryz.prog h 26 args = some (.enter 26 args h) := callF_of Tryz.func26 body26
theorem body27 : Tryz.f27.body.isNone = false := by kernel_rfl
theorem call27 {h : H} {args : List EVal} : eCallF Tryz.prog h 27 args = some (.enter 27 args h) := callF_of Tryz.func27 body27
theorem body28 : Tryz.f28.body.isNone = false := by kernel_rfl
theorem call28 {h : H} {args : List EVal} : eCallF Tryz.prog h 28 args = some (.enter 28 args h) := callF_of Tryz.func28 body28
theorem body29 : Tryz.f29.body.isNone = false := by kernel_rfl
theorem call29 {h : H} {args : List EVal} : eCallF Tryz.prog h 29 args = some (.enter 29 args h) := callF_of Tryz.func29 body29
theorem body30 : Tryz.f30.body.isNone = false := by kernel_rfl
theorem call30 {h : H} {args : List EVal} : eCallF Tryz.prog h 30 args = some (.enter 30 args h) := callF_of Tryz.func30 body30
theorem body31 : Tryz.f31.body.isNone = false := by kernel_rfl
theorem call31 {h : H} {args : List EVal} : eCallF Tryz.prog h 31 args = some (.enter 31 args h) := callF_of Tryz.func31 body31
theorem body32 : Tryz.f32.body.isNone = false := by kernel_rfl
theorem call32 {h : H} {args : List EVal} : eCallF Tryz.prog h 32 args = some (.enter 32 args h) := callF_of Tryz.func32 body32
theorem body33 : Tryz.f33.body.isNone = false := by kernel_rfl
theorem call33 {h : H} {args : List EVal} : eCallF Tryz.prog h 33 args = some (.enter 33 args h) := callF_of Tryz.func33 body33
theorem body34 : Tryz.f34.body.isNone = false := by kernel_rfl
theorem call34 {h : H} {args : List EVal} : eCallF Tryz.prog h 34 args = some (.enter 34 args h) := callF_of Tryz.func34 body34
theorem body35 : Tryz.f35.body.isNone = false := by kernel_rfl
theorem call35 {h : H} {args : List EVal} : eCallF Tryz.prog h 35 args = some (.enter 35 args h) := callF_of Tryz.func35 body35
theorem body36 : Tryz.f36.body.isNone = false := by kernel_rfl
theorem call36 {h : H} {args : List EVal} : eCallF Tryz.prog h 36 args = some (.enter 36 args h) := callF_of Tryz.func36 body36
theorem body37 : Tryz.f37.body.isNone = false := by kernel_rfl
theorem call37 {h : H} {args : List EVal} : eCallF Tryz.prog h 37 args = some (.enter 37 args h) := callF_of Tryz.func37 body37
theorem body38 : Tryz.f38.body.isNone = false := by kernel_rfl
theorem call38 {h : H} {args : List EVal} : eCallF Tryz.prog h 38 args = some (.enter 38 args h) := callF_of Tryz.func38 body38
theorem body39 : Tryz.f39.body.isNone = false := by kernel_rfl
theorem call39 {h : H} {args : List EVal} : eCallF Tryz.prog h 39 args = some (.enter 39 args h) := callF_of Tryz.func39 body39
theorem body40 : Tryz.f40.body.isNone = false := by kernel_rfl
theorem call40 {h : H} {args : List EVal} : eCallF Tryz.prog h 40 args = some (.enter 40 args h) := callF_of Tryz.func40 body40
theorem body41 : Tryz.f41.body.isNone = false := by kernel_rfl
theorem call41 {h : H} {args : List EVal} : eCallF Tryz.prog h 41 args = some (.enter 41 args h) := callF_of Tryz.func41 body41
theorem body42 : Tryz.f42.body.isNone = false := by kernel_rfl
theorem call42 {h : H} {args : List EVal} : eCallF Tryz.prog h 42 args = some (.enter 42 args h) := callF_of Tryz.func42 body42
theorem body43 : Tryz.f43.body.isNone = false := by kernel_rfl
theorem call43 {h : H} {args : List EVal} : eCallF Tryz.prog h 43 args = some (.enter 43 args h) := callF_of Tryz.func43 body43
theorem body44 : Tryz.f44.body.isNone = false := by kernel_rfl
theorem call44 {h : H} {args : List EVal} : eCallF Tryz.prog h 44 args = some (.enter 44 args h) := callF_of Tryz.func44 body44
theorem body45 : Tryz.f45.body.isNone = false := by kernel_rfl
theorem call45 {h : H} {args : List EVal} : eCallF Tryz.prog h 45 args = some (.enter 45 args h) := callF_of Tryz.func45 body45
theorem body46 : Tryz.f46.body.isNone = false := by kernel_rfl
theorem call46 {h : H} {args : List EVal} : eCallF Tryz.prog h 46 args = some (.enter 46 args h) := callF_of Tryz.func46 body46
theorem body47 : Tryz.f47.body.isNone = false := by kernel_rfl
theorem call47 {h : H} {args : List EVal} : eCallF Tryz.prog h 47 args = some (.enter 47 args h) := callF_of Tryz.func47 body47
theorem body48 : Tryz.f48.body.isNone = false := by kernel_rfl
theorem call48 {h : H} {args : List EVal} : eCallF Tryz.prog h 48 args = some (.enter 48 args h) := callF_of Tryz.func48 body48
theorem body49 : Tryz.f49.body.isNone = false := by kernel_rfl
theorem call49 {h : H} {args : List EVal} : eCallF Tryz.prog h 49 args = some (.enter 49 args h) := callF_of Tryz.func49 body49
theorem body50 : Tryz.f50.body.isNone = false := by kernel_rfl
theorem call50 {h : H} {args : List EVal} : eCallF Tryz.prog h 50 args = some (.enter 50 args h) := callF_of Tryz.func50 body50
theorem body51 : Tryz.f51.body.isNone = false := by kernel_rfl
theorem call51 {h : H} {args : List EVal} : eCallF Tryz.prog h 51 args = some (.enter 51 args h) := callF_of Tryz.func51 body51
theorem body52 : Tryz.f52.body.isNone = false := by kernel_rfl
theorem call52 {h : H} {args : List EVal} : eCallF Tryz.prog h 52 args = some (.enter 52 args h) := callF_of Tryz.func52 body52
theorem body53 : Tryz.f53.body.isNone = false := by kernel_rfl
theorem call53 {h : H} {args : List EVal} : eCallF Tryz.prog h 53 args = some (.enter 53 args h) := callF_of Tryz.func53 body53
theorem body54 : Tryz.f54.body.isNone = false := by kernel_rfl
theorem call54 {h : H} {args : List EVal} : eCallF Tryz.prog h 54 args = some (.enter 54 args h) := callF_of Tryz.func54 body54
theorem body55 : Tryz.f55.body.isNone = false := by kernel_rfl
theorem call55 {h : H} {args : List EVal} : eCallF Tryz.prog h 55 args = some (.enter 55 args h) := callF_of Tryz.func55 body55
theorem body56 : Tryz.f56.body.isNone = false := by kernel_rfl
theorem call56 {h : H} {args : List EVal} : eCallF Tryz.prog h 56 args = some (.enter 56 args h) := callF_of Tryz.func56 body56
theorem body57 : Tryz.f57.body.isNone = false := by kernel_rfl
theorem call57 {h : H} {args : List EVal} : eCallF Tryz.prog h 57 args = some (.enter 57 args h) := callF_of Tryz.func57 body57
theorem body58 : Tryz.f58.body.isNone = false := by kernel_rfl
theorem call58 {h : H} {args : List EVal} : eCallF Tryz.prog h 58 args = some (.enter 58 args h) := callF_of Tryz.func58 body58
theorem body59 : Tryz.f59.body.isNone = false := by kernel_rfl
theorem call59 {h : H} {args : List EVal} : eCallF Tryz.prog h 59 args = some (.enter 59 args h) := callF_of Tryz.func59 body59
theorem body60 : Tryz.f60.body.isNone = false := by kernel_rfl
theorem call60 {h : H} {args : List EVal} : eCallF Tryz.prog h 60 args = some (.enter 60 args h) := callF_of Tryz.func60 body60
theorem body61 : Tryz.f61.body.isNone = false := by kernel_rfl
theorem call61 {h : H} {args : List EVal} : eCallF Tryz.prog h 61 args = some (.enter 61 args h) := callF_of Tryz.func61 body61
theorem body62 : Tryz.f62.body.isNone = false := by kernel_rfl
theorem call62 {h : H} {args : List EVal} : eCallF Tryz.prog h 62 args = some (.enter 62 args h) := callF_of Tryz.func62 body62
theorem body63 : Tryz.f63.body.isNone = false := by kernel_rfl
theorem call63 {h : H} {args : List EVal} : eCallF Tryz.prog h 63 args = some (.enter 63 args h) := callF_of Tryz.func63 body63
theorem body64 : Tryz.f64.body.isNone = false := by kernel_rfl
theorem call64 {h : H} {args : List EVal} : eCallF Tryz.prog h 64 args = some (.enter 64 args h) := callF_of Tryz.func64 body64
theorem body65 : Tryz.f65.body.isNone = false := by kernel_rfl
theorem call65 {h : H} {args : List EVal} : eCallF Tryz.prog h 65 args = some (.enter 65 args h) := callF_of Tryz.func65 body65
theorem body66 : Tryz.f66.body.isNone = false := by kernel_rfl
theorem call66 {h : H} {args : List EVal} : eCallF Tryz.prog h 66 args = some (.enter 66 args h) := callF_of Tryz.func66 body66
theorem body67 : Tryz.f67.body.isNone = false := by kernel_rfl
theorem call67 {h : H} {args : List EVal} : eCallF Tryz.prog h 67 args = some (.enter 67 args h) := callF_of Tryz.func67 body67
theorem body68 : Tryz.f68.body.isNone = false := by kernel_rfl
theorem call68 {h : H} {args : List EVal} : eCallF Tryz.prog h 68 args = some (.enter 68 args h) := callF_of Tryz.func68 body68
theorem body69 : Tryz.f69.body.isNone = false := by kernel_rfl
theorem call69 {h : H} {args : List EVal} : eCallF Tryz.prog h 69 args = some (.enter 69 args h) := callF_of Tryz.func69 body69
theorem body70 : Tryz.f70.body.isNone = false := by kernel_rfl
theorem call70 {h : H} {args : List EVal} : eCallF Tryz.prog h 70 args = some (.enter 70 args h) := callF_of Tryz.func70 body70
theorem body71 : Tryz.f71.body.isNone = false := by kernel_rfl
theorem call71 {h : H} {args : List EVal} : eCallF Tryz.prog h 71 args = some (.enter 71 args h) := callF_of Tryz.func71 body71
theorem body72 : Tryz.f72.body.isNone = false := by kernel_rfl
theorem call72 {h : H} {args : List EVal} : eCallF Tryz.prog h 72 args = some (.enter 72 args h) := callF_of Tryz.func72 body72
theorem body73 : Tryz.f73.body.isNone = false := by kernel_rfl
theorem call73 {h : H} {args : List EVal} : eCallF Tryz.prog h 73 args = some (.enter 73 args h) := callF_of Tryz.func73 body73
theorem body74 : Tryz.f74.body.isNone = false := by kernel_rfl
theorem call74 {h : H} {args : List EVal} : eCallF Tryz.prog h 74 args = some (.enter 74 args h) := callF_of Tryz.func74 body74
theorem body75 : Tryz.f75.body.isNone = false := by kernel_rfl
theorem call75 {h : H} {args : List EVal} : eCallF Tryz.prog h 75 args = some (.enter 75 args h) := callF_of Tryz.func75 body75
theorem body76 : Tryz.f76.body.isNone = false := by kernel_rfl
theorem call76 {h : H} {args : List EVal} : eCallF Tryz.prog h 76 args = some (.enter 76 args h) := callF_of Tryz.func76 body76
theorem body77 : Tryz.f77.body.isNone = false := by kernel_rfl
theorem call77 {h : H} {args : List EVal} : eCallF Tryz.prog h 77 args = some (.enter 77 args h) := callF_of Tryz.func77 body77
theorem body78 : Tryz.f78.body.isNone = false := by kernel_rfl
theorem call78 {h : H} {args : List EVal} : eCallF Tryz.prog h 78 args = some (.enter 78 args h) := callF_of Tryz.func78 body78
theorem body79 : Tryz.f79.body.isNone = false := by kernel_rfl
theorem call79 {h : H} {args : List EVal} : eCallF Tryz.prog h 79 args = some (.enter 79 args h) := callF_of Tryz.func79 body79
theorem body80 : Tryz.f80.body.isNone = false := by kernel_rfl
theorem call80 {h : H} {args : List EVal} : eCallF Tryz.prog h 80 args = some (.enter 80 args h) := callF_of Tryz.func80 body80
theorem body81 : Tryz.f81.body.isNone = false := by kernel_rfl
theorem call81 {h : H} {args : List EVal} : eCallF Tryz.prog h 81 args = some (.enter 81 args h) := callF_of Tryz.func81 body81
theorem body82 : Tryz.f82.body.isNone = false := by kernel_rfl
theorem call82 {h : H} {args : List EVal} : eCallF Tryz.prog h 82 args = some (.enter 82 args h) := callF_of Tryz.func82 body82
theorem body83 : Tryz.f83.body.isNone = false := by kernel_rfl
theorem call83 {h : H} {args : List EVal} : eCallF Tryz.prog h 83 args = some (.enter 83 args h) := callF_of Tryz.func83 body83
theorem body84 : Tryz.f84.body.isNone = false := by kernel_rfl
theorem call84 {h : H} {args : List EVal} : eCallF Tryz.prog h 84 args = some (.enter 84 args h) := callF_of Tryz.func84 body84
theorem body85 : Tryz.f85.body.isNone = false := by kernel_rfl
theorem call85 {h : H} {args : List EVal} : eCallF Tryz.prog h 85 args = some (.enter 85 args h) := callF_of Tryz.func85 body85
theorem body86 : Tryz.f86.body.isNone = false := by kernel_rfl
theorem call86 {h : H} {args : List EVal} : eCallF Tryz.prog h 86 args = some (.enter 86 args h) := callF_of Tryz.func86 body86
theorem body87 : Tryz.f87.body.isNone = false := by kernel_rfl
theorem call87 {h : H} {args : List EVal} : eCallF Tryz.prog h 87 args = some (.enter 87 args h) := callF_of Tryz.func87 body87
theorem body88 : Tryz.f88.body.isNone = false := by kernel_rfl
theorem call88 {h : H} {args : List EVal} : eCallF Tryz.prog h 88 args = some (.enter 88 args h) := callF_of Tryz.func88 body88
theorem body89 : Tryz.f89.body.isNone = false := by kernel_rfl
theorem call89 {h : H} {args : List EVal} : eCallF Tryz.prog h 89 args = some (.enter 89 args h) := callF_of Tryz.func89 body89
theorem body90 : Tryz.f90.body.isNone = false := by kernel_rfl
theorem call90 {h : H} {args : List EVal} : eCallF Tryz.prog h 90 args = some (.enter 90 args h) := callF_of Tryz.func90 body90
theorem body91 : Tryz.f91.body.isNone = false := by kernel_rfl
theorem call91 {h : H} {args : List EVal} : eCallF Tryz.prog h 91 args = some (.enter 91 args h) := callF_of Tryz.func91 body91
theorem body92 : Tryz.f92.body.isNone = false := by kernel_rfl
theorem call92 {h : H} {args : List EVal} : eCallF Tryz.prog h 92 args = some (.enter 92 args h) := callF_of Tryz.func92 body92
theorem body93 : Tryz.f93.body.isNone = false := by kernel_rfl
theorem call93 {h : H} {args : List EVal} : eCallF Tryz.prog h 93 args = some (.enter 93 args h) := callF_of Tryz.func93 body93
theorem body94 : Tryz.f94.body.isNone = false := by kernel_rfl
theorem call94 {h : H} {args : List EVal} : eCallF Tryz.prog h 94 args = some (.enter 94 args h) := callF_of Tryz.func94 body94
theorem body95 : Tryz.f95.body.isNone = false := by kernel_rfl
theorem call95 {h : H} {args : List EVal} : eCallF Tryz.prog h 95 args = some (.enter 95 args h) := callF_of Tryz.func95 body95
theorem body96 : Tryz.f96.body.isNone = false := by kernel_rfl
theorem call96 {h : H} {args : List EVal} : eCallF Tryz.prog h 96 args = some (.enter 96 args h) := callF_of Tryz.func96 body96
theorem body97 : Tryz.f97.body.isNone = false := by kernel_rfl
theorem call97 {h : H} {args : List EVal} : eCallF Tryz.prog h 97 args = some (.enter 97 args h) := callF_of Tryz.func97 body97
theorem body98 : Tryz.f98.body.isNone = false := by kernel_rfl
theorem call98 {h : H} {args : List EVal} : eCallF Tryz.prog h 98 args = some (.enter 98 args h) := callF_of Tryz.func98 body98
theorem body99 : Tryz.f99.body.isNone = false := by kernel_rfl
theorem call99 {h : H} {args : List EVal} : eCallF Tryz.prog h 99 args = some (.enter 99 args h) := callF_of Tryz.func99 body99
theorem body100 : Tryz.f100.body.isNone = false := by kernel_rfl
theorem call100 {h : H} {args : List EVal} : eCallF Tryz.prog h 100 args = some (.enter 100 args h) := callF_of Tryz.func100 body100
theorem body101 : Tryz.f101.body.isNone = false := by kernel_rfl
theorem call101 {h : H} {args : List EVal} : eCallF Tryz.prog h 101 args = some (.enter 101 args h) := callF_of Tryz.func101 body101
theorem body102 : Tryz.f102.body.isNone = false := by kernel_rfl
theorem call102 {h : H} {args : List EVal} : eCallF Tryz.prog h 102 args = some (.enter 102 args h) := callF_of Tryz.func102 body102
theorem body103 : Tryz.f103.body.isNone = false := by kernel_rfl
theorem call103 {h : H} {args : List EVal} : eCallF Tryz.prog h 103 args = some (.enter 103 args h) := callF_of Tryz.func103 body103
theorem body104 : Tryz.f104.body.isNone = false := by kernel_rfl
theorem call104 {h : H} {args : List EVal} : eCallF Tryz.prog h 104 args = some (.enter 104 args h) := callF_of Tryz.func104 body104
theorem body105 : Tryz.f105.body.isNone = false := by kernel_rfl
theorem call105 {h : H} {args : List EVal} : eCallF Tryz.prog h 105 args = some (.enter 105 args h) := callF_of Tryz.func105 body105
theorem body106 : Tryz.f106.body.isNone = false := by kernel_rfl
theorem call106 {h : H} {args : List EVal} : eCallF Tryz.prog h 106 args = some (.enter 106 args h) := callF_of Tryz.func106 body106
theorem body107 : Tryz.f107.body.isNone = false := by kernel_rfl
theorem call107 {h : H} {args : List EVal} : eCallF Tryz.prog h 107 args = some (.enter 107 args h) := callF_of Tryz.func107 body107
theorem body108 : Tryz.f108.body.isNone = false := by kernel_rfl
theorem call108 {h : H} {args : List EVal} : eCallF Tryz.prog h 108 args = some (.enter 108 args h) := callF_of Tryz.func108 body108
theorem body109 : Tryz.f109.body.isNone = false := by kernel_rfl
theorem call109 {h : H} {args : List EVal} : eCallF Tryz.prog h 109 args = some (.enter 109 args h) := callF_of Tryz.func109 body109
theorem body110 : Tryz.f110.body.isNone = false := by kernel_rfl
theorem call110 {h : H} {args : List EVal} : eCallF Tryz.prog h 110 args = some (.enter 110 args h) := callF_of Tryz.func110 body110
theorem body111 : Tryz.f111.body.isNone = false := by kernel_rfl
theorem call111 {h : H} {args : List EVal} : eCallF Tryz.prog h 111 args = some (.enter 111 args h) := callF_of Tryz.func111 body111
theorem body112 : Tryz.f112.body.isNone = false := by kernel_rfl
theorem call112 {h : H} {args : List EVal} : eCallF Tryz.prog h 112 args = some (.enter 112 args h) := callF_of Tryz.func112 body112
theorem body113 : Tryz.f113.body.isNone = false := by kernel_rfl
theorem call113 {h : H} {args : List EVal} : eCallF Tryz.prog h 113 args = some (.enter 113 args h) := callF_of Tryz.func113 body113
theorem body114 : Tryz.f114.body.isNone = false := by kernel_rfl
theorem call114 {h : H} {args : List EVal} : eCallF Tryz.prog h 114 args = some (.enter 114 args h) := callF_of Tryz.func114 body114
theorem body115 : Tryz.f115.body.isNone = false := by kernel_rfl
theorem call115 {h : H} {args : List EVal} : eCallF Tryz.prog h 115 args = some (.enter 115 args h) := callF_of Tryz.func115 body115
theorem body116 : Tryz.f116.body.isNone = false := by kernel_rfl
theorem call116 {h : H} {args : List EVal} : eCallF Tryz.prog h 116 args = some (.enter 116 args h) := callF_of Tryz.func116 body116
theorem body117 : Tryz.f117.body.isNone = false := by kernel_rfl
theorem call117 {h : H} {args : List EVal} : eCallF Tryz.prog h 117 args = some (.enter 117 args h) := callF_of Tryz.func117 body117
theorem body118 : Tryz.f118.body.isNone = false := by kernel_rfl
theorem call118 {h : H} {args : List EVal} : eCallF Tryz.prog h 118 args = some (.enter 118 args h) := callF_of Tryz.func118 body118
theorem body119 : Tryz.f119.body.isNone = false := by kernel_rfl
theorem call119 {h : H} {args : List EVal} : eCallF Tryz.prog h 119 args = some (.enter 119 args h) := callF_of Tryz.func119 body119
theorem body120 : Tryz.f120.body.isNone = false := by kernel_rfl
theorem call120 {h : H} {args : List EVal} : eCallF Tryz.prog h 120 args = some (.enter 120 args h) := callF_of Tryz.func120 body120
theorem body121 : Tryz.f121.body.isNone = false := by kernel_rfl
theorem call121 {h : H} {args : List EVal} : eCallF Tryz.prog h 121 args = some (.enter 121 args h) := callF_of Tryz.func121 body121
theorem body122 : Tryz.f122.body.isNone = false := by kernel_rfl
theorem call122 {h : H} {args : List EVal} : eCallF Tryz.prog h 122 args = some (.enter 122 args h) := callF_of Tryz.func122 body122
theorem body123 : Tryz.f123.body.isNone = false := by kernel_rfl
theorem call123 {h : H} {args : List EVal} : eCallF Tryz.prog h 123 args = some (.enter 123 args h) := callF_of Tryz.func123 body123
theorem body124 : Tryz.f124.body.isNone = false := by kernel_rfl
theorem call124 {h : H} {args : List EVal} : eCallF Tryz.prog h 124 args = some (.enter 124 args h) := callF_of Tryz.func124 body124
theorem body125 : Tryz.f125.body.isNone = false := by kernel_rfl
theorem call125 {h : H} {args : List EVal} : eCallF Tryz.prog h 125 args = some (.enter 125 args h) := callF_of Tryz.func125 body125
theorem body126 : Tryz.f126.body.isNone = false := by kernel_rfl
theorem call126 {h : H} {args : List EVal} : eCallF Tryz.prog h 126 args = some (.enter 126 args h) := callF_of Tryz.func126 body126
theorem body127 : Tryz.f127.body.isNone = false := by kernel_rfl
theorem call127 {h : H} {args : List EVal} : eCallF Tryz.prog h 127 args = some (.enter 127 args h) := callF_of Tryz.func127 body127
theorem body128 : Tryz.f128.body.isNone = false := by kernel_rfl
theorem call128 {h : H} {args : List EVal} : eCallF Tryz.prog h 128 args = some (.enter 128 args h) := callF_of Tryz.func128 body128
theorem body129 : Tryz.f129.body.isNone = false := by kernel_rfl
theorem call129 {h : H} {args : List EVal} : eCallF Tryz.prog h 129 args = some (.enter 129 args h) := callF_of Tryz.func129 body129
theorem body130 : Tryz.f130.body.isNone = false := by kernel_rfl
theorem call130 {h : H} {args : List EVal} : eCallF Tryz.prog h 130 args = some (.enter 130 args h) := callF_of Tryz.func130 body130
theorem body131 : Tryz.f131.body.isNone = false := by kernel_rfl
theorem call131 {h : H} {args : List EVal} : eCallF Tryz.prog h 131 args = some (.enter 131 args h) := callF_of Tryz.func131 body131
theorem body132 : Tryz.f132.body.isNone = false := by kernel_rfl
theorem call132 {h : H} {args : List EVal} : eCallF Tryz.prog h 132 args = some (.enter 132 args h) := callF_of Tryz.func132 body132
theorem body133 : Tryz.f133.body.isNone = false := by kernel_rfl
theorem call133 {h : H} {args : List EVal} : eCallF Tryz.prog h 133 args = some (.enter 133 args h) := callF_of Tryz.func133 body133
theorem body134 : Tryz.f134.body.isNone = false := by kernel_rfl
theorem call134 {h : H} {args : List EVal} : eCallF Tryz.prog h 134 args = some (.enter 134 args h) := callF_of Tryz.func134 body134
theorem body135 : Tryz.f135.body.isNone = false := by kernel_rfl
theorem call135 {h : H} {args : List EVal} : eCallF Tryz.prog h 135 args = some (.enter 135 args h) := callF_of Tryz.func135 body135
theorem body136 : Tryz.f136.body.isNone = false := by kernel_rfl
theorem call136 {h : H} {args : List EVal} : eCallF Tryz.prog h 136 args = some (.enter 136 args h) := callF_of Tryz.func136 body136
theorem body137 : Tryz.f137.body.isNone = false := by kernel_rfl
theorem call137 {h : H} {args : List EVal} : eCallF Tryz.prog h 137 args = some (.enter 137 args h) := callF_of Tryz.func137 body137
theorem body138 : Tryz.f138.body.isNone = false := by kernel_rfl
theorem call138 {h : H} {args : List EVal} : eCallF Tryz.prog h 138 args = some (.enter 138 args h) := callF_of Tryz.func138 body138
theorem body139 : Tryz.f139.body.isNone = false := by kernel_rfl
theorem call139 {h : H} {args : List EVal} : eCallF Tryz.prog h 139 args = some (.enter 139 args h) := callF_of Tryz.func139 body139
theorem body140 : Tryz.f140.body.isNone = false := by kernel_rfl
theorem call140 {h : H} {args : List EVal} : eCallF Tryz.prog h 140 args = some (.enter 140 args h) := callF_of Tryz.func140 body140
theorem body141 : Tryz.f141.body.isNone = false := by kernel_rfl
theorem call141 {h : H} {args : List EVal} : eCallF Tryz.prog h 141 args = some (.enter 141 args h) := callF_of Tryz.func141 body141
theorem body142 : Tryz.f142.body.isNone = false := by kernel_rfl
theorem call142 {h : H} {args : List EVal} : eCallF Tryz.prog h 142 args = some (.enter 142 args h) := callF_of Tryz.func142 body142
theorem body143 : Tryz.f143.body.isNone = false := by kernel_rfl
theorem call143 {h : H} {args : List EVal} : eCallF Tryz.prog h 143 args = some (.enter 143 args h) := callF_of Tryz.func143 body143
theorem body144 : Tryz.f144.body.isNone = false := by kernel_rfl
theorem call144 {h : H} {args : List EVal} : eCallF Tryz.prog h 144 args = some (.enter 144 args h) := callF_of Tryz.func144 body144
theorem body145 : Tryz.f145.body.isNone = false := by kernel_rfl
theorem call145 {h : H} {args : List EVal} : eCallF Tryz.prog h 145 args = some (.enter 145 args h) := callF_of Tryz.func145 body145
theorem body146 : Tryz.f146.body.isNone = false := by kernel_rfl
theorem call146 {h : H} {args : List EVal} : eCallF Tryz.prog h 146 args = some (.enter 146 args h) := callF_of Tryz.func146 body146
theorem body147 : Tryz.f147.body.isNone = false := by kernel_rfl
theorem call147 {h : H} {args : List EVal} : eCallF Tryz.prog h 147 args = some (.enter 147 args h) := callF_of Tryz.func147 body147
theorem body148 : Tryz.f148.body.isNone = false := by kernel_rfl
theorem call148 {h : H} {args : List EVal} : eCallF Tryz.prog h 148 args = some (.enter 148 args h) := callF_of Tryz.func148 body148
theorem body149 : Tryz.f149.body.isNone = false := by kernel_rfl
theorem call149 {h : H} {args : List EVal} : eCallF Tryz.prog h 149 args = some (.enter 149 args h) := callF_of Tryz.func149 body149
theorem body150 : Tryz.f150.body.isNone = false := by kernel_rfl
theorem call150 {h : H} {args : List EVal} : eCallF Tryz.prog h 150 args = some (.enter 150 args h) := callF_of Tryz.func150 body150
theorem body151 : Tryz.f151.body.isNone = false := by kernel_rfl
theorem call151 {h : H} {args : List EVal} : eCallF Tryz.prog h 151 args = some (.enter 151 args h) := callF_of Tryz.func151 body151
theorem body152 : Tryz.f152.body.isNone = false := by kernel_rfl
theorem call152 {h : H} {args : List EVal} : eCallF Tryz.prog h 152 args = some (.enter 152 args h) := callF_of Tryz.func152 body152
theorem body153 : Tryz.f153.body.isNone = false := by kernel_rfl
theorem call153 {h : H} {args : List EVal} : eCallF Tryz.prog h 153 args = some (.enter 153 args h) := callF_of Tryz.func153 body153
theorem body154 : Tryz.f154.body.isNone = false := by kernel_rfl
theorem call154 {h : H} {args : List EVal} : eCallF Tryz.prog h 154 args = some (.enter 154 args h) := callF_of Tryz.func154 body154
theorem body155 : Tryz.f155.body.isNone = false := by kernel_rfl
theorem call155 {h : H} {args : List EVal} : eCallF Tryz.prog h 155 args = some (.enter 155 args h) := callF_of Tryz.func155 body155
theorem body156 : Tryz.f156.body.isNone = false := by kernel_rfl
theorem call156 {h : H} {args : List EVal} : eCallF Tryz.prog h 156 args = some (.enter 156 args h) := callF_of Tryz.func156 body156
theorem body157 : Tryz.f157.body.isNone = false := by kernel_rfl
theorem call157 {h : H} {args : List EVal} : eCallF Tryz.prog h 157 args = some (.enter 157 args h) := callF_of Tryz.func157 body157
theorem body158 : Tryz.f158.body.isNone = false := by kernel_rfl
theorem call158 {h : H} {args : List EVal} : eCallF Tryz.prog h 158 args = some (.enter 158 args h) := callF_of Tryz.func158 body158
theorem body159 : Tryz.f159.body.isNone = false := by kernel_rfl
theorem call159 {h : H} {args : List EVal} : eCallF Tryz.prog h 159 args = some (.enter 159 args h) := callF_of Tryz.func159 body159
theorem body160 : Tryz.f160.body.isNone = false := by kernel_rfl
theorem call160 {h : H} {args : List EVal} : eCallF Tryz.prog h 160 args = some (.enter 160 args h) := callF_of Tryz.func160 body160
theorem body161 : Tryz.f161.body.isNone = false := by kernel_rfl
theorem call161 {h : H} {args : List EVal} : eCallF Tryz.prog h 161 args = some (.enter 161 args h) := callF_of Tryz.func161 body161
theorem body162 : Tryz.f162.body.isNone = false := by kernel_rfl
theorem call162 {h : H} {args : List EVal} : eCallF Tryz.prog h 162 args = some (.enter 162 args h) := callF_of Tryz.func162 body162
theorem body163 : Tryz.f163.body.isNone = false := by kernel_rfl
theorem call163 {h : H} {args : List EVal} : eCallF Tryz.prog h 163 args = some (.enter 163 args h) := callF_of Tryz.func163 body163
theorem body164 : Tryz.f164.body.isNone = false := by kernel_rfl
theorem call164 {h : H} {args : List EVal} : eCallF Tryz.prog h 164 args = some (.enter 164 args h) := callF_of Tryz.func164 body164
theorem body165 : Tryz.f165.body.isNone = false := by kernel_rfl
theorem call165 {h : H} {args : List EVal} : eCallF Tryz.prog h 165 args = some (.enter 165 args h) := callF_of Tryz.func165 body165
theorem body166 : Tryz.f166.body.isNone = false := by kernel_rfl
theorem call166 {h : H} {args : List EVal} : eCallF Tryz.prog h 166 args = some (.enter 166 args h) := callF_of Tryz.func166 body166
theorem body167 : Tryz.f167.body.isNone = false := by kernel_rfl
theorem call167 {h : H} {args : List EVal} : eCallF Tryz.prog h 167 args = some (.enter 167 args h) := callF_of Tryz.func167 body167
theorem body168 : Tryz.f168.body.isNone = false := by kernel_rfl
theorem call168 {h : H} {args : List EVal} : eCallF Tryz.prog h 168 args = some (.enter 168 args h) := callF_of Tryz.func168 body168
theorem body170 : Tryz.f170.body.isNone = false := by kernel_rfl
theorem call170 {h : H} {args : List EVal} : eCallF Tryz.prog h 170 args = some (.enter 170 args h) := callF_of Tryz.func170 body170
theorem body171 : Tryz.f171.body.isNone = false := by kernel_rfl
theorem call171 {h : H} {args : List EVal} : eCallF Tryz.prog h 171 args = some (.enter 171 args h) := callF_of Tryz.func171 body171
theorem body172 : Tryz.f172.body.isNone = false := by kernel_rfl
theorem call172 {h : H} {args : List EVal} : eCallF Tryz.prog h 172 args = some (.enter 172 args h) := callF_of Tryz.func172 body172
theorem body173 : Tryz.f173.body.isNone = false := by kernel_rfl
theorem call173 {h : H} {args : List EVal} : eCallF Tryz.prog h 173 args = some (.enter 173 args h) := callF_of Tryz.func173 body173
theorem body174 : Tryz.f174.body.isNone = false := by kernel_rfl
theorem call174 {h : H} {args : List EVal} : eCallF Tryz.prog h 174 args = some (.enter 174 args h) := callF_of Tryz.func174 body174
theorem body175 : Tryz.f175.body.isNone = false := by kernel_rfl
theorem call175 {h : H} {args : List EVal} : eCallF Tryz.prog h 175 args = some (.enter 175 args h) := callF_of Tryz.func175 body175
theorem body176 : Tryz.f176.body.isNone = false := by kernel_rfl
theorem call176 {h : H} {args : List EVal} : eCallF Tryz.prog h 176 args = some (.enter 176 args h) := callF_of Tryz.func176 body176
theorem body177 : Tryz.f177.body.isNone = false := by kernel_rfl
theorem call177 {h : H} {args : List EVal} : eCallF Tryz.prog h 177 args = some (.enter 177 args h) := callF_of Tryz.func177 body177
theorem body178 : Tryz.f178.body.isNone = false := by kernel_rfl
theorem call178 {h : H} {args : List EVal} : eCallF Tryz.prog h 178 args = some (.enter 178 args h) := callF_of Tryz.func178 body178
theorem body179 : Tryz.f179.body.isNone = false := by kernel_rfl
theorem call179 {h : H} {args : List EVal} : eCallF Tryz.prog h 179 args = some (.enter 179 args h) := callF_of Tryz.func179 body179
theorem body180 : Tryz.f180.body.isNone = false := by kernel_rfl
theorem call180 {h : H} {args : List EVal} : eCallF Tryz.prog h 180 args = some (.enter 180 args h) := callF_of Tryz.func180 body180
theorem body181 : Tryz.f181.body.isNone = false := by kernel_rfl
theorem call181 {h : H} {args : List EVal} : eCallF Tryz.prog h 181 args = some (.enter 181 args h) := callF_of Tryz.func181 body181
theorem body182 : Tryz.f182.body.isNone = false := by kernel_rfl
theorem call182 {h : H} {args : List EVal} : eCallF Tryz.prog h 182 args = some (.enter 182 args h) := callF_of Tryz.func182 body182
theorem body183 : Tryz.f183.body.isNone = false := by kernel_rfl
theorem call183 {h : H} {args : List EVal} : eCallF Tryz.prog h 183 args = some (.enter 183 args h) := callF_of Tryz.func183 body183
theorem body185 : Tryz.f185.body.isNone = false := by kernel_rfl
theorem call185 {h : H} {args : List EVal} : eCallF Tryz.prog h 185 args = some (.enter 185 args h) := callF_of Tryz.func185 body185
theorem body186 : Tryz.f186.body.isNone = false := by kernel_rfl
theorem call186 {h : H} {args : List EVal} : eCallF Tryz.prog h 186 args = some (.enter 186 args h) := callF_of Tryz.func186 body186
theorem body187 : Tryz.f187.body.isNone = false := by kernel_rfl
theorem call187 {h : H} {args : List EVal} : eCallF Tryz.prog h 187 args = some (.enter 187 args h) := callF_of Tryz.func187 body187
theorem body188 : Tryz.f188.body.isNone = false := by kernel_rfl
theorem call188 {h : H} {args : List EVal} : eCallF Tryz.prog h 188 args = some (.enter 188 args h) := callF_of Tryz.func188 body188
theorem body189 : Tryz.f189.body.isNone = false := by kernel_rfl
theorem call189 {h : H} {args : List EVal} : eCallF Tryz.prog h 189 args = some (.enter 189 args h) := callF_of Tryz.func189 body189
theorem body190 : Tryz.f190.body.isNone = false := by kernel_rfl
theorem call190 {h : H} {args : List EVal} : eCallF Tryz.prog h 190 args = some (.enter 190 args h) := callF_of Tryz.func190 body190
theorem body191 : Tryz.f191.body.isNone = false := by kernel_rfl
theorem call191 {h : H} {args : List EVal} : eCallF Tryz.prog h 191 args = some (.enter 191 args h) := callF_of Tryz.func191 body191
theorem body192 : Tryz.f192.body.isNone = false := by kernel_rfl
theorem call192 {h : H} {args : List EVal} : eCallF Tryz.prog h 192 args = some (.enter 192 args h) := callF_of Tryz.func192 body192
theorem body193 : Tryz.f193.body.isNone = false := by kernel_rfl
theorem call193 {h : H} {args : List EVal} : eCallF Tryz.prog h 193 args = some (.enter 193 args h) := callF_of Tryz.func193 body193
theorem body194 : Tryz.f194.body.isNone = false := by kernel_rfl
theorem call194 {h : H} {args : List EVal} : eCallF Tryz.prog h 194 args = some (.enter 194 args h) := callF_of Tryz.func194 body194
theorem body195 : Tryz.f195.body.isNone = false := by kernel_rfl
theorem call195 {h : H} {args : List EVal} : eCallF Tryz.prog h 195 args = some (.enter 195 args h) := callF_of Tryz.func195 body195
theorem body196 : Tryz.f196.body.isNone = false := by kernel_rfl
theorem call196 {h : H} {args : List EVal} : eCallF Tryz.prog h 196 args = some (.enter 196 args h) := callF_of Tryz.func196 body196
theorem body197 : Tryz.f197.body.isNone = false := by kernel_rfl
theorem call197 {h : H} {args : List EVal} : eCallF Tryz.prog h 197 args = some (.enter 197 args h) := callF_of Tryz.func197 body197
theorem body199 : Tryz.f199.body.isNone = false := by kernel_rfl
theorem call199 {h : H} {args : List EVal} : eCallF Tryz.prog h 199 args = some (.enter 199 args h) := callF_of Tryz.func199 body199
theorem body200 : Tryz.f200.body.isNone = false := by kernel_rfl
theorem call200 {h : H} {args : List EVal} : eCallF Tryz.prog h 200 args = some (.enter 200 args h) := callF_of Tryz.func200 body200
theorem body201 : Tryz.f201.body.isNone = false := by kernel_rfl
theorem call201 {h : H} {args : List EVal} : eCallF Tryz.prog h 201 args = some (.enter 201 args h) := callF_of Tryz.func201 body201
theorem body202 : Tryz.f202.body.isNone = false := by kernel_rfl
theorem call202 {h : H} {args : List EVal} : eCallF Tryz.prog h 202 args = some (.enter 202 args h) := callF_of Tryz.func202 body202
theorem body203 : Tryz.f203.body.isNone = false := by kernel_rfl
theorem call203 {h : H} {args : List EVal} : eCallF Tryz.prog h 203 args = some (.enter 203 args h) := callF_of Tryz.func203 body203
theorem body204 : Tryz.f204.body.isNone = false := by kernel_rfl
theorem call204 {h : H} {args : List EVal} : eCallF Tryz.prog h 204 args = some (.enter 204 args h) := callF_of Tryz.func204 body204
theorem body205 : Tryz.f205.body.isNone = false := by kernel_rfl
theorem call205 {h : H} {args : List EVal} : eCallF Tryz.prog h 205 args = some (.enter 205 args h) := callF_of Tryz.func205 body205
theorem body206 : Tryz.f206.body.isNone = false := by kernel_rfl
theorem call206 {h : H} {args : List EVal} : eCallF Tryz.prog h 206 args = some (.enter 206 args h) := callF_of Tryz.func206 body206
theorem body207 : Tryz.f207.body.isNone = false := by kernel_rfl
theorem call207 {h : H} {args : List EVal} : eCallF Tryz.prog h 207 args = some (.enter 207 args h) := callF_of Tryz.func207 body207
theorem body208 : Tryz.f208.body.isNone = false := by kernel_rfl
theorem call208 {h : H} {args : List EVal} : eCallF Tryz.prog h 208 args = some (.enter 208 args h) := callF_of Tryz.func208 body208
theorem body209 : Tryz.f209.body.isNone = false := by kernel_rfl
theorem call209 {h : H} {args : List EVal} : eCallF Tryz.prog h 209 args = some (.enter 209 args h) := callF_of Tryz.func209 body209
theorem body211 : Tryz.f211.body.isNone = false := by kernel_rfl
theorem call211 {h : H} {args : List EVal} : eCallF Tryz.prog h 211 args = some (.enter 211 args h) := callF_of Tryz.func211 body211
theorem body212 : Tryz.f212.body.isNone = false := by kernel_rfl
theorem call212 {h : H} {args : List EVal} : eCallF Tryz.prog h 212 args = some (.enter 212 args h) := callF_of Tryz.func212 body212
theorem body213 : Tryz.f213.body.isNone = false := by kernel_rfl
theorem call213 {h : H} {args : List EVal} : eCallF Tryz.prog h 213 args = some (.enter 213 args h) := callF_of Tryz.func213 body213
theorem body214 : Tryz.f214.body.isNone = false := by kernel_rfl
theorem call214 {h : H} {args : List EVal} : eCallF Tryz.prog h 214 args = some (.enter 214 args h) := callF_of Tryz.func214 body214
theorem body215 : Tryz.f215.body.isNone = false := by kernel_rfl
theorem call215 {h : H} {args : List EVal} : eCallF Tryz.prog h 215 args = some (.enter 215 args h) := callF_of Tryz.func215 body215
theorem body216 : Tryz.f216.body.isNone = false := by kernel_rfl
theorem call216 {h : H} {args : List EVal} : eCallF Tryz.prog h 216 args = some (.enter 216 args h) := callF_of Tryz.func216 body216
theorem body217 : Tryz.f217.body.isNone = false := by kernel_rfl
theorem call217 {h : H} {args : List EVal} : eCallF Tryz.prog h 217 args = some (.enter 217 args h) := callF_of Tryz.func217 body217
theorem body218 : Tryz.f218.body.isNone = false := by kernel_rfl
theorem call218 {h : H} {args : List EVal} : eCallF Tryz.prog h 218 args = some (.enter 218 args h) := callF_of Tryz.func218 body218
theorem body219 : Tryz.f219.body.isNone = false := by kernel_rfl
theorem call219 {h : H} {args : List EVal} : eCallF Tryz.prog h 219 args = some (.enter 219 args h) := callF_of Tryz.func219 body219
theorem body220 : Tryz.f220.body.isNone = false := by kernel_rfl
theorem call220 {h : H} {args : List EVal} : eCallF Tryz.prog h 220 args = some (.enter 220 args h) := callF_of Tryz.func220 body220
theorem body221 : Tryz.f221.body.isNone = false := by kernel_rfl
theorem call221 {h : H} {args : List EVal} : eCallF Tryz.prog h 221 args = some (.enter 221 args h) := callF_of Tryz.func221 body221
theorem body222 : Tryz.f222.body.isNone = false := by kernel_rfl
theorem call222 {h : H} {args : List EVal} : eCallF Tryz.prog h 222 args = some (.enter 222 args h) := callF_of Tryz.func222 body222
theorem body223 : Tryz.f223.body.isNone = false := by kernel_rfl
theorem call223 {h : H} {args : List EVal} : eCallF Tryz.prog h 223 args = some (.enter 223 args h) := callF_of Tryz.func223 body223
end Go.Ev
