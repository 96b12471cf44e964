import Derived.Test.YtdhnjbgggkdiiaaGreatDoorEvC
import Derived.Test.YtdhnjbgggkdiiaaGreatDoorRows
import Derived.Eval
set_option linter.unusedSimpArgs false
set_option linter.unusedVariables false
namespace Go.Ev
open Go.RowKit Go.Proofs

def waysL : List EVal := [.bool false, .str [98], .int .i64 3, .int .i64 3, .bool false, .str [97], .int .i64 3, .int .i64 3, .bool false, .str [115], .int .i64 0, .int .i64 3, .bool false, .str [112], .int .i64 3, .int .i64 3, .bool false, .str [107], .int .i64 0, .int .i64 3, .bool false, .str [116], .int .i64 3, .int .i64 3, .bool false, .str [111], .int .i64 3, .int .i64 3,
 .bool true, .str [102], .int .i64 2, .int .i64 2, .bool true, .str [103], .int .i64 3, .int .i64 4, .bool true, .str [99], .int .i64 2, .int .i64 0, .bool true, .str [100], .int .i64 0, .int .i64 1, .bool true, .str [107], .int .i64 2, .int .i64 0, .bool true, .str [110], .int .i64 2, .int .i64 3, .bool true, .str [121], .int .i64 2, .int .i64 0]
theorem ways_lay : layE Tryz.prog 5 181 Go.Proofs.YtdhnjbgggkdiiaaGreatDoor.Rows.laid_dugout_play_ways = some waysL := by kernel_rfl
theorem gWays : Tryz.prog.globalNamed "dugout/play.ways" = some 0 := by kernel_rfl
theorem gWaysType : (Tryz.prog.globals[0]?).map (·.type) = some 181 := by kernel_rfl
theorem mixed : Tryz.prog.follows .mixedOrders = true := Tryz.checked.mixed
theorem noNGb : (Tryz.prog.funcs.toList.all fun fn => !(fn.name == "runtime.NumGoroutine")) = true := by kernel_rfl
theorem aI : NoNG Tryz.prog := fun f fn h => by
  have hm : fn ∈ Tryz.prog.funcs.toList := by
    rw [← Array.getElem?_toList] at h
    exact List.mem_of_getElem? h
  have := List.all_eq_true.1 noNGb fn hm
  simpa using this
noncomputable def gT : G := oneG 0 waysL
abbrev FnT := Fn Tryz.prog gT
end Go.Ev
namespace Go.Ev
open Go.RowKit Go.Proofs

noncomputable def I2 : TypeInfo := (Tryz.prog.info? 2).getD { desc := .bool, str := "", size := 0, bytes := 0, hasPointers := false, align := 0, fieldAlign := 0, zero := none, comparable := false, methods := #[] }
theorem sz3 : bZ Tryz.prog 3 = some 1 := by kernel_rfl
noncomputable def I3 : TypeInfo := (Tryz.prog.info? 3).getD { desc := .bool, str := "", size := 0, bytes := 0, hasPointers := false, align := 0, fieldAlign := 0, zero := none, comparable := false, methods := #[] }
theorem bN : Tryz.prog.info? 3 = some I3 := by kernel_rfl
theorem I3s : I3.size = 1 := by kernel_rfl
theorem I3b : I3.bytes = 8 := by kernel_rfl
theorem bL : dV Tryz.prog 3 = some [.int .i64 0] := by kernel_rfl
theorem bO {need : Nat} : cU Tryz.prog 3 1 8 need = decide (8 * need ≤ 1000000) := grow_of bL rfl (by decide)
theorem sz4 : bZ Tryz.prog 4 = some 1 := by kernel_rfl
noncomputable def I4 : TypeInfo := (Tryz.prog.info? 4).getD { desc := .bool, str := "", size := 0, bytes := 0, hasPointers := false, align := 0, fieldAlign := 0, zero := none, comparable := false, methods := #[] }
theorem dC : Tryz.prog.info? 4 = some I4 := by kernel_rfl
theorem I4s : I4.size = 1 := by kernel_rfl
theorem I4b : I4.bytes = 1 := by kernel_rfl
theorem cY : dV Tryz.prog 4 = some [.bool false] := by kernel_rfl
theorem dD {need : Nat} : cU Tryz.prog 4 1 1 need = decide (1 * need ≤ 1000000) := grow_of cY rfl (by decide)
theorem sz5 : bZ Tryz.prog 5 = some 1 := by kernel_rfl
noncomputable def I5 : TypeInfo := (Tryz.prog.info? 5).getD { desc := .bool, str := "", size := 0, bytes := 0, hasPointers := false, align := 0, fieldAlign := 0, zero := none, comparable := false, methods := #[] }
theorem dK : Tryz.prog.info? 5 = some I5 := by kernel_rfl
theorem I5s : I5.size = 1 := by kernel_rfl
theorem I5b : I5.bytes = 1 := by kernel_rfl
theorem dG : dV Tryz.prog 5 = some [.int .u8 0] := by kernel_rfl
theorem dL {need : Nat} : cU Tryz.prog 5 1 1 need = decide (1 * need ≤ 1000000) := grow_of dG rfl (by decide)
theorem sz9 : bZ Tryz.prog 9 = some 1 := by kernel_rfl
noncomputable def I9 : TypeInfo := (Tryz.prog.info? 9).getD { desc := .bool, str := "", size := 0, bytes := 0, hasPointers := false, align := 0, fieldAlign := 0, zero := none, comparable := false, methods := #[] }
theorem bI : Tryz.prog.info? 9 = some I9 := by kernel_rfl
theorem I9s : I9.size = 1 := by kernel_rfl
theorem I9b : I9.bytes = 16 := by kernel_rfl
theorem bH : dV Tryz.prog 9 = some [.str []] := by kernel_rfl
theorem bJ {need : Nat} : cU Tryz.prog 9 1 16 need = decide (16 * need ≤ 1000000) := grow_of bH rfl (by decide)
theorem sz21 : bZ Tryz.prog 21 = some 1 := by kernel_rfl
noncomputable def I21 : TypeInfo := (Tryz.prog.info? 21).getD { desc := .bool, str := "", size := 0, bytes := 0, hasPointers := false, align := 0, fieldAlign := 0, zero := none, comparable := false, methods := #[] }
theorem info21 : Tryz.prog.info? 21 = some I21 := by kernel_rfl
theorem I21s : I21.size = 1 := by kernel_rfl
theorem I21b : I21.bytes = 4 := by kernel_rfl
theorem zero21 : dV Tryz.prog 21 = some [.int .i32 0] := by kernel_rfl
theorem grow21 {need : Nat} : cU Tryz.prog 21 1 4 need = decide (4 * need ≤ 1000000) := grow_of zero21 rfl (by decide)
theorem eN : bZ Tryz.prog 22 = some 1 := by kernel_rfl
noncomputable def I22 : TypeInfo := (Tryz.prog.info? 22).getD { desc := .bool, str := "", size := 0, bytes := 0, hasPointers := false, align := 0, fieldAlign := 0, zero := none, comparable := false, methods := #[] }
theorem dO : Tryz.prog.info? 22 = some I22 := by kernel_rfl
theorem eO : I22.size = 1 := by kernel_rfl
theorem eP : I22.bytes = 24 := by kernel_rfl
theorem dH : dV Tryz.prog 22 = some [.nilslice] := by kernel_rfl
theorem dP {need : Nat} : cU Tryz.prog 22 1 24 need = decide (24 * need ≤ 1000000) := grow_of dH rfl (by decide)
theorem sz24 : bZ Tryz.prog 24 = some 4 := by kernel_rfl
noncomputable def I24 : TypeInfo := (Tryz.prog.info? 24).getD { desc := .bool, str := "", size := 0, bytes := 0, hasPointers := false, align := 0, fieldAlign := 0, zero := none, comparable := false, methods := #[] }
theorem info24 : Tryz.prog.info? 24 = some I24 := by kernel_rfl
theorem I24s : I24.size = 4 := by kernel_rfl
theorem I24b : I24.bytes = 64 := by kernel_rfl
theorem zero24 : dV Tryz.prog 24 = some [.str [], .str [], .bool false, .nilslice] := by kernel_rfl
theorem grow24 {need : Nat} : cU Tryz.prog 24 4 64 need = decide (64 * need ≤ 1000000) := grow_of zero24 rfl (by decide)
theorem fok24 : fieldsOK Tryz.prog #[{ name := "Pitches", type := 9, offset := 0, embedded := false, tag := "", pkgPath := "", byteOffset := 0 }, { name := "Event", type := 9, offset := 1, embedded := false, tag := "", pkgPath := "", byteOffset := 16 }, { name := "Late", type := 4, offset := 2, embedded := false, tag := "", pkgPath := "", byteOffset := 32 }, { name := "Moves", type := 22, offset := 3, embedded := false, tag := "", pkgPath := "", byteOffset := 40 }] = true := by kernel_rfl
theorem eB : bZ Tryz.prog 25 = some 1 := by kernel_rfl
noncomputable def I25 : TypeInfo := (Tryz.prog.info? 25).getD { desc := .bool, str := "", size := 0, bytes := 0, hasPointers := false, align := 0, fieldAlign := 0, zero := none, comparable := false, methods := #[] }
theorem cE : Tryz.prog.info? 25 = some I25 := by kernel_rfl
theorem eC : I25.size = 1 := by kernel_rfl
theorem eD : I25.bytes = 24 := by kernel_rfl
theorem cC : dV Tryz.prog 25 = some [.nilslice] := by kernel_rfl
theorem cF {need : Nat} : cU Tryz.prog 25 1 24 need = decide (24 * need ≤ 1000000) := grow_of cC rfl (by decide)
theorem eE : bZ Tryz.prog 27 = some 5 := by kernel_rfl
noncomputable def I27 : TypeInfo := (Tryz.prog.info? 27).getD { desc := .bool, str := "", size := 0, bytes := 0, hasPointers := false, align := 0, fieldAlign := 0, zero := none, comparable := false, methods := #[] }
theorem cJ : Tryz.prog.info? 27 = some I27 := by kernel_rfl
theorem eF : I27.size = 5 := by kernel_rfl
theorem eG : I27.bytes = 64 := by kernel_rfl
theorem cH : dV Tryz.prog 27 = some [.int .i64 0, .int .i64 0, .bool false, .str [], .nilslice] := by kernel_rfl
theorem cK {need : Nat} : cU Tryz.prog 27 5 64 need = decide (64 * need ≤ 1000000) := grow_of cH rfl (by decide)
theorem dF : fieldsOK Tryz.prog #[{ name := "From", type := 3, offset := 0, embedded := false, tag := "", pkgPath := "", byteOffset := 0 }, { name := "To", type := 3, offset := 1, embedded := false, tag := "", pkgPath := "", byteOffset := 8 }, { name := "Out", type := 4, offset := 2, embedded := false, tag := "", pkgPath := "", byteOffset := 16 }, { name := "How", type := 9, offset := 3, embedded := false, tag := "", pkgPath := "", byteOffset := 24 }, { name := "By", type := 25, offset := 4, embedded := false, tag := "", pkgPath := "", byteOffset := 40 }] = true := by kernel_rfl
theorem sz30 : bZ Tryz.prog 30 = some 1 := by kernel_rfl
noncomputable def I30 : TypeInfo := (Tryz.prog.info? 30).getD { desc := .bool, str := "", size := 0, bytes := 0, hasPointers := false, align := 0, fieldAlign := 0, zero := none, comparable := false, methods := #[] }
theorem info30 : Tryz.prog.info? 30 = some I30 := by kernel_rfl
theorem I30s : I30.size = 1 := by kernel_rfl
theorem I30b : I30.bytes = 8 := by kernel_rfl
theorem zero30 : dV Tryz.prog 30 = some [.int .i64 0] := by kernel_rfl
theorem grow30 {need : Nat} : cU Tryz.prog 30 1 8 need = decide (8 * need ≤ 1000000) := grow_of zero30 rfl (by decide)
theorem sz54 : bZ Tryz.prog 54 = some 1 := by kernel_rfl
noncomputable def I54 : TypeInfo := (Tryz.prog.info? 54).getD { desc := .bool, str := "", size := 0, bytes := 0, hasPointers := false, align := 0, fieldAlign := 0, zero := none, comparable := false, methods := #[] }
theorem info54 : Tryz.prog.info? 54 = some I54 := by kernel_rfl
theorem I54s : I54.size = 1 := by kernel_rfl
theorem I54b : I54.bytes = 24 := by kernel_rfl
theorem zero54 : dV Tryz.prog 54 = some [.nilslice] := by kernel_rfl
theorem grow54 {need : Nat} : cU Tryz.prog 54 1 24 need = decide (24 * need ≤ 1000000) := grow_of zero54 rfl (by decide)
theorem sz56 : bZ Tryz.prog 56 = some 1 := by kernel_rfl
noncomputable def I56 : TypeInfo := (Tryz.prog.info? 56).getD { desc := .bool, str := "", size := 0, bytes := 0, hasPointers := false, align := 0, fieldAlign := 0, zero := none, comparable := false, methods := #[] }
theorem info56 : Tryz.prog.info? 56 = some I56 := by kernel_rfl
theorem I56s : I56.size = 1 := by kernel_rfl
theorem I56b : I56.bytes = 24 := by kernel_rfl
theorem zero56 : dV Tryz.prog 56 = some [.nilslice] := by kernel_rfl
theorem grow56 {need : Nat} : cU Tryz.prog 56 1 24 need = decide (24 * need ≤ 1000000) := grow_of zero56 rfl (by decide)
theorem sz125 : bZ Tryz.prog 125 = some 1 := by kernel_rfl
noncomputable def I125 : TypeInfo := (Tryz.prog.info? 125).getD { desc := .bool, str := "", size := 0, bytes := 0, hasPointers := false, align := 0, fieldAlign := 0, zero := none, comparable := false, methods := #[] }
theorem info125 : Tryz.prog.info? 125 = some I125 := by kernel_rfl
theorem I125s : I125.size = 1 := by kernel_rfl
theorem I125b : I125.bytes = 8 := by kernel_rfl
theorem zero125 : dV Tryz.prog 125 = some [.nilfunc] := by kernel_rfl
theorem grow125 {need : Nat} : cU Tryz.prog 125 1 8 need = decide (8 * need ≤ 1000000) := grow_of zero125 rfl (by decide)
theorem sz134 : bZ Tryz.prog 134 = some 1 := by kernel_rfl
noncomputable def I134 : TypeInfo := (Tryz.prog.info? 134).getD { desc := .bool, str := "", size := 0, bytes := 0, hasPointers := false, align := 0, fieldAlign := 0, zero := none, comparable := false, methods := #[] }
theorem info134 : Tryz.prog.info? 134 = some I134 := by kernel_rfl
theorem I134s : I134.size = 1 := by kernel_rfl
theorem I134b : I134.bytes = 8 := by kernel_rfl
theorem zero134 : dV Tryz.prog 134 = some [.nilp] := by kernel_rfl
theorem grow134 {need : Nat} : cU Tryz.prog 134 1 8 need = decide (8 * need ≤ 1000000) := grow_of zero134 rfl (by decide)
theorem sz135 : bZ Tryz.prog 135 = some 1 := by kernel_rfl
noncomputable def I135 : TypeInfo := (Tryz.prog.info? 135).getD { desc := .bool, str := "", size := 0, bytes := 0, hasPointers := false, align := 0, fieldAlign := 0, zero := none, comparable := false, methods := #[] }
theorem info135 : Tryz.prog.info? 135 = some I135 := by kernel_rfl
theorem I135s : I135.size = 1 := by kernel_rfl
theorem I135b : I135.bytes = 24 := by kernel_rfl
theorem zero135 : dV Tryz.prog 135 = some [.nilslice] := by kernel_rfl
theorem grow135 {need : Nat} : cU Tryz.prog 135 1 24 need = decide (24 * need ≤ 1000000) := grow_of zero135 rfl (by decide)
theorem sz137 : bZ Tryz.prog 137 = some 2 := by kernel_rfl
noncomputable def I137 : TypeInfo := (Tryz.prog.info? 137).getD { desc := .bool, str := "", size := 0, bytes := 0, hasPointers := false, align := 0, fieldAlign := 0, zero := none, comparable := false, methods := #[] }
theorem info137 : Tryz.prog.info? 137 = some I137 := by kernel_rfl
theorem I137s : I137.size = 2 := by kernel_rfl
theorem I137b : I137.bytes = 32 := by kernel_rfl
theorem zero137 : dV Tryz.prog 137 = some [.nilp, .nilslice] := by kernel_rfl
theorem grow137 {need : Nat} : cU Tryz.prog 137 2 32 need = decide (32 * need ≤ 1000000) := grow_of zero137 rfl (by decide)
theorem fok137 : fieldsOK Tryz.prog #[{ name := "addr", type := 134, offset := 0, embedded := false, tag := "", pkgPath := "strings", byteOffset := 0 }, { name := "buf", type := 135, offset := 1, embedded := false, tag := "", pkgPath := "strings", byteOffset := 8 }] = true := by kernel_rfl
theorem sz158 : bZ Tryz.prog 158 = some 1 := by kernel_rfl
noncomputable def I158 : TypeInfo := (Tryz.prog.info? 158).getD { desc := .bool, str := "", size := 0, bytes := 0, hasPointers := false, align := 0, fieldAlign := 0, zero := none, comparable := false, methods := #[] }
theorem info158 : Tryz.prog.info? 158 = some I158 := by kernel_rfl
theorem I158s : I158.size = 1 := by kernel_rfl
theorem I158b : I158.bytes = 24 := by kernel_rfl
theorem zero158 : dV Tryz.prog 158 = some [.nilslice] := by kernel_rfl
theorem grow158 {need : Nat} : cU Tryz.prog 158 1 24 need = decide (24 * need ≤ 1000000) := grow_of zero158 rfl (by decide)
theorem sz160 : bZ Tryz.prog 160 = some 4 := by kernel_rfl
noncomputable def I160 : TypeInfo := (Tryz.prog.info? 160).getD { desc := .bool, str := "", size := 0, bytes := 0, hasPointers := false, align := 0, fieldAlign := 0, zero := none, comparable := false, methods := #[] }
theorem info160 : Tryz.prog.info? 160 = some I160 := by kernel_rfl
theorem I160s : I160.size = 4 := by kernel_rfl
theorem I160b : I160.bytes = 40 := by kernel_rfl
theorem zero160 : dV Tryz.prog 160 = some [.bool false, .str [], .int .i64 0, .int .i64 0] := by kernel_rfl
theorem grow160 {need : Nat} : cU Tryz.prog 160 4 40 need = decide (40 * need ≤ 1000000) := grow_of zero160 rfl (by decide)
theorem fok160 : fieldsOK Tryz.prog #[{ name := "out", type := 4, offset := 0, embedded := false, tag := "", pkgPath := "dugout/play", byteOffset := 0 }, { name := "letter", type := 9, offset := 1, embedded := false, tag := "", pkgPath := "dugout/play", byteOffset := 8 }, { name := "batter", type := 3, offset := 2, embedded := false, tag := "", pkgPath := "dugout/play", byteOffset := 24 }, { name := "runner", type := 3, offset := 3, embedded := false, tag := "", pkgPath := "dugout/play", byteOffset := 32 }] = true := by kernel_rfl
theorem sz169 : bZ Tryz.prog 169 = some 1 := by kernel_rfl
noncomputable def I169 : TypeInfo := (Tryz.prog.info? 169).getD { desc := .bool, str := "", size := 0, bytes := 0, hasPointers := false, align := 0, fieldAlign := 0, zero := none, comparable := false, methods := #[] }
theorem info169 : Tryz.prog.info? 169 = some I169 := by kernel_rfl
theorem I169s : I169.size = 1 := by kernel_rfl
theorem I169b : I169.bytes = 8 := by kernel_rfl
theorem zero169 : dV Tryz.prog 169 = some [.nilp] := by kernel_rfl
theorem grow169 {need : Nat} : cU Tryz.prog 169 1 8 need = decide (8 * need ≤ 1000000) := grow_of zero169 rfl (by decide)
theorem sz181 : bZ Tryz.prog 181 = some 56 := by kernel_rfl
noncomputable def I181 : TypeInfo := (Tryz.prog.info? 181).getD { desc := .bool, str := "", size := 0, bytes := 0, hasPointers := false, align := 0, fieldAlign := 0, zero := none, comparable := false, methods := #[] }
theorem info181 : Tryz.prog.info? 181 = some I181 := by kernel_rfl
theorem I181s : I181.size = 56 := by kernel_rfl
theorem sz210 : bZ Tryz.prog 210 = some 1 := by kernel_rfl
noncomputable def I210 : TypeInfo := (Tryz.prog.info? 210).getD { desc := .bool, str := "", size := 0, bytes := 0, hasPointers := false, align := 0, fieldAlign := 0, zero := none, comparable := false, methods := #[] }
theorem info210 : Tryz.prog.info? 210 = some I210 := by kernel_rfl
theorem I210s : I210.size = 1 := by kernel_rfl
theorem I210b : I210.bytes = 4 := by kernel_rfl
theorem zero210 : dV Tryz.prog 210 = some [.int .u32 0] := by kernel_rfl
theorem grow210 {need : Nat} : cU Tryz.prog 210 1 4 need = decide (4 * need ≤ 1000000) := grow_of zero210 rfl (by decide)
theorem body16 : Tryz.f16.body.isNone = false := by kernel_rfl
theorem call16 {h : H} {args : List EVal} : aN Tryz.prog h 16 args = some (.enter 16 args h) := aJ Tryz.func16 body16
theorem body17 : Tryz.f17.body.isNone = false := by kernel_rfl
theorem call17 {h : H} {args : List EVal} : aN Tryz.prog h 17 args = some (.enter 17 args h) := aJ Tryz.func17 body17
theorem body18 : Tryz.f18.body.isNone = false := by kernel_rfl
theorem call18 {h : H} {args : List EVal} : aN Tryz.prog h 18 args = some (.enter 18 args h) := aJ Tryz.func18 body18
theorem body20 : Tryz.f20.body.isNone = false := by kernel_rfl
theorem call20 {h : H} {args : List EVal} : aN Tryz.prog h 20 args = some (.enter 20 args h) := aJ Tryz.func20 body20
theorem body21 : Tryz.f21.body.isNone = false := by kernel_rfl
theorem call21 {h : H} {args : List EVal} : aN Tryz.prog h 21 args = some (.enter 21 args h) := aJ Tryz.func21 body21
theorem body22 : Tryz.f22.body.isNone = false := by kernel_rfl
theorem call22 {h : H} {args : List EVal} : aN Tryz.prog h 22 args = some (.enter 22 args h) := aJ Tryz.func22 body22
theorem body23 : Tryz.f23.body.isNone = false := by kernel_rfl
theorem call23 {h : H} {args : List EVal} : aN Tryz.prog h 23 args = some (.enter 23 args h) := aJ Tryz.func23 body23
theorem body30 : Tryz.f30.body.isNone = false := by kernel_rfl
theorem call30 {h : H} {args : List EVal} : aN Tryz.prog h 30 args = some (.enter 30 args h) := aJ Tryz.func30 body30
theorem body31 : Tryz.f31.body.isNone = false := by kernel_rfl
theorem call31 {h : H} {args : List EVal} : aN Tryz.prog h 31 args = some (.enter 31 args h) := aJ Tryz.func31 body31
theorem body32 : Tryz.f32.body.isNone = false := by kernel_rfl
theorem call32 {h : H} {args : List EVal} : aN Tryz.prog h 32 args = some (.enter 32 args h) := aJ Tryz.func32 body32
theorem body33 : Tryz.f33.body.isNone = false := by kernel_rfl
theorem call33 {h : H} {args : List EVal} : aN Tryz.prog h 33 args = some (.enter 33 args h) := aJ Tryz.func33 body33
theorem body34 : Tryz.f34.body.isNone = false := by kernel_rfl
theorem call34 {h : H} {args : List EVal} : aN Tryz.prog h 34 args = some (.enter 34 args h) := aJ Tryz.func34 body34
theorem body35 : Tryz.f35.body.isNone = false := by kernel_rfl
theorem call35 {h : H} {args : List EVal} : aN Tryz.prog h 35 args = some (.enter 35 args h) := aJ Tryz.func35 body35
theorem body36 : Tryz.f36.body.isNone = false := by kernel_rfl
theorem call36 {h : H} {args : List EVal} : aN Tryz.prog h 36 args = some (.enter 36 args h) := aJ Tryz.func36 body36
theorem body37 : Tryz.f37.body.isNone = false := by kernel_rfl
theorem call37 {h : H} {args : List EVal} : aN Tryz.prog h 37 args = some (.enter 37 args h) := aJ Tryz.func37 body37
theorem body38 : Tryz.f38.body.isNone = false := by kernel_rfl
theorem call38 {h : H} {args : List EVal} : aN Tryz.prog h 38 args = some (.enter 38 args h) := aJ Tryz.func38 body38
theorem body39 : Tryz.f39.body.isNone = false := by kernel_rfl
theorem call39 {h : H} {args : List EVal} : aN Tryz.prog h 39 args = some (.enter 39 args h) := aJ Tryz.func39 body39
theorem body40 : Tryz.f40.body.isNone = false := by kernel_rfl
theorem call40 {h : H} {args : List EVal} : aN Tryz.prog h 40 args = some (.enter 40 args h) := aJ Tryz.func40 body40
theorem body41 : Tryz.f41.body.isNone = false := by kernel_rfl
theorem call41 {h : H} {args : List EVal} : aN Tryz.prog h 41 args = some (.enter 41 args h) := aJ Tryz.func41 body41
theorem body42 : Tryz.f42.body.isNone = false := by kernel_rfl
theorem call42 {h : H} {args : List EVal} : aN Tryz.prog h 42 args = some (.enter 42 args h) := aJ Tryz.func42 body42
theorem body43 : Tryz.f43.body.isNone = false := by kernel_rfl
theorem call43 {h : H} {args : List EVal} : aN Tryz.prog h 43 args = some (.enter 43 args h) := aJ Tryz.func43 body43
theorem body47 : Tryz.f47.body.isNone = false := by kernel_rfl
theorem call47 {h : H} {args : List EVal} : aN Tryz.prog h 47 args = some (.enter 47 args h) := aJ Tryz.func47 body47
theorem body61 : Tryz.f61.body.isNone = false := by kernel_rfl
theorem call61 {h : H} {args : List EVal} : aN Tryz.prog h 61 args = some (.enter 61 args h) := aJ Tryz.func61 body61
theorem body66 : Tryz.f66.body.isNone = false := by kernel_rfl
theorem call66 {h : H} {args : List EVal} : aN Tryz.prog h 66 args = some (.enter 66 args h) := aJ Tryz.func66 body66
theorem body74 : Tryz.f74.body.isNone = false := by kernel_rfl
theorem call74 {h : H} {args : List EVal} : aN Tryz.prog h 74 args = some (.enter 74 args h) := aJ Tryz.func74 body74
theorem body78 : Tryz.f78.body.isNone = false := by kernel_rfl
theorem call78 {h : H} {args : List EVal} : aN Tryz.prog h 78 args = some (.enter 78 args h) := aJ Tryz.func78 body78
theorem body79 : Tryz.f79.body.isNone = false := by kernel_rfl
theorem call79 {h : H} {args : List EVal} : aN Tryz.prog h 79 args = some (.enter 79 args h) := aJ Tryz.func79 body79
theorem body80 : Tryz.f80.body.isNone = false := by kernel_rfl
theorem call80 {h : H} {args : List EVal} : aN Tryz.prog h 80 args = some (.enter 80 args h) := aJ Tryz.func80 body80
theorem body81 : Tryz.f81.body.isNone = false := by kernel_rfl
theorem call81 {h : H} {args : List EVal} : aN Tryz.prog h 81 args = some (.enter 81 args h) := aJ Tryz.func81 body81
theorem body82 : Tryz.f82.body.isNone = false := by kernel_rfl
theorem call82 {h : H} {args : List EVal} : aN Tryz.prog h 82 args = some (.enter 82 args h) := aJ Tryz.func82 body82
theorem body83 : Tryz.f83.body.isNone = false := by kernel_rfl
theorem call83 {h : H} {args : List EVal} : aN Tryz.prog h 83 args = some (.enter 83 args h) := aJ Tryz.func83 body83
theorem body84 : Tryz.f84.body.isNone = false := by kernel_rfl
theorem call84 {h : H} {args : List EVal} : aN Tryz.prog h 84 args = some (.enter 84 args h) := aJ Tryz.func84 body84
theorem body85 : Tryz.f85.body.isNone = false := by kernel_rfl
theorem call85 {h : H} {args : List EVal} : aN Tryz.prog h 85 args = some (.enter 85 args h) := aJ Tryz.func85 body85
theorem body86 : Tryz.f86.body.isNone = false := by kernel_rfl
theorem call86 {h : H} {args : List EVal} : aN Tryz.prog h 86 args = some (.enter 86 args h) := aJ Tryz.func86 body86
theorem body87 : Tryz.f87.body.isNone = false := by kernel_rfl
theorem call87 {h : H} {args : List EVal} : aN Tryz.prog h 87 args = some (.enter 87 args h) := aJ Tryz.func87 body87
theorem body88 : Tryz.f88.body.isNone = false := by kernel_rfl
theorem call88 {h : H} {args : List EVal} : aN Tryz.prog h 88 args = some (.enter 88 args h) := aJ Tryz.func88 body88
theorem body89 : Tryz.f89.body.isNone = false := by kernel_rfl
theorem call89 {h : H} {args : List EVal} : aN Tryz.prog h 89 args = some (.enter 89 args h) := aJ Tryz.func89 body89
theorem body90 : Tryz.f90.body.isNone = false := by kernel_rfl
theorem call90 {h : H} {args : List EVal} : aN Tryz.prog h 90 args = some (.enter 90 args h) := aJ Tryz.func90 body90
theorem body91 : Tryz.f91.body.isNone = false := by kernel_rfl
theorem call91 {h : H} {args : List EVal} : aN Tryz.prog h 91 args = some (.enter 91 args h) := aJ Tryz.func91 body91
theorem body92 : Tryz.f92.body.isNone = false := by kernel_rfl
theorem call92 {h : H} {args : List EVal} : aN Tryz.prog h 92 args = some (.enter 92 args h) := aJ Tryz.func92 body92
theorem body93 : Tryz.f93.body.isNone = false := by kernel_rfl
theorem call93 {h : H} {args : List EVal} : aN Tryz.prog h 93 args = some (.enter 93 args h) := aJ Tryz.func93 body93
theorem body95 : Tryz.f95.body.isNone = false := by kernel_rfl
theorem call95 {h : H} {args : List EVal} : aN Tryz.prog h 95 args = some (.enter 95 args h) := aJ Tryz.func95 body95
theorem body97 : Tryz.f97.body.isNone = false := by kernel_rfl
theorem call97 {h : H} {args : List EVal} : aN Tryz.prog h 97 args = some (.enter 97 args h) := aJ Tryz.func97 body97
theorem body98 : Tryz.f98.body.isNone = false := by kernel_rfl
theorem call98 {h : H} {args : List EVal} : aN Tryz.prog h 98 args = some (.enter 98 args h) := aJ Tryz.func98 body98
theorem body99 : Tryz.f99.body.isNone = false := by kernel_rfl
theorem call99 {h : H} {args : List EVal} : aN Tryz.prog h 99 args = some (.enter 99 args h) := aJ Tryz.func99 body99
theorem body100 : Tryz.f100.body.isNone = false := by kernel_rfl
theorem call100 {h : H} {args : List EVal} : aN Tryz.prog h 100 args = some (.enter 100 args h) := aJ Tryz.func100 body100
theorem body101 : Tryz.f101.body.isNone = false := by kernel_rfl
theorem call101 {h : H} {args : List EVal} : aN Tryz.prog h 101 args = some (.enter 101 args h) := aJ Tryz.func101 body101
theorem body102 : Tryz.f102.body.isNone = false := by kernel_rfl
theorem call102 {h : H} {args : List EVal} : aN Tryz.prog h 102 args = some (.enter 102 args h) := aJ Tryz.func102 body102
theorem body103 : Tryz.f103.body.isNone = false := by kernel_rfl
theorem call103 {h : H} {args : List EVal} : aN Tryz.prog h 103 args = some (.enter 103 args h) := aJ Tryz.func103 body103
theorem body104 : Tryz.f104.body.isNone = false := by kernel_rfl
theorem call104 {h : H} {args : List EVal} : aN Tryz.prog h 104 args = some (.enter 104 args h) := aJ Tryz.func104 body104
theorem body105 : Tryz.f105.body.isNone = false := by kernel_rfl
theorem call105 {h : H} {args : List EVal} : aN Tryz.prog h 105 args = some (.enter 105 args h) := aJ Tryz.func105 body105
theorem body106 : Tryz.f106.body.isNone = false := by kernel_rfl
theorem call106 {h : H} {args : List EVal} : aN Tryz.prog h 106 args = some (.enter 106 args h) := aJ Tryz.func106 body106
theorem body107 : Tryz.f107.body.isNone = false := by kernel_rfl
theorem call107 {h : H} {args : List EVal} : aN Tryz.prog h 107 args = some (.enter 107 args h) := aJ Tryz.func107 body107
theorem body108 : Tryz.f108.body.isNone = false := by kernel_rfl
theorem call108 {h : H} {args : List EVal} : aN Tryz.prog h 108 args = some (.enter 108 args h) := aJ Tryz.func108 body108
theorem body109 : Tryz.f109.body.isNone = false := by kernel_rfl
theorem call109 {h : H} {args : List EVal} : aN Tryz.prog h 109 args = some (.enter 109 args h) := aJ Tryz.func109 body109
theorem body110 : Tryz.f110.body.isNone = false := by kernel_rfl
theorem call110 {h : H} {args : List EVal} : aN Tryz.prog h 110 args = some (.enter 110 args h) := aJ Tryz.func110 body110
theorem body117 : Tryz.f117.body.isNone = false := by kernel_rfl
theorem call117 {h : H} {args : List EVal} : aN Tryz.prog h 117 args = some (.enter 117 args h) := aJ Tryz.func117 body117
theorem body119 : Tryz.f119.body.isNone = false := by kernel_rfl
theorem call119 {h : H} {args : List EVal} : aN Tryz.prog h 119 args = some (.enter 119 args h) := aJ Tryz.func119 body119
theorem body130 : Tryz.f130.body.isNone = false := by kernel_rfl
theorem call130 {h : H} {args : List EVal} : aN Tryz.prog h 130 args = some (.enter 130 args h) := aJ Tryz.func130 body130
theorem body131 : Tryz.f131.body.isNone = false := by kernel_rfl
theorem call131 {h : H} {args : List EVal} : aN Tryz.prog h 131 args = some (.enter 131 args h) := aJ Tryz.func131 body131
theorem body132 : Tryz.f132.body.isNone = false := by kernel_rfl
theorem call132 {h : H} {args : List EVal} : aN Tryz.prog h 132 args = some (.enter 132 args h) := aJ Tryz.func132 body132
theorem body133 : Tryz.f133.body.isNone = false := by kernel_rfl
theorem call133 {h : H} {args : List EVal} : aN Tryz.prog h 133 args = some (.enter 133 args h) := aJ Tryz.func133 body133
theorem body134 : Tryz.f134.body.isNone = false := by kernel_rfl
theorem call134 {h : H} {args : List EVal} : aN Tryz.prog h 134 args = some (.enter 134 args h) := aJ Tryz.func134 body134
theorem body135 : Tryz.f135.body.isNone = false := by kernel_rfl
theorem call135 {h : H} {args : List EVal} : aN Tryz.prog h 135 args = some (.enter 135 args h) := aJ Tryz.func135 body135
theorem body136 : Tryz.f136.body.isNone = false := by kernel_rfl
theorem call136 {h : H} {args : List EVal} : aN Tryz.prog h 136 args = some (.enter 136 args h) := aJ Tryz.func136 body136
theorem body137 : Tryz.f137.body.isNone = false := by kernel_rfl
theorem call137 {h : H} {args : List EVal} : aN Tryz.prog h 137 args = some (.enter 137 args h) := aJ Tryz.func137 body137
theorem body138 : Tryz.f138.body.isNone = false := by kernel_rfl
theorem call138 {h : H} {args : List EVal} : aN Tryz.prog h 138 args = some (.enter 138 args h) := aJ Tryz.func138 body138
theorem body139 : Tryz.f139.body.isNone = false := by kernel_rfl
theorem call139 {h : H} {args : List EVal} : aN Tryz.prog h 139 args = some (.enter 139 args h) := aJ Tryz.func139 body139
theorem body140 : Tryz.f140.body.isNone = false := by kernel_rfl
theorem call140 {h : H} {args : List EVal} : aN Tryz.prog h 140 args = some (.enter 140 args h) := aJ Tryz.func140 body140
theorem body141 : Tryz.f141.body.isNone = false := by kernel_rfl
theorem call141 {h : H} {args : List EVal} : aN Tryz.prog h 141 args = some (.enter 141 args h) := aJ Tryz.func141 body141
theorem body142 : Tryz.f142.body.isNone = false := by kernel_rfl
theorem call142 {h : H} {args : List EVal} : aN Tryz.prog h 142 args = some (.enter 142 args h) := aJ Tryz.func142 body142
theorem body143 : Tryz.f143.body.isNone = false := by kernel_rfl
theorem call143 {h : H} {args : List EVal} : aN Tryz.prog h 143 args = some (.enter 143 args h) := aJ Tryz.func143 body143
theorem body145 : Tryz.f145.body.isNone = false := by kernel_rfl
theorem call145 {h : H} {args : List EVal} : aN Tryz.prog h 145 args = some (.enter 145 args h) := aJ Tryz.func145 body145
theorem body146 : Tryz.f146.body.isNone = false := by kernel_rfl
theorem call146 {h : H} {args : List EVal} : aN Tryz.prog h 146 args = some (.enter 146 args h) := aJ Tryz.func146 body146
theorem body154 : Tryz.f154.body.isNone = false := by kernel_rfl
theorem call154 {h : H} {args : List EVal} : aN Tryz.prog h 154 args = some (.enter 154 args h) := aJ Tryz.func154 body154
theorem body160 : Tryz.f160.body.isNone = false := by kernel_rfl
theorem call160 {h : H} {args : List EVal} : aN Tryz.prog h 160 args = some (.enter 160 args h) := aJ Tryz.func160 body160
theorem body161 : Tryz.f161.body.isNone = false := by kernel_rfl
theorem call161 {h : H} {args : List EVal} : aN Tryz.prog h 161 args = some (.enter 161 args h) := aJ Tryz.func161 body161
theorem body162 : Tryz.f162.body.isNone = false := by kernel_rfl
theorem call162 {h : H} {args : List EVal} : aN Tryz.prog h 162 args = some (.enter 162 args h) := aJ Tryz.func162 body162
theorem body163 : Tryz.f163.body.isNone = false := by kernel_rfl
theorem call163 {h : H} {args : List EVal} : aN Tryz.prog h 163 args = some (.enter 163 args h) := aJ Tryz.func163 body163
theorem body165 : Tryz.f165.body.isNone = false := by kernel_rfl
theorem call165 {h : H} {args : List EVal} : aN Tryz.prog h 165 args = some (.enter 165 args h) := aJ Tryz.func165 body165
theorem body166 : Tryz.f166.body.isNone = false := by kernel_rfl
theorem call166 {h : H} {args : List EVal} : aN Tryz.prog h 166 args = some (.enter 166 args h) := aJ Tryz.func166 body166
theorem body167 : Tryz.f167.body.isNone = false := by kernel_rfl
theorem call167 {h : H} {args : List EVal} : aN Tryz.prog h 167 args = some (.enter 167 args h) := aJ Tryz.func167 body167
theorem body168 : Tryz.f168.body.isNone = false := by kernel_rfl
theorem call168 {h : H} {args : List EVal} : aN Tryz.prog h 168 args = some (.enter 168 args h) := aJ Tryz.func168 body168
theorem body170 : Tryz.f170.body.isNone = false := by kernel_rfl
theorem call170 {h : H} {args : List EVal} : aN Tryz.prog h 170 args = some (.enter 170 args h) := aJ Tryz.func170 body170
theorem body171 : Tryz.f171.body.isNone = false := by kernel_rfl
theorem call171 {h : H} {args : List EVal} : aN Tryz.prog h 171 args = some (.enter 171 args h) := aJ Tryz.func171 body171
theorem body176 : Tryz.f176.body.isNone = false := by kernel_rfl
theorem call176 {h : H} {args : List EVal} : aN Tryz.prog h 176 args = some (.enter 176 args h) := aJ Tryz.func176 body176
theorem body180 : Tryz.f180.body.isNone = false := by kernel_rfl
theorem call180 {h : H} {args : List EVal} : aN Tryz.prog h 180 args = some (.enter 180 args h) := aJ Tryz.func180 body180
theorem body181 : Tryz.f181.body.isNone = false := by kernel_rfl
theorem call181 {h : H} {args : List EVal} : aN Tryz.prog h 181 args = some (.enter 181 args h) := aJ Tryz.func181 body181
theorem body182 : Tryz.f182.body.isNone = false := by kernel_rfl
theorem call182 {h : H} {args : List EVal} : aN Tryz.prog h 182 args = some (.enter 182 args h) := aJ Tryz.func182 body182
theorem body183 : Tryz.f183.body.isNone = false := by kernel_rfl
theorem call183 {h : H} {args : List EVal} : aN Tryz.prog h 183 args = some (.enter 183 args h) := aJ Tryz.func183 body183
theorem body185 : Tryz.f185.body.isNone = false := by kernel_rfl
theorem call185 {h : H} {args : List EVal} : aN Tryz.prog h 185 args = some (.enter 185 args h) := aJ Tryz.func185 body185
theorem body196 : Tryz.f196.body.isNone = false := by kernel_rfl
theorem call196 {h : H} {args : List EVal} : aN Tryz.prog h 196 args = some (.enter 196 args h) := aJ Tryz.func196 body196
theorem body197 : Tryz.f197.body.isNone = false := by kernel_rfl
theorem call197 {h : H} {args : List EVal} : aN Tryz.prog h 197 args = some (.enter 197 args h) := aJ Tryz.func197 body197
theorem body208 : Tryz.f208.body.isNone = false := by kernel_rfl
theorem call208 {h : H} {args : List EVal} : aN Tryz.prog h 208 args = some (.enter 208 args h) := aJ Tryz.func208 body208
theorem body209 : Tryz.f209.body.isNone = false := by kernel_rfl
theorem call209 {h : H} {args : List EVal} : aN Tryz.prog h 209 args = some (.enter 209 args h) := aJ Tryz.func209 body209
theorem body211 : Tryz.f211.body.isNone = false := by kernel_rfl
theorem call211 {h : H} {args : List EVal} : aN Tryz.prog h 211 args = some (.enter 211 args h) := aJ Tryz.func211 body211
theorem body220 : Tryz.f220.body.isNone = false := by kernel_rfl
theorem call220 {h : H} {args : List EVal} : aN Tryz.prog h 220 args = some (.enter 220 args h) := aJ Tryz.func220 body220
end Go.Ev
