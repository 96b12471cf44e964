import Derived.Test.YtdhnjbgggkdiiaaGreatDoorEvC
import Derived.Test.YtdhnjbgggkdiiaaGreatDoorRows
import Derived.Eval
set_option linter.unusedSimpArgs false
set_option linter.unusedVariables false
namespace Go.Ev
open Go.RowKit Go.Proofs

def waysL : List EVal := [.bool false, .str [98], .int .i64 3, .int .i64 3, .bool false, .str [97], .int .i64 3, .int .i64 3, .bool false, .str [115], .int .i64 0, .int .i64 3, .bool false, .str [112], .int .i64 3, .int .i64 3, .bool false, .str [107], .int .i64 0, .int .i64 3, .bool false, .str [116], .int .i64 3, .int .i64 3, .bool false, .str [111], .int .i64 3, .int .i64 3,
 .bool true, .str [102], .int .i64 2, .int .i64 2, .bool true, .str [103], .int .i64 3, .int .i64 4, .bool true, .str [99], .int .i64 2, .int .i64 0, .bool true, .str [100], .int .i64 0, .int .i64 1, .bool true, .str [107], .int .i64 2, .int .i64 0, .bool true, .str [110], .int .i64 2, .int .i64 3, .bool true, .str [121], .int .i64 2, .int .i64 0]
theorem ways_lay : layE Tryz.prog 5 181 Go.Proofs.YtdhnjbgggkdiiaaGreatDoor.Rows.laid_dugout_play_ways = some waysL := by kernel_rfl
theorem gWays : Tryz.prog.globalNamed "dugout/play.ways" = some 0 := by kernel_rfl
theorem gWaysType : (Tryz.prog.globals[0]?).map (·.type) = some 181 := by kernel_rfl
theorem mixed : Tryz.prog.follows .mixedOrders = true := Tryz.checked.mixed
theorem noNGb : (Tryz.prog.funcs.toList.all fun fn => !(fn.name == "runtime.NumGoroutine")) = true := by kernel_rfl
theorem aJ : NoNG Tryz.prog := fun f fn h => by
  have hm : fn ∈ Tryz.prog.funcs.toList := by
    rw [← Array.getElem?_toList] at h
    exact List.mem_of_getElem? h
  have := List.all_eq_true.1 noNGb fn hm
  simpa using this
noncomputable def gT : G := oneG 0 waysL
abbrev FnT := Fn Tryz.prog gT
end Go.Ev
namespace Go.Ev
open Go.RowKit Go.Proofs

noncomputable def I2 : TypeInfo := (Tryz.prog.info? 2).getD { desc := .bool, str := "", size := 0, bytes := 0, hasPointers := false, align := 0, fieldAlign := 0, zero := none, comparable := false, methods := #[] }
theorem sz3 : bY Tryz.prog 3 = some 1 := by kernel_rfl
noncomputable def I3 : TypeInfo := (Tryz.prog.info? 3).getD { desc := .bool, str := "", size := 0, bytes := 0, hasPointers := false, align := 0, fieldAlign := 0, zero := none, comparable := false, methods := #[] }
theorem bK : Tryz.prog.info? 3 = some I3 := by kernel_rfl
theorem I3s : I3.size = 1 := by kernel_rfl
theorem I3b : I3.bytes = 8 := by kernel_rfl
theorem bJ : dH Tryz.prog 3 = some [.int .i64 0] := by kernel_rfl
theorem bL {need : Nat} : cR Tryz.prog 3 1 8 need = decide (8 * need ≤ 1000000) := grow_of bJ rfl (by decide)
theorem sz4 : bY Tryz.prog 4 = some 1 := by kernel_rfl
noncomputable def I4 : TypeInfo := (Tryz.prog.info? 4).getD { desc := .bool, str := "", size := 0, bytes := 0, hasPointers := false, align := 0, fieldAlign := 0, zero := none, comparable := false, methods := #[] }
theorem cT : Tryz.prog.info? 4 = some I4 := by kernel_rfl
theorem I4s : I4.size = 1 := by kernel_rfl
theorem I4b : I4.bytes = 1 := by kernel_rfl
theorem cS : dH Tryz.prog 4 = some [.bool false] := by kernel_rfl
theorem cU {need : Nat} : cR Tryz.prog 4 1 1 need = decide (1 * need ≤ 1000000) := grow_of cS rfl (by decide)
theorem sz5 : bY Tryz.prog 5 = some 1 := by kernel_rfl
noncomputable def I5 : TypeInfo := (Tryz.prog.info? 5).getD { desc := .bool, str := "", size := 0, bytes := 0, hasPointers := false, align := 0, fieldAlign := 0, zero := none, comparable := false, methods := #[] }
theorem info5 : Tryz.prog.info? 5 = some I5 := by kernel_rfl
theorem I5s : I5.size = 1 := by kernel_rfl
theorem I5b : I5.bytes = 1 := by kernel_rfl
theorem zero5 : dH Tryz.prog 5 = some [.int .u8 0] := by kernel_rfl
theorem grow5 {need : Nat} : cR Tryz.prog 5 1 1 need = decide (1 * need ≤ 1000000) := grow_of zero5 rfl (by decide)
theorem sz9 : bY Tryz.prog 9 = some 1 := by kernel_rfl
noncomputable def I9 : TypeInfo := (Tryz.prog.info? 9).getD { desc := .bool, str := "", size := 0, bytes := 0, hasPointers := false, align := 0, fieldAlign := 0, zero := none, comparable := false, methods := #[] }
theorem bZ : Tryz.prog.info? 9 = some I9 := by kernel_rfl
theorem I9s : I9.size = 1 := by kernel_rfl
theorem I9b : I9.bytes = 16 := by kernel_rfl
theorem bX : dH Tryz.prog 9 = some [.str []] := by kernel_rfl
theorem cA {need : Nat} : cR Tryz.prog 9 1 16 need = decide (16 * need ≤ 1000000) := grow_of bX rfl (by decide)
theorem sz21 : bY Tryz.prog 21 = some 1 := by kernel_rfl
noncomputable def I21 : TypeInfo := (Tryz.prog.info? 21).getD { desc := .bool, str := "", size := 0, bytes := 0, hasPointers := false, align := 0, fieldAlign := 0, zero := none, comparable := false, methods := #[] }
theorem info21 : Tryz.prog.info? 21 = some I21 := by kernel_rfl
theorem I21s : I21.size = 1 := by kernel_rfl
theorem I21b : I21.bytes = 4 := by kernel_rfl
theorem zero21 : dH Tryz.prog 21 = some [.int .i32 0] := by kernel_rfl
theorem grow21 {need : Nat} : cR Tryz.prog 21 1 4 need = decide (4 * need ≤ 1000000) := grow_of zero21 rfl (by decide)
theorem dX : bY Tryz.prog 22 = some 1 := by kernel_rfl
noncomputable def I22 : TypeInfo := (Tryz.prog.info? 22).getD { desc := .bool, str := "", size := 0, bytes := 0, hasPointers := false, align := 0, fieldAlign := 0, zero := none, comparable := false, methods := #[] }
theorem cZ : Tryz.prog.info? 22 = some I22 := by kernel_rfl
theorem dY : I22.size = 1 := by kernel_rfl
theorem dZ : I22.bytes = 24 := by kernel_rfl
theorem cX : dH Tryz.prog 22 = some [.nilslice] := by kernel_rfl
theorem dA {need : Nat} : cR Tryz.prog 22 1 24 need = decide (24 * need ≤ 1000000) := grow_of cX rfl (by decide)
theorem sz24 : bY Tryz.prog 24 = some 4 := by kernel_rfl
noncomputable def I24 : TypeInfo := (Tryz.prog.info? 24).getD { desc := .bool, str := "", size := 0, bytes := 0, hasPointers := false, align := 0, fieldAlign := 0, zero := none, comparable := false, methods := #[] }
theorem info24 : Tryz.prog.info? 24 = some I24 := by kernel_rfl
theorem I24s : I24.size = 4 := by kernel_rfl
theorem I24b : I24.bytes = 64 := by kernel_rfl
theorem zero24 : dH Tryz.prog 24 = some [.str [], .str [], .bool false, .nilslice] := by kernel_rfl
theorem grow24 {need : Nat} : cR Tryz.prog 24 4 64 need = decide (64 * need ≤ 1000000) := grow_of zero24 rfl (by decide)
theorem fok24 : fieldsOK Tryz.prog #[{ name := "Pitches", type := 9, offset := 0, embedded := false, tag := "", pkgPath := "", byteOffset := 0 }, { name := "Event", type := 9, offset := 1, embedded := false, tag := "", pkgPath := "", byteOffset := 16 }, { name := "Late", type := 4, offset := 2, embedded := false, tag := "", pkgPath := "", byteOffset := 32 }, { name := "Moves", type := 22, offset := 3, embedded := false, tag := "", pkgPath := "", byteOffset := 40 }] = true := by kernel_rfl
theorem dI : bY Tryz.prog 25 = some 1 := by kernel_rfl
noncomputable def I25 : TypeInfo := (Tryz.prog.info? 25).getD { desc := .bool, str := "", size := 0, bytes := 0, hasPointers := false, align := 0, fieldAlign := 0, zero := none, comparable := false, methods := #[] }
theorem bQ : Tryz.prog.info? 25 = some I25 := by kernel_rfl
theorem dJ : I25.size = 1 := by kernel_rfl
theorem dK : I25.bytes = 24 := by kernel_rfl
theorem bP : dH Tryz.prog 25 = some [.nilslice] := by kernel_rfl
theorem bR {need : Nat} : cR Tryz.prog 25 1 24 need = decide (24 * need ≤ 1000000) := grow_of bP rfl (by decide)
theorem dN : bY Tryz.prog 27 = some 5 := by kernel_rfl
noncomputable def I27 : TypeInfo := (Tryz.prog.info? 27).getD { desc := .bool, str := "", size := 0, bytes := 0, hasPointers := false, align := 0, fieldAlign := 0, zero := none, comparable := false, methods := #[] }
theorem cF : Tryz.prog.info? 27 = some I27 := by kernel_rfl
theorem dO : I27.size = 5 := by kernel_rfl
theorem dP : I27.bytes = 64 := by kernel_rfl
theorem cC : dH Tryz.prog 27 = some [.int .i64 0, .int .i64 0, .bool false, .str [], .nilslice] := by kernel_rfl
theorem cG {need : Nat} : cR Tryz.prog 27 5 64 need = decide (64 * need ≤ 1000000) := grow_of cC rfl (by decide)
theorem cV : fieldsOK Tryz.prog #[{ name := "From", type := 3, offset := 0, embedded := false, tag := "", pkgPath := "", byteOffset := 0 }, { name := "To", type := 3, offset := 1, embedded := false, tag := "", pkgPath := "", byteOffset := 8 }, { name := "Out", type := 4, offset := 2, embedded := false, tag := "", pkgPath := "", byteOffset := 16 }, { name := "How", type := 9, offset := 3, embedded := false, tag := "", pkgPath := "", byteOffset := 24 }, { name := "By", type := 25, offset := 4, embedded := false, tag := "", pkgPath := "", byteOffset := 40 }] = true := by kernel_rfl
theorem sz30 : bY Tryz.prog 30 = some 1 := by kernel_rfl
noncomputable def I30 : TypeInfo := (Tryz.prog.info? 30).getD { desc := .bool, str := "", size := 0, bytes := 0, hasPointers := false, align := 0, fieldAlign := 0, zero := none, comparable := false, methods := #[] }
theorem info30 : Tryz.prog.info? 30 = some I30 := by kernel_rfl
theorem I30s : I30.size = 1 := by kernel_rfl
theorem I30b : I30.bytes = 8 := by kernel_rfl
theorem zero30 : dH Tryz.prog 30 = some [.int .i64 0] := by kernel_rfl
theorem grow30 {need : Nat} : cR Tryz.prog 30 1 8 need = decide (8 * need ≤ 1000000) := grow_of zero30 rfl (by decide)
theorem sz56 : bY Tryz.prog 56 = some 1 := by kernel_rfl
noncomputable def I56 : TypeInfo := (Tryz.prog.info? 56).getD { desc := .bool, str := "", size := 0, bytes := 0, hasPointers := false, align := 0, fieldAlign := 0, zero := none, comparable := false, methods := #[] }
theorem info56 : Tryz.prog.info? 56 = some I56 := by kernel_rfl
theorem I56s : I56.size = 1 := by kernel_rfl
theorem I56b : I56.bytes = 24 := by kernel_rfl
theorem zero56 : dH Tryz.prog 56 = some [.nilslice] := by kernel_rfl
theorem grow56 {need : Nat} : cR Tryz.prog 56 1 24 need = decide (24 * need ≤ 1000000) := grow_of zero56 rfl (by decide)
theorem sz123 : bY Tryz.prog 123 = some 1 := by kernel_rfl
noncomputable def I123 : TypeInfo := (Tryz.prog.info? 123).getD { desc := .bool, str := "", size := 0, bytes := 0, hasPointers := false, align := 0, fieldAlign := 0, zero := none, comparable := false, methods := #[] }
theorem info123 : Tryz.prog.info? 123 = some I123 := by kernel_rfl
theorem I123s : I123.size = 1 := by kernel_rfl
theorem I123b : I123.bytes = 8 := by kernel_rfl
theorem zero123 : dH Tryz.prog 123 = some [.nilfunc] := by kernel_rfl
theorem grow123 {need : Nat} : cR Tryz.prog 123 1 8 need = decide (8 * need ≤ 1000000) := grow_of zero123 rfl (by decide)
theorem sz134 : bY Tryz.prog 134 = some 1 := by kernel_rfl
noncomputable def I134 : TypeInfo := (Tryz.prog.info? 134).getD { desc := .bool, str := "", size := 0, bytes := 0, hasPointers := false, align := 0, fieldAlign := 0, zero := none, comparable := false, methods := #[] }
theorem info134 : Tryz.prog.info? 134 = some I134 := by kernel_rfl
theorem I134s : I134.size = 1 := by kernel_rfl
theorem I134b : I134.bytes = 8 := by kernel_rfl
theorem zero134 : dH Tryz.prog 134 = some [.nilp] := by kernel_rfl
theorem grow134 {need : Nat} : cR Tryz.prog 134 1 8 need = decide (8 * need ≤ 1000000) := grow_of zero134 rfl (by decide)
theorem sz135 : bY Tryz.prog 135 = some 1 := by kernel_rfl
noncomputable def I135 : TypeInfo := (Tryz.prog.info? 135).getD { desc := .bool, str := "", size := 0, bytes := 0, hasPointers := false, align := 0, fieldAlign := 0, zero := none, comparable := false, methods := #[] }
theorem info135 : Tryz.prog.info? 135 = some I135 := by kernel_rfl
theorem I135s : I135.size = 1 := by kernel_rfl
theorem I135b : I135.bytes = 24 := by kernel_rfl
theorem zero135 : dH Tryz.prog 135 = some [.nilslice] := by kernel_rfl
theorem grow135 {need : Nat} : cR Tryz.prog 135 1 24 need = decide (24 * need ≤ 1000000) := grow_of zero135 rfl (by decide)
theorem sz137 : bY Tryz.prog 137 = some 2 := by kernel_rfl
noncomputable def I137 : TypeInfo := (Tryz.prog.info? 137).getD { desc := .bool, str := "", size := 0, bytes := 0, hasPointers := false, align := 0, fieldAlign := 0, zero := none, comparable := false, methods := #[] }
theorem info137 : Tryz.prog.info? 137 = some I137 := by kernel_rfl
theorem I137s : I137.size = 2 := by kernel_rfl
theorem I137b : I137.bytes = 32 := by kernel_rfl
theorem zero137 : dH Tryz.prog 137 = some [.nilp, .nilslice] := by kernel_rfl
theorem grow137 {need : Nat} : cR Tryz.prog 137 2 32 need = decide (32 * need ≤ 1000000) := grow_of zero137 rfl (by decide)
theorem fok137 : fieldsOK Tryz.prog #[{ name := "addr", type := 134, offset := 0, embedded := false, tag := "", pkgPath := "strings", byteOffset := 0 }, { name := "buf", type := 135, offset := 1, embedded := false, tag := "", pkgPath := "strings", byteOffset := 8 }] = true := by kernel_rfl
theorem sz152 : bY Tryz.prog 152 = some 1 := by kernel_rfl
noncomputable def I152 : TypeInfo := (Tryz.prog.info? 152).getD { desc := .bool, str := "", size := 0, bytes := 0, hasPointers := false, align := 0, fieldAlign := 0, zero := none, comparable := false, methods := #[] }
theorem info152 : Tryz.prog.info? 152 = some I152 := by kernel_rfl
theorem I152s : I152.size = 1 := by kernel_rfl
theorem I152b : I152.bytes = 8 := by kernel_rfl
theorem zero152 : dH Tryz.prog 152 = some [.nilmap] := by kernel_rfl
theorem grow152 {need : Nat} : cR Tryz.prog 152 1 8 need = decide (8 * need ≤ 1000000) := grow_of zero152 rfl (by decide)
theorem sz158 : bY Tryz.prog 158 = some 1 := by kernel_rfl
noncomputable def I158 : TypeInfo := (Tryz.prog.info? 158).getD { desc := .bool, str := "", size := 0, bytes := 0, hasPointers := false, align := 0, fieldAlign := 0, zero := none, comparable := false, methods := #[] }
theorem info158 : Tryz.prog.info? 158 = some I158 := by kernel_rfl
theorem I158s : I158.size = 1 := by kernel_rfl
theorem I158b : I158.bytes = 24 := by kernel_rfl
theorem zero158 : dH Tryz.prog 158 = some [.nilslice] := by kernel_rfl
theorem grow158 {need : Nat} : cR Tryz.prog 158 1 24 need = decide (24 * need ≤ 1000000) := grow_of zero158 rfl (by decide)
theorem sz160 : bY Tryz.prog 160 = some 4 := by kernel_rfl
noncomputable def I160 : TypeInfo := (Tryz.prog.info? 160).getD { desc := .bool, str := "", size := 0, bytes := 0, hasPointers := false, align := 0, fieldAlign := 0, zero := none, comparable := false, methods := #[] }
theorem info160 : Tryz.prog.info? 160 = some I160 := by kernel_rfl
theorem I160s : I160.size = 4 := by kernel_rfl
theorem I160b : I160.bytes = 40 := by kernel_rfl
theorem zero160 : dH Tryz.prog 160 = some [.bool false, .str [], .int .i64 0, .int .i64 0] := by kernel_rfl
theorem grow160 {need : Nat} : cR Tryz.prog 160 4 40 need = decide (40 * need ≤ 1000000) := grow_of zero160 rfl (by decide)
theorem fok160 : fieldsOK Tryz.prog #[{ name := "out", type := 4, offset := 0, embedded := false, tag := "", pkgPath := "dugout/play", byteOffset := 0 }, { name := "letter", type := 9, offset := 1, embedded := false, tag := "", pkgPath := "dugout/play", byteOffset := 8 }, { name := "batter", type := 3, offset := 2, embedded := false, tag := "", pkgPath := "dugout/play", byteOffset := 24 }, { name := "runner", type := 3, offset := 3, embedded := false, tag := "", pkgPath := "dugout/play", byteOffset := 32 }] = true := by kernel_rfl
theorem sz169 : bY Tryz.prog 169 = some 1 := by kernel_rfl
noncomputable def I169 : TypeInfo := (Tryz.prog.info? 169).getD { desc := .bool, str := "", size := 0, bytes := 0, hasPointers := false, align := 0, fieldAlign := 0, zero := none, comparable := false, methods := #[] }
theorem info169 : Tryz.prog.info? 169 = some I169 := by kernel_rfl
theorem I169s : I169.size = 1 := by kernel_rfl
theorem I169b : I169.bytes = 8 := by kernel_rfl
theorem zero169 : dH Tryz.prog 169 = some [.nilp] := by kernel_rfl
theorem grow169 {need : Nat} : cR Tryz.prog 169 1 8 need = decide (8 * need ≤ 1000000) := grow_of zero169 rfl (by decide)
theorem sz174 : bY Tryz.prog 174 = some 1 := by kernel_rfl
noncomputable def I174 : TypeInfo := (Tryz.prog.info? 174).getD { desc := .bool, str := "", size := 0, bytes := 0, hasPointers := false, align := 0, fieldAlign := 0, zero := none, comparable := false, methods := #[] }
theorem info174 : Tryz.prog.info? 174 = some I174 := by kernel_rfl
theorem I174s : I174.size = 1 := by kernel_rfl
theorem I174b : I174.bytes = 8 := by kernel_rfl
theorem zero174 : dH Tryz.prog 174 = some [.nilfunc] := by kernel_rfl
theorem grow174 {need : Nat} : cR Tryz.prog 174 1 8 need = decide (8 * need ≤ 1000000) := grow_of zero174 rfl (by decide)
theorem sz181 : bY Tryz.prog 181 = some 56 := by kernel_rfl
noncomputable def I181 : TypeInfo := (Tryz.prog.info? 181).getD { desc := .bool, str := "", size := 0, bytes := 0, hasPointers := false, align := 0, fieldAlign := 0, zero := none, comparable := false, methods := #[] }
theorem info181 : Tryz.prog.info? 181 = some I181 := by kernel_rfl
theorem I181s : I181.size = 56 := by kernel_rfl
theorem sz195 : bY Tryz.prog 195 = some 1 := by kernel_rfl
noncomputable def I195 : TypeInfo := (Tryz.prog.info? 195).getD { desc := .bool, str := "", size := 0, bytes := 0, hasPointers := false, align := 0, fieldAlign := 0, zero := none, comparable := false, methods := #[] }
theorem info195 : Tryz.prog.info? 195 = some I195 := by kernel_rfl
theorem I195s : I195.size = 1 := by kernel_rfl
theorem I195b : I195.bytes = 8 := by kernel_rfl
theorem zero195 : dH Tryz.prog 195 = some [.int .u64 0] := by kernel_rfl
theorem grow195 {need : Nat} : cR Tryz.prog 195 1 8 need = decide (8 * need ≤ 1000000) := grow_of zero195 rfl (by decide)
theorem sz203 : bY Tryz.prog 203 = some 1 := by kernel_rfl
noncomputable def I203 : TypeInfo := (Tryz.prog.info? 203).getD { desc := .bool, str := "", size := 0, bytes := 0, hasPointers := false, align := 0, fieldAlign := 0, zero := none, comparable := false, methods := #[] }
theorem info203 : Tryz.prog.info? 203 = some I203 := by kernel_rfl
theorem I203s : I203.size = 1 := by kernel_rfl
theorem I203b : I203.bytes = 8 := by kernel_rfl
theorem zero203 : dH Tryz.prog 203 = some [.int .i64 0] := by kernel_rfl
theorem grow203 {need : Nat} : cR Tryz.prog 203 1 8 need = decide (8 * need ≤ 1000000) := grow_of zero203 rfl (by decide)
theorem sz210 : bY Tryz.prog 210 = some 1 := by kernel_rfl
noncomputable def I210 : TypeInfo := (Tryz.prog.info? 210).getD { desc := .bool, str := "", size := 0, bytes := 0, hasPointers := false, align := 0, fieldAlign := 0, zero := none, comparable := false, methods := #[] }
theorem info210 : Tryz.prog.info? 210 = some I210 := by kernel_rfl
theorem I210s : I210.size = 1 := by kernel_rfl
theorem I210b : I210.bytes = 4 := by kernel_rfl
theorem zero210 : dH Tryz.prog 210 = some [.int .u32 0] := by kernel_rfl
theorem grow210 {need : Nat} : cR Tryz.prog 210 1 4 need = decide (4 * need ≤ 1000000) := grow_of zero210 rfl (by decide)
theorem body16 : Tryz.f16.body.isNone = false := by kernel_rfl
theorem call16 {h : H} {args : List EVal} : aN Tryz.prog h 16 args = some (.enter 16 args h) := aK Tryz.func16 body16
theorem body18 : Tryz.f18.body.isNone = false := by kernel_rfl
theorem call18 {h : H} {args : List EVal} : aN Tryz.prog h 18 args = some (.enter 18 args h) := aK Tryz.func18 body18
theorem body19 : Tryz.f19.body.isNone = false := by kernel_rfl
theorem call19 {h : H} {args : List EVal} : aN Tryz.prog h 19 args = some (.enter 19 args h) := aK Tryz.func19 body19
theorem body20 : Tryz.f20.body.isNone = false := by kernel_rfl
theorem call20 {h : H} {args : List EVal} : aN Tryz.prog h 20 args = some (.enter 20 args h) := aK Tryz.func20 body20
theorem body21 : Tryz.f21.body.isNone = false := by kernel_rfl
theorem call21 {h : H} {args : List EVal} : aN Tryz.prog h 21 args = some (.enter 21 args h) := aK Tryz.func21 body21
theorem body22 : Tryz.f22.body.isNone = false := by kernel_rfl
theorem call22 {h : H} {args : List EVal} : aN Tryz.prog h 22 args = some (.enter 22 args h) := aK Tryz.func22 body22
theorem body23 : Tryz.f23.body.isNone = false := by kernel_rfl
theorem call23 {h : H} {args : List EVal} : aN Tryz.prog h 23 args = some (.enter 23 args h) := aK Tryz.func23 body23
theorem body25 : Tryz.f25.body.isNone = false := by kernel_rfl
theorem call25 {h : H} {args : List EVal} : aN Tryz.prog h 25 args = some (.enter 25 args h) := aK Tryz.func25 body25
theorem body26 : Tryz.f26.body.isNone = false := by kernel_rfl
theorem call26 {h : H} {args : List EVal} : aN Tryz.prog h 26 args = some (.enter 26 args h) := aK Tryz.func26 body26
theorem body30 : Tryz.f30.body.isNone = false := by kernel_rfl
theorem call30 {h : H} {args : List EVal} : aN Tryz.prog h 30 args = some (.enter 30 args h) := aK Tryz.func30 body30
theorem body34 : Tryz.f34.body.isNone = false := by kernel_rfl
theorem call34 {h : H} {args : List EVal} : aN Tryz.prog h 34 args = some (.enter 34 args h) := aK Tryz.func34 body34
theorem body44 : Tryz.f44.body.isNone = false := by kernel_rfl
theorem call44 {h : H} {args : List EVal} : aN Tryz.prog h 44 args = some (.enter 44 args h) := aK Tryz.func44 body44
theorem body45 : Tryz.f45.body.isNone = false := by kernel_rfl
theorem call45 {h : H} {args : List EVal} : aN Tryz.prog h 45 args = some (.enter 45 args h) := aK Tryz.func45 body45
theorem body47 : Tryz.f47.body.isNone = false := by kernel_rfl
theorem call47 {h : H} {args : List EVal} : aN Tryz.prog h 47 args = some (.enter 47 args h) := aK Tryz.func47 body47
theorem body50 : Tryz.f50.body.isNone = false := by kernel_rfl
theorem call50 {h : H} {args : List EVal} : aN Tryz.prog h 50 args = some (.enter 50 args h) := aK Tryz.func50 body50
theorem body51 : Tryz.f51.body.isNone = false := by kernel_rfl
theorem call51 {h : H} {args : List EVal} : aN Tryz.prog h 51 args = some (.enter 51 args h) := aK Tryz.func51 body51
theorem body53 : Tryz.f53.body.isNone = false := by kernel_rfl
theorem call53 {h : H} {args : List EVal} : aN Tryz.prog h 53 args = some (.enter 53 args h) := aK Tryz.func53 body53
theorem body54 : Tryz.f54.body.isNone = false := by kernel_rfl
theorem call54 {h : H} {args : List EVal} : aN Tryz.prog h 54 args = some (.enter 54 args h) := aK Tryz.func54 body54
theorem body61 : Tryz.f61.body.isNone = false := by kernel_rfl
theorem call61 {h : H} {args : List EVal} : aN Tryz.prog h 61 args = some (.enter 61 args h) := aK Tryz.func61 body61
theorem body64 : Tryz.f64.body.isNone = false := by kernel_rfl
theorem call64 {h : H} {args : List EVal} : aN Tryz.prog h 64 args = some (.enter 64 args h) := aK Tryz.func64 body64
theorem body66 : Tryz.f66.body.isNone = false := by kernel_rfl
theorem call66 {h : H} {args : List EVal} : aN Tryz.prog h 66 args = some (.enter 66 args h) := aK Tryz.func66 body66
theorem body74 : Tryz.f74.body.isNone = false := by kernel_rfl
theorem call74 {h : H} {args : List EVal} : aN Tryz.prog h 74 args = some (.enter 74 args h) := aK Tryz.func74 body74
theorem body78 : Tryz.f78.body.isNone = false := by kernel_rfl
theorem call78 {h : H} {args : List EVal} : aN Tryz.prog h 78 args = some (.enter 78 args h) := aK Tryz.func78 body78
theorem body79 : Tryz.f79.body.isNone = false := by kernel_rfl
theorem call79 {h : H} {args : List EVal} : aN Tryz.prog h 79 args = some (.enter 79 args h) := aK Tryz.func79 body79
theorem body80 : Tryz.f80.body.isNone = false := by kernel_rfl
theorem call80 {h : H} {args : List EVal} : aN Tryz.prog h 80 args = some (.enter 80 args h) := aK Tryz.func80 body80
theorem body81 : Tryz.f81.body.isNone = false := by kernel_rfl
theorem call81 {h : H} {args : List EVal} : aN Tryz.prog h 81 args = some (.enter 81 args h) := aK Tryz.func81 body81
theorem body82 : Tryz.f82.body.isNone = false := by kernel_rfl
theorem call82 {h : H} {args : List EVal} : aN Tryz.prog h 82 args = some (.enter 82 args h) := aK Tryz.func82 body82
theorem body83 : Tryz.f83.body.isNone = false := by kernel_rfl
theorem call83 {h : H} {args : List EVal} : aN Tryz.prog h 83 args = some (.enter 83 args h) := aK Tryz.func83 body83
theorem body84 : Tryz.f84.body.isNone = false := by kernel_rfl
theorem call84 {h : H} {args : List EVal} : aN Tryz.prog h 84 args = some (.enter 84 args h) := aK Tryz.func84 body84
theorem body85 : Tryz.f85.body.isNone = false := by kernel_rfl
theorem call85 {h : H} {args : List EVal} : aN Tryz.prog h 85 args = some (.enter 85 args h) := aK Tryz.func85 body85
theorem body86 : Tryz.f86.body.isNone = false := by kernel_rfl
theorem call86 {h : H} {args : List EVal} : aN Tryz.prog h 86 args = some (.enter 86 args h) := aK Tryz.func86 body86
theorem body87 : Tryz.f87.body.isNone = false := by kernel_rfl
theorem call87 {h : H} {args : List EVal} : aN Tryz.prog h 87 args = some (.enter 87 args h) := aK Tryz.func87 body87
theorem body88 : Tryz.f88.body.isNone = false := by kernel_rfl
theorem call88 {h : H} {args : List EVal} : aN Tryz.prog h 88 args = some (.enter 88 args h) := aK Tryz.func88 body88
theorem body89 : Tryz.f89.body.isNone = false := by kernel_rfl
theorem call89 {h : H} {args : List EVal} : aN Tryz.prog h 89 args = some (.enter 89 args h) := aK Tryz.func89 body89
theorem body90 : Tryz.f90.body.isNone = false := by kernel_rfl
theorem call90 {h : H} {args : List EVal} : aN Tryz.prog h 90 args = some (.enter 90 args h) := aK Tryz.func90 body90
theorem body91 : Tryz.f91.body.isNone = false := by kernel_rfl
theorem call91 {h : H} {args : List EVal} : aN Tryz.prog h 91 args = some (.enter 91 args h) := aK Tryz.func91 body91
theorem body92 : Tryz.f92.body.isNone = false := by kernel_rfl
theorem call92 {h : H} {args : List EVal} : aN Tryz.prog h 92 args = some (.enter 92 args h) := aK Tryz.func92 body92
theorem body93 : Tryz.f93.body.isNone = false := by kernel_rfl
theorem call93 {h : H} {args : List EVal} : aN Tryz.prog h 93 args = some (.enter 93 args h) := aK Tryz.func93 body93
theorem body98 : Tryz.f98.body.isNone = false := by kernel_rfl
theorem call98 {h : H} {args : List EVal} : aN Tryz.prog h 98 args = some (.enter 98 args h) := aK Tryz.func98 body98
theorem body105 : Tryz.f105.body.isNone = false := by kernel_rfl
theorem call105 {h : H} {args : List EVal} : aN Tryz.prog h 105 args = some (.enter 105 args h) := aK Tryz.func105 body105
theorem body106 : Tryz.f106.body.isNone = false := by kernel_rfl
theorem call106 {h : H} {args : List EVal} : aN Tryz.prog h 106 args = some (.enter 106 args h) := aK Tryz.func106 body106
theorem body108 : Tryz.f108.body.isNone = false := by kernel_rfl
theorem call108 {h : H} {args : List EVal} : aN Tryz.prog h 108 args = some (.enter 108 args h) := aK Tryz.func108 body108
theorem body111 : Tryz.f111.body.isNone = false := by kernel_rfl
theorem call111 {h : H} {args : List EVal} : aN Tryz.prog h 111 args = some (.enter 111 args h) := aK Tryz.func111 body111
theorem body112 : Tryz.f112.body.isNone = false := by kernel_rfl
theorem call112 {h : H} {args : List EVal} : aN Tryz.prog h 112 args = some (.enter 112 args h) := aK Tryz.func112 body112
theorem body113 : Tryz.f113.body.isNone = false := by kernel_rfl
theorem call113 {h : H} {args : List EVal} : aN Tryz.prog h 113 args = some (.enter 113 args h) := aK Tryz.func113 body113
theorem body117 : Tryz.f117.body.isNone = false := by kernel_rfl
theorem call117 {h : H} {args : List EVal} : aN Tryz.prog h 117 args = some (.enter 117 args h) := aK Tryz.func117 body117
theorem body119 : Tryz.f119.body.isNone = false := by kernel_rfl
theorem call119 {h : H} {args : List EVal} : aN Tryz.prog h 119 args = some (.enter 119 args h) := aK Tryz.func119 body119
theorem body120 : Tryz.f120.body.isNone = false := by kernel_rfl
theorem call120 {h : H} {args : List EVal} : aN Tryz.prog h 120 args = some (.enter 120 args h) := aK Tryz.func120 body120
theorem body121 : Tryz.f121.body.isNone = false := by kernel_rfl
theorem call121 {h : H} {args : List EVal} : aN Tryz.prog h 121 args = some (.enter 121 args h) := aK Tryz.func121 body121
theorem body122 : Tryz.f122.body.isNone = false := by kernel_rfl
theorem call122 {h : H} {args : List EVal} : aN Tryz.prog h 122 args = some (.enter 122 args h) := aK Tryz.func122 body122
theorem body123 : Tryz.f123.body.isNone = false := by kernel_rfl
theorem call123 {h : H} {args : List EVal} : aN Tryz.prog h 123 args = some (.enter 123 args h) := aK Tryz.func123 body123
theorem body130 : Tryz.f130.body.isNone = false := by kernel_rfl
theorem call130 {h : H} {args : List EVal} : aN Tryz.prog h 130 args = some (.enter 130 args h) := aK Tryz.func130 body130
theorem body131 : Tryz.f131.body.isNone = false := by kernel_rfl
theorem call131 {h : H} {args : List EVal} : aN Tryz.prog h 131 args = some (.enter 131 args h) := aK Tryz.func131 body131
theorem body132 : Tryz.f132.body.isNone = false := by kernel_rfl
theorem call132 {h : H} {args : List EVal} : aN Tryz.prog h 132 args = some (.enter 132 args h) := aK Tryz.func132 body132
theorem body134 : Tryz.f134.body.isNone = false := by kernel_rfl
theorem call134 {h : H} {args : List EVal} : aN Tryz.prog h 134 args = some (.enter 134 args h) := aK Tryz.func134 body134
theorem body135 : Tryz.f135.body.isNone = false := by kernel_rfl
theorem call135 {h : H} {args : List EVal} : aN Tryz.prog h 135 args = some (.enter 135 args h) := aK Tryz.func135 body135
theorem body136 : Tryz.f136.body.isNone = false := by kernel_rfl
theorem call136 {h : H} {args : List EVal} : aN Tryz.prog h 136 args = some (.enter 136 args h) := aK Tryz.func136 body136
theorem body143 : Tryz.f143.body.isNone = false := by kernel_rfl
theorem call143 {h : H} {args : List EVal} : aN Tryz.prog h 143 args = some (.enter 143 args h) := aK Tryz.func143 body143
theorem body145 : Tryz.f145.body.isNone = false := by kernel_rfl
theorem call145 {h : H} {args : List EVal} : aN Tryz.prog h 145 args = some (.enter 145 args h) := aK Tryz.func145 body145
theorem body147 : Tryz.f147.body.isNone = false := by kernel_rfl
theorem call147 {h : H} {args : List EVal} : aN Tryz.prog h 147 args = some (.enter 147 args h) := aK Tryz.func147 body147
theorem body148 : Tryz.f148.body.isNone = false := by kernel_rfl
theorem call148 {h : H} {args : List EVal} : aN Tryz.prog h 148 args = some (.enter 148 args h) := aK Tryz.func148 body148
theorem body149 : Tryz.f149.body.isNone = false := by kernel_rfl
theorem call149 {h : H} {args : List EVal} : aN Tryz.prog h 149 args = some (.enter 149 args h) := aK Tryz.func149 body149
theorem body150 : Tryz.f150.body.isNone = false := by kernel_rfl
theorem call150 {h : H} {args : List EVal} : aN Tryz.prog h 150 args = some (.enter 150 args h) := aK Tryz.func150 body150
theorem body151 : Tryz.f151.body.isNone = false := by kernel_rfl
theorem call151 {h : H} {args : List EVal} : aN Tryz.prog h 151 args = some (.enter 151 args h) := aK Tryz.func151 body151
theorem body152 : Tryz.f152.body.isNone = false := by kernel_rfl
theorem call152 {h : H} {args : List EVal} : aN Tryz.prog h 152 args = some (.enter 152 args h) := aK Tryz.func152 body152
theorem body153 : Tryz.f153.body.isNone = false := by kernel_rfl
theorem call153 {h : H} {args : List EVal} : aN Tryz.prog h 153 args = some (.enter 153 args h) := aK Tryz.func153 body153
theorem body154 : Tryz.f154.body.isNone = false := by kernel_rfl
theorem call154 {h : H} {args : List EVal} : aN Tryz.prog h 154 args = some (.enter 154 args h) := aK Tryz.func154 body154
theorem body160 : Tryz.f160.body.isNone = false := by kernel_rfl
theorem call160 {h : H} {args : List EVal} : aN Tryz.prog h 160 args = some (.enter 160 args h) := aK Tryz.func160 body160
theorem body161 : Tryz.f161.body.isNone = false := by kernel_rfl
theorem call161 {h : H} {args : List EVal} : aN Tryz.prog h 161 args = some (.enter 161 args h) := aK Tryz.func161 body161
theorem body162 : Tryz.f162.body.isNone = false := by kernel_rfl
theorem call162 {h : H} {args : List EVal} : aN Tryz.prog h 162 args = some (.enter 162 args h) := aK Tryz.func162 body162
theorem body163 : Tryz.f163.body.isNone = false := by kernel_rfl
theorem call163 {h : H} {args : List EVal} : aN Tryz.prog h 163 args = some (.enter 163 args h) := aK Tryz.func163 body163
theorem body170 : Tryz.f170.body.isNone = false := by kernel_rfl
theorem call170 {h : H} {args : List EVal} : aN Tryz.prog h 170 args = some (.enter 170 args h) := aK Tryz.func170 body170
theorem body172 : Tryz.f172.body.isNone = false := by kernel_rfl
theorem call172 {h : H} {args : List EVal} : aN Tryz.prog h 172 args = some (.enter 172 args h) := aK Tryz.func172 body172
theorem body173 : Tryz.f173.body.isNone = false := by kernel_rfl
theorem call173 {h : H} {args : List EVal} : aN Tryz.prog h 173 args = some (.enter 173 args h) := aK Tryz.func173 body173
theorem body174 : Tryz.f174.body.isNone = false := by kernel_rfl
theorem call174 {h : H} {args : List EVal} : aN Tryz.prog h 174 args = some (.enter 174 args h) := aK Tryz.func174 body174
theorem body175 : Tryz.f175.body.isNone = false := by kernel_rfl
theorem call175 {h : H} {args : List EVal} : aN Tryz.prog h 175 args = some (.enter 175 args h) := aK Tryz.func175 body175
theorem body176 : Tryz.f176.body.isNone = false := by kernel_rfl
theorem call176 {h : H} {args : List EVal} : aN Tryz.prog h 176 args = some (.enter 176 args h) := aK Tryz.func176 body176
theorem body180 : Tryz.f180.body.isNone = false := by kernel_rfl
theorem call180 {h : H} {args : List EVal} : aN Tryz.prog h 180 args = some (.enter 180 args h) := aK Tryz.func180 body180
theorem body181 : Tryz.f181.body.isNone = false := by kernel_rfl
theorem call181 {h : H} {args : List EVal} : aN Tryz.prog h 181 args = some (.enter 181 args h) := aK Tryz.func181 body181
theorem body186 : Tryz.f186.body.isNone = false := by kernel_rfl
theorem call186 {h : H} {args : List EVal} : aN Tryz.prog h 186 args = some (.enter 186 args h) := aK Tryz.func186 body186
theorem body187 : Tryz.f187.body.isNone = false := by kernel_rfl
theorem call187 {h : H} {args : List EVal} : aN Tryz.prog h 187 args = some (.enter 187 args h) := aK Tryz.func187 body187
theorem body188 : Tryz.f188.body.isNone = false := by kernel_rfl
theorem call188 {h : H} {args : List EVal} : aN Tryz.prog h 188 args = some (.enter 188 args h) := aK Tryz.func188 body188
theorem body189 : Tryz.f189.body.isNone = false := by kernel_rfl
theorem call189 {h : H} {args : List EVal} : aN Tryz.prog h 189 args = some (.enter 189 args h) := aK Tryz.func189 body189
theorem body190 : Tryz.f190.body.isNone = false := by kernel_rfl
theorem call190 {h : H} {args : List EVal} : aN Tryz.prog h 190 args = some (.enter 190 args h) := aK Tryz.func190 body190
theorem body191 : Tryz.f191.body.isNone = false := by kernel_rfl
theorem call191 {h : H} {args : List EVal} : aN Tryz.prog h 191 args = some (.enter 191 args h) := aK Tryz.func191 body191
theorem body192 : Tryz.f192.body.isNone = false := by kernel_rfl
theorem call192 {h : H} {args : List EVal} : aN Tryz.prog h 192 args = some (.enter 192 args h) := aK Tryz.func192 body192
theorem body193 : Tryz.f193.body.isNone = false := by kernel_rfl
theorem call193 {h : H} {args : List EVal} : aN Tryz.prog h 193 args = some (.enter 193 args h) := aK Tryz.func193 body193
theorem body196 : Tryz.f196.body.isNone = false := by kernel_rfl
theorem call196 {h : H} {args : List EVal} : aN Tryz.prog h 196 args = some (.enter 196 args h) := aK Tryz.func196 body196
theorem body197 : Tryz.f197.body.isNone = false := by kernel_rfl
theorem call197 {h : H} {args : List EVal} : aN Tryz.prog h 197 args = some (.enter 197 args h) := aK Tryz.func197 body197
theorem body209 : Tryz.f209.body.isNone = false := by kernel_rfl
theorem call209 {h : H} {args : List EVal} : aN Tryz.prog h 209 args = some (.enter 209 args h) := aK Tryz.func209 body209
end Go.Ev
