import Derived.Test.YtldebobgefdnhaaGreatDoorAwk0
import Derived.Test.YtldebobgefdnhaaGreatDoorAwk1
import Derived.Test.YtldebobgefdnhaaGreatDoorAwk2
import Derived.Test.YtldebobgefdnhaaGreatDoorAwk3
import Derived.Test.YtldebobgefdnhaaGreatDoorAwk4
import Derived.Test.YtldebobgefdnhaaGreatDoorAwk5
set_option linter.unusedSimpArgs false
set_option linter.unusedVariables false
namespace Go.Ev
open Go.RowKit Go.Proofs
set_option maxRecDepth 100000
set_option maxHeartbeats 4000000
noncomputable def aT14 : List EVal → Option EVal := tbl [([], aqK)]
theorem aK14 : FnT 14 aT14 := Fn.tbl mixed qW gF bU (n := 3000) (by simp only [List.forall_mem_cons]; exact ⟨awr0, fun _ h => by cases h⟩)
noncomputable def aT16 : List EVal → Option EVal := tbl [([.int .i64 1, .int .i64 2], aw15), ([.int .i64 2, .int .i64 3], aw16), ([.int .i64 3, .int .i64 2], aw17)]
theorem aK16 : FnT 16 aT16 := Fn.tbl mixed qW gF bU (n := 3000) (by simp only [List.forall_mem_cons]; exact ⟨awr1, awr2, awr3, fun _ h => by cases h⟩)
noncomputable def aT21 : List EVal → Option EVal := tbl [([], aw12)]
theorem aK21 : FnT 21 aT21 := Fn.tbl mixed qW gF bU (n := 3000) (by simp only [List.forall_mem_cons]; exact ⟨awr4, fun _ h => by cases h⟩)
noncomputable def aT13 : List EVal → Option EVal := tbl [([aqK], aw14)]
theorem aK13 : FnT 13 aT13 := Fn.tbl mixed qW gF bU (n := 3000) (by simp only [List.forall_mem_cons]; exact ⟨awr5, fun _ h => by cases h⟩)
noncomputable def aT15 : List EVal → Option EVal := tbl [([aw18, aw19], aw10)]
theorem aK15 : FnT 15 aT15 := Fn.tbl mixed qW gF bU (n := 3000) (by simp only [List.forall_mem_cons]; exact ⟨awr6, fun _ h => by cases h⟩)
noncomputable def aT17 : List EVal → Option EVal := tbl [([aqK, aw17], .tup [.agg [.lsl []], .int .i64 32])]
theorem aK17 : FnT 17 aT17 := Fn.tbl mixed qW gF bU (n := 3000) (by simp only [List.forall_mem_cons]; exact ⟨awr7, fun _ h => by cases h⟩)
noncomputable def aT6 : List EVal → Option EVal := tbl [([aw0], aw1)]
theorem aK6 : FnT 6 aT6 := Fn.tbl mixed qW gF bU (n := 3000) (by simp only [List.forall_mem_cons]; exact ⟨awr8, fun _ h => by cases h⟩)
noncomputable def aT18 : List EVal → Option EVal := tbl [([aqK, .str [97, 110, 110], .str [104]], aw2)]
theorem aK18 : FnT 18 aT18 := Fn.tbl mixed qW gF bU (n := 3000) (by simp only [List.forall_mem_cons]; exact ⟨awr9, fun _ h => by cases h⟩)
noncomputable def aT19 : List EVal → Option EVal := tbl [([aqK], aw9)]
theorem aK19 : FnT 19 aT19 := Fn.tbl mixed qW gF bU (n := 3000) (by simp only [List.forall_mem_cons]; exact ⟨awr10, fun _ h => by cases h⟩)
noncomputable def aT20 : List EVal → Option EVal := tbl [([aw12], aw11)]
theorem aK20 : FnT 20 aT20 := Fn.tbl mixed qW gF bU (n := 3000) (by simp only [List.forall_mem_cons]; exact ⟨awr11, fun _ h => by cases h⟩)
noncomputable def aT12 : List EVal → Option EVal := tbl [([.agg [.int .i64 5, .int .i64 1, .int .i64 1, .int .i64 3]], .int .i64 1)]
theorem aK12 : FnT 12 aT12 := Fn.tbl mixed qW gF bU (n := 3000) (by simp only [List.forall_mem_cons]; exact ⟨awr12, fun _ h => by cases h⟩)
noncomputable def aT7 : List EVal → Option EVal := tbl [([.agg [.int .i64 4, .int .i64 2, .int .i64 1, .int .i64 2], .agg [.int .i64 1, .int .i64 1, .int .i64 1, .int .i64 1]], aw3)]
theorem aK7 : FnT 7 aT7 := Fn.tbl mixed qW gF bU (n := 3000) (by simp only [List.forall_mem_cons]; exact ⟨awr13, fun _ h => by cases h⟩)
noncomputable def aT22 : List EVal → Option EVal := tbl [([aw13, .str [104], .str [97, 98], .int .i64 3, .int .i64 1], aw4), ([aw13, .str [104], .str [97, 98], .int .i64 3, .int .i64 2], aw7)]
theorem aK22 : FnT 22 aT22 := Fn.tbl mixed qW gF bU (n := 3000) (by simp only [List.forall_mem_cons]; exact ⟨awr14, awr15, fun _ h => by cases h⟩)
noncomputable def aT23 : List EVal → Option EVal := tbl [([aw8, .str [104], .str [97, 98]], .tup [.agg [.int .i64 1, .int .i64 4], .int .i64 0])]
theorem aK23 : FnT 23 aT23 := Fn.tbl mixed qW gF bU (n := 3000) (by simp only [List.forall_mem_cons]; exact ⟨awr16, fun _ h => by cases h⟩)
noncomputable def aT24 : List EVal → Option EVal := tbl [([aw5, aw6], .tup [.int .i64 2, .int .i64 0])]
theorem aK24 : FnT 24 aT24 := Fn.tbl mixed qW gF bU (n := 3000) (by simp only [List.forall_mem_cons]; exact ⟨awr17, fun _ h => by cases h⟩)
theorem awTop : aH Tryz.prog (.bool true) (run Tryz.prog gT (aU [(14, aT14), (16, aT16), (21, aT21), (13, aT13), (15, aT15), (17, aT17), (6, aT6), (18, aT18), (19, aT19), (20, aT20), (12, aT12), (7, aT7), (22, aT22), (23, aT23), (24, aT24)]) 3000 (.call 5 [] H.start8)) = true := by kernel_rfl
def F5 : List EVal → Option EVal
 | [] => some (.bool true)
 | _ => none
theorem fn5 : FnT 5 F5 := Fn.run8 mixed qW [(14, aT14), (16, aT16), (21, aT21), (13, aT13), (15, aT15), (17, aT17), (6, aT6), (18, aT18), (19, aT19), (20, aT20), (12, aT12), (7, aT7), (22, aT22), (23, aT23), (24, aT24)] (by simp only [List.forall_mem_cons]; exact ⟨aK14, aK16, aK21, aK13, aK15, aK17, aK6, aK18, aK19, aK20, aK12, aK7, aK22, aK23, aK24, fun _ h => by cases h⟩) (n := 3000) (fun a v h => by
 unfold F5 at h
 split at h
 · cases h; exact awTop
 · cases h)
end Go.Ev
