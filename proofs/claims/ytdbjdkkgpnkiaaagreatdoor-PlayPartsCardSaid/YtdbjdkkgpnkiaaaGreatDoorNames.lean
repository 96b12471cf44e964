import Derived.Test.YtdbjdkkgpnkiaaaGreatDoorTypes
import Derived.Test.YtdbjdkkgpnkiaaaGreatDoorEvData
set_option linter.unusedSimpArgs false
set_option linter.unusedVariables false
namespace Go.Ev
open Go.RowKit Go.Proofs
set_option maxRecDepth 20000
set_option maxHeartbeats 2000000

/-! within -/
def withinB (n lo hi : Int) : Bool := decide (lo ≤ n) && decide (n ≤ hi)
def F93 : List EVal → Option EVal
  | [.int .i64 n, .int .i64 lo, .int .i64 hi] => some (.bool (withinB n lo hi))
  | _ => none
theorem e93 {n lo hi : Int} : F93 [.int .i64 n, .int .i64 lo, .int .i64 hi] = some (.bool (withinB n lo hi)) := rfl
theorem fn93 : FnT 93 F93 := by
  refine Fn.intro mixed noNG Tryz.func93 rfl [] (fun _ h => by cases h) ?_
  intro args v hF
  unfold F93 at hF
  split at hF
  rotate_left
  · cases hF
  intro Q hV
  have hQ := Viewed.of hV
  rename_i n lo hi
  cases hF
  refine Top.view (View.start (n := 15) rfl (by simp)) (wp_sound noNG _ _ _ _ ?_)
  ((try simp only [argsL, SS, kcall, setRange, repl, extB_q, isNew, Option.isNone_none, Option.isNone_some, Nat.reduceLT, Nat.reduceEqDiff, Nat.reduceAdd, Nat.reduceMul, Nat.reduceSub, Nat.reduceLeDiff, Nat.reduceBEq, reduceCtorEq, isNextM, absCell, eBinOp, eBin, eInt2, eInt, eStr, eUn, ePick, eConvert, eExtract, eNil, eCall, eCallV, eBuiltin, eLen, eCap, srcCells, keepV, keep1, row?, eStoreOp, EVal.cells, EVal.one, eShift, eField, eIndexAddrOp, eIndexAddr, eIndexOp, eIndex, eSliceOp, eSlice, bound, eBuild, eBuildSlice, eMakeSlice, eRange, eNextS, argB, isLent, flat, one, keepA, Tryz.underlying3, sz3, info3, I3s, I3b, zero3, grow3, Tryz.results93]); (repeat' (first | refine wpStep_not (fun h => ?_) (fun h => ?_) | refine wpStep_sym (fun h => ?_) (fun h => ?_) | refine wpCond_not (fun h => ?_) (fun h => ?_) | refine wpCond_sym (fun h => ?_) (fun h => ?_) | refine wpDStep_not (fun h => ?_) (fun h => ?_) | refine wpDStep_sym (fun h => ?_) (fun h => ?_)) <;> simp only [h, SS, kcall, setRange, repl, extB_q, isNew, Option.isNone_none, Option.isNone_some, Nat.reduceLT, Nat.reduceEqDiff, Nat.reduceAdd, Nat.reduceMul, Nat.reduceSub, Nat.reduceLeDiff, Nat.reduceBEq, reduceCtorEq, isNextM, absCell, eBinOp, eBin, eInt2, eInt, eStr, eUn, ePick, eConvert, eExtract, eNil, eCall, eCallV, eBuiltin, eLen, eCap, srcCells, keepV, keep1, row?, eStoreOp, EVal.cells, EVal.one, eShift, eField, eIndexAddrOp, eIndexAddr, eIndexOp, eIndex, eSliceOp, eSlice, bound, eBuild, eBuildSlice, eMakeSlice, eRange, eNextS, argB, isLent, flat, one, keepA, Tryz.underlying3, sz3, info3, I3s, I3b, zero3, grow3, Tryz.results93]))
  all_goals ((refine hQ _ _ _ (ends_of (by first | exact .inl rfl | exact .inr rfl) ?_); simp only [*, SS, kcall, setRange, repl, extB_q, isNew, Option.isNone_none, Option.isNone_some, Nat.reduceLT, Nat.reduceEqDiff, Nat.reduceAdd, Nat.reduceMul, Nat.reduceSub, Nat.reduceLeDiff, Nat.reduceBEq, reduceCtorEq, isNextM, absCell, eBinOp, eBin, eInt2, eInt, eStr, eUn, ePick, eConvert, eExtract, eNil, eCall, eCallV, eBuiltin, eLen, eCap, srcCells, keepV, keep1, row?, eStoreOp, EVal.cells, EVal.one, eShift, eField, eIndexAddrOp, eIndexAddr, eIndexOp, eIndex, eSliceOp, eSlice, bound, eBuild, eBuildSlice, eMakeSlice, eRange, eNextS, argB, isLent, flat, one, keepA, Tryz.underlying3, sz3, info3, I3s, I3b, zero3, grow3, Tryz.results93, withinB]))

def F61 : List EVal → Option EVal
  | [.int .i64 n, .int .i64 lo, .int .i64 hi] => some (.int .i64 (if n < lo ∨ hi < n then 3 else 0))
  | _ => none
theorem e61 {n lo hi : Int} : F61 [.int .i64 n, .int .i64 lo, .int .i64 hi] = some (.int .i64 (if n < lo ∨ hi < n then 3 else 0)) := rfl
theorem fn61 : FnT 61 F61 := by
  refine Fn.intro mixed noNG Tryz.func61 rfl [] (fun _ h => by cases h) ?_
  intro args v hF
  unfold F61 at hF
  split at hF
  rotate_left
  · cases hF
  intro Q hV
  have hQ := Viewed.of hV
  rename_i n lo hi
  cases hF
  refine Top.view (View.start (n := 15) rfl (by simp)) (wp_sound noNG _ _ _ _ ?_)
  ((try simp only [argsL, SS, kcall, setRange, repl, extB_q, isNew, Option.isNone_none, Option.isNone_some, Nat.reduceLT, Nat.reduceEqDiff, Nat.reduceAdd, Nat.reduceMul, Nat.reduceSub, Nat.reduceLeDiff, Nat.reduceBEq, reduceCtorEq, isNextM, absCell, eBinOp, eBin, eInt2, eInt, eStr, eUn, ePick, eConvert, eExtract, eNil, eCall, eCallV, eBuiltin, eLen, eCap, srcCells, keepV, keep1, row?, eStoreOp, EVal.cells, EVal.one, eShift, eField, eIndexAddrOp, eIndexAddr, eIndexOp, eIndex, eSliceOp, eSlice, bound, eBuild, eBuildSlice, eMakeSlice, eRange, eNextS, argB, isLent, flat, one, keepA, Tryz.underlying3, sz3, info3, I3s, I3b, zero3, grow3, Tryz.results61]); (repeat' (first | refine wpStep_not (fun h => ?_) (fun h => ?_) | refine wpStep_sym (fun h => ?_) (fun h => ?_) | refine wpCond_not (fun h => ?_) (fun h => ?_) | refine wpCond_sym (fun h => ?_) (fun h => ?_) | refine wpDStep_not (fun h => ?_) (fun h => ?_) | refine wpDStep_sym (fun h => ?_) (fun h => ?_)) <;> simp only [h, SS, kcall, setRange, repl, extB_q, isNew, Option.isNone_none, Option.isNone_some, Nat.reduceLT, Nat.reduceEqDiff, Nat.reduceAdd, Nat.reduceMul, Nat.reduceSub, Nat.reduceLeDiff, Nat.reduceBEq, reduceCtorEq, isNextM, absCell, eBinOp, eBin, eInt2, eInt, eStr, eUn, ePick, eConvert, eExtract, eNil, eCall, eCallV, eBuiltin, eLen, eCap, srcCells, keepV, keep1, row?, eStoreOp, EVal.cells, EVal.one, eShift, eField, eIndexAddrOp, eIndexAddr, eIndexOp, eIndex, eSliceOp, eSlice, bound, eBuild, eBuildSlice, eMakeSlice, eRange, eNextS, argB, isLent, flat, one, keepA, Tryz.underlying3, sz3, info3, I3s, I3b, zero3, grow3, Tryz.results61]))
  all_goals ((refine hQ _ _ _ (ends_of (by first | exact .inl rfl | exact .inr rfl) ?_); simp only [*, SS, kcall, setRange, repl, extB_q, isNew, Option.isNone_none, Option.isNone_some, Nat.reduceLT, Nat.reduceEqDiff, Nat.reduceAdd, Nat.reduceMul, Nat.reduceSub, Nat.reduceLeDiff, Nat.reduceBEq, reduceCtorEq, isNextM, absCell, eBinOp, eBin, eInt2, eInt, eStr, eUn, ePick, eConvert, eExtract, eNil, eCall, eCallV, eBuiltin, eLen, eCap, srcCells, keepV, keep1, row?, eStoreOp, EVal.cells, EVal.one, eShift, eField, eIndexAddrOp, eIndexAddr, eIndexOp, eIndex, eSliceOp, eSlice, bound, eBuild, eBuildSlice, eMakeSlice, eRange, eNextS, argB, isLent, flat, one, keepA, Tryz.underlying3, sz3, info3, I3s, I3b, zero3, grow3, Tryz.results61]))
  all_goals (simp at *; omega)

def lowerB (r : Int) : Bool := decide (97 ≤ r) && decide (r ≤ 122)
def F133 : List EVal → Option EVal
  | [.int .i32 n] => some (.bool (lowerB n))
  | _ => none
theorem e133 {n : Int} : F133 [.int .i32 n] = some (.bool (lowerB n)) := rfl
theorem fn133 : FnT 133 F133 := by
  refine Fn.intro mixed noNG Tryz.func133 rfl [] (fun _ h => by cases h) ?_
  intro args v hF
  unfold F133 at hF
  split at hF
  rotate_left
  · cases hF
  intro Q hV
  have hQ := Viewed.of hV
  rename_i n
  cases hF
  refine Top.view (View.start (n := 9) rfl (by simp)) (wp_sound noNG _ _ _ _ ?_)
  ((try simp only [argsL, SS, kcall, setRange, repl, extB_q, isNew, Option.isNone_none, Option.isNone_some, Nat.reduceLT, Nat.reduceEqDiff, Nat.reduceAdd, Nat.reduceMul, Nat.reduceSub, Nat.reduceLeDiff, Nat.reduceBEq, reduceCtorEq, isNextM, absCell, eBinOp, eBin, eInt2, eInt, eStr, eUn, ePick, eConvert, eExtract, eNil, eCall, eCallV, eBuiltin, eLen, eCap, srcCells, keepV, keep1, row?, eStoreOp, EVal.cells, EVal.one, eShift, eField, eIndexAddrOp, eIndexAddr, eIndexOp, eIndex, eSliceOp, eSlice, bound, eBuild, eBuildSlice, eMakeSlice, eRange, eNextS, argB, isLent, flat, one, keepA, Tryz.underlying21, sz21, info21, I21s, I21b, zero21, grow21, Tryz.results133]); (repeat' (first | refine wpStep_not (fun h => ?_) (fun h => ?_) | refine wpStep_sym (fun h => ?_) (fun h => ?_) | refine wpCond_not (fun h => ?_) (fun h => ?_) | refine wpCond_sym (fun h => ?_) (fun h => ?_) | refine wpDStep_not (fun h => ?_) (fun h => ?_) | refine wpDStep_sym (fun h => ?_) (fun h => ?_)) <;> simp only [h, SS, kcall, setRange, repl, extB_q, isNew, Option.isNone_none, Option.isNone_some, Nat.reduceLT, Nat.reduceEqDiff, Nat.reduceAdd, Nat.reduceMul, Nat.reduceSub, Nat.reduceLeDiff, Nat.reduceBEq, reduceCtorEq, isNextM, absCell, eBinOp, eBin, eInt2, eInt, eStr, eUn, ePick, eConvert, eExtract, eNil, eCall, eCallV, eBuiltin, eLen, eCap, srcCells, keepV, keep1, row?, eStoreOp, EVal.cells, EVal.one, eShift, eField, eIndexAddrOp, eIndexAddr, eIndexOp, eIndex, eSliceOp, eSlice, bound, eBuild, eBuildSlice, eMakeSlice, eRange, eNextS, argB, isLent, flat, one, keepA, Tryz.underlying21, sz21, info21, I21s, I21b, zero21, grow21, Tryz.results133]))
  all_goals ((refine hQ _ _ _ (ends_of (by first | exact .inl rfl | exact .inr rfl) ?_); simp only [*, SS, kcall, setRange, repl, extB_q, isNew, Option.isNone_none, Option.isNone_some, Nat.reduceLT, Nat.reduceEqDiff, Nat.reduceAdd, Nat.reduceMul, Nat.reduceSub, Nat.reduceLeDiff, Nat.reduceBEq, reduceCtorEq, isNextM, absCell, eBinOp, eBin, eInt2, eInt, eStr, eUn, ePick, eConvert, eExtract, eNil, eCall, eCallV, eBuiltin, eLen, eCap, srcCells, keepV, keep1, row?, eStoreOp, EVal.cells, EVal.one, eShift, eField, eIndexAddrOp, eIndexAddr, eIndexOp, eIndex, eSliceOp, eSlice, bound, eBuild, eBuildSlice, eMakeSlice, eRange, eNextS, argB, isLent, flat, one, keepA, Tryz.underlying21, sz21, info21, I21s, I21b, zero21, grow21, Tryz.results133, lowerB]))

def digitB (r : Int) : Bool := decide (48 ≤ r) && decide (r ≤ 57)
def F95 : List EVal → Option EVal
  | [.int .i32 n] => some (.bool (digitB n))
  | _ => none
theorem e95 {n : Int} : F95 [.int .i32 n] = some (.bool (digitB n)) := rfl
theorem fn95 : FnT 95 F95 := by
  refine Fn.intro mixed noNG Tryz.func95 rfl [] (fun _ h => by cases h) ?_
  intro args v hF
  unfold F95 at hF
  split at hF
  rotate_left
  · cases hF
  intro Q hV
  have hQ := Viewed.of hV
  rename_i n
  cases hF
  refine Top.view (View.start (n := 9) rfl (by simp)) (wp_sound noNG _ _ _ _ ?_)
  ((try simp only [argsL, SS, kcall, setRange, repl, extB_q, isNew, Option.isNone_none, Option.isNone_some, Nat.reduceLT, Nat.reduceEqDiff, Nat.reduceAdd, Nat.reduceMul, Nat.reduceSub, Nat.reduceLeDiff, Nat.reduceBEq, reduceCtorEq, isNextM, absCell, eBinOp, eBin, eInt2, eInt, eStr, eUn, ePick, eConvert, eExtract, eNil, eCall, eCallV, eBuiltin, eLen, eCap, srcCells, keepV, keep1, row?, eStoreOp, EVal.cells, EVal.one, eShift, eField, eIndexAddrOp, eIndexAddr, eIndexOp, eIndex, eSliceOp, eSlice, bound, eBuild, eBuildSlice, eMakeSlice, eRange, eNextS, argB, isLent, flat, one, keepA, Tryz.underlying21, sz21, info21, I21s, I21b, zero21, grow21, Tryz.results95]); (repeat' (first | refine wpStep_not (fun h => ?_) (fun h => ?_) | refine wpStep_sym (fun h => ?_) (fun h => ?_) | refine wpCond_not (fun h => ?_) (fun h => ?_) | refine wpCond_sym (fun h => ?_) (fun h => ?_) | refine wpDStep_not (fun h => ?_) (fun h => ?_) | refine wpDStep_sym (fun h => ?_) (fun h => ?_)) <;> simp only [h, SS, kcall, setRange, repl, extB_q, isNew, Option.isNone_none, Option.isNone_some, Nat.reduceLT, Nat.reduceEqDiff, Nat.reduceAdd, Nat.reduceMul, Nat.reduceSub, Nat.reduceLeDiff, Nat.reduceBEq, reduceCtorEq, isNextM, absCell, eBinOp, eBin, eInt2, eInt, eStr, eUn, ePick, eConvert, eExtract, eNil, eCall, eCallV, eBuiltin, eLen, eCap, srcCells, keepV, keep1, row?, eStoreOp, EVal.cells, EVal.one, eShift, eField, eIndexAddrOp, eIndexAddr, eIndexOp, eIndex, eSliceOp, eSlice, bound, eBuild, eBuildSlice, eMakeSlice, eRange, eNextS, argB, isLent, flat, one, keepA, Tryz.underlying21, sz21, info21, I21s, I21b, zero21, grow21, Tryz.results95]))
  all_goals ((refine hQ _ _ _ (ends_of (by first | exact .inl rfl | exact .inr rfl) ?_); simp only [*, SS, kcall, setRange, repl, extB_q, isNew, Option.isNone_none, Option.isNone_some, Nat.reduceLT, Nat.reduceEqDiff, Nat.reduceAdd, Nat.reduceMul, Nat.reduceSub, Nat.reduceLeDiff, Nat.reduceBEq, reduceCtorEq, isNextM, absCell, eBinOp, eBin, eInt2, eInt, eStr, eUn, ePick, eConvert, eExtract, eNil, eCall, eCallV, eBuiltin, eLen, eCap, srcCells, keepV, keep1, row?, eStoreOp, EVal.cells, EVal.one, eShift, eField, eIndexAddrOp, eIndexAddr, eIndexOp, eIndex, eSliceOp, eSlice, bound, eBuild, eBuildSlice, eMakeSlice, eRange, eNextS, argB, isLent, flat, one, keepA, Tryz.underlying21, sz21, info21, I21s, I21b, zero21, grow21, Tryz.results95, digitB]))

def letterB (r : Int) : Bool := lowerB r || (decide (65 ≤ r) && decide (r ≤ 90))
def F94 : List EVal → Option EVal
  | [.int .i32 n] => some (.bool (letterB n))
  | _ => none
theorem e94 {n : Int} : F94 [.int .i32 n] = some (.bool (letterB n)) := rfl
theorem fn94 : FnT 94 F94 := by
  refine Fn.intro mixed noNG Tryz.func94 rfl [(133, F133)] (by simp only [List.forall_mem_cons]; exact ⟨fn133, fun _ h => by cases h⟩) ?_
  intro args v hF
  unfold F94 at hF
  split at hF
  rotate_left
  · cases hF
  intro Q hV
  have hQ := Viewed.of hV
  rename_i n
  cases hF
  refine Top.view (View.start (n := 13) rfl (by simp)) (wp_sound noNG _ _ _ _ ?_)
  ((try simp only [argsL, SS, kcall, setRange, repl, extB_q, isNew, Option.isNone_none, Option.isNone_some, Nat.reduceLT, Nat.reduceEqDiff, Nat.reduceAdd, Nat.reduceMul, Nat.reduceSub, Nat.reduceLeDiff, Nat.reduceBEq, reduceCtorEq, isNextM, absCell, eBinOp, eBin, eInt2, eInt, eStr, eUn, ePick, eConvert, eExtract, eNil, eCall, eCallV, eBuiltin, eLen, eCap, srcCells, keepV, keep1, row?, eStoreOp, EVal.cells, EVal.one, eShift, eField, eIndexAddrOp, eIndexAddr, eIndexOp, eIndex, eSliceOp, eSlice, bound, eBuild, eBuildSlice, eMakeSlice, eRange, eNextS, argB, isLent, flat, one, keepA, Tryz.underlying21, sz21, info21, I21s, I21b, zero21, grow21, call133, Tryz.results94, e133]); (repeat' (first | refine wpStep_not (fun h => ?_) (fun h => ?_) | refine wpStep_sym (fun h => ?_) (fun h => ?_) | refine wpCond_not (fun h => ?_) (fun h => ?_) | refine wpCond_sym (fun h => ?_) (fun h => ?_) | refine wpDStep_not (fun h => ?_) (fun h => ?_) | refine wpDStep_sym (fun h => ?_) (fun h => ?_)) <;> simp only [h, SS, kcall, setRange, repl, extB_q, isNew, Option.isNone_none, Option.isNone_some, Nat.reduceLT, Nat.reduceEqDiff, Nat.reduceAdd, Nat.reduceMul, Nat.reduceSub, Nat.reduceLeDiff, Nat.reduceBEq, reduceCtorEq, isNextM, absCell, eBinOp, eBin, eInt2, eInt, eStr, eUn, ePick, eConvert, eExtract, eNil, eCall, eCallV, eBuiltin, eLen, eCap, srcCells, keepV, keep1, row?, eStoreOp, EVal.cells, EVal.one, eShift, eField, eIndexAddrOp, eIndexAddr, eIndexOp, eIndex, eSliceOp, eSlice, bound, eBuild, eBuildSlice, eMakeSlice, eRange, eNextS, argB, isLent, flat, one, keepA, Tryz.underlying21, sz21, info21, I21s, I21b, zero21, grow21, call133, Tryz.results94, e133]))
  all_goals ((refine hQ _ _ _ (ends_of (by first | exact .inl rfl | exact .inr rfl) ?_); simp only [*, SS, kcall, setRange, repl, extB_q, isNew, Option.isNone_none, Option.isNone_some, Nat.reduceLT, Nat.reduceEqDiff, Nat.reduceAdd, Nat.reduceMul, Nat.reduceSub, Nat.reduceLeDiff, Nat.reduceBEq, reduceCtorEq, isNextM, absCell, eBinOp, eBin, eInt2, eInt, eStr, eUn, ePick, eConvert, eExtract, eNil, eCall, eCallV, eBuiltin, eLen, eCap, srcCells, keepV, keep1, row?, eStoreOp, EVal.cells, EVal.one, eShift, eField, eIndexAddrOp, eIndexAddr, eIndexOp, eIndex, eSliceOp, eSlice, bound, eBuild, eBuildSlice, eMakeSlice, eRange, eNextS, argB, isLent, flat, one, keepA, Tryz.underlying21, sz21, info21, I21s, I21b, zero21, grow21, call133, Tryz.results94, letterB]))

/-! the reference's letters -/
def letterU (c : Int) : Bool := (decide (65 ≤ c) && decide (c ≤ 90)) || (decide (97 ≤ c) && decide (c ≤ 122))
def F96 : List EVal → Option EVal
  | [.int .u8 n] => some (.bool (letterU n))
  | _ => none
theorem e96 {n : Int} : F96 [.int .u8 n] = some (.bool (letterU n)) := rfl
theorem fn96 : FnT 96 F96 := by
  refine Fn.intro mixed noNG Tryz.func96 rfl [] (fun _ h => by cases h) ?_
  intro args v hF
  unfold F96 at hF
  split at hF
  rotate_left
  · cases hF
  intro Q hV
  have hQ := Viewed.of hV
  rename_i n
  cases hF
  refine Top.view (View.start (n := 17) rfl (by simp)) (wp_sound noNG _ _ _ _ ?_)
  ((try simp only [argsL, SS, kcall, setRange, repl, extB_q, isNew, Option.isNone_none, Option.isNone_some, Nat.reduceLT, Nat.reduceEqDiff, Nat.reduceAdd, Nat.reduceMul, Nat.reduceSub, Nat.reduceLeDiff, Nat.reduceBEq, reduceCtorEq, isNextM, absCell, eBinOp, eBin, eInt2, eInt, eStr, eUn, ePick, eConvert, eExtract, eNil, eCall, eCallV, eBuiltin, eLen, eCap, srcCells, keepV, keep1, row?, eStoreOp, EVal.cells, EVal.one, eShift, eField, eIndexAddrOp, eIndexAddr, eIndexOp, eIndex, eSliceOp, eSlice, bound, eBuild, eBuildSlice, eMakeSlice, eRange, eNextS, argB, isLent, flat, one, keepA, Tryz.underlying5, sz5, info5, I5s, I5b, zero5, grow5, Tryz.results96]); (repeat' (first | refine wpStep_not (fun h => ?_) (fun h => ?_) | refine wpStep_sym (fun h => ?_) (fun h => ?_) | refine wpCond_not (fun h => ?_) (fun h => ?_) | refine wpCond_sym (fun h => ?_) (fun h => ?_) | refine wpDStep_not (fun h => ?_) (fun h => ?_) | refine wpDStep_sym (fun h => ?_) (fun h => ?_)) <;> simp only [h, SS, kcall, setRange, repl, extB_q, isNew, Option.isNone_none, Option.isNone_some, Nat.reduceLT, Nat.reduceEqDiff, Nat.reduceAdd, Nat.reduceMul, Nat.reduceSub, Nat.reduceLeDiff, Nat.reduceBEq, reduceCtorEq, isNextM, absCell, eBinOp, eBin, eInt2, eInt, eStr, eUn, ePick, eConvert, eExtract, eNil, eCall, eCallV, eBuiltin, eLen, eCap, srcCells, keepV, keep1, row?, eStoreOp, EVal.cells, EVal.one, eShift, eField, eIndexAddrOp, eIndexAddr, eIndexOp, eIndex, eSliceOp, eSlice, bound, eBuild, eBuildSlice, eMakeSlice, eRange, eNextS, argB, isLent, flat, one, keepA, Tryz.underlying5, sz5, info5, I5s, I5b, zero5, grow5, Tryz.results96]))
  all_goals ((refine hQ _ _ _ (ends_of (by first | exact .inl rfl | exact .inr rfl) ?_); simp only [*, SS, kcall, setRange, repl, extB_q, isNew, Option.isNone_none, Option.isNone_some, Nat.reduceLT, Nat.reduceEqDiff, Nat.reduceAdd, Nat.reduceMul, Nat.reduceSub, Nat.reduceLeDiff, Nat.reduceBEq, reduceCtorEq, isNextM, absCell, eBinOp, eBin, eInt2, eInt, eStr, eUn, ePick, eConvert, eExtract, eNil, eCall, eCallV, eBuiltin, eLen, eCap, srcCells, keepV, keep1, row?, eStoreOp, EVal.cells, EVal.one, eShift, eField, eIndexAddrOp, eIndexAddr, eIndexOp, eIndex, eSliceOp, eSlice, bound, eBuild, eBuildSlice, eMakeSlice, eRange, eNextS, argB, isLent, flat, one, keepA, Tryz.underlying5, sz5, info5, I5s, I5b, zero5, grow5, Tryz.results96, letterU]))
  all_goals (simp at *; omega)

def F97 : List EVal → Option EVal
  | [.int .u8 n] => some (.bool (digitB n))
  | _ => none
theorem e97 {n : Int} : F97 [.int .u8 n] = some (.bool (digitB n)) := rfl
theorem fn97 : FnT 97 F97 := by
  refine Fn.intro mixed noNG Tryz.func97 rfl [] (fun _ h => by cases h) ?_
  intro args v hF
  unfold F97 at hF
  split at hF
  rotate_left
  · cases hF
  intro Q hV
  have hQ := Viewed.of hV
  rename_i n
  cases hF
  refine Top.view (View.start (n := 9) rfl (by simp)) (wp_sound noNG _ _ _ _ ?_)
  ((try simp only [argsL, SS, kcall, setRange, repl, extB_q, isNew, Option.isNone_none, Option.isNone_some, Nat.reduceLT, Nat.reduceEqDiff, Nat.reduceAdd, Nat.reduceMul, Nat.reduceSub, Nat.reduceLeDiff, Nat.reduceBEq, reduceCtorEq, isNextM, absCell, eBinOp, eBin, eInt2, eInt, eStr, eUn, ePick, eConvert, eExtract, eNil, eCall, eCallV, eBuiltin, eLen, eCap, srcCells, keepV, keep1, row?, eStoreOp, EVal.cells, EVal.one, eShift, eField, eIndexAddrOp, eIndexAddr, eIndexOp, eIndex, eSliceOp, eSlice, bound, eBuild, eBuildSlice, eMakeSlice, eRange, eNextS, argB, isLent, flat, one, keepA, Tryz.underlying5, sz5, info5, I5s, I5b, zero5, grow5, Tryz.results97]); (repeat' (first | refine wpStep_not (fun h => ?_) (fun h => ?_) | refine wpStep_sym (fun h => ?_) (fun h => ?_) | refine wpCond_not (fun h => ?_) (fun h => ?_) | refine wpCond_sym (fun h => ?_) (fun h => ?_) | refine wpDStep_not (fun h => ?_) (fun h => ?_) | refine wpDStep_sym (fun h => ?_) (fun h => ?_)) <;> simp only [h, SS, kcall, setRange, repl, extB_q, isNew, Option.isNone_none, Option.isNone_some, Nat.reduceLT, Nat.reduceEqDiff, Nat.reduceAdd, Nat.reduceMul, Nat.reduceSub, Nat.reduceLeDiff, Nat.reduceBEq, reduceCtorEq, isNextM, absCell, eBinOp, eBin, eInt2, eInt, eStr, eUn, ePick, eConvert, eExtract, eNil, eCall, eCallV, eBuiltin, eLen, eCap, srcCells, keepV, keep1, row?, eStoreOp, EVal.cells, EVal.one, eShift, eField, eIndexAddrOp, eIndexAddr, eIndexOp, eIndex, eSliceOp, eSlice, bound, eBuild, eBuildSlice, eMakeSlice, eRange, eNextS, argB, isLent, flat, one, keepA, Tryz.underlying5, sz5, info5, I5s, I5b, zero5, grow5, Tryz.results97]))
  all_goals ((refine hQ _ _ _ (ends_of (by first | exact .inl rfl | exact .inr rfl) ?_); simp only [*, SS, kcall, setRange, repl, extB_q, isNew, Option.isNone_none, Option.isNone_some, Nat.reduceLT, Nat.reduceEqDiff, Nat.reduceAdd, Nat.reduceMul, Nat.reduceSub, Nat.reduceLeDiff, Nat.reduceBEq, reduceCtorEq, isNextM, absCell, eBinOp, eBin, eInt2, eInt, eStr, eUn, ePick, eConvert, eExtract, eNil, eCall, eCallV, eBuiltin, eLen, eCap, srcCells, keepV, keep1, row?, eStoreOp, EVal.cells, EVal.one, eShift, eField, eIndexAddrOp, eIndexAddr, eIndexOp, eIndex, eSliceOp, eSlice, bound, eBuild, eBuildSlice, eMakeSlice, eRange, eNextS, argB, isLent, flat, one, keepA, Tryz.underlying5, sz5, info5, I5s, I5b, zero5, grow5, Tryz.results97, digitB]))
  all_goals (simp at *; omega)

/-! the first error -/
def F47 : List EVal → Option EVal
  | [a] => (dInts a).map fun l => .int .i64 (firstL l)
  | _ => none
theorem e47 {l : List Int} (h : l.length < 1000000) : F47 [.lsl (eInts l)] = some (.int .i64 (firstL l)) := by
  simp only [F47, dInts_e h, Option.map_some]
theorem fn47 : FnT 47 F47 := by
  refine Fn.intro mixed noNG Tryz.func47 rfl [] (fun _ h => by cases h) ?_
  intro args v hF
  unfold F47 at hF
  split at hF
  rotate_left
  · cases hF
  intro Q hV
  have hQ := Viewed.of hV
  rename_i a
  cases ha : dInts a with
  | none => rw [ha] at hF; cases hF
  | some l =>
  rw [ha] at hF
  cases hF
  obtain ⟨rfl, hlen⟩ := dInts_inv ha
  clear ha
  refine Top.view (View.start (n := 19) rfl (by simp)) (wp_sound noNG _ _ _ _ ?_)
  simp only [argsL, SS, kcall, setRange, repl, extB_q, isNew, Option.isNone_none, Option.isNone_some, Nat.reduceLT, Nat.reduceEqDiff, Nat.reduceAdd, Nat.reduceMul, Nat.reduceSub, Nat.reduceLeDiff, Nat.reduceBEq, reduceCtorEq, isNextM, absCell, eBinOp, eBin, eInt2, eInt, eStr, eUn, ePick, eConvert, eExtract, eNil, eCall, eCallV, eBuiltin, eLen, eCap, srcCells, keepV, keep1, row?, eStoreOp, EVal.cells, EVal.one, eShift, eField, eIndexAddrOp, eIndexAddr, eIndexOp, eIndex, eSliceOp, eSlice, bound, eBuild, eBuildSlice, eMakeSlice, eRange, eNextS, argB, isLent, flat, one, keepA, Tryz.underlying3, sz3, info3, I3s, I3b, zero3, grow3, Tryz.underlying25, sz25, info25, I25s, I25b, zero25, grow25, Tryz.results47]
  refine wp_of_top (Top.loop (I := fun s : { k : Nat // k ≤ l.length ∧ firstL l = firstL (l.drop k) } => (mkF 19 [(3, .int .i64 (s.1 : Nat)), (0, .lsl (eInts l))], H.start)) (μ := fun s => l.length - s.1) ⟨0, by simp⟩ (View.sub (by simp [look])) ?_)
  rintro ⟨k, hk, hf⟩
  refine wp_sound noNG _ _ _ _ ?_
  by_cases hlt : k < l.length
  · obtain ⟨x, hx⟩ : ∃ x, l[k]? = some x := ⟨l[k], List.getElem?_eq_getElem hlt⟩
    have c1 : decide ((k : Int) < (l.length : Int)) = true := by simp; omega
    have c2 : IntKind.i64.wrap ((k : Int) + 1) = ((k + 1 : Nat) : Int) := by rw [wrap_id] <;> omega
    have hfd := firstL_drop hx
    ((try simp only [argsL, SS, kcall, setRange, repl, extB_q, isNew, Option.isNone_none, Option.isNone_some, Nat.reduceLT, Nat.reduceEqDiff, Nat.reduceAdd, Nat.reduceMul, Nat.reduceSub, Nat.reduceLeDiff, Nat.reduceBEq, reduceCtorEq, isNextM, absCell, eBinOp, eBin, eInt2, eInt, eStr, eUn, ePick, eConvert, eExtract, eNil, eCall, eCallV, eBuiltin, eLen, eCap, srcCells, keepV, keep1, row?, eStoreOp, EVal.cells, EVal.one, eShift, eField, eIndexAddrOp, eIndexAddr, eIndexOp, eIndex, eSliceOp, eSlice, bound, eBuild, eBuildSlice, eMakeSlice, eRange, eNextS, argB, isLent, flat, one, keepA, Tryz.underlying3, sz3, info3, I3s, I3b, zero3, grow3, Tryz.underlying25, sz25, info25, I25s, I25b, zero25, grow25, Tryz.results47, eInts_length, eInts_get, c1, c2, hx]); (repeat' (first | refine wpStep_not (fun h => ?_) (fun h => ?_) | refine wpStep_sym (fun h => ?_) (fun h => ?_) | refine wpCond_not (fun h => ?_) (fun h => ?_) | refine wpCond_sym (fun h => ?_) (fun h => ?_) | refine wpDStep_not (fun h => ?_) (fun h => ?_) | refine wpDStep_sym (fun h => ?_) (fun h => ?_)) <;> simp only [h, SS, kcall, setRange, repl, extB_q, isNew, Option.isNone_none, Option.isNone_some, Nat.reduceLT, Nat.reduceEqDiff, Nat.reduceAdd, Nat.reduceMul, Nat.reduceSub, Nat.reduceLeDiff, Nat.reduceBEq, reduceCtorEq, isNextM, absCell, eBinOp, eBin, eInt2, eInt, eStr, eUn, ePick, eConvert, eExtract, eNil, eCall, eCallV, eBuiltin, eLen, eCap, srcCells, keepV, keep1, row?, eStoreOp, EVal.cells, EVal.one, eShift, eField, eIndexAddrOp, eIndexAddr, eIndexOp, eIndex, eSliceOp, eSlice, bound, eBuild, eBuildSlice, eMakeSlice, eRange, eNextS, argB, isLent, flat, one, keepA, Tryz.underlying3, sz3, info3, I3s, I3b, zero3, grow3, Tryz.underlying25, sz25, info25, I25s, I25b, zero25, grow25, Tryz.results47, eInts_length, eInts_get, c1, c2, hx]))
    · have h' : x ≠ 0 := by simpa using h
      rw [if_pos h'] at hfd
      (refine hQ _ _ _ (ends_of (by first | exact .inl rfl | exact .inr rfl) ?_); simp only [SS, kcall, setRange, repl, extB_q, isNew, Option.isNone_none, Option.isNone_some, Nat.reduceLT, Nat.reduceEqDiff, Nat.reduceAdd, Nat.reduceMul, Nat.reduceSub, Nat.reduceLeDiff, Nat.reduceBEq, reduceCtorEq, isNextM, absCell, eBinOp, eBin, eInt2, eInt, eStr, eUn, ePick, eConvert, eExtract, eNil, eCall, eCallV, eBuiltin, eLen, eCap, srcCells, keepV, keep1, row?, eStoreOp, EVal.cells, EVal.one, eShift, eField, eIndexAddrOp, eIndexAddr, eIndexOp, eIndex, eSliceOp, eSlice, bound, eBuild, eBuildSlice, eMakeSlice, eRange, eNextS, argB, isLent, flat, one, keepA, Tryz.underlying3, sz3, info3, I3s, I3b, zero3, grow3, Tryz.underlying25, sz25, info25, I25s, I25b, zero25, grow25, Tryz.results47])
      rw [hf, hfd]
    · have h0 : x = 0 := by simpa using h
      refine ⟨⟨k + 1, hlt, by rw [hf, hfd, if_neg (by simp [h0])]⟩, by simp; omega, View.sub (by simp [look])⟩
  · have c1 : decide ((k : Int) < (l.length : Int)) = false := by simp; omega
    ((try simp only [argsL, SS, kcall, setRange, repl, extB_q, isNew, Option.isNone_none, Option.isNone_some, Nat.reduceLT, Nat.reduceEqDiff, Nat.reduceAdd, Nat.reduceMul, Nat.reduceSub, Nat.reduceLeDiff, Nat.reduceBEq, reduceCtorEq, isNextM, absCell, eBinOp, eBin, eInt2, eInt, eStr, eUn, ePick, eConvert, eExtract, eNil, eCall, eCallV, eBuiltin, eLen, eCap, srcCells, keepV, keep1, row?, eStoreOp, EVal.cells, EVal.one, eShift, eField, eIndexAddrOp, eIndexAddr, eIndexOp, eIndex, eSliceOp, eSlice, bound, eBuild, eBuildSlice, eMakeSlice, eRange, eNextS, argB, isLent, flat, one, keepA, Tryz.underlying3, sz3, info3, I3s, I3b, zero3, grow3, Tryz.underlying25, sz25, info25, I25s, I25b, zero25, grow25, Tryz.results47, eInts_length, c1]); (repeat' (first | refine wpStep_not (fun h => ?_) (fun h => ?_) | refine wpStep_sym (fun h => ?_) (fun h => ?_) | refine wpCond_not (fun h => ?_) (fun h => ?_) | refine wpCond_sym (fun h => ?_) (fun h => ?_) | refine wpDStep_not (fun h => ?_) (fun h => ?_) | refine wpDStep_sym (fun h => ?_) (fun h => ?_)) <;> simp only [h, SS, kcall, setRange, repl, extB_q, isNew, Option.isNone_none, Option.isNone_some, Nat.reduceLT, Nat.reduceEqDiff, Nat.reduceAdd, Nat.reduceMul, Nat.reduceSub, Nat.reduceLeDiff, Nat.reduceBEq, reduceCtorEq, isNextM, absCell, eBinOp, eBin, eInt2, eInt, eStr, eUn, ePick, eConvert, eExtract, eNil, eCall, eCallV, eBuiltin, eLen, eCap, srcCells, keepV, keep1, row?, eStoreOp, EVal.cells, EVal.one, eShift, eField, eIndexAddrOp, eIndexAddr, eIndexOp, eIndex, eSliceOp, eSlice, bound, eBuild, eBuildSlice, eMakeSlice, eRange, eNextS, argB, isLent, flat, one, keepA, Tryz.underlying3, sz3, info3, I3s, I3b, zero3, grow3, Tryz.underlying25, sz25, info25, I25s, I25b, zero25, grow25, Tryz.results47, eInts_length, c1]))
    (refine hQ _ _ _ (ends_of (by first | exact .inl rfl | exact .inr rfl) ?_); simp only [SS, kcall, setRange, repl, extB_q, isNew, Option.isNone_none, Option.isNone_some, Nat.reduceLT, Nat.reduceEqDiff, Nat.reduceAdd, Nat.reduceMul, Nat.reduceSub, Nat.reduceLeDiff, Nat.reduceBEq, reduceCtorEq, isNextM, absCell, eBinOp, eBin, eInt2, eInt, eStr, eUn, ePick, eConvert, eExtract, eNil, eCall, eCallV, eBuiltin, eLen, eCap, srcCells, keepV, keep1, row?, eStoreOp, EVal.cells, EVal.one, eShift, eField, eIndexAddrOp, eIndexAddr, eIndexOp, eIndex, eSliceOp, eSlice, bound, eBuild, eBuildSlice, eMakeSlice, eRange, eNextS, argB, isLent, flat, one, keepA, Tryz.underlying3, sz3, info3, I3s, I3b, zero3, grow3, Tryz.underlying25, sz25, info25, I25s, I25b, zero25, grow25, Tryz.results47])
    rw [hf, List.drop_eq_nil_of_le (by omega)]; rfl

/-! a draw's arguments -/
def rangeE (n lo hi : Int) : Int := if n < lo ∨ hi < n then 3 else 0
def F25 : List EVal → Option EVal
  | [.int .i64 a, .int .i64 b] => some (.int .i64 (firstL [rangeE a 1 2147483398, rangeE b 0 256]))
  | _ => none
theorem e25 {a b : Int} : F25 [.int .i64 a, .int .i64 b] = some (.int .i64 (firstL [rangeE a 1 2147483398, rangeE b 0 256])) := rfl
theorem e61' {n lo hi : Int} : F61 [.int .i64 n, .int .i64 lo, .int .i64 hi] = some (.int .i64 (rangeE n lo hi)) := rfl
theorem e47two {a b : Int} : F47 [.lsl [[.int .i64 a], [.int .i64 b]]] = some (.int .i64 (firstL [a, b])) := e47 (l := [a, b]) (by simp)
theorem fn25 : FnT 25 F25 := by
  refine Fn.intro mixed noNG Tryz.func25 rfl [(61, F61), (47, F47)] (by simp only [List.forall_mem_cons]; exact ⟨fn61, fn47, fun _ h => by cases h⟩) ?_
  intro args v hF
  unfold F25 at hF
  split at hF
  rotate_left
  · cases hF
  intro Q hV
  have hQ := Viewed.of hV
  rename_i a b
  cases hF
  refine Top.view (View.start (n := 11) rfl (by simp)) (wp_sound noNG _ _ _ _ ?_)
  ((try simp only [argsL, SS, kcall, setRange, repl, extB_q, isNew, Option.isNone_none, Option.isNone_some, Nat.reduceLT, Nat.reduceEqDiff, Nat.reduceAdd, Nat.reduceMul, Nat.reduceSub, Nat.reduceLeDiff, Nat.reduceBEq, reduceCtorEq, isNextM, absCell, eBinOp, eBin, eInt2, eInt, eStr, eUn, ePick, eConvert, eExtract, eNil, eCall, eCallV, eBuiltin, eLen, eCap, srcCells, keepV, keep1, row?, eStoreOp, EVal.cells, EVal.one, eShift, eField, eIndexAddrOp, eIndexAddr, eIndexOp, eIndex, eSliceOp, eSlice, bound, eBuild, eBuildSlice, eMakeSlice, eRange, eNextS, argB, isLent, flat, one, keepA, Tryz.underlying3, sz3, info3, I3s, I3b, zero3, grow3, Tryz.underlying25, sz25, info25, I25s, I25b, zero25, grow25, call47, call61, Tryz.results25, e61', e47two]); (repeat' (first | refine wpStep_not (fun h => ?_) (fun h => ?_) | refine wpStep_sym (fun h => ?_) (fun h => ?_) | refine wpCond_not (fun h => ?_) (fun h => ?_) | refine wpCond_sym (fun h => ?_) (fun h => ?_) | refine wpDStep_not (fun h => ?_) (fun h => ?_) | refine wpDStep_sym (fun h => ?_) (fun h => ?_)) <;> simp only [h, SS, kcall, setRange, repl, extB_q, isNew, Option.isNone_none, Option.isNone_some, Nat.reduceLT, Nat.reduceEqDiff, Nat.reduceAdd, Nat.reduceMul, Nat.reduceSub, Nat.reduceLeDiff, Nat.reduceBEq, reduceCtorEq, isNextM, absCell, eBinOp, eBin, eInt2, eInt, eStr, eUn, ePick, eConvert, eExtract, eNil, eCall, eCallV, eBuiltin, eLen, eCap, srcCells, keepV, keep1, row?, eStoreOp, EVal.cells, EVal.one, eShift, eField, eIndexAddrOp, eIndexAddr, eIndexOp, eIndex, eSliceOp, eSlice, bound, eBuild, eBuildSlice, eMakeSlice, eRange, eNextS, argB, isLent, flat, one, keepA, Tryz.underlying3, sz3, info3, I3s, I3b, zero3, grow3, Tryz.underlying25, sz25, info25, I25s, I25b, zero25, grow25, call47, call61, Tryz.results25, e61', e47two]))
  (refine hQ _ _ _ (ends_of (by first | exact .inl rfl | exact .inr rfl) ?_); simp only [SS, kcall, setRange, repl, extB_q, isNew, Option.isNone_none, Option.isNone_some, Nat.reduceLT, Nat.reduceEqDiff, Nat.reduceAdd, Nat.reduceMul, Nat.reduceSub, Nat.reduceLeDiff, Nat.reduceBEq, reduceCtorEq, isNextM, absCell, eBinOp, eBin, eInt2, eInt, eStr, eUn, ePick, eConvert, eExtract, eNil, eCall, eCallV, eBuiltin, eLen, eCap, srcCells, keepV, keep1, row?, eStoreOp, EVal.cells, EVal.one, eShift, eField, eIndexAddrOp, eIndexAddr, eIndexOp, eIndex, eSliceOp, eSlice, bound, eBuild, eBuildSlice, eMakeSlice, eRange, eNextS, argB, isLent, flat, one, keepA, Tryz.underlying3, sz3, info3, I3s, I3b, zero3, grow3, Tryz.underlying25, sz25, info25, I25s, I25b, zero25, grow25, call47, call61, Tryz.results25])

/-! lists of numbers, compared -/
def F78 : List EVal → Option EVal
  | [a, b] => match dInts a, dInts b with
    | some l, some m => some (.bool (decide (l = m)))
    | _, _ => none
  | _ => none
theorem e78 {l m : List Int} (h1 : l.length < 1000000) (h2 : m.length < 1000000) : F78 [.lsl (eInts l), .lsl (eInts m)] = some (.bool (decide (l = m))) := by
  simp only [F78, dInts_e h1, dInts_e h2]
theorem fn78 : FnT 78 F78 := by
  refine Fn.intro mixed noNG Tryz.func78 rfl [] (fun _ h => by cases h) ?_
  intro args v hF
  unfold F78 at hF
  split at hF
  rotate_left
  · cases hF
  intro Q hV
  have hQ := Viewed.of hV
  rename_i a b
  split at hF
  rotate_left
  · cases hF
  rename_i l m ha hb
  cases hF
  obtain ⟨rfl, hl⟩ := dInts_inv ha
  obtain ⟨rfl, hm⟩ := dInts_inv hb
  clear ha hb
  refine Top.view (View.start (n := 26) rfl (by simp)) (wp_sound noNG _ _ _ _ ?_)
  by_cases hlen : l.length = m.length
  · have c0 : ((l.length : Int) == (m.length : Int)) = true := by simp [hlen]
    ((try simp only [argsL, SS, kcall, setRange, repl, extB_q, isNew, Option.isNone_none, Option.isNone_some, Nat.reduceLT, Nat.reduceEqDiff, Nat.reduceAdd, Nat.reduceMul, Nat.reduceSub, Nat.reduceLeDiff, Nat.reduceBEq, reduceCtorEq, isNextM, absCell, eBinOp, eBin, eInt2, eInt, eStr, eUn, ePick, eConvert, eExtract, eNil, eCall, eCallV, eBuiltin, eLen, eCap, srcCells, keepV, keep1, row?, eStoreOp, EVal.cells, EVal.one, eShift, eField, eIndexAddrOp, eIndexAddr, eIndexOp, eIndex, eSliceOp, eSlice, bound, eBuild, eBuildSlice, eMakeSlice, eRange, eNextS, argB, isLent, flat, one, keepA, Tryz.underlying3, sz3, info3, I3s, I3b, zero3, grow3, Tryz.underlying25, sz25, info25, I25s, I25b, zero25, grow25, Tryz.results78, eInts_length, c0]); (repeat' (first | refine wpStep_not (fun h => ?_) (fun h => ?_) | refine wpStep_sym (fun h => ?_) (fun h => ?_) | refine wpCond_not (fun h => ?_) (fun h => ?_) | refine wpCond_sym (fun h => ?_) (fun h => ?_) | refine wpDStep_not (fun h => ?_) (fun h => ?_) | refine wpDStep_sym (fun h => ?_) (fun h => ?_)) <;> simp only [h, SS, kcall, setRange, repl, extB_q, isNew, Option.isNone_none, Option.isNone_some, Nat.reduceLT, Nat.reduceEqDiff, Nat.reduceAdd, Nat.reduceMul, Nat.reduceSub, Nat.reduceLeDiff, Nat.reduceBEq, reduceCtorEq, isNextM, absCell, eBinOp, eBin, eInt2, eInt, eStr, eUn, ePick, eConvert, eExtract, eNil, eCall, eCallV, eBuiltin, eLen, eCap, srcCells, keepV, keep1, row?, eStoreOp, EVal.cells, EVal.one, eShift, eField, eIndexAddrOp, eIndexAddr, eIndexOp, eIndex, eSliceOp, eSlice, bound, eBuild, eBuildSlice, eMakeSlice, eRange, eNextS, argB, isLent, flat, one, keepA, Tryz.underlying3, sz3, info3, I3s, I3b, zero3, grow3, Tryz.underlying25, sz25, info25, I25s, I25b, zero25, grow25, Tryz.results78, eInts_length, c0]))
    refine wp_of_top (Top.loop (I := fun s : { k : Nat // k ≤ l.length ∧ l.take k = m.take k } => (mkF 26 [(5, .int .i64 (s.1 : Nat)), (0, .lsl (eInts l)), (1, .lsl (eInts m))], H.start)) (μ := fun s => l.length - s.1) ⟨0, by simp⟩ (View.sub (by simp [look])) ?_)
    rintro ⟨k, hk, hf⟩
    refine wp_sound noNG _ _ _ _ ?_
    by_cases hlt : k < l.length
    · obtain ⟨x, hx⟩ : ∃ x, l[k]? = some x := ⟨l[k], List.getElem?_eq_getElem hlt⟩
      obtain ⟨y, hy⟩ : ∃ y, m[k]? = some y := ⟨m[k], List.getElem?_eq_getElem (by omega)⟩
      have c1 : decide ((k : Int) < (l.length : Int)) = true := by simp; omega
      have c2 : IntKind.i64.wrap ((k : Int) + 1) = ((k + 1 : Nat) : Int) := by rw [wrap_id] <;> omega
      ((try simp only [argsL, SS, kcall, setRange, repl, extB_q, isNew, Option.isNone_none, Option.isNone_some, Nat.reduceLT, Nat.reduceEqDiff, Nat.reduceAdd, Nat.reduceMul, Nat.reduceSub, Nat.reduceLeDiff, Nat.reduceBEq, reduceCtorEq, isNextM, absCell, eBinOp, eBin, eInt2, eInt, eStr, eUn, ePick, eConvert, eExtract, eNil, eCall, eCallV, eBuiltin, eLen, eCap, srcCells, keepV, keep1, row?, eStoreOp, EVal.cells, EVal.one, eShift, eField, eIndexAddrOp, eIndexAddr, eIndexOp, eIndex, eSliceOp, eSlice, bound, eBuild, eBuildSlice, eMakeSlice, eRange, eNextS, argB, isLent, flat, one, keepA, Tryz.underlying3, sz3, info3, I3s, I3b, zero3, grow3, Tryz.underlying25, sz25, info25, I25s, I25b, zero25, grow25, Tryz.results78, eInts_length, eInts_get, c1, c2, hx, hy]); (repeat' (first | refine wpStep_not (fun h => ?_) (fun h => ?_) | refine wpStep_sym (fun h => ?_) (fun h => ?_) | refine wpCond_not (fun h => ?_) (fun h => ?_) | refine wpCond_sym (fun h => ?_) (fun h => ?_) | refine wpDStep_not (fun h => ?_) (fun h => ?_) | refine wpDStep_sym (fun h => ?_) (fun h => ?_)) <;> simp only [h, SS, kcall, setRange, repl, extB_q, isNew, Option.isNone_none, Option.isNone_some, Nat.reduceLT, Nat.reduceEqDiff, Nat.reduceAdd, Nat.reduceMul, Nat.reduceSub, Nat.reduceLeDiff, Nat.reduceBEq, reduceCtorEq, isNextM, absCell, eBinOp, eBin, eInt2, eInt, eStr, eUn, ePick, eConvert, eExtract, eNil, eCall, eCallV, eBuiltin, eLen, eCap, srcCells, keepV, keep1, row?, eStoreOp, EVal.cells, EVal.one, eShift, eField, eIndexAddrOp, eIndexAddr, eIndexOp, eIndex, eSliceOp, eSlice, bound, eBuild, eBuildSlice, eMakeSlice, eRange, eNextS, argB, isLent, flat, one, keepA, Tryz.underlying3, sz3, info3, I3s, I3b, zero3, grow3, Tryz.underlying25, sz25, info25, I25s, I25b, zero25, grow25, Tryz.results78, eInts_length, eInts_get, c1, c2, hx, hy]))
      refine wp_of_draw (Top.draw mixed noNG (by kernel_rfl) ?_)
      ((try simp only [argsL, SS, kcall, setRange, repl, extB_q, isNew, Option.isNone_none, Option.isNone_some, Nat.reduceLT, Nat.reduceEqDiff, Nat.reduceAdd, Nat.reduceMul, Nat.reduceSub, Nat.reduceLeDiff, Nat.reduceBEq, reduceCtorEq, isNextM, absCell, eBinOp, eBin, eInt2, eInt, eStr, eUn, ePick, eConvert, eExtract, eNil, eCall, eCallV, eBuiltin, eLen, eCap, srcCells, keepV, keep1, row?, eStoreOp, EVal.cells, EVal.one, eShift, eField, eIndexAddrOp, eIndexAddr, eIndexOp, eIndex, eSliceOp, eSlice, bound, eBuild, eBuildSlice, eMakeSlice, eRange, eNextS, argB, isLent, flat, one, keepA, Tryz.underlying3, sz3, info3, I3s, I3b, zero3, grow3, Tryz.underlying25, sz25, info25, I25s, I25b, zero25, grow25, Tryz.results78, eInts_length, eInts_get, c1, c2, hx, hy]); (repeat' (first | refine wpStep_not (fun h => ?_) (fun h => ?_) | refine wpStep_sym (fun h => ?_) (fun h => ?_) | refine wpCond_not (fun h => ?_) (fun h => ?_) | refine wpCond_sym (fun h => ?_) (fun h => ?_) | refine wpDStep_not (fun h => ?_) (fun h => ?_) | refine wpDStep_sym (fun h => ?_) (fun h => ?_)) <;> simp only [h, SS, kcall, setRange, repl, extB_q, isNew, Option.isNone_none, Option.isNone_some, Nat.reduceLT, Nat.reduceEqDiff, Nat.reduceAdd, Nat.reduceMul, Nat.reduceSub, Nat.reduceLeDiff, Nat.reduceBEq, reduceCtorEq, isNextM, absCell, eBinOp, eBin, eInt2, eInt, eStr, eUn, ePick, eConvert, eExtract, eNil, eCall, eCallV, eBuiltin, eLen, eCap, srcCells, keepV, keep1, row?, eStoreOp, EVal.cells, EVal.one, eShift, eField, eIndexAddrOp, eIndexAddr, eIndexOp, eIndex, eSliceOp, eSlice, bound, eBuild, eBuildSlice, eMakeSlice, eRange, eNextS, argB, isLent, flat, one, keepA, Tryz.underlying3, sz3, info3, I3s, I3b, zero3, grow3, Tryz.underlying25, sz25, info25, I25s, I25b, zero25, grow25, Tryz.results78, eInts_length, eInts_get, c1, c2, hx, hy]))
      refine ⟨by kernel_rfl, ?_⟩
      ((try simp only [argsL, SS, kcall, setRange, repl, extB_q, isNew, Option.isNone_none, Option.isNone_some, Nat.reduceLT, Nat.reduceEqDiff, Nat.reduceAdd, Nat.reduceMul, Nat.reduceSub, Nat.reduceLeDiff, Nat.reduceBEq, reduceCtorEq, isNextM, absCell, eBinOp, eBin, eInt2, eInt, eStr, eUn, ePick, eConvert, eExtract, eNil, eCall, eCallV, eBuiltin, eLen, eCap, srcCells, keepV, keep1, row?, eStoreOp, EVal.cells, EVal.one, eShift, eField, eIndexAddrOp, eIndexAddr, eIndexOp, eIndex, eSliceOp, eSlice, bound, eBuild, eBuildSlice, eMakeSlice, eRange, eNextS, argB, isLent, flat, one, keepA, Tryz.underlying3, sz3, info3, I3s, I3b, zero3, grow3, Tryz.underlying25, sz25, info25, I25s, I25b, zero25, grow25, Tryz.results78, eInts_length, eInts_get, c1, c2, hx, hy]); (repeat' (first | refine wpStep_not (fun h => ?_) (fun h => ?_) | refine wpStep_sym (fun h => ?_) (fun h => ?_) | refine wpCond_not (fun h => ?_) (fun h => ?_) | refine wpCond_sym (fun h => ?_) (fun h => ?_) | refine wpDStep_not (fun h => ?_) (fun h => ?_) | refine wpDStep_sym (fun h => ?_) (fun h => ?_)) <;> simp only [h, SS, kcall, setRange, repl, extB_q, isNew, Option.isNone_none, Option.isNone_some, Nat.reduceLT, Nat.reduceEqDiff, Nat.reduceAdd, Nat.reduceMul, Nat.reduceSub, Nat.reduceLeDiff, Nat.reduceBEq, reduceCtorEq, isNextM, absCell, eBinOp, eBin, eInt2, eInt, eStr, eUn, ePick, eConvert, eExtract, eNil, eCall, eCallV, eBuiltin, eLen, eCap, srcCells, keepV, keep1, row?, eStoreOp, EVal.cells, EVal.one, eShift, eField, eIndexAddrOp, eIndexAddr, eIndexOp, eIndex, eSliceOp, eSlice, bound, eBuild, eBuildSlice, eMakeSlice, eRange, eNextS, argB, isLent, flat, one, keepA, Tryz.underlying3, sz3, info3, I3s, I3b, zero3, grow3, Tryz.underlying25, sz25, info25, I25s, I25b, zero25, grow25, Tryz.results78, eInts_length, eInts_get, c1, c2, hx, hy]))
      · have h' : x ≠ y := by simpa using h
        (refine hQ _ _ _ (ends_of (by first | exact .inl rfl | exact .inr rfl) ?_); simp only [SS, kcall, setRange, repl, extB_q, isNew, Option.isNone_none, Option.isNone_some, Nat.reduceLT, Nat.reduceEqDiff, Nat.reduceAdd, Nat.reduceMul, Nat.reduceSub, Nat.reduceLeDiff, Nat.reduceBEq, reduceCtorEq, isNextM, absCell, eBinOp, eBin, eInt2, eInt, eStr, eUn, ePick, eConvert, eExtract, eNil, eCall, eCallV, eBuiltin, eLen, eCap, srcCells, keepV, keep1, row?, eStoreOp, EVal.cells, EVal.one, eShift, eField, eIndexAddrOp, eIndexAddr, eIndexOp, eIndex, eSliceOp, eSlice, bound, eBuild, eBuildSlice, eMakeSlice, eRange, eNextS, argB, isLent, flat, one, keepA, Tryz.underlying3, sz3, info3, I3s, I3b, zero3, grow3, Tryz.underlying25, sz25, info25, I25s, I25b, zero25, grow25, Tryz.results78])
        have : l ≠ m := fun e => h' (by rw [e, hy] at hx; exact (Option.some.inj hx).symm)
        simp [this]
      · have h' : x = y := by simpa using h
        refine ⟨⟨k + 1, hlt, by rw [List.take_add_one, List.take_add_one, hf, hx, hy, h']⟩, by simp; omega, View.sub (by simp [look])⟩
    · have c1 : decide ((k : Int) < (l.length : Int)) = false := by simp; omega
      ((try simp only [argsL, SS, kcall, setRange, repl, extB_q, isNew, Option.isNone_none, Option.isNone_some, Nat.reduceLT, Nat.reduceEqDiff, Nat.reduceAdd, Nat.reduceMul, Nat.reduceSub, Nat.reduceLeDiff, Nat.reduceBEq, reduceCtorEq, isNextM, absCell, eBinOp, eBin, eInt2, eInt, eStr, eUn, ePick, eConvert, eExtract, eNil, eCall, eCallV, eBuiltin, eLen, eCap, srcCells, keepV, keep1, row?, eStoreOp, EVal.cells, EVal.one, eShift, eField, eIndexAddrOp, eIndexAddr, eIndexOp, eIndex, eSliceOp, eSlice, bound, eBuild, eBuildSlice, eMakeSlice, eRange, eNextS, argB, isLent, flat, one, keepA, Tryz.underlying3, sz3, info3, I3s, I3b, zero3, grow3, Tryz.underlying25, sz25, info25, I25s, I25b, zero25, grow25, Tryz.results78, eInts_length, c1]); (repeat' (first | refine wpStep_not (fun h => ?_) (fun h => ?_) | refine wpStep_sym (fun h => ?_) (fun h => ?_) | refine wpCond_not (fun h => ?_) (fun h => ?_) | refine wpCond_sym (fun h => ?_) (fun h => ?_) | refine wpDStep_not (fun h => ?_) (fun h => ?_) | refine wpDStep_sym (fun h => ?_) (fun h => ?_)) <;> simp only [h, SS, kcall, setRange, repl, extB_q, isNew, Option.isNone_none, Option.isNone_some, Nat.reduceLT, Nat.reduceEqDiff, Nat.reduceAdd, Nat.reduceMul, Nat.reduceSub, Nat.reduceLeDiff, Nat.reduceBEq, reduceCtorEq, isNextM, absCell, eBinOp, eBin, eInt2, eInt, eStr, eUn, ePick, eConvert, eExtract, eNil, eCall, eCallV, eBuiltin, eLen, eCap, srcCells, keepV, keep1, row?, eStoreOp, EVal.cells, EVal.one, eShift, eField, eIndexAddrOp, eIndexAddr, eIndexOp, eIndex, eSliceOp, eSlice, bound, eBuild, eBuildSlice, eMakeSlice, eRange, eNextS, argB, isLent, flat, one, keepA, Tryz.underlying3, sz3, info3, I3s, I3b, zero3, grow3, Tryz.underlying25, sz25, info25, I25s, I25b, zero25, grow25, Tryz.results78, eInts_length, c1]))
      (refine hQ _ _ _ (ends_of (by first | exact .inl rfl | exact .inr rfl) ?_); simp only [SS, kcall, setRange, repl, extB_q, isNew, Option.isNone_none, Option.isNone_some, Nat.reduceLT, Nat.reduceEqDiff, Nat.reduceAdd, Nat.reduceMul, Nat.reduceSub, Nat.reduceLeDiff, Nat.reduceBEq, reduceCtorEq, isNextM, absCell, eBinOp, eBin, eInt2, eInt, eStr, eUn, ePick, eConvert, eExtract, eNil, eCall, eCallV, eBuiltin, eLen, eCap, srcCells, keepV, keep1, row?, eStoreOp, EVal.cells, EVal.one, eShift, eField, eIndexAddrOp, eIndexAddr, eIndexOp, eIndex, eSliceOp, eSlice, bound, eBuild, eBuildSlice, eMakeSlice, eRange, eNextS, argB, isLent, flat, one, keepA, Tryz.underlying3, sz3, info3, I3s, I3b, zero3, grow3, Tryz.underlying25, sz25, info25, I25s, I25b, zero25, grow25, Tryz.results78])
      obtain rfl : k = l.length := by omega
      rw [List.take_length, hlen, List.take_length] at hf
      simp [hf]
  · have c0 : ((l.length : Int) == (m.length : Int)) = false := by simp; omega
    ((try simp only [argsL, SS, kcall, setRange, repl, extB_q, isNew, Option.isNone_none, Option.isNone_some, Nat.reduceLT, Nat.reduceEqDiff, Nat.reduceAdd, Nat.reduceMul, Nat.reduceSub, Nat.reduceLeDiff, Nat.reduceBEq, reduceCtorEq, isNextM, absCell, eBinOp, eBin, eInt2, eInt, eStr, eUn, ePick, eConvert, eExtract, eNil, eCall, eCallV, eBuiltin, eLen, eCap, srcCells, keepV, keep1, row?, eStoreOp, EVal.cells, EVal.one, eShift, eField, eIndexAddrOp, eIndexAddr, eIndexOp, eIndex, eSliceOp, eSlice, bound, eBuild, eBuildSlice, eMakeSlice, eRange, eNextS, argB, isLent, flat, one, keepA, Tryz.underlying3, sz3, info3, I3s, I3b, zero3, grow3, Tryz.underlying25, sz25, info25, I25s, I25b, zero25, grow25, Tryz.results78, eInts_length, c0]); (repeat' (first | refine wpStep_not (fun h => ?_) (fun h => ?_) | refine wpStep_sym (fun h => ?_) (fun h => ?_) | refine wpCond_not (fun h => ?_) (fun h => ?_) | refine wpCond_sym (fun h => ?_) (fun h => ?_) | refine wpDStep_not (fun h => ?_) (fun h => ?_) | refine wpDStep_sym (fun h => ?_) (fun h => ?_)) <;> simp only [h, SS, kcall, setRange, repl, extB_q, isNew, Option.isNone_none, Option.isNone_some, Nat.reduceLT, Nat.reduceEqDiff, Nat.reduceAdd, Nat.reduceMul, Nat.reduceSub, Nat.reduceLeDiff, Nat.reduceBEq, reduceCtorEq, isNextM, absCell, eBinOp, eBin, eInt2, eInt, eStr, eUn, ePick, eConvert, eExtract, eNil, eCall, eCallV, eBuiltin, eLen, eCap, srcCells, keepV, keep1, row?, eStoreOp, EVal.cells, EVal.one, eShift, eField, eIndexAddrOp, eIndexAddr, eIndexOp, eIndex, eSliceOp, eSlice, bound, eBuild, eBuildSlice, eMakeSlice, eRange, eNextS, argB, isLent, flat, one, keepA, Tryz.underlying3, sz3, info3, I3s, I3b, zero3, grow3, Tryz.underlying25, sz25, info25, I25s, I25b, zero25, grow25, Tryz.results78, eInts_length, c0]))
    (refine hQ _ _ _ (ends_of (by first | exact .inl rfl | exact .inr rfl) ?_); simp only [SS, kcall, setRange, repl, extB_q, isNew, Option.isNone_none, Option.isNone_some, Nat.reduceLT, Nat.reduceEqDiff, Nat.reduceAdd, Nat.reduceMul, Nat.reduceSub, Nat.reduceLeDiff, Nat.reduceBEq, reduceCtorEq, isNextM, absCell, eBinOp, eBin, eInt2, eInt, eStr, eUn, ePick, eConvert, eExtract, eNil, eCall, eCallV, eBuiltin, eLen, eCap, srcCells, keepV, keep1, row?, eStoreOp, EVal.cells, EVal.one, eShift, eField, eIndexAddrOp, eIndexAddr, eIndexOp, eIndex, eSliceOp, eSlice, bound, eBuild, eBuildSlice, eMakeSlice, eRange, eNextS, argB, isLent, flat, one, keepA, Tryz.underlying3, sz3, info3, I3s, I3b, zero3, grow3, Tryz.underlying25, sz25, info25, I25s, I25b, zero25, grow25, Tryz.results78])
    have : l ≠ m := fun h => hlen (by rw [h])
    simp [this]
end Go.Ev
