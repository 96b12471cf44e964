import Derived.Test.YtdbjdkkgpnkiaaaGreatDoorNames
set_option linter.unusedSimpArgs false
set_option linter.unusedVariables false
namespace Go.Ev
open Go.RowKit Go.Proofs
set_option maxRecDepth 20000
set_option maxHeartbeats 4000000

def okAt (i : Nat) (c : Nat) : Bool := letterU c || (decide (i ≠ 0) && (digitB c || decide ((c : Int) = 95)))
def allFrom : Nat → List Nat → Bool
  | _, [] => true
  | i, c :: l => okAt i c && allFrom (i + 1) l
/-- a name, in bytes -/
def nameB (l : List Nat) : Bool := decide (1 ≤ l.length) && decide (l.length ≤ 24) && allFrom 0 l

theorem allFrom_drop {i : Nat} {l : List Nat} {k : Nat} {c : Nat} (h : l[k]? = some c) : allFrom i (l.drop k) = (okAt i c && allFrom (i + 1) (l.drop (k + 1))) := by
  obtain ⟨hk, rfl⟩ := List.getElem?_eq_some_iff.1 h
  rw [List.drop_eq_getElem_cons hk]; rfl

theorem letterB_U (c : Int) : letterB c = letterU c := by
  unfold letterB letterU lowerB
  exact Bool.or_comm _ _

def F28 : List EVal → Option EVal
  | [.str l] => some (.bool (nameB l))
  | _ => none
theorem e28 {l : List Nat} : F28 [.str l] = some (.bool (nameB l)) := rfl

theorem fn28 : FnT 28 F28 := by
  refine Fn.intro mixed noNG Tryz.func28 rfl [(96, F96), (97, F97)] (by simp only [List.forall_mem_cons]; exact ⟨fn96, fn97, fun _ h => by cases h⟩) ?_
  intro args v hF
  unfold F28 at hF
  split at hF
  rotate_left
  · cases hF
  intro Q hV
  have hQ := Viewed.of hV
  rename_i l
  cases hF
  refine Top.view (View.start (n := 42) rfl (by simp)) (wp_sound noNG _ _ _ _ ?_)
  by_cases h0 : l.length = 0
  · have c1 : ((l.length : Int) == 0) = true := by rw [beq_iff_eq]; omega
    ((try simp only [argsL, SS, kcall, setRange, repl, extB_q, isNew, Option.isNone_none, Option.isNone_some, Nat.reduceLT, Nat.reduceEqDiff, Nat.reduceAdd, Nat.reduceMul, Nat.reduceSub, Nat.reduceLeDiff, Nat.reduceBEq, reduceCtorEq, isNextM, absCell, eBinOp, eBin, eInt2, eInt, eStr, eUn, ePick, eConvert, eExtract, eNil, eCall, eCallV, eBuiltin, eLen, eCap, srcCells, keepV, keep1, row?, eStoreOp, EVal.cells, EVal.one, eShift, eField, eIndexAddrOp, eIndexAddr, eIndexOp, eIndex, eSliceOp, eSlice, bound, eBuild, eBuildSlice, eMakeSlice, eRange, eNextS, argB, isLent, flat, one, keepA, Tryz.underlying3, sz3, info3, I3s, I3b, zero3, grow3, Tryz.underlying5, sz5, info5, I5s, I5b, zero5, grow5, Tryz.underlying9, sz9, info9, I9s, I9b, zero9, grow9, call96, call97, Tryz.results28, e96, e97, c1]); (repeat' (first | refine wpStep_not (fun h => ?_) (fun h => ?_) | refine wpStep_sym (fun h => ?_) (fun h => ?_) | refine wpCond_not (fun h => ?_) (fun h => ?_) | refine wpCond_sym (fun h => ?_) (fun h => ?_) | refine wpDStep_not (fun h => ?_) (fun h => ?_) | refine wpDStep_sym (fun h => ?_) (fun h => ?_)) <;> simp only [h, SS, kcall, setRange, repl, extB_q, isNew, Option.isNone_none, Option.isNone_some, Nat.reduceLT, Nat.reduceEqDiff, Nat.reduceAdd, Nat.reduceMul, Nat.reduceSub, Nat.reduceLeDiff, Nat.reduceBEq, reduceCtorEq, isNextM, absCell, eBinOp, eBin, eInt2, eInt, eStr, eUn, ePick, eConvert, eExtract, eNil, eCall, eCallV, eBuiltin, eLen, eCap, srcCells, keepV, keep1, row?, eStoreOp, EVal.cells, EVal.one, eShift, eField, eIndexAddrOp, eIndexAddr, eIndexOp, eIndex, eSliceOp, eSlice, bound, eBuild, eBuildSlice, eMakeSlice, eRange, eNextS, argB, isLent, flat, one, keepA, Tryz.underlying3, sz3, info3, I3s, I3b, zero3, grow3, Tryz.underlying5, sz5, info5, I5s, I5b, zero5, grow5, Tryz.underlying9, sz9, info9, I9s, I9b, zero9, grow9, call96, call97, Tryz.results28, e96, e97, c1]))
    (refine hQ _ _ _ (ends_of (by first | exact .inl rfl | exact .inr rfl) ?_); simp only [SS, kcall, setRange, repl, extB_q, isNew, Option.isNone_none, Option.isNone_some, Nat.reduceLT, Nat.reduceEqDiff, Nat.reduceAdd, Nat.reduceMul, Nat.reduceSub, Nat.reduceLeDiff, Nat.reduceBEq, reduceCtorEq, isNextM, absCell, eBinOp, eBin, eInt2, eInt, eStr, eUn, ePick, eConvert, eExtract, eNil, eCall, eCallV, eBuiltin, eLen, eCap, srcCells, keepV, keep1, row?, eStoreOp, EVal.cells, EVal.one, eShift, eField, eIndexAddrOp, eIndexAddr, eIndexOp, eIndex, eSliceOp, eSlice, bound, eBuild, eBuildSlice, eMakeSlice, eRange, eNextS, argB, isLent, flat, one, keepA, Tryz.underlying3, sz3, info3, I3s, I3b, zero3, grow3, Tryz.underlying5, sz5, info5, I5s, I5b, zero5, grow5, Tryz.underlying9, sz9, info9, I9s, I9b, zero9, grow9, call96, call97, Tryz.results28])
    simp [nameB, h0]
  have c1 : ((l.length : Int) == 0) = false := by rw [beq_eq_false_iff_ne]; omega
  by_cases h24 : l.length ≤ 24
  rotate_left
  · have c2 : decide ((24 : Int) < (l.length : Int)) = true := by simp; omega
    ((try simp only [argsL, SS, kcall, setRange, repl, extB_q, isNew, Option.isNone_none, Option.isNone_some, Nat.reduceLT, Nat.reduceEqDiff, Nat.reduceAdd, Nat.reduceMul, Nat.reduceSub, Nat.reduceLeDiff, Nat.reduceBEq, reduceCtorEq, isNextM, absCell, eBinOp, eBin, eInt2, eInt, eStr, eUn, ePick, eConvert, eExtract, eNil, eCall, eCallV, eBuiltin, eLen, eCap, srcCells, keepV, keep1, row?, eStoreOp, EVal.cells, EVal.one, eShift, eField, eIndexAddrOp, eIndexAddr, eIndexOp, eIndex, eSliceOp, eSlice, bound, eBuild, eBuildSlice, eMakeSlice, eRange, eNextS, argB, isLent, flat, one, keepA, Tryz.underlying3, sz3, info3, I3s, I3b, zero3, grow3, Tryz.underlying5, sz5, info5, I5s, I5b, zero5, grow5, Tryz.underlying9, sz9, info9, I9s, I9b, zero9, grow9, call96, call97, Tryz.results28, e96, e97, c1, c2]); (repeat' (first | refine wpStep_not (fun h => ?_) (fun h => ?_) | refine wpStep_sym (fun h => ?_) (fun h => ?_) | refine wpCond_not (fun h => ?_) (fun h => ?_) | refine wpCond_sym (fun h => ?_) (fun h => ?_) | refine wpDStep_not (fun h => ?_) (fun h => ?_) | refine wpDStep_sym (fun h => ?_) (fun h => ?_)) <;> simp only [h, SS, kcall, setRange, repl, extB_q, isNew, Option.isNone_none, Option.isNone_some, Nat.reduceLT, Nat.reduceEqDiff, Nat.reduceAdd, Nat.reduceMul, Nat.reduceSub, Nat.reduceLeDiff, Nat.reduceBEq, reduceCtorEq, isNextM, absCell, eBinOp, eBin, eInt2, eInt, eStr, eUn, ePick, eConvert, eExtract, eNil, eCall, eCallV, eBuiltin, eLen, eCap, srcCells, keepV, keep1, row?, eStoreOp, EVal.cells, EVal.one, eShift, eField, eIndexAddrOp, eIndexAddr, eIndexOp, eIndex, eSliceOp, eSlice, bound, eBuild, eBuildSlice, eMakeSlice, eRange, eNextS, argB, isLent, flat, one, keepA, Tryz.underlying3, sz3, info3, I3s, I3b, zero3, grow3, Tryz.underlying5, sz5, info5, I5s, I5b, zero5, grow5, Tryz.underlying9, sz9, info9, I9s, I9b, zero9, grow9, call96, call97, Tryz.results28, e96, e97, c1, c2]))
    (refine hQ _ _ _ (ends_of (by first | exact .inl rfl | exact .inr rfl) ?_); simp only [SS, kcall, setRange, repl, extB_q, isNew, Option.isNone_none, Option.isNone_some, Nat.reduceLT, Nat.reduceEqDiff, Nat.reduceAdd, Nat.reduceMul, Nat.reduceSub, Nat.reduceLeDiff, Nat.reduceBEq, reduceCtorEq, isNextM, absCell, eBinOp, eBin, eInt2, eInt, eStr, eUn, ePick, eConvert, eExtract, eNil, eCall, eCallV, eBuiltin, eLen, eCap, srcCells, keepV, keep1, row?, eStoreOp, EVal.cells, EVal.one, eShift, eField, eIndexAddrOp, eIndexAddr, eIndexOp, eIndex, eSliceOp, eSlice, bound, eBuild, eBuildSlice, eMakeSlice, eRange, eNextS, argB, isLent, flat, one, keepA, Tryz.underlying3, sz3, info3, I3s, I3b, zero3, grow3, Tryz.underlying5, sz5, info5, I5s, I5b, zero5, grow5, Tryz.underlying9, sz9, info9, I9s, I9b, zero9, grow9, call96, call97, Tryz.results28])
    simp [nameB, h24]
  have c2 : decide ((24 : Int) < (l.length : Int)) = false := by simp; omega
  obtain ⟨c, hc⟩ : ∃ c, l[0]? = some c := ⟨l[0], List.getElem?_eq_getElem (by omega)⟩
  have hdr := allFrom_drop (i := 0) hc
  simp only [List.drop_zero, okAt, ne_eq, not_true_eq_false, decide_false, Bool.false_and, Bool.or_false] at hdr
  cases hlet : letterU (c : Int) with
  | false =>
    ((try simp only [argsL, SS, kcall, setRange, repl, extB_q, isNew, Option.isNone_none, Option.isNone_some, Nat.reduceLT, Nat.reduceEqDiff, Nat.reduceAdd, Nat.reduceMul, Nat.reduceSub, Nat.reduceLeDiff, Nat.reduceBEq, reduceCtorEq, isNextM, absCell, eBinOp, eBin, eInt2, eInt, eStr, eUn, ePick, eConvert, eExtract, eNil, eCall, eCallV, eBuiltin, eLen, eCap, srcCells, keepV, keep1, row?, eStoreOp, EVal.cells, EVal.one, eShift, eField, eIndexAddrOp, eIndexAddr, eIndexOp, eIndex, eSliceOp, eSlice, bound, eBuild, eBuildSlice, eMakeSlice, eRange, eNextS, argB, isLent, flat, one, keepA, Tryz.underlying3, sz3, info3, I3s, I3b, zero3, grow3, Tryz.underlying5, sz5, info5, I5s, I5b, zero5, grow5, Tryz.underlying9, sz9, info9, I9s, I9b, zero9, grow9, call96, call97, Tryz.results28, e96, e97, c1, c2, hc, hlet]); (repeat' (first | refine wpStep_not (fun h => ?_) (fun h => ?_) | refine wpStep_sym (fun h => ?_) (fun h => ?_) | refine wpCond_not (fun h => ?_) (fun h => ?_) | refine wpCond_sym (fun h => ?_) (fun h => ?_) | refine wpDStep_not (fun h => ?_) (fun h => ?_) | refine wpDStep_sym (fun h => ?_) (fun h => ?_)) <;> simp only [h, SS, kcall, setRange, repl, extB_q, isNew, Option.isNone_none, Option.isNone_some, Nat.reduceLT, Nat.reduceEqDiff, Nat.reduceAdd, Nat.reduceMul, Nat.reduceSub, Nat.reduceLeDiff, Nat.reduceBEq, reduceCtorEq, isNextM, absCell, eBinOp, eBin, eInt2, eInt, eStr, eUn, ePick, eConvert, eExtract, eNil, eCall, eCallV, eBuiltin, eLen, eCap, srcCells, keepV, keep1, row?, eStoreOp, EVal.cells, EVal.one, eShift, eField, eIndexAddrOp, eIndexAddr, eIndexOp, eIndex, eSliceOp, eSlice, bound, eBuild, eBuildSlice, eMakeSlice, eRange, eNextS, argB, isLent, flat, one, keepA, Tryz.underlying3, sz3, info3, I3s, I3b, zero3, grow3, Tryz.underlying5, sz5, info5, I5s, I5b, zero5, grow5, Tryz.underlying9, sz9, info9, I9s, I9b, zero9, grow9, call96, call97, Tryz.results28, e96, e97, c1, c2, hc, hlet]))
    (refine hQ _ _ _ (ends_of (by first | exact .inl rfl | exact .inr rfl) ?_); simp only [SS, kcall, setRange, repl, extB_q, isNew, Option.isNone_none, Option.isNone_some, Nat.reduceLT, Nat.reduceEqDiff, Nat.reduceAdd, Nat.reduceMul, Nat.reduceSub, Nat.reduceLeDiff, Nat.reduceBEq, reduceCtorEq, isNextM, absCell, eBinOp, eBin, eInt2, eInt, eStr, eUn, ePick, eConvert, eExtract, eNil, eCall, eCallV, eBuiltin, eLen, eCap, srcCells, keepV, keep1, row?, eStoreOp, EVal.cells, EVal.one, eShift, eField, eIndexAddrOp, eIndexAddr, eIndexOp, eIndex, eSliceOp, eSlice, bound, eBuild, eBuildSlice, eMakeSlice, eRange, eNextS, argB, isLent, flat, one, keepA, Tryz.underlying3, sz3, info3, I3s, I3b, zero3, grow3, Tryz.underlying5, sz5, info5, I5s, I5b, zero5, grow5, Tryz.underlying9, sz9, info9, I9s, I9b, zero9, grow9, call96, call97, Tryz.results28])
    simp [nameB, hdr, hlet]
  | true =>
  ((try simp only [argsL, SS, kcall, setRange, repl, extB_q, isNew, Option.isNone_none, Option.isNone_some, Nat.reduceLT, Nat.reduceEqDiff, Nat.reduceAdd, Nat.reduceMul, Nat.reduceSub, Nat.reduceLeDiff, Nat.reduceBEq, reduceCtorEq, isNextM, absCell, eBinOp, eBin, eInt2, eInt, eStr, eUn, ePick, eConvert, eExtract, eNil, eCall, eCallV, eBuiltin, eLen, eCap, srcCells, keepV, keep1, row?, eStoreOp, EVal.cells, EVal.one, eShift, eField, eIndexAddrOp, eIndexAddr, eIndexOp, eIndex, eSliceOp, eSlice, bound, eBuild, eBuildSlice, eMakeSlice, eRange, eNextS, argB, isLent, flat, one, keepA, Tryz.underlying3, sz3, info3, I3s, I3b, zero3, grow3, Tryz.underlying5, sz5, info5, I5s, I5b, zero5, grow5, Tryz.underlying9, sz9, info9, I9s, I9b, zero9, grow9, call96, call97, Tryz.results28, e96, e97, c1, c2, hc, hlet]); (repeat' (first | refine wpStep_not (fun h => ?_) (fun h => ?_) | refine wpStep_sym (fun h => ?_) (fun h => ?_) | refine wpCond_not (fun h => ?_) (fun h => ?_) | refine wpCond_sym (fun h => ?_) (fun h => ?_) | refine wpDStep_not (fun h => ?_) (fun h => ?_) | refine wpDStep_sym (fun h => ?_) (fun h => ?_)) <;> simp only [h, SS, kcall, setRange, repl, extB_q, isNew, Option.isNone_none, Option.isNone_some, Nat.reduceLT, Nat.reduceEqDiff, Nat.reduceAdd, Nat.reduceMul, Nat.reduceSub, Nat.reduceLeDiff, Nat.reduceBEq, reduceCtorEq, isNextM, absCell, eBinOp, eBin, eInt2, eInt, eStr, eUn, ePick, eConvert, eExtract, eNil, eCall, eCallV, eBuiltin, eLen, eCap, srcCells, keepV, keep1, row?, eStoreOp, EVal.cells, EVal.one, eShift, eField, eIndexAddrOp, eIndexAddr, eIndexOp, eIndex, eSliceOp, eSlice, bound, eBuild, eBuildSlice, eMakeSlice, eRange, eNextS, argB, isLent, flat, one, keepA, Tryz.underlying3, sz3, info3, I3s, I3b, zero3, grow3, Tryz.underlying5, sz5, info5, I5s, I5b, zero5, grow5, Tryz.underlying9, sz9, info9, I9s, I9b, zero9, grow9, call96, call97, Tryz.results28, e96, e97, c1, c2, hc, hlet]))
  refine wp_of_top (Top.loop (I := fun s : { k : Nat // k ≤ l.length ∧ (allFrom 0 l = allFrom k (l.drop k)) } => (mkF 42 [(3, .int .i64 (s.1 : Nat)), (0, .str l)], H.start)) (μ := fun s => l.length - s.1) ⟨0, by simp⟩ (View.sub (by simp [look])) ?_)
  rintro ⟨k, hk, hf⟩
  refine wp_sound noNG _ _ _ _ ?_
  by_cases hlt : k < l.length
  · obtain ⟨x, hx⟩ : ∃ x, l[k]? = some x := ⟨l[k], List.getElem?_eq_getElem hlt⟩
    have c3 : decide ((k : Int) < (l.length : Int)) = true := by simp; omega
    have c4 : IntKind.i64.wrap ((k : Int) + 1) = ((k + 1 : Nat) : Int) := by rw [wrap_id] <;> omega
    have hfd := allFrom_drop (i := k) hx
    have hcx : k = 0 → x = c := by rintro rfl; rw [hc] at hx; exact (Option.some.inj hx).symm
    have hok : okAt k x = (letterU x || (digitB x || ((x : Int) == 95))) := by
      unfold okAt
      by_cases hk0 : k = 0
      · rw [hcx hk0, hlet]; simp
      · simp [hk0]; rfl
    ((try simp only [argsL, SS, kcall, setRange, repl, extB_q, isNew, Option.isNone_none, Option.isNone_some, Nat.reduceLT, Nat.reduceEqDiff, Nat.reduceAdd, Nat.reduceMul, Nat.reduceSub, Nat.reduceLeDiff, Nat.reduceBEq, reduceCtorEq, isNextM, absCell, eBinOp, eBin, eInt2, eInt, eStr, eUn, ePick, eConvert, eExtract, eNil, eCall, eCallV, eBuiltin, eLen, eCap, srcCells, keepV, keep1, row?, eStoreOp, EVal.cells, EVal.one, eShift, eField, eIndexAddrOp, eIndexAddr, eIndexOp, eIndex, eSliceOp, eSlice, bound, eBuild, eBuildSlice, eMakeSlice, eRange, eNextS, argB, isLent, flat, one, keepA, Tryz.underlying3, sz3, info3, I3s, I3b, zero3, grow3, Tryz.underlying5, sz5, info5, I5s, I5b, zero5, grow5, Tryz.underlying9, sz9, info9, I9s, I9b, zero9, grow9, call96, call97, Tryz.results28, e96, e97, c3, c4, hx]); (repeat' (first | refine wpStep_not (fun h => ?_) (fun h => ?_) | refine wpStep_sym (fun h => ?_) (fun h => ?_) | refine wpCond_not (fun h => ?_) (fun h => ?_) | refine wpCond_sym (fun h => ?_) (fun h => ?_) | refine wpDStep_not (fun h => ?_) (fun h => ?_) | refine wpDStep_sym (fun h => ?_) (fun h => ?_)) <;> simp only [h, SS, kcall, setRange, repl, extB_q, isNew, Option.isNone_none, Option.isNone_some, Nat.reduceLT, Nat.reduceEqDiff, Nat.reduceAdd, Nat.reduceMul, Nat.reduceSub, Nat.reduceLeDiff, Nat.reduceBEq, reduceCtorEq, isNextM, absCell, eBinOp, eBin, eInt2, eInt, eStr, eUn, ePick, eConvert, eExtract, eNil, eCall, eCallV, eBuiltin, eLen, eCap, srcCells, keepV, keep1, row?, eStoreOp, EVal.cells, EVal.one, eShift, eField, eIndexAddrOp, eIndexAddr, eIndexOp, eIndex, eSliceOp, eSlice, bound, eBuild, eBuildSlice, eMakeSlice, eRange, eNextS, argB, isLent, flat, one, keepA, Tryz.underlying3, sz3, info3, I3s, I3b, zero3, grow3, Tryz.underlying5, sz5, info5, I5s, I5b, zero5, grow5, Tryz.underlying9, sz9, info9, I9s, I9b, zero9, grow9, call96, call97, Tryz.results28, e96, e97, c3, c4, hx]))
    · (refine hQ _ _ _ (ends_of (by first | exact .inl rfl | exact .inr rfl) ?_); simp only [SS, kcall, setRange, repl, extB_q, isNew, Option.isNone_none, Option.isNone_some, Nat.reduceLT, Nat.reduceEqDiff, Nat.reduceAdd, Nat.reduceMul, Nat.reduceSub, Nat.reduceLeDiff, Nat.reduceBEq, reduceCtorEq, isNextM, absCell, eBinOp, eBin, eInt2, eInt, eStr, eUn, ePick, eConvert, eExtract, eNil, eCall, eCallV, eBuiltin, eLen, eCap, srcCells, keepV, keep1, row?, eStoreOp, EVal.cells, EVal.one, eShift, eField, eIndexAddrOp, eIndexAddr, eIndexOp, eIndex, eSliceOp, eSlice, bound, eBuild, eBuildSlice, eMakeSlice, eRange, eNextS, argB, isLent, flat, one, keepA, Tryz.underlying3, sz3, info3, I3s, I3b, zero3, grow3, Tryz.underlying5, sz5, info5, I5s, I5b, zero5, grow5, Tryz.underlying9, sz9, info9, I9s, I9b, zero9, grow9, call96, call97, Tryz.results28])
      rw [nameB, hf, hfd, hok]
      simp [*]
    all_goals exact ⟨⟨k + 1, hlt, by rw [hf, hfd, hok]; simp [*]⟩, by simp; omega, View.sub (by simp [look])⟩
  · have c3 : decide ((k : Int) < (l.length : Int)) = false := by simp; omega
    ((try simp only [argsL, SS, kcall, setRange, repl, extB_q, isNew, Option.isNone_none, Option.isNone_some, Nat.reduceLT, Nat.reduceEqDiff, Nat.reduceAdd, Nat.reduceMul, Nat.reduceSub, Nat.reduceLeDiff, Nat.reduceBEq, reduceCtorEq, isNextM, absCell, eBinOp, eBin, eInt2, eInt, eStr, eUn, ePick, eConvert, eExtract, eNil, eCall, eCallV, eBuiltin, eLen, eCap, srcCells, keepV, keep1, row?, eStoreOp, EVal.cells, EVal.one, eShift, eField, eIndexAddrOp, eIndexAddr, eIndexOp, eIndex, eSliceOp, eSlice, bound, eBuild, eBuildSlice, eMakeSlice, eRange, eNextS, argB, isLent, flat, one, keepA, Tryz.underlying3, sz3, info3, I3s, I3b, zero3, grow3, Tryz.underlying5, sz5, info5, I5s, I5b, zero5, grow5, Tryz.underlying9, sz9, info9, I9s, I9b, zero9, grow9, call96, call97, Tryz.results28, c3]); (repeat' (first | refine wpStep_not (fun h => ?_) (fun h => ?_) | refine wpStep_sym (fun h => ?_) (fun h => ?_) | refine wpCond_not (fun h => ?_) (fun h => ?_) | refine wpCond_sym (fun h => ?_) (fun h => ?_) | refine wpDStep_not (fun h => ?_) (fun h => ?_) | refine wpDStep_sym (fun h => ?_) (fun h => ?_)) <;> simp only [h, SS, kcall, setRange, repl, extB_q, isNew, Option.isNone_none, Option.isNone_some, Nat.reduceLT, Nat.reduceEqDiff, Nat.reduceAdd, Nat.reduceMul, Nat.reduceSub, Nat.reduceLeDiff, Nat.reduceBEq, reduceCtorEq, isNextM, absCell, eBinOp, eBin, eInt2, eInt, eStr, eUn, ePick, eConvert, eExtract, eNil, eCall, eCallV, eBuiltin, eLen, eCap, srcCells, keepV, keep1, row?, eStoreOp, EVal.cells, EVal.one, eShift, eField, eIndexAddrOp, eIndexAddr, eIndexOp, eIndex, eSliceOp, eSlice, bound, eBuild, eBuildSlice, eMakeSlice, eRange, eNextS, argB, isLent, flat, one, keepA, Tryz.underlying3, sz3, info3, I3s, I3b, zero3, grow3, Tryz.underlying5, sz5, info5, I5s, I5b, zero5, grow5, Tryz.underlying9, sz9, info9, I9s, I9b, zero9, grow9, call96, call97, Tryz.results28, c3]))
    (refine hQ _ _ _ (ends_of (by first | exact .inl rfl | exact .inr rfl) ?_); simp only [SS, kcall, setRange, repl, extB_q, isNew, Option.isNone_none, Option.isNone_some, Nat.reduceLT, Nat.reduceEqDiff, Nat.reduceAdd, Nat.reduceMul, Nat.reduceSub, Nat.reduceLeDiff, Nat.reduceBEq, reduceCtorEq, isNextM, absCell, eBinOp, eBin, eInt2, eInt, eStr, eUn, ePick, eConvert, eExtract, eNil, eCall, eCallV, eBuiltin, eLen, eCap, srcCells, keepV, keep1, row?, eStoreOp, EVal.cells, EVal.one, eShift, eField, eIndexAddrOp, eIndexAddr, eIndexOp, eIndex, eSliceOp, eSlice, bound, eBuild, eBuildSlice, eMakeSlice, eRange, eNextS, argB, isLent, flat, one, keepA, Tryz.underlying3, sz3, info3, I3s, I3b, zero3, grow3, Tryz.underlying5, sz5, info5, I5s, I5b, zero5, grow5, Tryz.underlying9, sz9, info9, I9s, I9b, zero9, grow9, call96, call97, Tryz.results28])
    have : l.drop k = [] := List.drop_eq_nil_of_le (by omega)
    simp [nameB, hf, this, allFrom, h24]; omega

/-! runes -/
theorem decode_ge (s : ByteArray) (i : Nat) (h : 128 ≤ (s.get! i).toNat) : 128 ≤ (Utf8.decode s i).1 := by
  unfold Utf8.decode
  simp only [Nat.add_zero]
  rw [if_neg (by omega)]
  have h2 : 128 ≤ Utf8.runeError := by decide
  split
  · split
    · assumption
    · exact h2
  · split
    · split
      · rename_i h3
        simp only [Bool.and_eq_true, decide_eq_true_eq] at h3
        omega
      · exact h2
    · split
      · split
        · rename_i h3
          simp only [Bool.and_eq_true, decide_eq_true_eq] at h3
          omega
        · exact h2
      · exact h2

def bytesB (l : List Nat) : Bool := l.all fun c => decide (c < 256)

theorem next_ascii {l : List Nat} {k c : Nat} (h : l[k]? = some c) (hc : c < 128) : asciiNext l k = some (c, 1) := by
  unfold asciiNext; rw [h]; simp [hc]
theorem next_high {l : List Nat} {k c : Nat} (hb : bytesB l = true) (h : l[k]? = some c) (hc : ¬ c < 128) : ∃ r w, asciiNext l k = some (r, w) ∧ 128 ≤ r := by
  unfold asciiNext; rw [h]
  simp only [hc, if_false]
  refine ⟨_, _, rfl, decode_ge _ _ ?_⟩
  have hlt : c < 256 := by
    have := List.all_eq_true.1 hb c (List.mem_of_getElem? h)
    simpa using this
  have hk := (List.getElem?_eq_some_iff.1 h).1
  have : ((⟨(l.map UInt8.ofNat).toArray⟩ : ByteArray).get! k) = UInt8.ofNat c := by
    show ((l.map UInt8.ofNat).toArray)[k]! = _
    have hq : (l.map UInt8.ofNat)[k]? = some (UInt8.ofNat c) := by simp [h]
    simp [hq]
  rw [this]
  simp
  omega

def F27 : List EVal → Option EVal
  | [.str l] => if bytesB l = true then some (.bool (nameB l)) else none
  | _ => none
theorem e27 {l : List Nat} (h : bytesB l = true) : F27 [.str l] = some (.bool (nameB l)) := by simp only [F27, h, if_true]

theorem fn27 : FnT 27 F27 := by
  refine Fn.intro mixed noNG Tryz.func27 rfl [(93, F93), (94, F94), (95, F95)] (by simp only [List.forall_mem_cons]; exact ⟨fn93, fn94, fn95, fun _ h => by cases h⟩) ?_
  intro args v hF
  unfold F27 at hF
  split at hF
  rotate_left
  · cases hF
  intro Q hV
  have hQ := Viewed.of hV
  rename_i l
  split at hF
  rotate_left
  · cases hF
  rename_i hby
  cases hF
  refine Top.view (View.start (n := 31) rfl (by simp)) (wp_sound noNG _ _ _ _ ?_)
  by_cases hlen : 1 ≤ l.length ∧ l.length ≤ 24
  rotate_left
  · have c1 : withinB (l.length : Int) 1 24 = false := by simp [withinB]; omega
    ((try simp only [argsL, SS, kcall, setRange, repl, extB_q, isNew, Option.isNone_none, Option.isNone_some, Nat.reduceLT, Nat.reduceEqDiff, Nat.reduceAdd, Nat.reduceMul, Nat.reduceSub, Nat.reduceLeDiff, Nat.reduceBEq, reduceCtorEq, isNextM, absCell, eBinOp, eBin, eInt2, eInt, eStr, eUn, ePick, eConvert, eExtract, eNil, eCall, eCallV, eBuiltin, eLen, eCap, srcCells, keepV, keep1, row?, eStoreOp, EVal.cells, EVal.one, eShift, eField, eIndexAddrOp, eIndexAddr, eIndexOp, eIndex, eSliceOp, eSlice, bound, eBuild, eBuildSlice, eMakeSlice, eRange, eNextS, argB, isLent, flat, one, keepA, Tryz.underlying3, sz3, info3, I3s, I3b, zero3, grow3, Tryz.underlying9, sz9, info9, I9s, I9b, zero9, grow9, Tryz.underlying21, sz21, info21, I21s, I21b, zero21, grow21, call93, call94, call95, Tryz.results27, e93, c1]); (repeat' (first | refine wpStep_not (fun h => ?_) (fun h => ?_) | refine wpStep_sym (fun h => ?_) (fun h => ?_) | refine wpCond_not (fun h => ?_) (fun h => ?_) | refine wpCond_sym (fun h => ?_) (fun h => ?_) | refine wpDStep_not (fun h => ?_) (fun h => ?_) | refine wpDStep_sym (fun h => ?_) (fun h => ?_)) <;> simp only [h, SS, kcall, setRange, repl, extB_q, isNew, Option.isNone_none, Option.isNone_some, Nat.reduceLT, Nat.reduceEqDiff, Nat.reduceAdd, Nat.reduceMul, Nat.reduceSub, Nat.reduceLeDiff, Nat.reduceBEq, reduceCtorEq, isNextM, absCell, eBinOp, eBin, eInt2, eInt, eStr, eUn, ePick, eConvert, eExtract, eNil, eCall, eCallV, eBuiltin, eLen, eCap, srcCells, keepV, keep1, row?, eStoreOp, EVal.cells, EVal.one, eShift, eField, eIndexAddrOp, eIndexAddr, eIndexOp, eIndex, eSliceOp, eSlice, bound, eBuild, eBuildSlice, eMakeSlice, eRange, eNextS, argB, isLent, flat, one, keepA, Tryz.underlying3, sz3, info3, I3s, I3b, zero3, grow3, Tryz.underlying9, sz9, info9, I9s, I9b, zero9, grow9, Tryz.underlying21, sz21, info21, I21s, I21b, zero21, grow21, call93, call94, call95, Tryz.results27, e93, c1]))
    (refine hQ _ _ _ (ends_of (by first | exact .inl rfl | exact .inr rfl) ?_); simp only [SS, kcall, setRange, repl, extB_q, isNew, Option.isNone_none, Option.isNone_some, Nat.reduceLT, Nat.reduceEqDiff, Nat.reduceAdd, Nat.reduceMul, Nat.reduceSub, Nat.reduceLeDiff, Nat.reduceBEq, reduceCtorEq, isNextM, absCell, eBinOp, eBin, eInt2, eInt, eStr, eUn, ePick, eConvert, eExtract, eNil, eCall, eCallV, eBuiltin, eLen, eCap, srcCells, keepV, keep1, row?, eStoreOp, EVal.cells, EVal.one, eShift, eField, eIndexAddrOp, eIndexAddr, eIndexOp, eIndex, eSliceOp, eSlice, bound, eBuild, eBuildSlice, eMakeSlice, eRange, eNextS, argB, isLent, flat, one, keepA, Tryz.underlying3, sz3, info3, I3s, I3b, zero3, grow3, Tryz.underlying9, sz9, info9, I9s, I9b, zero9, grow9, Tryz.underlying21, sz21, info21, I21s, I21b, zero21, grow21, call93, call94, call95, Tryz.results27])
    simp [nameB]; omega
  have c1 : withinB (l.length : Int) 1 24 = true := by simp [withinB]; omega
  ((try simp only [argsL, SS, kcall, setRange, repl, extB_q, isNew, Option.isNone_none, Option.isNone_some, Nat.reduceLT, Nat.reduceEqDiff, Nat.reduceAdd, Nat.reduceMul, Nat.reduceSub, Nat.reduceLeDiff, Nat.reduceBEq, reduceCtorEq, isNextM, absCell, eBinOp, eBin, eInt2, eInt, eStr, eUn, ePick, eConvert, eExtract, eNil, eCall, eCallV, eBuiltin, eLen, eCap, srcCells, keepV, keep1, row?, eStoreOp, EVal.cells, EVal.one, eShift, eField, eIndexAddrOp, eIndexAddr, eIndexOp, eIndex, eSliceOp, eSlice, bound, eBuild, eBuildSlice, eMakeSlice, eRange, eNextS, argB, isLent, flat, one, keepA, Tryz.underlying3, sz3, info3, I3s, I3b, zero3, grow3, Tryz.underlying9, sz9, info9, I9s, I9b, zero9, grow9, Tryz.underlying21, sz21, info21, I21s, I21b, zero21, grow21, call93, call94, call95, Tryz.results27, e93, c1]); (repeat' (first | refine wpStep_not (fun h => ?_) (fun h => ?_) | refine wpStep_sym (fun h => ?_) (fun h => ?_) | refine wpCond_not (fun h => ?_) (fun h => ?_) | refine wpCond_sym (fun h => ?_) (fun h => ?_) | refine wpDStep_not (fun h => ?_) (fun h => ?_) | refine wpDStep_sym (fun h => ?_) (fun h => ?_)) <;> simp only [h, SS, kcall, setRange, repl, extB_q, isNew, Option.isNone_none, Option.isNone_some, Nat.reduceLT, Nat.reduceEqDiff, Nat.reduceAdd, Nat.reduceMul, Nat.reduceSub, Nat.reduceLeDiff, Nat.reduceBEq, reduceCtorEq, isNextM, absCell, eBinOp, eBin, eInt2, eInt, eStr, eUn, ePick, eConvert, eExtract, eNil, eCall, eCallV, eBuiltin, eLen, eCap, srcCells, keepV, keep1, row?, eStoreOp, EVal.cells, EVal.one, eShift, eField, eIndexAddrOp, eIndexAddr, eIndexOp, eIndex, eSliceOp, eSlice, bound, eBuild, eBuildSlice, eMakeSlice, eRange, eNextS, argB, isLent, flat, one, keepA, Tryz.underlying3, sz3, info3, I3s, I3b, zero3, grow3, Tryz.underlying9, sz9, info9, I9s, I9b, zero9, grow9, Tryz.underlying21, sz21, info21, I21s, I21b, zero21, grow21, call93, call94, call95, Tryz.results27, e93, c1]))
  refine wp_of_top (Top.loop (I := fun s : { k : Nat // k ≤ l.length ∧ (allFrom 0 l = allFrom k (l.drop k)) } => (mkF 31 [(10, .ptr 0 0), (0, .str l)], mkH 1 [(0, some (.iter l s.1))] 0 [])) (μ := fun s => l.length - s.1) ⟨0, by simp⟩ (View.sub (by simp [look])) ?_)
  rintro ⟨k, hk, hf⟩
  refine wp_sound noNG _ _ _ _ ?_
  by_cases hlt : k < l.length
  · obtain ⟨x, hx⟩ : ∃ x, l[k]? = some x := ⟨l[k], List.getElem?_eq_getElem hlt⟩
    have hfd := allFrom_drop (i := k) hx
    by_cases ha : x < 128
    · have c2 := next_ascii hx ha
      have hok : okAt k x = (letterB x || (!((k : Int) == 0) && (digitB x || ((x : Int) == 95)))) := by
        unfold okAt
        rw [letterB_U]
        by_cases hk0 : k = 0
        · simp [hk0]
        · have : ((k : Int) == 0) = false := by simp; omega
          rw [this]; simp [hk0]; rfl
      ((try simp only [argsL, SS, kcall, setRange, repl, extB_q, isNew, Option.isNone_none, Option.isNone_some, Nat.reduceLT, Nat.reduceEqDiff, Nat.reduceAdd, Nat.reduceMul, Nat.reduceSub, Nat.reduceLeDiff, Nat.reduceBEq, reduceCtorEq, isNextM, absCell, eBinOp, eBin, eInt2, eInt, eStr, eUn, ePick, eConvert, eExtract, eNil, eCall, eCallV, eBuiltin, eLen, eCap, srcCells, keepV, keep1, row?, eStoreOp, EVal.cells, EVal.one, eShift, eField, eIndexAddrOp, eIndexAddr, eIndexOp, eIndex, eSliceOp, eSlice, bound, eBuild, eBuildSlice, eMakeSlice, eRange, eNextS, argB, isLent, flat, one, keepA, Tryz.underlying3, sz3, info3, I3s, I3b, zero3, grow3, Tryz.underlying9, sz9, info9, I9s, I9b, zero9, grow9, Tryz.underlying21, sz21, info21, I21s, I21b, zero21, grow21, call93, call94, call95, Tryz.results27, hlt, c2, e94, e95]); (repeat' (first | refine wpStep_not (fun h => ?_) (fun h => ?_) | refine wpStep_sym (fun h => ?_) (fun h => ?_) | refine wpCond_not (fun h => ?_) (fun h => ?_) | refine wpCond_sym (fun h => ?_) (fun h => ?_) | refine wpDStep_not (fun h => ?_) (fun h => ?_) | refine wpDStep_sym (fun h => ?_) (fun h => ?_)) <;> simp only [h, SS, kcall, setRange, repl, extB_q, isNew, Option.isNone_none, Option.isNone_some, Nat.reduceLT, Nat.reduceEqDiff, Nat.reduceAdd, Nat.reduceMul, Nat.reduceSub, Nat.reduceLeDiff, Nat.reduceBEq, reduceCtorEq, isNextM, absCell, eBinOp, eBin, eInt2, eInt, eStr, eUn, ePick, eConvert, eExtract, eNil, eCall, eCallV, eBuiltin, eLen, eCap, srcCells, keepV, keep1, row?, eStoreOp, EVal.cells, EVal.one, eShift, eField, eIndexAddrOp, eIndexAddr, eIndexOp, eIndex, eSliceOp, eSlice, bound, eBuild, eBuildSlice, eMakeSlice, eRange, eNextS, argB, isLent, flat, one, keepA, Tryz.underlying3, sz3, info3, I3s, I3b, zero3, grow3, Tryz.underlying9, sz9, info9, I9s, I9b, zero9, grow9, Tryz.underlying21, sz21, info21, I21s, I21b, zero21, grow21, call93, call94, call95, Tryz.results27, hlt, c2, e94, e95]))
      all_goals first
        | exact ⟨⟨k + 1, hlt, by rw [hf, hfd, hok]; simp [*]⟩, by simp; omega, (View.drop (by simp [look, below, belowL]) (by simp [lookG, belowO, below, belowL, below_eRow]) (by simp [lookG]))⟩
        | ((refine hQ _ _ _ (ends_of (by first | exact .inl rfl | exact .inr rfl) ?_); simp only [SS, kcall, setRange, repl, extB_q, isNew, Option.isNone_none, Option.isNone_some, Nat.reduceLT, Nat.reduceEqDiff, Nat.reduceAdd, Nat.reduceMul, Nat.reduceSub, Nat.reduceLeDiff, Nat.reduceBEq, reduceCtorEq, isNextM, absCell, eBinOp, eBin, eInt2, eInt, eStr, eUn, ePick, eConvert, eExtract, eNil, eCall, eCallV, eBuiltin, eLen, eCap, srcCells, keepV, keep1, row?, eStoreOp, EVal.cells, EVal.one, eShift, eField, eIndexAddrOp, eIndexAddr, eIndexOp, eIndex, eSliceOp, eSlice, bound, eBuild, eBuildSlice, eMakeSlice, eRange, eNextS, argB, isLent, flat, one, keepA, Tryz.underlying3, sz3, info3, I3s, I3b, zero3, grow3, Tryz.underlying9, sz9, info9, I9s, I9b, zero9, grow9, Tryz.underlying21, sz21, info21, I21s, I21b, zero21, grow21, call93, call94, call95, Tryz.results27]); rw [nameB, hf, hfd, hok]; simp [*])
    · obtain ⟨r, w, c2, hr⟩ := next_high hby hx ha
      have c3 : letterB (r : Int) = false := by simp [letterB, lowerB]; omega
      have c4 : digitB (r : Int) = false := by simp [digitB]; omega
      have c5 : ((r : Int) == 95) = false := by simp; omega
      have hok : okAt k x = false := by
        have h1 : (128 : Int) ≤ (x : Int) := by omega
        simp [okAt, letterU, digitB]; omega
      ((try simp only [argsL, SS, kcall, setRange, repl, extB_q, isNew, Option.isNone_none, Option.isNone_some, Nat.reduceLT, Nat.reduceEqDiff, Nat.reduceAdd, Nat.reduceMul, Nat.reduceSub, Nat.reduceLeDiff, Nat.reduceBEq, reduceCtorEq, isNextM, absCell, eBinOp, eBin, eInt2, eInt, eStr, eUn, ePick, eConvert, eExtract, eNil, eCall, eCallV, eBuiltin, eLen, eCap, srcCells, keepV, keep1, row?, eStoreOp, EVal.cells, EVal.one, eShift, eField, eIndexAddrOp, eIndexAddr, eIndexOp, eIndex, eSliceOp, eSlice, bound, eBuild, eBuildSlice, eMakeSlice, eRange, eNextS, argB, isLent, flat, one, keepA, Tryz.underlying3, sz3, info3, I3s, I3b, zero3, grow3, Tryz.underlying9, sz9, info9, I9s, I9b, zero9, grow9, Tryz.underlying21, sz21, info21, I21s, I21b, zero21, grow21, call93, call94, call95, Tryz.results27, hlt, c2, e94, e95, c3, c4, c5]); (repeat' (first | refine wpStep_not (fun h => ?_) (fun h => ?_) | refine wpStep_sym (fun h => ?_) (fun h => ?_) | refine wpCond_not (fun h => ?_) (fun h => ?_) | refine wpCond_sym (fun h => ?_) (fun h => ?_) | refine wpDStep_not (fun h => ?_) (fun h => ?_) | refine wpDStep_sym (fun h => ?_) (fun h => ?_)) <;> simp only [h, SS, kcall, setRange, repl, extB_q, isNew, Option.isNone_none, Option.isNone_some, Nat.reduceLT, Nat.reduceEqDiff, Nat.reduceAdd, Nat.reduceMul, Nat.reduceSub, Nat.reduceLeDiff, Nat.reduceBEq, reduceCtorEq, isNextM, absCell, eBinOp, eBin, eInt2, eInt, eStr, eUn, ePick, eConvert, eExtract, eNil, eCall, eCallV, eBuiltin, eLen, eCap, srcCells, keepV, keep1, row?, eStoreOp, EVal.cells, EVal.one, eShift, eField, eIndexAddrOp, eIndexAddr, eIndexOp, eIndex, eSliceOp, eSlice, bound, eBuild, eBuildSlice, eMakeSlice, eRange, eNextS, argB, isLent, flat, one, keepA, Tryz.underlying3, sz3, info3, I3s, I3b, zero3, grow3, Tryz.underlying9, sz9, info9, I9s, I9b, zero9, grow9, Tryz.underlying21, sz21, info21, I21s, I21b, zero21, grow21, call93, call94, call95, Tryz.results27, hlt, c2, e94, e95, c3, c4, c5]))
      all_goals ((refine hQ _ _ _ (ends_of (by first | exact .inl rfl | exact .inr rfl) ?_); simp only [SS, kcall, setRange, repl, extB_q, isNew, Option.isNone_none, Option.isNone_some, Nat.reduceLT, Nat.reduceEqDiff, Nat.reduceAdd, Nat.reduceMul, Nat.reduceSub, Nat.reduceLeDiff, Nat.reduceBEq, reduceCtorEq, isNextM, absCell, eBinOp, eBin, eInt2, eInt, eStr, eUn, ePick, eConvert, eExtract, eNil, eCall, eCallV, eBuiltin, eLen, eCap, srcCells, keepV, keep1, row?, eStoreOp, EVal.cells, EVal.one, eShift, eField, eIndexAddrOp, eIndexAddr, eIndexOp, eIndex, eSliceOp, eSlice, bound, eBuild, eBuildSlice, eMakeSlice, eRange, eNextS, argB, isLent, flat, one, keepA, Tryz.underlying3, sz3, info3, I3s, I3b, zero3, grow3, Tryz.underlying9, sz9, info9, I9s, I9b, zero9, grow9, Tryz.underlying21, sz21, info21, I21s, I21b, zero21, grow21, call93, call94, call95, Tryz.results27]); rw [nameB, hf, hfd, hok]; simp)
  · ((try simp only [argsL, SS, kcall, setRange, repl, extB_q, isNew, Option.isNone_none, Option.isNone_some, Nat.reduceLT, Nat.reduceEqDiff, Nat.reduceAdd, Nat.reduceMul, Nat.reduceSub, Nat.reduceLeDiff, Nat.reduceBEq, reduceCtorEq, isNextM, absCell, eBinOp, eBin, eInt2, eInt, eStr, eUn, ePick, eConvert, eExtract, eNil, eCall, eCallV, eBuiltin, eLen, eCap, srcCells, keepV, keep1, row?, eStoreOp, EVal.cells, EVal.one, eShift, eField, eIndexAddrOp, eIndexAddr, eIndexOp, eIndex, eSliceOp, eSlice, bound, eBuild, eBuildSlice, eMakeSlice, eRange, eNextS, argB, isLent, flat, one, keepA, Tryz.underlying3, sz3, info3, I3s, I3b, zero3, grow3, Tryz.underlying9, sz9, info9, I9s, I9b, zero9, grow9, Tryz.underlying21, sz21, info21, I21s, I21b, zero21, grow21, call93, call94, call95, Tryz.results27, hlt]); (repeat' (first | refine wpStep_not (fun h => ?_) (fun h => ?_) | refine wpStep_sym (fun h => ?_) (fun h => ?_) | refine wpCond_not (fun h => ?_) (fun h => ?_) | refine wpCond_sym (fun h => ?_) (fun h => ?_) | refine wpDStep_not (fun h => ?_) (fun h => ?_) | refine wpDStep_sym (fun h => ?_) (fun h => ?_)) <;> simp only [h, SS, kcall, setRange, repl, extB_q, isNew, Option.isNone_none, Option.isNone_some, Nat.reduceLT, Nat.reduceEqDiff, Nat.reduceAdd, Nat.reduceMul, Nat.reduceSub, Nat.reduceLeDiff, Nat.reduceBEq, reduceCtorEq, isNextM, absCell, eBinOp, eBin, eInt2, eInt, eStr, eUn, ePick, eConvert, eExtract, eNil, eCall, eCallV, eBuiltin, eLen, eCap, srcCells, keepV, keep1, row?, eStoreOp, EVal.cells, EVal.one, eShift, eField, eIndexAddrOp, eIndexAddr, eIndexOp, eIndex, eSliceOp, eSlice, bound, eBuild, eBuildSlice, eMakeSlice, eRange, eNextS, argB, isLent, flat, one, keepA, Tryz.underlying3, sz3, info3, I3s, I3b, zero3, grow3, Tryz.underlying9, sz9, info9, I9s, I9b, zero9, grow9, Tryz.underlying21, sz21, info21, I21s, I21b, zero21, grow21, call93, call94, call95, Tryz.results27, hlt]))
    (refine hQ _ _ _ (ends_of (by first | exact .inl rfl | exact .inr rfl) ?_); simp only [SS, kcall, setRange, repl, extB_q, isNew, Option.isNone_none, Option.isNone_some, Nat.reduceLT, Nat.reduceEqDiff, Nat.reduceAdd, Nat.reduceMul, Nat.reduceSub, Nat.reduceLeDiff, Nat.reduceBEq, reduceCtorEq, isNextM, absCell, eBinOp, eBin, eInt2, eInt, eStr, eUn, ePick, eConvert, eExtract, eNil, eCall, eCallV, eBuiltin, eLen, eCap, srcCells, keepV, keep1, row?, eStoreOp, EVal.cells, EVal.one, eShift, eField, eIndexAddrOp, eIndexAddr, eIndexOp, eIndex, eSliceOp, eSlice, bound, eBuild, eBuildSlice, eMakeSlice, eRange, eNextS, argB, isLent, flat, one, keepA, Tryz.underlying3, sz3, info3, I3s, I3b, zero3, grow3, Tryz.underlying9, sz9, info9, I9s, I9b, zero9, grow9, Tryz.underlying21, sz21, info21, I21s, I21b, zero21, grow21, call93, call94, call95, Tryz.results27])
    have : l.drop k = [] := List.drop_eq_nil_of_le (by omega)
    simp [nameB, hf, this, allFrom, hlen]
end Go.Ev
