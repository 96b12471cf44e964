import Derived.Test.YtcmlciebgapmjaaGreatDoorRef1
set_option linter.unusedSimpArgs false
set_option linter.unusedVariables false
namespace Go.Ev
open Go.RowKit Go.Proofs
set_option linter.defProp false
def TF50Ref2 := And.intro (And.intro (And.intro (And.intro (And.intro (And.intro (@Tryz.underlying3) (@sz3)) (And.intro (@info3) (@I3s))) (And.intro (And.intro (@I3b) (@zero3)) (And.intro (@grow3) (@Tryz.underlying4)))) (And.intro (And.intro (And.intro (@sz4) (@info4)) (And.intro (@I4s) (@I4b))) (And.intro (And.intro (@zero4) (@grow4)) (And.intro (@Tryz.underlying9) (And.intro (@sz9) (@info9)))))) (And.intro (And.intro (And.intro (And.intro (@I9s) (@I9b)) (And.intro (@zero9) (@grow9))) (And.intro (And.intro (@Tryz.underlying22) (@sz22)) (And.intro (@info22) (@I22s)))) (And.intro (And.intro (And.intro (@I22b) (@zero22)) (And.intro (@grow22) (@Tryz.underlying24))) (And.intro (And.intro (@sz24) (@fok24)) (And.intro (@info24) (And.intro (@I24s) (@I24b))))))) (And.intro (And.intro (And.intro (And.intro (And.intro (@zero24) (@grow24)) (And.intro (@Tryz.underlying25) (@sz25))) (And.intro (And.intro (@info25) (@I25s)) (And.intro (@I25b) (@zero25)))) (And.intro (And.intro (And.intro (@grow25) (@Tryz.underlying27)) (And.intro (@sz27) (@fok27))) (And.intro (And.intro (@info27) (@I27s)) (And.intro (@I27b) (And.intro (@zero27) (@grow27)))))) (And.intro (And.intro (And.intro (And.intro (@Tryz.underlying30) (@sz30)) (And.intro (@info30) (@I30s))) (And.intro (And.intro (@I30b) (@zero30)) (And.intro (@grow30) (And.intro (@Tryz.underlying123) (@sz123))))) (And.intro (And.intro (And.intro (@info123) (@I123s)) (And.intro (@I123b) (@zero123))) (And.intro (And.intro (@grow123) (@call18)) (And.intro (@call120) (And.intro (@call121) (@Tryz.results50)))))))
def TF51Ref2 := And.intro (And.intro (And.intro (And.intro (And.intro (And.intro (@Tryz.underlying3) (@sz3)) (And.intro (@info3) (@I3s))) (And.intro (And.intro (@I3b) (@zero3)) (And.intro (@grow3) (@Tryz.underlying4)))) (And.intro (And.intro (And.intro (@sz4) (@info4)) (And.intro (@I4s) (@I4b))) (And.intro (And.intro (@zero4) (@grow4)) (And.intro (@Tryz.underlying9) (And.intro (@sz9) (@info9)))))) (And.intro (And.intro (And.intro (And.intro (@I9s) (@I9b)) (And.intro (@zero9) (@grow9))) (And.intro (And.intro (@Tryz.underlying22) (@sz22)) (And.intro (@info22) (@I22s)))) (And.intro (And.intro (And.intro (@I22b) (@zero22)) (And.intro (@grow22) (@Tryz.underlying24))) (And.intro (And.intro (@sz24) (@fok24)) (And.intro (@info24) (And.intro (@I24s) (@I24b))))))) (And.intro (And.intro (And.intro (And.intro (And.intro (@zero24) (@grow24)) (And.intro (@Tryz.underlying25) (@sz25))) (And.intro (And.intro (@info25) (@I25s)) (And.intro (@I25b) (@zero25)))) (And.intro (And.intro (And.intro (@grow25) (@Tryz.underlying27)) (And.intro (@sz27) (@fok27))) (And.intro (And.intro (@info27) (@I27s)) (And.intro (@I27b) (And.intro (@zero27) (@grow27)))))) (And.intro (And.intro (And.intro (And.intro (@Tryz.underlying30) (@sz30)) (And.intro (@info30) (@I30s))) (And.intro (And.intro (@I30b) (@zero30)) (And.intro (@grow30) (And.intro (@Tryz.underlying123) (@sz123))))) (And.intro (And.intro (And.intro (@info123) (@I123s)) (And.intro (@I123b) (@zero123))) (And.intro (And.intro (@grow123) (@call18)) (And.intro (@call120) (And.intro (@call122) (@Tryz.results51)))))))
def TF52Ref2 := And.intro (And.intro (And.intro (And.intro (And.intro (@Tryz.underlying3) (And.intro (@sz3) (@info3))) (And.intro (And.intro (@I3s) (@I3b)) (And.intro (@zero3) (@grow3)))) (And.intro (And.intro (And.intro (@Tryz.underlying4) (@sz4)) (And.intro (@info4) (@I4s))) (And.intro (And.intro (@I4b) (@zero4)) (And.intro (@grow4) (@Tryz.underlying9))))) (And.intro (And.intro (And.intro (@sz9) (And.intro (@info9) (@I9s))) (And.intro (And.intro (@I9b) (@zero9)) (And.intro (@grow9) (@Tryz.underlying22)))) (And.intro (And.intro (And.intro (@sz22) (@info22)) (And.intro (@I22s) (@I22b))) (And.intro (And.intro (@zero22) (@grow22)) (And.intro (@Tryz.underlying24) (@sz24)))))) (And.intro (And.intro (And.intro (And.intro (@fok24) (And.intro (@info24) (@I24s))) (And.intro (And.intro (@I24b) (@zero24)) (And.intro (@grow24) (@Tryz.underlying25)))) (And.intro (And.intro (And.intro (@sz25) (@info25)) (And.intro (@I25s) (@I25b))) (And.intro (And.intro (@zero25) (@grow25)) (And.intro (@Tryz.underlying27) (@sz27))))) (And.intro (And.intro (And.intro (@fok27) (And.intro (@info27) (@I27s))) (And.intro (And.intro (@I27b) (@zero27)) (And.intro (@grow27) (@Tryz.underlying30)))) (And.intro (And.intro (And.intro (@sz30) (@info30)) (And.intro (@I30s) (@I30b))) (And.intro (And.intro (@zero30) (@grow30)) (And.intro (@call18) (@Tryz.results52))))))
def TF120Ref2 := And.intro (And.intro (And.intro (And.intro (And.intro (@Tryz.underlying3) (@sz3)) (And.intro (@info3) (And.intro (@I3s) (@I3b)))) (And.intro (And.intro (@zero3) (And.intro (@grow3) (@Tryz.underlying4))) (And.intro (@sz4) (And.intro (@info4) (@I4s))))) (And.intro (And.intro (And.intro (@I4b) (@zero4)) (And.intro (@grow4) (And.intro (@Tryz.underlying9) (@sz9)))) (And.intro (And.intro (@info9) (And.intro (@I9s) (@I9b))) (And.intro (@zero9) (And.intro (@grow9) (@Tryz.underlying22)))))) (And.intro (And.intro (And.intro (And.intro (@sz22) (@info22)) (And.intro (@I22s) (And.intro (@I22b) (@zero22)))) (And.intro (And.intro (@grow22) (And.intro (@Tryz.underlying25) (@sz25))) (And.intro (@info25) (And.intro (@I25s) (@I25b))))) (And.intro (And.intro (And.intro (@zero25) (@grow25)) (And.intro (@Tryz.underlying27) (And.intro (@sz27) (@fok27)))) (And.intro (And.intro (@info27) (And.intro (@I27s) (@I27b))) (And.intro (@zero27) (And.intro (@grow27) (@Tryz.results120))))))
def TF121Ref2 := And.intro (And.intro (And.intro (And.intro (And.intro (@Tryz.underlying3) (@sz3)) (And.intro (@info3) (@I3s))) (And.intro (And.intro (@I3b) (@zero3)) (And.intro (@grow3) (And.intro (@Tryz.underlying4) (@sz4))))) (And.intro (And.intro (And.intro (@info4) (@I4s)) (And.intro (@I4b) (@zero4))) (And.intro (And.intro (@grow4) (@Tryz.underlying9)) (And.intro (@sz9) (And.intro (@info9) (@I9s)))))) (And.intro (And.intro (And.intro (And.intro (@I9b) (@zero9)) (And.intro (@grow9) (@Tryz.underlying25))) (And.intro (And.intro (@sz25) (@info25)) (And.intro (@I25s) (And.intro (@I25b) (@zero25))))) (And.intro (And.intro (And.intro (@grow25) (@Tryz.underlying27)) (And.intro (@sz27) (And.intro (@fok27) (@info27)))) (And.intro (And.intro (@I27s) (@I27b)) (And.intro (@zero27) (And.intro (@grow27) (@Tryz.results121))))))
def TF122Ref2 := And.intro (And.intro (And.intro (And.intro (And.intro (@Tryz.underlying3) (@sz3)) (And.intro (@info3) (@I3s))) (And.intro (And.intro (@I3b) (@zero3)) (And.intro (@grow3) (And.intro (@Tryz.underlying4) (@sz4))))) (And.intro (And.intro (And.intro (@info4) (@I4s)) (And.intro (@I4b) (@zero4))) (And.intro (And.intro (@grow4) (@Tryz.underlying9)) (And.intro (@sz9) (And.intro (@info9) (@I9s)))))) (And.intro (And.intro (And.intro (And.intro (@I9b) (@zero9)) (And.intro (@grow9) (@Tryz.underlying25))) (And.intro (And.intro (@sz25) (@info25)) (And.intro (@I25s) (And.intro (@I25b) (@zero25))))) (And.intro (And.intro (And.intro (@grow25) (@Tryz.underlying27)) (And.intro (@sz27) (And.intro (@fok27) (@info27)))) (And.intro (And.intro (@I27s) (@I27b)) (And.intro (@zero27) (And.intro (@grow27) (@Tryz.results122))))))
set_option maxRecDepth 20000
set_option maxHeartbeats 4000000

/-! outs and runs, filtered -/
def isO (m : Mv) : Bool := m.o
def isR (m : Mv) : Bool := !m.o && (m.t == 4)
theorem lensOK_eMoves (l : List Mv) : lensOK 5 (eMoves l) = true := by simp [lensOK, eMoves, eMove]
theorem eMoves_snoc (l : List Mv) (m : Mv) : eMoves l ++ [[.int .i64 m.f, .int .i64 m.t, .bool m.o, .str m.h, .lsl (eInts m.b)]] = eMoves (l ++ [m]) := by simp [eMoves, eMove]
def F121 : List EVal → Option EVal
  | [.agg [.int .i64 _, .int .i64 _, .bool o, .str _, .lsl _]] => some (.bool o)
  | _ => none
theorem e121 {f t : Int} {o : Bool} {h : List Nat} {b : List (List EVal)} : F121 [.agg [.int .i64 f, .int .i64 t, .bool o, .str h, .lsl b]] = some (.bool o) := rfl
theorem fn121 : FnT 121 F121 := by
  refine Fn.intro mixed noNG Tryz.func121 rfl [] (fun _ h => by cases h) ?_
  intro args v hF
  unfold F121 at hF
  split at hF
  rotate_left
  · cases hF
  intro Q hV
  have hQ := Viewed.of hV
  rename_i o h b
  cases hF
  refine Top.view (View.start (n := 5) rfl (by simp)) (wp_sound noNG _ _ _ _ ?_)
  ((try simp only [argsL, SS, TF121Ref2, kcall, setRange, repl, extB_q, isNew, Option.isNone_none, Option.isNone_some, Nat.reduceLT, Nat.reduceEqDiff, Nat.reduceAdd, Nat.reduceMul, Nat.reduceSub, Nat.reduceLeDiff, Nat.reduceBEq, reduceCtorEq, isNextM, absCell, eBinOp, eBin, eInt2, eInt, eStr, eUn, ePick, eConvert, eExtract, eNil, eCall, eCallV, eBuiltin, eLen, eCap, srcCells, keepV, keep1, row?, eStoreOp, EVal.cells, EVal.one, eShift, eField, eIndexAddrOp, eIndexAddr, eIndexOp, eIndex, eSliceOp, eSlice, bound, eBuild, eBuildSlice, eMakeSlice, eRange, eNextS, argB, isLent, flat, one, keepA]); (repeat' (first | refine wpStep_not (fun h => ?_) (fun h => ?_) | refine wpStep_sym (fun h => ?_) (fun h => ?_) | refine wpCond_not (fun h => ?_) (fun h => ?_) | refine wpCond_sym (fun h => ?_) (fun h => ?_) | refine wpDStep_not (fun h => ?_) (fun h => ?_) | refine wpDStep_sym (fun h => ?_) (fun h => ?_)) <;> simp only [h, SS, TF121Ref2, kcall, setRange, repl, extB_q, isNew, Option.isNone_none, Option.isNone_some, Nat.reduceLT, Nat.reduceEqDiff, Nat.reduceAdd, Nat.reduceMul, Nat.reduceSub, Nat.reduceLeDiff, Nat.reduceBEq, reduceCtorEq, isNextM, absCell, eBinOp, eBin, eInt2, eInt, eStr, eUn, ePick, eConvert, eExtract, eNil, eCall, eCallV, eBuiltin, eLen, eCap, srcCells, keepV, keep1, row?, eStoreOp, EVal.cells, EVal.one, eShift, eField, eIndexAddrOp, eIndexAddr, eIndexOp, eIndex, eSliceOp, eSlice, bound, eBuild, eBuildSlice, eMakeSlice, eRange, eNextS, argB, isLent, flat, one, keepA]))
  (refine hQ _ _ _ (ends_of (by first | exact .inl rfl | exact .inr rfl) ?_); simp only [SS, TF121Ref2, kcall, setRange, repl, extB_q, isNew, Option.isNone_none, Option.isNone_some, Nat.reduceLT, Nat.reduceEqDiff, Nat.reduceAdd, Nat.reduceMul, Nat.reduceSub, Nat.reduceLeDiff, Nat.reduceBEq, reduceCtorEq, isNextM, absCell, eBinOp, eBin, eInt2, eInt, eStr, eUn, ePick, eConvert, eExtract, eNil, eCall, eCallV, eBuiltin, eLen, eCap, srcCells, keepV, keep1, row?, eStoreOp, EVal.cells, EVal.one, eShift, eField, eIndexAddrOp, eIndexAddr, eIndexOp, eIndex, eSliceOp, eSlice, bound, eBuild, eBuildSlice, eMakeSlice, eRange, eNextS, argB, isLent, flat, one, keepA])
def F122 : List EVal → Option EVal
  | [.agg [.int .i64 _, .int .i64 t, .bool o, .str _, .lsl _]] => some (.bool (!o && (t == 4)))
  | _ => none
theorem e122 {f t : Int} {o : Bool} {h : List Nat} {b : List (List EVal)} : F122 [.agg [.int .i64 f, .int .i64 t, .bool o, .str h, .lsl b]] = some (.bool (!o && (t == 4))) := rfl
theorem fn122 : FnT 122 F122 := by
  refine Fn.intro mixed noNG Tryz.func122 rfl [] (fun _ h => by cases h) ?_
  intro args v hF
  unfold F122 at hF
  split at hF
  rotate_left
  · cases hF
  intro Q hV
  have hQ := Viewed.of hV
  rename_i t o h b
  cases hF
  refine Top.view (View.start (n := 11) rfl (by simp)) (wp_sound noNG _ _ _ _ ?_)
  cases o with
  | true =>
    ((try simp only [argsL, SS, TF122Ref2, kcall, setRange, repl, extB_q, isNew, Option.isNone_none, Option.isNone_some, Nat.reduceLT, Nat.reduceEqDiff, Nat.reduceAdd, Nat.reduceMul, Nat.reduceSub, Nat.reduceLeDiff, Nat.reduceBEq, reduceCtorEq, isNextM, absCell, eBinOp, eBin, eInt2, eInt, eStr, eUn, ePick, eConvert, eExtract, eNil, eCall, eCallV, eBuiltin, eLen, eCap, srcCells, keepV, keep1, row?, eStoreOp, EVal.cells, EVal.one, eShift, eField, eIndexAddrOp, eIndexAddr, eIndexOp, eIndex, eSliceOp, eSlice, bound, eBuild, eBuildSlice, eMakeSlice, eRange, eNextS, argB, isLent, flat, one, keepA]); (repeat' (first | refine wpStep_not (fun h => ?_) (fun h => ?_) | refine wpStep_sym (fun h => ?_) (fun h => ?_) | refine wpCond_not (fun h => ?_) (fun h => ?_) | refine wpCond_sym (fun h => ?_) (fun h => ?_) | refine wpDStep_not (fun h => ?_) (fun h => ?_) | refine wpDStep_sym (fun h => ?_) (fun h => ?_)) <;> simp only [h, SS, TF122Ref2, kcall, setRange, repl, extB_q, isNew, Option.isNone_none, Option.isNone_some, Nat.reduceLT, Nat.reduceEqDiff, Nat.reduceAdd, Nat.reduceMul, Nat.reduceSub, Nat.reduceLeDiff, Nat.reduceBEq, reduceCtorEq, isNextM, absCell, eBinOp, eBin, eInt2, eInt, eStr, eUn, ePick, eConvert, eExtract, eNil, eCall, eCallV, eBuiltin, eLen, eCap, srcCells, keepV, keep1, row?, eStoreOp, EVal.cells, EVal.one, eShift, eField, eIndexAddrOp, eIndexAddr, eIndexOp, eIndex, eSliceOp, eSlice, bound, eBuild, eBuildSlice, eMakeSlice, eRange, eNextS, argB, isLent, flat, one, keepA]))
    (refine hQ _ _ _ (ends_of (by first | exact .inl rfl | exact .inr rfl) ?_); simp only [SS, TF122Ref2, kcall, setRange, repl, extB_q, isNew, Option.isNone_none, Option.isNone_some, Nat.reduceLT, Nat.reduceEqDiff, Nat.reduceAdd, Nat.reduceMul, Nat.reduceSub, Nat.reduceLeDiff, Nat.reduceBEq, reduceCtorEq, isNextM, absCell, eBinOp, eBin, eInt2, eInt, eStr, eUn, ePick, eConvert, eExtract, eNil, eCall, eCallV, eBuiltin, eLen, eCap, srcCells, keepV, keep1, row?, eStoreOp, EVal.cells, EVal.one, eShift, eField, eIndexAddrOp, eIndexAddr, eIndexOp, eIndex, eSliceOp, eSlice, bound, eBuild, eBuildSlice, eMakeSlice, eRange, eNextS, argB, isLent, flat, one, keepA])
  | false =>
    ((try simp only [argsL, SS, TF122Ref2, kcall, setRange, repl, extB_q, isNew, Option.isNone_none, Option.isNone_some, Nat.reduceLT, Nat.reduceEqDiff, Nat.reduceAdd, Nat.reduceMul, Nat.reduceSub, Nat.reduceLeDiff, Nat.reduceBEq, reduceCtorEq, isNextM, absCell, eBinOp, eBin, eInt2, eInt, eStr, eUn, ePick, eConvert, eExtract, eNil, eCall, eCallV, eBuiltin, eLen, eCap, srcCells, keepV, keep1, row?, eStoreOp, EVal.cells, EVal.one, eShift, eField, eIndexAddrOp, eIndexAddr, eIndexOp, eIndex, eSliceOp, eSlice, bound, eBuild, eBuildSlice, eMakeSlice, eRange, eNextS, argB, isLent, flat, one, keepA]); (repeat' (first | refine wpStep_not (fun h => ?_) (fun h => ?_) | refine wpStep_sym (fun h => ?_) (fun h => ?_) | refine wpCond_not (fun h => ?_) (fun h => ?_) | refine wpCond_sym (fun h => ?_) (fun h => ?_) | refine wpDStep_not (fun h => ?_) (fun h => ?_) | refine wpDStep_sym (fun h => ?_) (fun h => ?_)) <;> simp only [h, SS, TF122Ref2, kcall, setRange, repl, extB_q, isNew, Option.isNone_none, Option.isNone_some, Nat.reduceLT, Nat.reduceEqDiff, Nat.reduceAdd, Nat.reduceMul, Nat.reduceSub, Nat.reduceLeDiff, Nat.reduceBEq, reduceCtorEq, isNextM, absCell, eBinOp, eBin, eInt2, eInt, eStr, eUn, ePick, eConvert, eExtract, eNil, eCall, eCallV, eBuiltin, eLen, eCap, srcCells, keepV, keep1, row?, eStoreOp, EVal.cells, EVal.one, eShift, eField, eIndexAddrOp, eIndexAddr, eIndexOp, eIndex, eSliceOp, eSlice, bound, eBuild, eBuildSlice, eMakeSlice, eRange, eNextS, argB, isLent, flat, one, keepA]))
    (refine hQ _ _ _ (ends_of (by first | exact .inl rfl | exact .inr rfl) ?_); simp only [SS, TF122Ref2, kcall, setRange, repl, extB_q, isNew, Option.isNone_none, Option.isNone_some, Nat.reduceLT, Nat.reduceEqDiff, Nat.reduceAdd, Nat.reduceMul, Nat.reduceSub, Nat.reduceLeDiff, Nat.reduceBEq, reduceCtorEq, isNextM, absCell, eBinOp, eBin, eInt2, eInt, eStr, eUn, ePick, eConvert, eExtract, eNil, eCall, eCallV, eBuiltin, eLen, eCap, srcCells, keepV, keep1, row?, eStoreOp, EVal.cells, EVal.one, eShift, eField, eIndexAddrOp, eIndexAddr, eIndexOp, eIndex, eSliceOp, eSlice, bound, eBuild, eBuildSlice, eMakeSlice, eRange, eNextS, argB, isLent, flat, one, keepA])
def F120_121 : List EVal → Option EVal
  | [ms, .func 121 []] => (dMoves ms).bind fun l => if l.length ≤ 300 then some (.lsl (eMoves (l.filter isO))) else none
  | _ => none
theorem fn120_121 : FnT 120 F120_121 := by
  refine Fn.intro mixed noNG Tryz.func120 rfl [(121, F121), (122, F122)] (by simp only [List.forall_mem_cons]; exact ⟨fn121, fn122, fun _ h => by cases h⟩) ?_
  intro args v hF
  unfold F120_121 at hF
  split at hF
  rotate_left
  · cases hF
  intro Q hV
  have hQ := Viewed.of hV
  rename_i ms
  cases ha : dMoves ms with
  | none => rw [ha] at hF; cases hF
  | some l =>
  rw [ha] at hF
  simp only [Option.bind_some] at hF
  split at hF
  rotate_left
  · cases hF
  rename_i h300
  cases hF
  obtain ⟨rfl, hlen, hok⟩ := dMoves_inv ha
  clear ha
  have hp2 : ∀ {m : Mv} {q : Bool}, isO m = q → m.o = q := fun h => h
  refine Top.view (View.start (n := 23) rfl (by simp)) (wp_sound noNG _ _ _ _ ?_)
  ((try simp only [argsL, SS, TF120Ref2, kcall, setRange, repl, extB_q, isNew, Option.isNone_none, Option.isNone_some, Nat.reduceLT, Nat.reduceEqDiff, Nat.reduceAdd, Nat.reduceMul, Nat.reduceSub, Nat.reduceLeDiff, Nat.reduceBEq, reduceCtorEq, isNextM, absCell, eBinOp, eBin, eInt2, eInt, eStr, eUn, ePick, eConvert, eExtract, eNil, eCall, eCallV, eBuiltin, eLen, eCap, srcCells, keepV, keep1, row?, eStoreOp, EVal.cells, EVal.one, eShift, eField, eIndexAddrOp, eIndexAddr, eIndexOp, eIndex, eSliceOp, eSlice, bound, eBuild, eBuildSlice, eMakeSlice, eRange, eNextS, argB, isLent, flat, one, keepA, eMoves_length]); (repeat' (first | refine wpStep_not (fun h => ?_) (fun h => ?_) | refine wpStep_sym (fun h => ?_) (fun h => ?_) | refine wpCond_not (fun h => ?_) (fun h => ?_) | refine wpCond_sym (fun h => ?_) (fun h => ?_) | refine wpDStep_not (fun h => ?_) (fun h => ?_) | refine wpDStep_sym (fun h => ?_) (fun h => ?_)) <;> simp only [h, SS, TF120Ref2, kcall, setRange, repl, extB_q, isNew, Option.isNone_none, Option.isNone_some, Nat.reduceLT, Nat.reduceEqDiff, Nat.reduceAdd, Nat.reduceMul, Nat.reduceSub, Nat.reduceLeDiff, Nat.reduceBEq, reduceCtorEq, isNextM, absCell, eBinOp, eBin, eInt2, eInt, eStr, eUn, ePick, eConvert, eExtract, eNil, eCall, eCallV, eBuiltin, eLen, eCap, srcCells, keepV, keep1, row?, eStoreOp, EVal.cells, EVal.one, eShift, eField, eIndexAddrOp, eIndexAddr, eIndexOp, eIndex, eSliceOp, eSlice, bound, eBuild, eBuildSlice, eMakeSlice, eRange, eNextS, argB, isLent, flat, one, keepA, eMoves_length]))
  refine wp_of_top (Top.loop (I := fun s : { k : Nat // k ≤ l.length } => (mkF 23 [(10, .int .i64 (s.1 : Nat)), (9, .int .i64 (l.length : Int)), (8, .lsl (eMoves l)), (5, .gsl 0 (eMoves ((l.take s.1).filter isO))), (1, .func 121 [])], mkH 0 [] 1 [(0, some (((l.take s.1).filter isO).length, 27))])) (μ := fun s => l.length - s.1) ⟨0, by omega⟩ (View.trans (View.grow 5 27 (by omega) (by omega) (by simp [look])) (View.sub (by simp [look, eMoves]))) ?_)
  rintro ⟨k, hk⟩
  refine wp_sound noNG _ _ _ _ ?_
  by_cases hlt : k < l.length
  rotate_left
  · obtain rfl : k = l.length := by omega
    have q1 : decide ((l.length : Int) < (l.length : Int)) = false := by simp
    rw [List.take_length]
    ((try simp only [argsL, SS, TF120Ref2, kcall, setRange, repl, extB_q, isNew, Option.isNone_none, Option.isNone_some, Nat.reduceLT, Nat.reduceEqDiff, Nat.reduceAdd, Nat.reduceMul, Nat.reduceSub, Nat.reduceLeDiff, Nat.reduceBEq, reduceCtorEq, isNextM, absCell, eBinOp, eBin, eInt2, eInt, eStr, eUn, ePick, eConvert, eExtract, eNil, eCall, eCallV, eBuiltin, eLen, eCap, srcCells, keepV, keep1, row?, eStoreOp, EVal.cells, EVal.one, eShift, eField, eIndexAddrOp, eIndexAddr, eIndexOp, eIndex, eSliceOp, eSlice, bound, eBuild, eBuildSlice, eMakeSlice, eRange, eNextS, argB, isLent, flat, one, keepA, q1]); (repeat' (first | refine wpStep_not (fun h => ?_) (fun h => ?_) | refine wpStep_sym (fun h => ?_) (fun h => ?_) | refine wpCond_not (fun h => ?_) (fun h => ?_) | refine wpCond_sym (fun h => ?_) (fun h => ?_) | refine wpDStep_not (fun h => ?_) (fun h => ?_) | refine wpDStep_sym (fun h => ?_) (fun h => ?_)) <;> simp only [h, SS, TF120Ref2, kcall, setRange, repl, extB_q, isNew, Option.isNone_none, Option.isNone_some, Nat.reduceLT, Nat.reduceEqDiff, Nat.reduceAdd, Nat.reduceMul, Nat.reduceSub, Nat.reduceLeDiff, Nat.reduceBEq, reduceCtorEq, isNextM, absCell, eBinOp, eBin, eInt2, eInt, eStr, eUn, ePick, eConvert, eExtract, eNil, eCall, eCallV, eBuiltin, eLen, eCap, srcCells, keepV, keep1, row?, eStoreOp, EVal.cells, EVal.one, eShift, eField, eIndexAddrOp, eIndexAddr, eIndexOp, eIndex, eSliceOp, eSlice, bound, eBuild, eBuildSlice, eMakeSlice, eRange, eNextS, argB, isLent, flat, one, keepA, q1]))
    (refine hQ _ _ _ (ends_of (by first | exact .inl rfl | exact .inr rfl) ?_); simp only [SS, TF120Ref2, kcall, setRange, repl, extB_q, isNew, Option.isNone_none, Option.isNone_some, Nat.reduceLT, Nat.reduceEqDiff, Nat.reduceAdd, Nat.reduceMul, Nat.reduceSub, Nat.reduceLeDiff, Nat.reduceBEq, reduceCtorEq, isNextM, absCell, eBinOp, eBin, eInt2, eInt, eStr, eUn, ePick, eConvert, eExtract, eNil, eCall, eCallV, eBuiltin, eLen, eCap, srcCells, keepV, keep1, row?, eStoreOp, EVal.cells, EVal.one, eShift, eField, eIndexAddrOp, eIndexAddr, eIndexOp, eIndex, eSliceOp, eSlice, bound, eBuild, eBuildSlice, eMakeSlice, eRange, eNextS, argB, isLent, flat, one, keepA])
  obtain ⟨m, hx⟩ : ∃ m, l[k]? = some m := ⟨l[k], List.getElem?_eq_getElem hlt⟩
  have q1 : decide ((k : Int) < (l.length : Int)) = true := by simp; omega
  have q2 : IntKind.i64.wrap ((k : Int) + 1) = ((k + 1 : Nat) : Int) := by rw [wrap_id] <;> omega
  have hle : ((l.take k).filter isO).length ≤ 300 := by
    have h1 := List.length_filter_le isO (l.take k)
    rw [List.length_take] at h1
    omega
  have q3 : 64 * (((l.take k).filter isO).length + 1) ≤ 1000000 := by omega
  have htk : (l.take (k + 1)).filter isO = (l.take k).filter isO ++ (if isO m = true then [m] else []) := by
    rw [List.take_add_one, hx, List.filter_append]
    simp only [Option.toList_some, List.filter_cons, List.filter_nil]
  cases hp : isO m with
  | true =>
    rw [hp, if_pos rfl] at htk
    have hcall : F121 [.agg [.int .i64 m.f, .int .i64 m.t, .bool m.o, .str m.h, .lsl (eInts m.b)]] = some (.bool true) := by rw [e121, hp2 hp]
    ((try simp only [argsL, SS, TF120Ref2, kcall, setRange, repl, extB_q, isNew, Option.isNone_none, Option.isNone_some, Nat.reduceLT, Nat.reduceEqDiff, Nat.reduceAdd, Nat.reduceMul, Nat.reduceSub, Nat.reduceLeDiff, Nat.reduceBEq, reduceCtorEq, isNextM, absCell, eBinOp, eBin, eInt2, eInt, eStr, eUn, ePick, eConvert, eExtract, eNil, eCall, eCallV, eBuiltin, eLen, eCap, srcCells, keepV, keep1, row?, eStoreOp, EVal.cells, EVal.one, eShift, eField, eIndexAddrOp, eIndexAddr, eIndexOp, eIndex, eSliceOp, eSlice, bound, eBuild, eBuildSlice, eMakeSlice, eRange, eNextS, argB, isLent, flat, one, keepA, q1, q2, eMoves_get, eMove_q, hx, call121, hcall, q3, eMoves_length, lensOK_eMoves, eMoves_snoc]); (repeat' (first | refine wpStep_not (fun h => ?_) (fun h => ?_) | refine wpStep_sym (fun h => ?_) (fun h => ?_) | refine wpCond_not (fun h => ?_) (fun h => ?_) | refine wpCond_sym (fun h => ?_) (fun h => ?_) | refine wpDStep_not (fun h => ?_) (fun h => ?_) | refine wpDStep_sym (fun h => ?_) (fun h => ?_)) <;> simp only [h, SS, TF120Ref2, kcall, setRange, repl, extB_q, isNew, Option.isNone_none, Option.isNone_some, Nat.reduceLT, Nat.reduceEqDiff, Nat.reduceAdd, Nat.reduceMul, Nat.reduceSub, Nat.reduceLeDiff, Nat.reduceBEq, reduceCtorEq, isNextM, absCell, eBinOp, eBin, eInt2, eInt, eStr, eUn, ePick, eConvert, eExtract, eNil, eCall, eCallV, eBuiltin, eLen, eCap, srcCells, keepV, keep1, row?, eStoreOp, EVal.cells, EVal.one, eShift, eField, eIndexAddrOp, eIndexAddr, eIndexOp, eIndex, eSliceOp, eSlice, bound, eBuild, eBuildSlice, eMakeSlice, eRange, eNextS, argB, isLent, flat, one, keepA, q1, q2, eMoves_get, eMove_q, hx, call121, hcall, q3, eMoves_length, lensOK_eMoves, eMoves_snoc]))
    refine ⟨⟨k + 1, hlt⟩, by simp; omega, ?_⟩
    simp only [htk, List.length_append, List.length_cons, List.length_nil, Nat.zero_add]
    exact (View.drop (by simp [look, below, belowL]) (by simp [lookG, belowO, below, belowL, below_eRow]) (by simp [lookG]))
  | false =>
    rw [hp, if_neg (by simp), List.append_nil] at htk
    have hcall : F121 [.agg [.int .i64 m.f, .int .i64 m.t, .bool m.o, .str m.h, .lsl (eInts m.b)]] = some (.bool false) := by rw [e121, hp2 hp]
    ((try simp only [argsL, SS, TF120Ref2, kcall, setRange, repl, extB_q, isNew, Option.isNone_none, Option.isNone_some, Nat.reduceLT, Nat.reduceEqDiff, Nat.reduceAdd, Nat.reduceMul, Nat.reduceSub, Nat.reduceLeDiff, Nat.reduceBEq, reduceCtorEq, isNextM, absCell, eBinOp, eBin, eInt2, eInt, eStr, eUn, ePick, eConvert, eExtract, eNil, eCall, eCallV, eBuiltin, eLen, eCap, srcCells, keepV, keep1, row?, eStoreOp, EVal.cells, EVal.one, eShift, eField, eIndexAddrOp, eIndexAddr, eIndexOp, eIndex, eSliceOp, eSlice, bound, eBuild, eBuildSlice, eMakeSlice, eRange, eNextS, argB, isLent, flat, one, keepA, q1, q2, eMoves_get, eMove_q, hx, call121, hcall]); (repeat' (first | refine wpStep_not (fun h => ?_) (fun h => ?_) | refine wpStep_sym (fun h => ?_) (fun h => ?_) | refine wpCond_not (fun h => ?_) (fun h => ?_) | refine wpCond_sym (fun h => ?_) (fun h => ?_) | refine wpDStep_not (fun h => ?_) (fun h => ?_) | refine wpDStep_sym (fun h => ?_) (fun h => ?_)) <;> simp only [h, SS, TF120Ref2, kcall, setRange, repl, extB_q, isNew, Option.isNone_none, Option.isNone_some, Nat.reduceLT, Nat.reduceEqDiff, Nat.reduceAdd, Nat.reduceMul, Nat.reduceSub, Nat.reduceLeDiff, Nat.reduceBEq, reduceCtorEq, isNextM, absCell, eBinOp, eBin, eInt2, eInt, eStr, eUn, ePick, eConvert, eExtract, eNil, eCall, eCallV, eBuiltin, eLen, eCap, srcCells, keepV, keep1, row?, eStoreOp, EVal.cells, EVal.one, eShift, eField, eIndexAddrOp, eIndexAddr, eIndexOp, eIndex, eSliceOp, eSlice, bound, eBuild, eBuildSlice, eMakeSlice, eRange, eNextS, argB, isLent, flat, one, keepA, q1, q2, eMoves_get, eMove_q, hx, call121, hcall]))
    refine ⟨⟨k + 1, hlt⟩, by simp; omega, ?_⟩
    simp only [htk]
    exact (View.drop (by simp [look, below, belowL]) (by simp [lookG, belowO, below, belowL, below_eRow]) (by simp [lookG]))

def F120_122 : List EVal → Option EVal
  | [ms, .func 122 []] => (dMoves ms).bind fun l => if l.length ≤ 300 then some (.lsl (eMoves (l.filter isR))) else none
  | _ => none
theorem fn120_122 : FnT 120 F120_122 := by
  refine Fn.intro mixed noNG Tryz.func120 rfl [(121, F121), (122, F122)] (by simp only [List.forall_mem_cons]; exact ⟨fn121, fn122, fun _ h => by cases h⟩) ?_
  intro args v hF
  unfold F120_122 at hF
  split at hF
  rotate_left
  · cases hF
  intro Q hV
  have hQ := Viewed.of hV
  rename_i ms
  cases ha : dMoves ms with
  | none => rw [ha] at hF; cases hF
  | some l =>
  rw [ha] at hF
  simp only [Option.bind_some] at hF
  split at hF
  rotate_left
  · cases hF
  rename_i h300
  cases hF
  obtain ⟨rfl, hlen, hok⟩ := dMoves_inv ha
  clear ha
  have hp2 : ∀ {m : Mv} {q : Bool}, isR m = q → (!m.o && (m.t == 4)) = q := fun h => h
  refine Top.view (View.start (n := 23) rfl (by simp)) (wp_sound noNG _ _ _ _ ?_)
  ((try simp only [argsL, SS, TF120Ref2, kcall, setRange, repl, extB_q, isNew, Option.isNone_none, Option.isNone_some, Nat.reduceLT, Nat.reduceEqDiff, Nat.reduceAdd, Nat.reduceMul, Nat.reduceSub, Nat.reduceLeDiff, Nat.reduceBEq, reduceCtorEq, isNextM, absCell, eBinOp, eBin, eInt2, eInt, eStr, eUn, ePick, eConvert, eExtract, eNil, eCall, eCallV, eBuiltin, eLen, eCap, srcCells, keepV, keep1, row?, eStoreOp, EVal.cells, EVal.one, eShift, eField, eIndexAddrOp, eIndexAddr, eIndexOp, eIndex, eSliceOp, eSlice, bound, eBuild, eBuildSlice, eMakeSlice, eRange, eNextS, argB, isLent, flat, one, keepA, eMoves_length]); (repeat' (first | refine wpStep_not (fun h => ?_) (fun h => ?_) | refine wpStep_sym (fun h => ?_) (fun h => ?_) | refine wpCond_not (fun h => ?_) (fun h => ?_) | refine wpCond_sym (fun h => ?_) (fun h => ?_) | refine wpDStep_not (fun h => ?_) (fun h => ?_) | refine wpDStep_sym (fun h => ?_) (fun h => ?_)) <;> simp only [h, SS, TF120Ref2, kcall, setRange, repl, extB_q, isNew, Option.isNone_none, Option.isNone_some, Nat.reduceLT, Nat.reduceEqDiff, Nat.reduceAdd, Nat.reduceMul, Nat.reduceSub, Nat.reduceLeDiff, Nat.reduceBEq, reduceCtorEq, isNextM, absCell, eBinOp, eBin, eInt2, eInt, eStr, eUn, ePick, eConvert, eExtract, eNil, eCall, eCallV, eBuiltin, eLen, eCap, srcCells, keepV, keep1, row?, eStoreOp, EVal.cells, EVal.one, eShift, eField, eIndexAddrOp, eIndexAddr, eIndexOp, eIndex, eSliceOp, eSlice, bound, eBuild, eBuildSlice, eMakeSlice, eRange, eNextS, argB, isLent, flat, one, keepA, eMoves_length]))
  refine wp_of_top (Top.loop (I := fun s : { k : Nat // k ≤ l.length } => (mkF 23 [(10, .int .i64 (s.1 : Nat)), (9, .int .i64 (l.length : Int)), (8, .lsl (eMoves l)), (5, .gsl 0 (eMoves ((l.take s.1).filter isR))), (1, .func 122 [])], mkH 0 [] 1 [(0, some (((l.take s.1).filter isR).length, 27))])) (μ := fun s => l.length - s.1) ⟨0, by omega⟩ (View.trans (View.grow 5 27 (by omega) (by omega) (by simp [look])) (View.sub (by simp [look, eMoves]))) ?_)
  rintro ⟨k, hk⟩
  refine wp_sound noNG _ _ _ _ ?_
  by_cases hlt : k < l.length
  rotate_left
  · obtain rfl : k = l.length := by omega
    have q1 : decide ((l.length : Int) < (l.length : Int)) = false := by simp
    rw [List.take_length]
    ((try simp only [argsL, SS, TF120Ref2, kcall, setRange, repl, extB_q, isNew, Option.isNone_none, Option.isNone_some, Nat.reduceLT, Nat.reduceEqDiff, Nat.reduceAdd, Nat.reduceMul, Nat.reduceSub, Nat.reduceLeDiff, Nat.reduceBEq, reduceCtorEq, isNextM, absCell, eBinOp, eBin, eInt2, eInt, eStr, eUn, ePick, eConvert, eExtract, eNil, eCall, eCallV, eBuiltin, eLen, eCap, srcCells, keepV, keep1, row?, eStoreOp, EVal.cells, EVal.one, eShift, eField, eIndexAddrOp, eIndexAddr, eIndexOp, eIndex, eSliceOp, eSlice, bound, eBuild, eBuildSlice, eMakeSlice, eRange, eNextS, argB, isLent, flat, one, keepA, q1]); (repeat' (first | refine wpStep_not (fun h => ?_) (fun h => ?_) | refine wpStep_sym (fun h => ?_) (fun h => ?_) | refine wpCond_not (fun h => ?_) (fun h => ?_) | refine wpCond_sym (fun h => ?_) (fun h => ?_) | refine wpDStep_not (fun h => ?_) (fun h => ?_) | refine wpDStep_sym (fun h => ?_) (fun h => ?_)) <;> simp only [h, SS, TF120Ref2, kcall, setRange, repl, extB_q, isNew, Option.isNone_none, Option.isNone_some, Nat.reduceLT, Nat.reduceEqDiff, Nat.reduceAdd, Nat.reduceMul, Nat.reduceSub, Nat.reduceLeDiff, Nat.reduceBEq, reduceCtorEq, isNextM, absCell, eBinOp, eBin, eInt2, eInt, eStr, eUn, ePick, eConvert, eExtract, eNil, eCall, eCallV, eBuiltin, eLen, eCap, srcCells, keepV, keep1, row?, eStoreOp, EVal.cells, EVal.one, eShift, eField, eIndexAddrOp, eIndexAddr, eIndexOp, eIndex, eSliceOp, eSlice, bound, eBuild, eBuildSlice, eMakeSlice, eRange, eNextS, argB, isLent, flat, one, keepA, q1]))
    (refine hQ _ _ _ (ends_of (by first | exact .inl rfl | exact .inr rfl) ?_); simp only [SS, TF120Ref2, kcall, setRange, repl, extB_q, isNew, Option.isNone_none, Option.isNone_some, Nat.reduceLT, Nat.reduceEqDiff, Nat.reduceAdd, Nat.reduceMul, Nat.reduceSub, Nat.reduceLeDiff, Nat.reduceBEq, reduceCtorEq, isNextM, absCell, eBinOp, eBin, eInt2, eInt, eStr, eUn, ePick, eConvert, eExtract, eNil, eCall, eCallV, eBuiltin, eLen, eCap, srcCells, keepV, keep1, row?, eStoreOp, EVal.cells, EVal.one, eShift, eField, eIndexAddrOp, eIndexAddr, eIndexOp, eIndex, eSliceOp, eSlice, bound, eBuild, eBuildSlice, eMakeSlice, eRange, eNextS, argB, isLent, flat, one, keepA])
  obtain ⟨m, hx⟩ : ∃ m, l[k]? = some m := ⟨l[k], List.getElem?_eq_getElem hlt⟩
  have q1 : decide ((k : Int) < (l.length : Int)) = true := by simp; omega
  have q2 : IntKind.i64.wrap ((k : Int) + 1) = ((k + 1 : Nat) : Int) := by rw [wrap_id] <;> omega
  have hle : ((l.take k).filter isR).length ≤ 300 := by
    have h1 := List.length_filter_le isR (l.take k)
    rw [List.length_take] at h1
    omega
  have q3 : 64 * (((l.take k).filter isR).length + 1) ≤ 1000000 := by omega
  have htk : (l.take (k + 1)).filter isR = (l.take k).filter isR ++ (if isR m = true then [m] else []) := by
    rw [List.take_add_one, hx, List.filter_append]
    simp only [Option.toList_some, List.filter_cons, List.filter_nil]
  cases hp : isR m with
  | true =>
    rw [hp, if_pos rfl] at htk
    have hcall : F122 [.agg [.int .i64 m.f, .int .i64 m.t, .bool m.o, .str m.h, .lsl (eInts m.b)]] = some (.bool true) := by rw [e122, hp2 hp]
    ((try simp only [argsL, SS, TF120Ref2, kcall, setRange, repl, extB_q, isNew, Option.isNone_none, Option.isNone_some, Nat.reduceLT, Nat.reduceEqDiff, Nat.reduceAdd, Nat.reduceMul, Nat.reduceSub, Nat.reduceLeDiff, Nat.reduceBEq, reduceCtorEq, isNextM, absCell, eBinOp, eBin, eInt2, eInt, eStr, eUn, ePick, eConvert, eExtract, eNil, eCall, eCallV, eBuiltin, eLen, eCap, srcCells, keepV, keep1, row?, eStoreOp, EVal.cells, EVal.one, eShift, eField, eIndexAddrOp, eIndexAddr, eIndexOp, eIndex, eSliceOp, eSlice, bound, eBuild, eBuildSlice, eMakeSlice, eRange, eNextS, argB, isLent, flat, one, keepA, q1, q2, eMoves_get, eMove_q, hx, call122, hcall, q3, eMoves_length, lensOK_eMoves, eMoves_snoc]); (repeat' (first | refine wpStep_not (fun h => ?_) (fun h => ?_) | refine wpStep_sym (fun h => ?_) (fun h => ?_) | refine wpCond_not (fun h => ?_) (fun h => ?_) | refine wpCond_sym (fun h => ?_) (fun h => ?_) | refine wpDStep_not (fun h => ?_) (fun h => ?_) | refine wpDStep_sym (fun h => ?_) (fun h => ?_)) <;> simp only [h, SS, TF120Ref2, kcall, setRange, repl, extB_q, isNew, Option.isNone_none, Option.isNone_some, Nat.reduceLT, Nat.reduceEqDiff, Nat.reduceAdd, Nat.reduceMul, Nat.reduceSub, Nat.reduceLeDiff, Nat.reduceBEq, reduceCtorEq, isNextM, absCell, eBinOp, eBin, eInt2, eInt, eStr, eUn, ePick, eConvert, eExtract, eNil, eCall, eCallV, eBuiltin, eLen, eCap, srcCells, keepV, keep1, row?, eStoreOp, EVal.cells, EVal.one, eShift, eField, eIndexAddrOp, eIndexAddr, eIndexOp, eIndex, eSliceOp, eSlice, bound, eBuild, eBuildSlice, eMakeSlice, eRange, eNextS, argB, isLent, flat, one, keepA, q1, q2, eMoves_get, eMove_q, hx, call122, hcall, q3, eMoves_length, lensOK_eMoves, eMoves_snoc]))
    refine ⟨⟨k + 1, hlt⟩, by simp; omega, ?_⟩
    simp only [htk, List.length_append, List.length_cons, List.length_nil, Nat.zero_add]
    exact (View.drop (by simp [look, below, belowL]) (by simp [lookG, belowO, below, belowL, below_eRow]) (by simp [lookG]))
  | false =>
    rw [hp, if_neg (by simp), List.append_nil] at htk
    have hcall : F122 [.agg [.int .i64 m.f, .int .i64 m.t, .bool m.o, .str m.h, .lsl (eInts m.b)]] = some (.bool false) := by rw [e122, hp2 hp]
    ((try simp only [argsL, SS, TF120Ref2, kcall, setRange, repl, extB_q, isNew, Option.isNone_none, Option.isNone_some, Nat.reduceLT, Nat.reduceEqDiff, Nat.reduceAdd, Nat.reduceMul, Nat.reduceSub, Nat.reduceLeDiff, Nat.reduceBEq, reduceCtorEq, isNextM, absCell, eBinOp, eBin, eInt2, eInt, eStr, eUn, ePick, eConvert, eExtract, eNil, eCall, eCallV, eBuiltin, eLen, eCap, srcCells, keepV, keep1, row?, eStoreOp, EVal.cells, EVal.one, eShift, eField, eIndexAddrOp, eIndexAddr, eIndexOp, eIndex, eSliceOp, eSlice, bound, eBuild, eBuildSlice, eMakeSlice, eRange, eNextS, argB, isLent, flat, one, keepA, q1, q2, eMoves_get, eMove_q, hx, call122, hcall]); (repeat' (first | refine wpStep_not (fun h => ?_) (fun h => ?_) | refine wpStep_sym (fun h => ?_) (fun h => ?_) | refine wpCond_not (fun h => ?_) (fun h => ?_) | refine wpCond_sym (fun h => ?_) (fun h => ?_) | refine wpDStep_not (fun h => ?_) (fun h => ?_) | refine wpDStep_sym (fun h => ?_) (fun h => ?_)) <;> simp only [h, SS, TF120Ref2, kcall, setRange, repl, extB_q, isNew, Option.isNone_none, Option.isNone_some, Nat.reduceLT, Nat.reduceEqDiff, Nat.reduceAdd, Nat.reduceMul, Nat.reduceSub, Nat.reduceLeDiff, Nat.reduceBEq, reduceCtorEq, isNextM, absCell, eBinOp, eBin, eInt2, eInt, eStr, eUn, ePick, eConvert, eExtract, eNil, eCall, eCallV, eBuiltin, eLen, eCap, srcCells, keepV, keep1, row?, eStoreOp, EVal.cells, EVal.one, eShift, eField, eIndexAddrOp, eIndexAddr, eIndexOp, eIndex, eSliceOp, eSlice, bound, eBuild, eBuildSlice, eMakeSlice, eRange, eNextS, argB, isLent, flat, one, keepA, q1, q2, eMoves_get, eMove_q, hx, call122, hcall]))
    refine ⟨⟨k + 1, hlt⟩, by simp; omega, ?_⟩
    simp only [htk]
    exact (View.drop (by simp [look, below, belowL]) (by simp [lookG, belowO, below, belowL, below_eRow]) (by simp [lookG]))


def F120 : List EVal → Option EVal := fun a => (F120_121 a).or (F120_122 a)
theorem fn120 : FnT 120 F120 := by
  refine Fn.or fun a v h => ?_
  unfold F120 at h
  cases h1 : F120_121 a with
  | some u => rw [h1] at h; exact ⟨F120_121, fn120_121, by rw [h1]; exact h⟩
  | none => rw [h1] at h; exact ⟨F120_122, fn120_122, h⟩

theorem outs_len (l : List Mv) : sumM outM l = ((l.filter isO).length : Int) := by
  induction l with
  | nil => rfl
  | cons m l ih =>
    simp only [sumM, List.filter_cons, ih]
    cases h : m.o <;> simp [outM, isO, h] <;> omega
theorem runs_len (l : List Mv) : sumM runM l = ((l.filter isR).length : Int) := by
  induction l with
  | nil => rfl
  | cons m l ih =>
    simp only [sumM, List.filter_cons, ih]
    cases h : m.o <;> by_cases h2 : m.t = 4 <;> simp [runM, isR, h, h2] <;> omega
theorem playE_zero {p e : List Nat} {l : List Mv} (h : playE p e l = 0) : pitchE p = 0 ∧ eventE e = 0 ∧ movesE l = 0 := by
  simp only [playE, firstL] at h
  by_cases h1 : pitchE p = 0 <;> by_cases h2 : eventE e = 0 <;> by_cases h3 : movesE l = 0 <;> simp [h1, h2, h3] at h ⊢
theorem mvGo_zero : ∀ {l : List Mv} {p : Option Int}, mvGo p l = 0 → ∀ m ∈ l, mvE m = 0
  | [], _, _, _, hm => by cases hm
  | m :: l, p, h, x, hx => by
    simp only [mvGo] at h
    split at h
    · rename_i h1; exact absurd h h1
    · rename_i h1
      split at h
      · cases h
      · rcases List.mem_cons.1 hx with rfl | hx
        · simpa using h1
        · exact mvGo_zero h x hx
theorem movesE_zero {l : List Mv} (h : movesE l = 0) : l.length ≤ 4 ∧ ∀ m ∈ l, mvE m = 0 := by
  unfold movesE at h
  split at h
  · cases h
  · exact ⟨by omega, mvGo_zero h⟩
theorem mvE_base {m : Mv} (h : mvE m = 0) : baseMv m = true := by
  unfold mvE moveE at h
  simp only [firstL] at h
  unfold baseMv
  by_cases hf : 0 ≤ m.f ∧ m.f ≤ 3
  · by_cases ht : 1 ≤ m.t ∧ m.t ≤ 4
    · simp; omega
    · rw [rangeE_in hf, rangeE_out ht] at h; simp at h
  · rw [rangeE_out hf] at h; simp at h
/-- a play's number, and its error -/
def cntP (p e : List Nat) (l : List Mv) (n : Int) : EVal := if playE p e l = 0 then .tup [.int .i64 n, .int .i64 0] else .tup [.int .i64 0, .int .i64 (playE p e l)]
def F50 : List EVal → Option EVal
  | [.agg [.str p, .str e, .bool _, ms]] => if bytesB p = true ∧ bytesB e = true then (dMoves ms).map fun l => cntP p e l (sumM outM l) else none
  | _ => none
def F51 : List EVal → Option EVal
  | [.agg [.str p, .str e, .bool _, ms]] => if bytesB p = true ∧ bytesB e = true then (dMoves ms).map fun l => cntP p e l (sumM runM l) else none
  | _ => none
theorem e18 {p e : List Nat} {late : Bool} {l : List Mv} (hb : bytesB p = true ∧ bytesB e = true) (hlen : l.length < 9223372036854775808) (hok : ∀ m ∈ l, okMv m) : F18 [.agg [.str p, .str e, .bool late, .lsl (eMoves l)]] = some (.int .i64 (playE p e l)) := by
  simp only [F18]; rw [if_pos hb, dMoves_e hlen hok]; rfl
theorem fn50 : FnT 50 F50 := by
  refine Fn.intro mixed noNG Tryz.func50 rfl [(18, F18), (120, F120)] (by simp only [List.forall_mem_cons]; exact ⟨fn18, fn120, fun _ h => by cases h⟩) ?_
  intro args v hF
  unfold F50 at hF
  split at hF
  rotate_left
  · cases hF
  intro Q hV
  have hQ := Viewed.of hV
  rename_i p e late ms
  split at hF
  rotate_left
  · cases hF
  rename_i hb
  cases ha : dMoves ms with
  | none => rw [ha] at hF; cases hF
  | some l =>
  rw [ha] at hF
  cases hF
  obtain ⟨rfl, hlen, hok⟩ := dMoves_inv ha
  clear ha
  dsimp only at hQ hV
  have h18 := e18 (late := late) hb hlen hok
  refine Top.view (View.start (n := 14) rfl (by simp)) (wp_sound noNG _ _ _ _ ?_)
  cases hz : (playE p e l == 0) with
  | false =>
    have hz0 : ¬ playE p e l = 0 := by simpa using hz
    ((try simp only [argsL, SS, TF50Ref2, kcall, setRange, repl, extB_q, isNew, Option.isNone_none, Option.isNone_some, Nat.reduceLT, Nat.reduceEqDiff, Nat.reduceAdd, Nat.reduceMul, Nat.reduceSub, Nat.reduceLeDiff, Nat.reduceBEq, reduceCtorEq, isNextM, absCell, eBinOp, eBin, eInt2, eInt, eStr, eUn, ePick, eConvert, eExtract, eNil, eCall, eCallV, eBuiltin, eLen, eCap, srcCells, keepV, keep1, row?, eStoreOp, EVal.cells, EVal.one, eShift, eField, eIndexAddrOp, eIndexAddr, eIndexOp, eIndex, eSliceOp, eSlice, bound, eBuild, eBuildSlice, eMakeSlice, eRange, eNextS, argB, isLent, flat, one, keepA, h18, hz]); (repeat' (first | refine wpStep_not (fun h => ?_) (fun h => ?_) | refine wpStep_sym (fun h => ?_) (fun h => ?_) | refine wpCond_not (fun h => ?_) (fun h => ?_) | refine wpCond_sym (fun h => ?_) (fun h => ?_) | refine wpDStep_not (fun h => ?_) (fun h => ?_) | refine wpDStep_sym (fun h => ?_) (fun h => ?_)) <;> simp only [h, SS, TF50Ref2, kcall, setRange, repl, extB_q, isNew, Option.isNone_none, Option.isNone_some, Nat.reduceLT, Nat.reduceEqDiff, Nat.reduceAdd, Nat.reduceMul, Nat.reduceSub, Nat.reduceLeDiff, Nat.reduceBEq, reduceCtorEq, isNextM, absCell, eBinOp, eBin, eInt2, eInt, eStr, eUn, ePick, eConvert, eExtract, eNil, eCall, eCallV, eBuiltin, eLen, eCap, srcCells, keepV, keep1, row?, eStoreOp, EVal.cells, EVal.one, eShift, eField, eIndexAddrOp, eIndexAddr, eIndexOp, eIndex, eSliceOp, eSlice, bound, eBuild, eBuildSlice, eMakeSlice, eRange, eNextS, argB, isLent, flat, one, keepA, h18, hz]))
    (refine hQ _ _ _ (ends_of (by first | exact .inl rfl | exact .inr rfl) ?_); simp only [SS, TF50Ref2, kcall, setRange, repl, extB_q, isNew, Option.isNone_none, Option.isNone_some, Nat.reduceLT, Nat.reduceEqDiff, Nat.reduceAdd, Nat.reduceMul, Nat.reduceSub, Nat.reduceLeDiff, Nat.reduceBEq, reduceCtorEq, isNextM, absCell, eBinOp, eBin, eInt2, eInt, eStr, eUn, ePick, eConvert, eExtract, eNil, eCall, eCallV, eBuiltin, eLen, eCap, srcCells, keepV, keep1, row?, eStoreOp, EVal.cells, EVal.one, eShift, eField, eIndexAddrOp, eIndexAddr, eIndexOp, eIndex, eSliceOp, eSlice, bound, eBuild, eBuildSlice, eMakeSlice, eRange, eNextS, argB, isLent, flat, one, keepA])
    simp only [cntP, hz0, if_false]
  | true =>
    have hz0 : playE p e l = 0 := by simpa using hz
    have h4 := (movesE_zero (playE_zero hz0).2.2).1
    have h120 : F120 [.lsl (eMoves l), .func 121 []] = some (.lsl (eMoves (l.filter isO))) := by
      simp only [F120, F120_121, F120_122, dMoves_e hlen hok, Option.bind_some]
      rw [if_pos (by omega)]; rfl
    ((try simp only [argsL, SS, TF50Ref2, kcall, setRange, repl, extB_q, isNew, Option.isNone_none, Option.isNone_some, Nat.reduceLT, Nat.reduceEqDiff, Nat.reduceAdd, Nat.reduceMul, Nat.reduceSub, Nat.reduceLeDiff, Nat.reduceBEq, reduceCtorEq, isNextM, absCell, eBinOp, eBin, eInt2, eInt, eStr, eUn, ePick, eConvert, eExtract, eNil, eCall, eCallV, eBuiltin, eLen, eCap, srcCells, keepV, keep1, row?, eStoreOp, EVal.cells, EVal.one, eShift, eField, eIndexAddrOp, eIndexAddr, eIndexOp, eIndex, eSliceOp, eSlice, bound, eBuild, eBuildSlice, eMakeSlice, eRange, eNextS, argB, isLent, flat, one, keepA, h18, hz, call121, h120, eMoves_length]); (repeat' (first | refine wpStep_not (fun h => ?_) (fun h => ?_) | refine wpStep_sym (fun h => ?_) (fun h => ?_) | refine wpCond_not (fun h => ?_) (fun h => ?_) | refine wpCond_sym (fun h => ?_) (fun h => ?_) | refine wpDStep_not (fun h => ?_) (fun h => ?_) | refine wpDStep_sym (fun h => ?_) (fun h => ?_)) <;> simp only [h, SS, TF50Ref2, kcall, setRange, repl, extB_q, isNew, Option.isNone_none, Option.isNone_some, Nat.reduceLT, Nat.reduceEqDiff, Nat.reduceAdd, Nat.reduceMul, Nat.reduceSub, Nat.reduceLeDiff, Nat.reduceBEq, reduceCtorEq, isNextM, absCell, eBinOp, eBin, eInt2, eInt, eStr, eUn, ePick, eConvert, eExtract, eNil, eCall, eCallV, eBuiltin, eLen, eCap, srcCells, keepV, keep1, row?, eStoreOp, EVal.cells, EVal.one, eShift, eField, eIndexAddrOp, eIndexAddr, eIndexOp, eIndex, eSliceOp, eSlice, bound, eBuild, eBuildSlice, eMakeSlice, eRange, eNextS, argB, isLent, flat, one, keepA, h18, hz, call121, h120, eMoves_length]))
    (refine hQ _ _ _ (ends_of (by first | exact .inl rfl | exact .inr rfl) ?_); simp only [SS, TF50Ref2, kcall, setRange, repl, extB_q, isNew, Option.isNone_none, Option.isNone_some, Nat.reduceLT, Nat.reduceEqDiff, Nat.reduceAdd, Nat.reduceMul, Nat.reduceSub, Nat.reduceLeDiff, Nat.reduceBEq, reduceCtorEq, isNextM, absCell, eBinOp, eBin, eInt2, eInt, eStr, eUn, ePick, eConvert, eExtract, eNil, eCall, eCallV, eBuiltin, eLen, eCap, srcCells, keepV, keep1, row?, eStoreOp, EVal.cells, EVal.one, eShift, eField, eIndexAddrOp, eIndexAddr, eIndexOp, eIndex, eSliceOp, eSlice, bound, eBuild, eBuildSlice, eMakeSlice, eRange, eNextS, argB, isLent, flat, one, keepA])
    simp only [cntP, hz0, if_true, outs_len]
theorem fn51 : FnT 51 F51 := by
  refine Fn.intro mixed noNG Tryz.func51 rfl [(18, F18), (120, F120)] (by simp only [List.forall_mem_cons]; exact ⟨fn18, fn120, fun _ h => by cases h⟩) ?_
  intro args v hF
  unfold F51 at hF
  split at hF
  rotate_left
  · cases hF
  intro Q hV
  have hQ := Viewed.of hV
  rename_i p e late ms
  split at hF
  rotate_left
  · cases hF
  rename_i hb
  cases ha : dMoves ms with
  | none => rw [ha] at hF; cases hF
  | some l =>
  rw [ha] at hF
  cases hF
  obtain ⟨rfl, hlen, hok⟩ := dMoves_inv ha
  clear ha
  dsimp only at hQ hV
  have h18 := e18 (late := late) hb hlen hok
  refine Top.view (View.start (n := 14) rfl (by simp)) (wp_sound noNG _ _ _ _ ?_)
  cases hz : (playE p e l == 0) with
  | false =>
    have hz0 : ¬ playE p e l = 0 := by simpa using hz
    ((try simp only [argsL, SS, TF51Ref2, kcall, setRange, repl, extB_q, isNew, Option.isNone_none, Option.isNone_some, Nat.reduceLT, Nat.reduceEqDiff, Nat.reduceAdd, Nat.reduceMul, Nat.reduceSub, Nat.reduceLeDiff, Nat.reduceBEq, reduceCtorEq, isNextM, absCell, eBinOp, eBin, eInt2, eInt, eStr, eUn, ePick, eConvert, eExtract, eNil, eCall, eCallV, eBuiltin, eLen, eCap, srcCells, keepV, keep1, row?, eStoreOp, EVal.cells, EVal.one, eShift, eField, eIndexAddrOp, eIndexAddr, eIndexOp, eIndex, eSliceOp, eSlice, bound, eBuild, eBuildSlice, eMakeSlice, eRange, eNextS, argB, isLent, flat, one, keepA, h18, hz]); (repeat' (first | refine wpStep_not (fun h => ?_) (fun h => ?_) | refine wpStep_sym (fun h => ?_) (fun h => ?_) | refine wpCond_not (fun h => ?_) (fun h => ?_) | refine wpCond_sym (fun h => ?_) (fun h => ?_) | refine wpDStep_not (fun h => ?_) (fun h => ?_) | refine wpDStep_sym (fun h => ?_) (fun h => ?_)) <;> simp only [h, SS, TF51Ref2, kcall, setRange, repl, extB_q, isNew, Option.isNone_none, Option.isNone_some, Nat.reduceLT, Nat.reduceEqDiff, Nat.reduceAdd, Nat.reduceMul, Nat.reduceSub, Nat.reduceLeDiff, Nat.reduceBEq, reduceCtorEq, isNextM, absCell, eBinOp, eBin, eInt2, eInt, eStr, eUn, ePick, eConvert, eExtract, eNil, eCall, eCallV, eBuiltin, eLen, eCap, srcCells, keepV, keep1, row?, eStoreOp, EVal.cells, EVal.one, eShift, eField, eIndexAddrOp, eIndexAddr, eIndexOp, eIndex, eSliceOp, eSlice, bound, eBuild, eBuildSlice, eMakeSlice, eRange, eNextS, argB, isLent, flat, one, keepA, h18, hz]))
    (refine hQ _ _ _ (ends_of (by first | exact .inl rfl | exact .inr rfl) ?_); simp only [SS, TF51Ref2, kcall, setRange, repl, extB_q, isNew, Option.isNone_none, Option.isNone_some, Nat.reduceLT, Nat.reduceEqDiff, Nat.reduceAdd, Nat.reduceMul, Nat.reduceSub, Nat.reduceLeDiff, Nat.reduceBEq, reduceCtorEq, isNextM, absCell, eBinOp, eBin, eInt2, eInt, eStr, eUn, ePick, eConvert, eExtract, eNil, eCall, eCallV, eBuiltin, eLen, eCap, srcCells, keepV, keep1, row?, eStoreOp, EVal.cells, EVal.one, eShift, eField, eIndexAddrOp, eIndexAddr, eIndexOp, eIndex, eSliceOp, eSlice, bound, eBuild, eBuildSlice, eMakeSlice, eRange, eNextS, argB, isLent, flat, one, keepA])
    simp only [cntP, hz0, if_false]
  | true =>
    have hz0 : playE p e l = 0 := by simpa using hz
    have h4 := (movesE_zero (playE_zero hz0).2.2).1
    have h120 : F120 [.lsl (eMoves l), .func 122 []] = some (.lsl (eMoves (l.filter isR))) := by
      simp only [F120, F120_121, F120_122, dMoves_e hlen hok, Option.bind_some]
      rw [if_pos (by omega)]; rfl
    ((try simp only [argsL, SS, TF51Ref2, kcall, setRange, repl, extB_q, isNew, Option.isNone_none, Option.isNone_some, Nat.reduceLT, Nat.reduceEqDiff, Nat.reduceAdd, Nat.reduceMul, Nat.reduceSub, Nat.reduceLeDiff, Nat.reduceBEq, reduceCtorEq, isNextM, absCell, eBinOp, eBin, eInt2, eInt, eStr, eUn, ePick, eConvert, eExtract, eNil, eCall, eCallV, eBuiltin, eLen, eCap, srcCells, keepV, keep1, row?, eStoreOp, EVal.cells, EVal.one, eShift, eField, eIndexAddrOp, eIndexAddr, eIndexOp, eIndex, eSliceOp, eSlice, bound, eBuild, eBuildSlice, eMakeSlice, eRange, eNextS, argB, isLent, flat, one, keepA, h18, hz, call122, h120, eMoves_length]); (repeat' (first | refine wpStep_not (fun h => ?_) (fun h => ?_) | refine wpStep_sym (fun h => ?_) (fun h => ?_) | refine wpCond_not (fun h => ?_) (fun h => ?_) | refine wpCond_sym (fun h => ?_) (fun h => ?_) | refine wpDStep_not (fun h => ?_) (fun h => ?_) | refine wpDStep_sym (fun h => ?_) (fun h => ?_)) <;> simp only [h, SS, TF51Ref2, kcall, setRange, repl, extB_q, isNew, Option.isNone_none, Option.isNone_some, Nat.reduceLT, Nat.reduceEqDiff, Nat.reduceAdd, Nat.reduceMul, Nat.reduceSub, Nat.reduceLeDiff, Nat.reduceBEq, reduceCtorEq, isNextM, absCell, eBinOp, eBin, eInt2, eInt, eStr, eUn, ePick, eConvert, eExtract, eNil, eCall, eCallV, eBuiltin, eLen, eCap, srcCells, keepV, keep1, row?, eStoreOp, EVal.cells, EVal.one, eShift, eField, eIndexAddrOp, eIndexAddr, eIndexOp, eIndex, eSliceOp, eSlice, bound, eBuild, eBuildSlice, eMakeSlice, eRange, eNextS, argB, isLent, flat, one, keepA, h18, hz, call122, h120, eMoves_length]))
    (refine hQ _ _ _ (ends_of (by first | exact .inl rfl | exact .inr rfl) ?_); simp only [SS, TF51Ref2, kcall, setRange, repl, extB_q, isNew, Option.isNone_none, Option.isNone_some, Nat.reduceLT, Nat.reduceEqDiff, Nat.reduceAdd, Nat.reduceMul, Nat.reduceSub, Nat.reduceLeDiff, Nat.reduceBEq, reduceCtorEq, isNextM, absCell, eBinOp, eBin, eInt2, eInt, eStr, eUn, ePick, eConvert, eExtract, eNil, eCall, eCallV, eBuiltin, eLen, eCap, srcCells, keepV, keep1, row?, eStoreOp, EVal.cells, EVal.one, eShift, eField, eIndexAddrOp, eIndexAddr, eIndexOp, eIndex, eSliceOp, eSlice, bound, eBuild, eBuildSlice, eMakeSlice, eRange, eNextS, argB, isLent, flat, one, keepA])
    simp only [cntP, hz0, if_true, runs_len]

def F52 : List EVal → Option EVal
  | [.agg [.str p, .str e, .bool _, ms]] => if bytesB p = true ∧ bytesB e = true then (dMoves ms).map fun l => cntP p e l (sumM advM l) else none
  | _ => none
theorem fn52 : FnT 52 F52 := by
  refine Fn.intro mixed noNG Tryz.func52 rfl [(18, F18)] (by simp only [List.forall_mem_cons]; exact ⟨fn18, fun _ h => by cases h⟩) ?_
  intro args v hF
  unfold F52 at hF
  split at hF
  rotate_left
  · cases hF
  intro Q hV
  have hQ := Viewed.of hV
  rename_i p e late ms
  split at hF
  rotate_left
  · cases hF
  rename_i hb
  cases ha : dMoves ms with
  | none => rw [ha] at hF; cases hF
  | some l =>
  rw [ha] at hF
  cases hF
  obtain ⟨rfl, hlen, hok⟩ := dMoves_inv ha
  clear ha
  dsimp only at hQ hV
  have h18 := e18 (late := late) hb hlen hok
  refine Top.view (View.start (n := 32) rfl (by simp)) (wp_sound noNG _ _ _ _ ?_)
  cases hz : (playE p e l == 0) with
  | false =>
    have hz0 : ¬ playE p e l = 0 := by simpa using hz
    ((try simp only [argsL, SS, TF52Ref2, kcall, setRange, repl, extB_q, isNew, Option.isNone_none, Option.isNone_some, Nat.reduceLT, Nat.reduceEqDiff, Nat.reduceAdd, Nat.reduceMul, Nat.reduceSub, Nat.reduceLeDiff, Nat.reduceBEq, reduceCtorEq, isNextM, absCell, eBinOp, eBin, eInt2, eInt, eStr, eUn, ePick, eConvert, eExtract, eNil, eCall, eCallV, eBuiltin, eLen, eCap, srcCells, keepV, keep1, row?, eStoreOp, EVal.cells, EVal.one, eShift, eField, eIndexAddrOp, eIndexAddr, eIndexOp, eIndex, eSliceOp, eSlice, bound, eBuild, eBuildSlice, eMakeSlice, eRange, eNextS, argB, isLent, flat, one, keepA, h18, hz]); (repeat' (first | refine wpStep_not (fun h => ?_) (fun h => ?_) | refine wpStep_sym (fun h => ?_) (fun h => ?_) | refine wpCond_not (fun h => ?_) (fun h => ?_) | refine wpCond_sym (fun h => ?_) (fun h => ?_) | refine wpDStep_not (fun h => ?_) (fun h => ?_) | refine wpDStep_sym (fun h => ?_) (fun h => ?_)) <;> simp only [h, SS, TF52Ref2, kcall, setRange, repl, extB_q, isNew, Option.isNone_none, Option.isNone_some, Nat.reduceLT, Nat.reduceEqDiff, Nat.reduceAdd, Nat.reduceMul, Nat.reduceSub, Nat.reduceLeDiff, Nat.reduceBEq, reduceCtorEq, isNextM, absCell, eBinOp, eBin, eInt2, eInt, eStr, eUn, ePick, eConvert, eExtract, eNil, eCall, eCallV, eBuiltin, eLen, eCap, srcCells, keepV, keep1, row?, eStoreOp, EVal.cells, EVal.one, eShift, eField, eIndexAddrOp, eIndexAddr, eIndexOp, eIndex, eSliceOp, eSlice, bound, eBuild, eBuildSlice, eMakeSlice, eRange, eNextS, argB, isLent, flat, one, keepA, h18, hz]))
    (refine hQ _ _ _ (ends_of (by first | exact .inl rfl | exact .inr rfl) ?_); simp only [SS, TF52Ref2, kcall, setRange, repl, extB_q, isNew, Option.isNone_none, Option.isNone_some, Nat.reduceLT, Nat.reduceEqDiff, Nat.reduceAdd, Nat.reduceMul, Nat.reduceSub, Nat.reduceLeDiff, Nat.reduceBEq, reduceCtorEq, isNextM, absCell, eBinOp, eBin, eInt2, eInt, eStr, eUn, ePick, eConvert, eExtract, eNil, eCall, eCallV, eBuiltin, eLen, eCap, srcCells, keepV, keep1, row?, eStoreOp, EVal.cells, EVal.one, eShift, eField, eIndexAddrOp, eIndexAddr, eIndexOp, eIndex, eSliceOp, eSlice, bound, eBuild, eBuildSlice, eMakeSlice, eRange, eNextS, argB, isLent, flat, one, keepA])
    simp only [cntP, hz0, if_false]
  | true =>
  have hz0 : playE p e l = 0 := by simpa using hz
  obtain ⟨h4, hmv⟩ := movesE_zero (playE_zero hz0).2.2
  have hE : cntP p e l (sumM advM l) = .tup [.int .i64 (sumM advM l), .int .i64 0] := by simp only [cntP, hz0, if_true]
  rw [hE] at hQ
  ((try simp only [argsL, SS, TF52Ref2, kcall, setRange, repl, extB_q, isNew, Option.isNone_none, Option.isNone_some, Nat.reduceLT, Nat.reduceEqDiff, Nat.reduceAdd, Nat.reduceMul, Nat.reduceSub, Nat.reduceLeDiff, Nat.reduceBEq, reduceCtorEq, isNextM, absCell, eBinOp, eBin, eInt2, eInt, eStr, eUn, ePick, eConvert, eExtract, eNil, eCall, eCallV, eBuiltin, eLen, eCap, srcCells, keepV, keep1, row?, eStoreOp, EVal.cells, EVal.one, eShift, eField, eIndexAddrOp, eIndexAddr, eIndexOp, eIndex, eSliceOp, eSlice, bound, eBuild, eBuildSlice, eMakeSlice, eRange, eNextS, argB, isLent, flat, one, keepA, h18, hz, eMoves_length]); (repeat' (first | refine wpStep_not (fun h => ?_) (fun h => ?_) | refine wpStep_sym (fun h => ?_) (fun h => ?_) | refine wpCond_not (fun h => ?_) (fun h => ?_) | refine wpCond_sym (fun h => ?_) (fun h => ?_) | refine wpDStep_not (fun h => ?_) (fun h => ?_) | refine wpDStep_sym (fun h => ?_) (fun h => ?_)) <;> simp only [h, SS, TF52Ref2, kcall, setRange, repl, extB_q, isNew, Option.isNone_none, Option.isNone_some, Nat.reduceLT, Nat.reduceEqDiff, Nat.reduceAdd, Nat.reduceMul, Nat.reduceSub, Nat.reduceLeDiff, Nat.reduceBEq, reduceCtorEq, isNextM, absCell, eBinOp, eBin, eInt2, eInt, eStr, eUn, ePick, eConvert, eExtract, eNil, eCall, eCallV, eBuiltin, eLen, eCap, srcCells, keepV, keep1, row?, eStoreOp, EVal.cells, EVal.one, eShift, eField, eIndexAddrOp, eIndexAddr, eIndexOp, eIndex, eSliceOp, eSlice, bound, eBuild, eBuildSlice, eMakeSlice, eRange, eNextS, argB, isLent, flat, one, keepA, h18, hz, eMoves_length]))
  refine wp_of_top (Top.loop (I := fun s : { p : Nat × Int // p.1 ≤ l.length ∧ -4 * (p.1 : Int) ≤ p.2 ∧ p.2 ≤ 4 * (p.1 : Int) ∧ sumM advM l = p.2 + sumM advM (l.drop p.1) } => (mkF 32 [(16, .int .i64 (s.1.1 : Nat)), (15, .int .i64 (l.length : Int)), (14, .lsl (eMoves l)), (5, .int .i64 s.1.2)], mkH 0 [] 0 [])) (μ := fun s => l.length - s.1.1) ⟨(0, 0), by simp, by simp, by simp, by simp⟩ (View.drop (by simp [look, below, belowL]) (by simp [lookG, belowO, below, belowL, below_eRow]) (by simp [lookG])) ?_)
  rintro ⟨⟨k, a⟩, hk, ha1, ha2, hf⟩
  simp only at hk ha1 ha2 hf
  refine wp_sound noNG _ _ _ _ ?_
  by_cases hlt : k < l.length
  rotate_left
  · have q1 : decide ((k : Int) < (l.length : Int)) = false := by simp; omega
    ((try simp only [argsL, SS, TF52Ref2, kcall, setRange, repl, extB_q, isNew, Option.isNone_none, Option.isNone_some, Nat.reduceLT, Nat.reduceEqDiff, Nat.reduceAdd, Nat.reduceMul, Nat.reduceSub, Nat.reduceLeDiff, Nat.reduceBEq, reduceCtorEq, isNextM, absCell, eBinOp, eBin, eInt2, eInt, eStr, eUn, ePick, eConvert, eExtract, eNil, eCall, eCallV, eBuiltin, eLen, eCap, srcCells, keepV, keep1, row?, eStoreOp, EVal.cells, EVal.one, eShift, eField, eIndexAddrOp, eIndexAddr, eIndexOp, eIndex, eSliceOp, eSlice, bound, eBuild, eBuildSlice, eMakeSlice, eRange, eNextS, argB, isLent, flat, one, keepA, q1]); (repeat' (first | refine wpStep_not (fun h => ?_) (fun h => ?_) | refine wpStep_sym (fun h => ?_) (fun h => ?_) | refine wpCond_not (fun h => ?_) (fun h => ?_) | refine wpCond_sym (fun h => ?_) (fun h => ?_) | refine wpDStep_not (fun h => ?_) (fun h => ?_) | refine wpDStep_sym (fun h => ?_) (fun h => ?_)) <;> simp only [h, SS, TF52Ref2, kcall, setRange, repl, extB_q, isNew, Option.isNone_none, Option.isNone_some, Nat.reduceLT, Nat.reduceEqDiff, Nat.reduceAdd, Nat.reduceMul, Nat.reduceSub, Nat.reduceLeDiff, Nat.reduceBEq, reduceCtorEq, isNextM, absCell, eBinOp, eBin, eInt2, eInt, eStr, eUn, ePick, eConvert, eExtract, eNil, eCall, eCallV, eBuiltin, eLen, eCap, srcCells, keepV, keep1, row?, eStoreOp, EVal.cells, EVal.one, eShift, eField, eIndexAddrOp, eIndexAddr, eIndexOp, eIndex, eSliceOp, eSlice, bound, eBuild, eBuildSlice, eMakeSlice, eRange, eNextS, argB, isLent, flat, one, keepA, q1]))
    (refine hQ _ _ _ (ends_of (by first | exact .inl rfl | exact .inr rfl) ?_); simp only [SS, TF52Ref2, kcall, setRange, repl, extB_q, isNew, Option.isNone_none, Option.isNone_some, Nat.reduceLT, Nat.reduceEqDiff, Nat.reduceAdd, Nat.reduceMul, Nat.reduceSub, Nat.reduceLeDiff, Nat.reduceBEq, reduceCtorEq, isNextM, absCell, eBinOp, eBin, eInt2, eInt, eStr, eUn, ePick, eConvert, eExtract, eNil, eCall, eCallV, eBuiltin, eLen, eCap, srcCells, keepV, keep1, row?, eStoreOp, EVal.cells, EVal.one, eShift, eField, eIndexAddrOp, eIndexAddr, eIndexOp, eIndex, eSliceOp, eSlice, bound, eBuild, eBuildSlice, eMakeSlice, eRange, eNextS, argB, isLent, flat, one, keepA])
    have : l.drop k = [] := List.drop_eq_nil_of_le (by omega)
    rw [hf, this]; simp [sumM]
  obtain ⟨m, hx⟩ : ∃ m, l[k]? = some m := ⟨l[k], List.getElem?_eq_getElem hlt⟩
  have hfd := sumM_drop (g := advM) hx
  have q1 : decide ((k : Int) < (l.length : Int)) = true := by simp; omega
  have q2 : IntKind.i64.wrap ((k : Int) + 1) = ((k + 1 : Nat) : Int) := by rw [wrap_id] <;> omega
  have hmu : l.length - (k + 1) < l.length - k := by omega
  have hm := mvE_base (hmv m (List.mem_of_getElem? hx))
  unfold baseMv at hm
  simp only [Bool.and_eq_true, decide_eq_true_eq] at hm
  cases ho : m.o with
  | true =>
    have e1 : advM m = 0 := by simp [advM, ho]
    ((try simp only [argsL, SS, TF52Ref2, kcall, setRange, repl, extB_q, isNew, Option.isNone_none, Option.isNone_some, Nat.reduceLT, Nat.reduceEqDiff, Nat.reduceAdd, Nat.reduceMul, Nat.reduceSub, Nat.reduceLeDiff, Nat.reduceBEq, reduceCtorEq, isNextM, absCell, eBinOp, eBin, eInt2, eInt, eStr, eUn, ePick, eConvert, eExtract, eNil, eCall, eCallV, eBuiltin, eLen, eCap, srcCells, keepV, keep1, row?, eStoreOp, EVal.cells, EVal.one, eShift, eField, eIndexAddrOp, eIndexAddr, eIndexOp, eIndex, eSliceOp, eSlice, bound, eBuild, eBuildSlice, eMakeSlice, eRange, eNextS, argB, isLent, flat, one, keepA, q1, q2, eMoves_get, eMove_q, hx, ho]); (repeat' (first | refine wpStep_not (fun h => ?_) (fun h => ?_) | refine wpStep_sym (fun h => ?_) (fun h => ?_) | refine wpCond_not (fun h => ?_) (fun h => ?_) | refine wpCond_sym (fun h => ?_) (fun h => ?_) | refine wpDStep_not (fun h => ?_) (fun h => ?_) | refine wpDStep_sym (fun h => ?_) (fun h => ?_)) <;> simp only [h, SS, TF52Ref2, kcall, setRange, repl, extB_q, isNew, Option.isNone_none, Option.isNone_some, Nat.reduceLT, Nat.reduceEqDiff, Nat.reduceAdd, Nat.reduceMul, Nat.reduceSub, Nat.reduceLeDiff, Nat.reduceBEq, reduceCtorEq, isNextM, absCell, eBinOp, eBin, eInt2, eInt, eStr, eUn, ePick, eConvert, eExtract, eNil, eCall, eCallV, eBuiltin, eLen, eCap, srcCells, keepV, keep1, row?, eStoreOp, EVal.cells, EVal.one, eShift, eField, eIndexAddrOp, eIndexAddr, eIndexOp, eIndex, eSliceOp, eSlice, bound, eBuild, eBuildSlice, eMakeSlice, eRange, eNextS, argB, isLent, flat, one, keepA, q1, q2, eMoves_get, eMove_q, hx, ho]))
    exact ⟨⟨(k + 1, a), hlt, by simp only; omega, by simp only; omega, by simp only; rw [hf, hfd, e1]; omega⟩, hmu, (View.drop (by simp [look, below, belowL]) (by simp [lookG, belowO, below, belowL, below_eRow]) (by simp [lookG]))⟩
  | false =>
    have e1 : advM m = m.t - m.f := by simp [advM, ho]
    have w1 : IntKind.i64.wrap (m.t - m.f) = m.t - m.f := by rw [wrap_id] <;> omega
    have w2 : IntKind.i64.wrap (a + (m.t - m.f)) = a + (m.t - m.f) := by rw [wrap_id] <;> omega
    ((try simp only [argsL, SS, TF52Ref2, kcall, setRange, repl, extB_q, isNew, Option.isNone_none, Option.isNone_some, Nat.reduceLT, Nat.reduceEqDiff, Nat.reduceAdd, Nat.reduceMul, Nat.reduceSub, Nat.reduceLeDiff, Nat.reduceBEq, reduceCtorEq, isNextM, absCell, eBinOp, eBin, eInt2, eInt, eStr, eUn, ePick, eConvert, eExtract, eNil, eCall, eCallV, eBuiltin, eLen, eCap, srcCells, keepV, keep1, row?, eStoreOp, EVal.cells, EVal.one, eShift, eField, eIndexAddrOp, eIndexAddr, eIndexOp, eIndex, eSliceOp, eSlice, bound, eBuild, eBuildSlice, eMakeSlice, eRange, eNextS, argB, isLent, flat, one, keepA, q1, q2, eMoves_get, eMove_q, hx, ho, w1, w2]); (repeat' (first | refine wpStep_not (fun h => ?_) (fun h => ?_) | refine wpStep_sym (fun h => ?_) (fun h => ?_) | refine wpCond_not (fun h => ?_) (fun h => ?_) | refine wpCond_sym (fun h => ?_) (fun h => ?_) | refine wpDStep_not (fun h => ?_) (fun h => ?_) | refine wpDStep_sym (fun h => ?_) (fun h => ?_)) <;> simp only [h, SS, TF52Ref2, kcall, setRange, repl, extB_q, isNew, Option.isNone_none, Option.isNone_some, Nat.reduceLT, Nat.reduceEqDiff, Nat.reduceAdd, Nat.reduceMul, Nat.reduceSub, Nat.reduceLeDiff, Nat.reduceBEq, reduceCtorEq, isNextM, absCell, eBinOp, eBin, eInt2, eInt, eStr, eUn, ePick, eConvert, eExtract, eNil, eCall, eCallV, eBuiltin, eLen, eCap, srcCells, keepV, keep1, row?, eStoreOp, EVal.cells, EVal.one, eShift, eField, eIndexAddrOp, eIndexAddr, eIndexOp, eIndex, eSliceOp, eSlice, bound, eBuild, eBuildSlice, eMakeSlice, eRange, eNextS, argB, isLent, flat, one, keepA, q1, q2, eMoves_get, eMove_q, hx, ho, w1, w2]))
    exact ⟨⟨(k + 1, a + (m.t - m.f)), hlt, by simp only; omega, by simp only; omega, by simp only; rw [hf, hfd, e1]; omega⟩, hmu, (View.drop (by simp [look, below, belowL]) (by simp [lookG, belowO, below, belowL, below_eRow]) (by simp [lookG]))⟩
end Go.Ev
