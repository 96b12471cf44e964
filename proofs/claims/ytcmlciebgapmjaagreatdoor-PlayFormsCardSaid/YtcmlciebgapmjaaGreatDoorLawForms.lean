import Derived.Test.YtcmlciebgapmjaaGreatDoorCopy2
set_option linter.unusedSimpArgs false
set_option linter.unusedVariables false
namespace Go.Ev
open Go.RowKit Go.Proofs
set_option linter.defProp false
def TF3LawForms := And.intro (And.intro (And.intro (And.intro (And.intro (@Tryz.underlying3) (And.intro (@sz3) (@info3))) (And.intro (And.intro (@I3s) (@I3b)) (And.intro (@zero3) (@grow3)))) (And.intro (And.intro (And.intro (@Tryz.underlying4) (@sz4)) (And.intro (@info4) (@I4s))) (And.intro (And.intro (@I4b) (@zero4)) (And.intro (@grow4) (@Tryz.underlying9))))) (And.intro (And.intro (And.intro (@sz9) (And.intro (@info9) (@I9s))) (And.intro (And.intro (@I9b) (@zero9)) (And.intro (@grow9) (@Tryz.underlying22)))) (And.intro (And.intro (And.intro (@sz22) (@info22)) (And.intro (@I22s) (@I22b))) (And.intro (And.intro (@zero22) (@grow22)) (And.intro (@Tryz.underlying24) (@sz24)))))) (And.intro (And.intro (And.intro (And.intro (@fok24) (And.intro (@info24) (@I24s))) (And.intro (And.intro (@I24b) (@zero24)) (And.intro (@grow24) (@Tryz.underlying25)))) (And.intro (And.intro (And.intro (@sz25) (@info25)) (And.intro (@I25s) (@I25b))) (And.intro (And.intro (@zero25) (@grow25)) (And.intro (@Tryz.underlying27) (@sz27))))) (And.intro (And.intro (And.intro (@fok27) (And.intro (@info27) (@I27s))) (And.intro (And.intro (@I27b) (@zero27)) (And.intro (@grow27) (@call16)))) (And.intro (And.intro (And.intro (@call17) (@call18)) (And.intro (@call19) (@call20))) (And.intro (And.intro (@call21) (@call22)) (And.intro (@call23) (@Tryz.results3))))))
set_option maxRecDepth 20000
set_option maxHeartbeats 8000000

theorem short_one {m : Mv} (h : shortB [] [] [m] = true) : copyOK [m] = true := by
  simp only [shortB, List.all_cons, List.all_nil, Bool.and_eq_true, decide_eq_true_eq, shortMv, Bool.and_true] at h
  simp only [copyOK, List.all_cons, List.all_nil, Bool.and_eq_true, decide_eq_true_eq, List.length_cons, List.length_nil, Bool.and_true]
  omega
theorem short_copy3 {p e : List Nat} {l : List Mv} (h : shortB p e l = true) : copyOK l = true := by
  simp only [shortB, Bool.and_eq_true, decide_eq_true_eq, List.all_eq_true] at h
  obtain ⟨⟨_, h1⟩, h2⟩ := h
  simp only [copyOK, Bool.and_eq_true, decide_eq_true_eq, List.all_eq_true]
  refine ⟨by omega, fun m hm => ?_⟩
  have := h2 m hm
  simp only [shortMv, Bool.and_eq_true, decide_eq_true_eq] at this
  omega
def F3 : List EVal → Option EVal
  | [.agg [.str p, .str e, .bool _, ms], .agg [.int .i64 _, .int .i64 _, .bool _, .str _, b]] => if bytesB p = true ∧ bytesB e = true then (dMoves ms).bind fun _ => (dInts b).map fun _ => .bool true else none
  | _ => none
theorem fn3 : FnT 3 F3 := by
  refine Fn.intro mixed noNG Tryz.func3 rfl [(16, F16), (17, F17), (18, F18), (19, F19), (20, F20), (21, F21), (22, F22), (23, F23)] (by simp only [List.forall_mem_cons]; exact ⟨fn16, fn17, fn18, fn19, fn20, fn21, fn22, fn23, fun _ h => by cases h⟩) ?_
  intro args v hF
  unfold F3 at hF
  split at hF
  rotate_left
  · cases hF
  intro Q hV
  have hQ := Viewed.of hV
  rename_i p e late ms f t o h bs
  split at hF
  rotate_left
  · cases hF
  rename_i hb
  cases ha : dMoves ms with
  | none => rw [ha] at hF; cases hF
  | some l =>
  rw [ha] at hF
  simp only [Option.bind_some] at hF
  cases hc : dInts bs with
  | none => rw [hc] at hF; cases hF
  | some b =>
  rw [hc] at hF
  cases hF
  obtain ⟨rfl, hlen, hok⟩ := dMoves_inv ha
  obtain ⟨rfl, hbl⟩ := dInts_inv hc
  clear ha hc
  have h16 := e16
  have hm1 : ∀ m ∈ [(⟨f, t, o, h, b⟩ : Mv)], okMv m := by intro m hm; rw [List.mem_singleton.1 hm]; exact hbl
  have h17 : F17 [.agg [.str p, .str e, .bool late, .lsl (eMoves l)]] = some (.bool (shortB p e l)) := by simp only [F17, dMoves_e hlen hok, Option.map_some]
  have h17b : F17 [.agg [.str [], .str [], .bool false, .lsl [[.int .i64 f, .int .i64 t, .bool o, .str h, .lsl (eInts b)]]]] = some (.bool (shortB [] [] [⟨f, t, o, h, b⟩])) := by
    have e1 := dMoves_e (l := [(⟨f, t, o, h, b⟩ : Mv)]) (by simp) hm1
    have e2 : eMoves [(⟨f, t, o, h, b⟩ : Mv)] = [[.int .i64 f, .int .i64 t, .bool o, .str h, .lsl (eInts b)]] := rfl
    rw [e2] at e1
    simp only [F17, e1, Option.map_some]
  have h18 := e18 (late := late) hb hlen hok
  have h20 : F20 [.agg [.str p, .str e, .bool late, .lsl (eMoves l)]] = some (.int .i64 (playE p e l)) := by simp only [F20, dMoves_e hlen hok, Option.map_some]
  have h21 := e21 (m := ⟨f, t, o, h, b⟩) hbl
  have h23 := e23 (m := ⟨f, t, o, h, b⟩) hbl
  dsimp only at h21 h23
  generalize hz1 : playE p e l = z1 at h18 h20
  generalize hz2 : mvE ⟨f, t, o, h, b⟩ = z2 at h21 h23
  refine Top.view (View.trans (View.start (n := 37) rfl (by simp)) (View.mode (n := 0) (l := []) (m := 0) (k := []) 128 (by decide))) (wp_sound noNG _ _ _ _ ?_)
  apply wp_cut
  · intro R hR
    ((try simp only [argsL, SS, TF3LawForms, kcall, setRange, repl, extB_q, isNew, Option.isNone_none, Option.isNone_some, Nat.reduceLT, Nat.reduceEqDiff, Nat.reduceAdd, Nat.reduceMul, Nat.reduceSub, Nat.reduceLeDiff, Nat.reduceBEq, reduceCtorEq, isNextM, absCell, eBinOp, eBin, eInt2, eInt, eStr, eUn, ePick, eConvert, eExtract, eNil, eCall, eCallV, eBuiltin, eLen, eCap, srcCells, keepV, keep1, row?, eStoreOp, EVal.cells, EVal.one, eShift, eField, eIndexAddrOp, eIndexAddr, eIndexOp, eIndex, eSliceOp, eSlice, bound, eBuild, eBuildSlice, eMakeSlice, eRange, eNextS, argB, isLent, flat, one, keepA]); (repeat' (first | refine wpStep_not (fun h => ?_) (fun h => ?_) | refine wpStep_sym (fun h => ?_) (fun h => ?_) | refine wpCond_not (fun h => ?_) (fun h => ?_) | refine wpCond_sym (fun h => ?_) (fun h => ?_) | refine wpDStep_not (fun h => ?_) (fun h => ?_) | refine wpDStep_sym (fun h => ?_) (fun h => ?_)) <;> simp only [h, SS, TF3LawForms, kcall, setRange, repl, extB_q, isNew, Option.isNone_none, Option.isNone_some, Nat.reduceLT, Nat.reduceEqDiff, Nat.reduceAdd, Nat.reduceMul, Nat.reduceSub, Nat.reduceLeDiff, Nat.reduceBEq, reduceCtorEq, isNextM, absCell, eBinOp, eBin, eInt2, eInt, eStr, eUn, ePick, eConvert, eExtract, eNil, eCall, eCallV, eBuiltin, eLen, eCap, srcCells, keepV, keep1, row?, eStoreOp, EVal.cells, EVal.one, eShift, eField, eIndexAddrOp, eIndexAddr, eIndexOp, eIndex, eSliceOp, eSlice, bound, eBuild, eBuildSlice, eMakeSlice, eRange, eNextS, argB, isLent, flat, one, keepA]))
    exact hR
  cases hsh : shortB p e l with
  | false =>
    ((try simp only [argsL, SS, TF3LawForms, kcall, setRange, repl, extB_q, isNew, Option.isNone_none, Option.isNone_some, Nat.reduceLT, Nat.reduceEqDiff, Nat.reduceAdd, Nat.reduceMul, Nat.reduceSub, Nat.reduceLeDiff, Nat.reduceBEq, reduceCtorEq, isNextM, absCell, eBinOp, eBin, eInt2, eInt, eStr, eUn, ePick, eConvert, eExtract, eNil, eCall, eCallV, eBuiltin, eLen, eCap, srcCells, keepV, keep1, row?, eStoreOp, EVal.cells, EVal.one, eShift, eField, eIndexAddrOp, eIndexAddr, eIndexOp, eIndex, eSliceOp, eSlice, bound, eBuild, eBuildSlice, eMakeSlice, eRange, eNextS, argB, isLent, flat, one, keepA, h16, h17, hsh]); (repeat' (first | refine wpStep_not (fun h => ?_) (fun h => ?_) | refine wpStep_sym (fun h => ?_) (fun h => ?_) | refine wpCond_not (fun h => ?_) (fun h => ?_) | refine wpCond_sym (fun h => ?_) (fun h => ?_) | refine wpDStep_not (fun h => ?_) (fun h => ?_) | refine wpDStep_sym (fun h => ?_) (fun h => ?_)) <;> simp only [h, SS, TF3LawForms, kcall, setRange, repl, extB_q, isNew, Option.isNone_none, Option.isNone_some, Nat.reduceLT, Nat.reduceEqDiff, Nat.reduceAdd, Nat.reduceMul, Nat.reduceSub, Nat.reduceLeDiff, Nat.reduceBEq, reduceCtorEq, isNextM, absCell, eBinOp, eBin, eInt2, eInt, eStr, eUn, ePick, eConvert, eExtract, eNil, eCall, eCallV, eBuiltin, eLen, eCap, srcCells, keepV, keep1, row?, eStoreOp, EVal.cells, EVal.one, eShift, eField, eIndexAddrOp, eIndexAddr, eIndexOp, eIndex, eSliceOp, eSlice, bound, eBuild, eBuildSlice, eMakeSlice, eRange, eNextS, argB, isLent, flat, one, keepA, h16, h17, hsh]))
    (refine hQ _ _ _ (ends_of (by first | exact .inl rfl | exact .inr rfl) ?_); simp only [SS, TF3LawForms, kcall, setRange, repl, extB_q, isNew, Option.isNone_none, Option.isNone_some, Nat.reduceLT, Nat.reduceEqDiff, Nat.reduceAdd, Nat.reduceMul, Nat.reduceSub, Nat.reduceLeDiff, Nat.reduceBEq, reduceCtorEq, isNextM, absCell, eBinOp, eBin, eInt2, eInt, eStr, eUn, ePick, eConvert, eExtract, eNil, eCall, eCallV, eBuiltin, eLen, eCap, srcCells, keepV, keep1, row?, eStoreOp, EVal.cells, EVal.one, eShift, eField, eIndexAddrOp, eIndexAddr, eIndexOp, eIndex, eSliceOp, eSlice, bound, eBuild, eBuildSlice, eMakeSlice, eRange, eNextS, argB, isLent, flat, one, keepA])
  | true =>
  cases hs1 : shortB [] [] [(⟨f, t, o, h, b⟩ : Mv)] with
  | false =>
    ((try simp only [argsL, SS, TF3LawForms, kcall, setRange, repl, extB_q, isNew, Option.isNone_none, Option.isNone_some, Nat.reduceLT, Nat.reduceEqDiff, Nat.reduceAdd, Nat.reduceMul, Nat.reduceSub, Nat.reduceLeDiff, Nat.reduceBEq, reduceCtorEq, isNextM, absCell, eBinOp, eBin, eInt2, eInt, eStr, eUn, ePick, eConvert, eExtract, eNil, eCall, eCallV, eBuiltin, eLen, eCap, srcCells, keepV, keep1, row?, eStoreOp, EVal.cells, EVal.one, eShift, eField, eIndexAddrOp, eIndexAddr, eIndexOp, eIndex, eSliceOp, eSlice, bound, eBuild, eBuildSlice, eMakeSlice, eRange, eNextS, argB, isLent, flat, one, keepA, h16, h17, hsh, h17b, hs1]); (repeat' (first | refine wpStep_not (fun h => ?_) (fun h => ?_) | refine wpStep_sym (fun h => ?_) (fun h => ?_) | refine wpCond_not (fun h => ?_) (fun h => ?_) | refine wpCond_sym (fun h => ?_) (fun h => ?_) | refine wpDStep_not (fun h => ?_) (fun h => ?_) | refine wpDStep_sym (fun h => ?_) (fun h => ?_)) <;> simp only [h, SS, TF3LawForms, kcall, setRange, repl, extB_q, isNew, Option.isNone_none, Option.isNone_some, Nat.reduceLT, Nat.reduceEqDiff, Nat.reduceAdd, Nat.reduceMul, Nat.reduceSub, Nat.reduceLeDiff, Nat.reduceBEq, reduceCtorEq, isNextM, absCell, eBinOp, eBin, eInt2, eInt, eStr, eUn, ePick, eConvert, eExtract, eNil, eCall, eCallV, eBuiltin, eLen, eCap, srcCells, keepV, keep1, row?, eStoreOp, EVal.cells, EVal.one, eShift, eField, eIndexAddrOp, eIndexAddr, eIndexOp, eIndex, eSliceOp, eSlice, bound, eBuild, eBuildSlice, eMakeSlice, eRange, eNextS, argB, isLent, flat, one, keepA, h16, h17, hsh, h17b, hs1]))
    (refine hQ _ _ _ (ends_of (by first | exact .inl rfl | exact .inr rfl) ?_); simp only [SS, TF3LawForms, kcall, setRange, repl, extB_q, isNew, Option.isNone_none, Option.isNone_some, Nat.reduceLT, Nat.reduceEqDiff, Nat.reduceAdd, Nat.reduceMul, Nat.reduceSub, Nat.reduceLeDiff, Nat.reduceBEq, reduceCtorEq, isNextM, absCell, eBinOp, eBin, eInt2, eInt, eStr, eUn, ePick, eConvert, eExtract, eNil, eCall, eCallV, eBuiltin, eLen, eCap, srcCells, keepV, keep1, row?, eStoreOp, EVal.cells, EVal.one, eShift, eField, eIndexAddrOp, eIndexAddr, eIndexOp, eIndex, eSliceOp, eSlice, bound, eBuild, eBuildSlice, eMakeSlice, eRange, eNextS, argB, isLent, flat, one, keepA])
  | true =>
  have h19 := e19 (p := p) (e := e) (late := late) hlen hok (short_copy3 hsh)
  have h22 := e22 (l := [(⟨f, t, o, h, b⟩ : Mv)]) (by simp) hm1 (short_one hs1)
  have e2 : eMoves [(⟨f, t, o, h, b⟩ : Mv)] = [[.int .i64 f, .int .i64 t, .bool o, .str h, .lsl (eInts b)]] := rfl
  rw [e2] at h22
  apply wp_cut
  · intro R hR
    ((try simp only [argsL, SS, TF3LawForms, kcall, setRange, repl, extB_q, isNew, Option.isNone_none, Option.isNone_some, Nat.reduceLT, Nat.reduceEqDiff, Nat.reduceAdd, Nat.reduceMul, Nat.reduceSub, Nat.reduceLeDiff, Nat.reduceBEq, reduceCtorEq, isNextM, absCell, eBinOp, eBin, eInt2, eInt, eStr, eUn, ePick, eConvert, eExtract, eNil, eCall, eCallV, eBuiltin, eLen, eCap, srcCells, keepV, keep1, row?, eStoreOp, EVal.cells, EVal.one, eShift, eField, eIndexAddrOp, eIndexAddr, eIndexOp, eIndex, eSliceOp, eSlice, bound, eBuild, eBuildSlice, eMakeSlice, eRange, eNextS, argB, isLent, flat, one, keepA, h16, h17, hsh, h17b, hs1]); (repeat' (first | refine wpStep_not (fun h => ?_) (fun h => ?_) | refine wpStep_sym (fun h => ?_) (fun h => ?_) | refine wpCond_not (fun h => ?_) (fun h => ?_) | refine wpCond_sym (fun h => ?_) (fun h => ?_) | refine wpDStep_not (fun h => ?_) (fun h => ?_) | refine wpDStep_sym (fun h => ?_) (fun h => ?_)) <;> simp only [h, SS, TF3LawForms, kcall, setRange, repl, extB_q, isNew, Option.isNone_none, Option.isNone_some, Nat.reduceLT, Nat.reduceEqDiff, Nat.reduceAdd, Nat.reduceMul, Nat.reduceSub, Nat.reduceLeDiff, Nat.reduceBEq, reduceCtorEq, isNextM, absCell, eBinOp, eBin, eInt2, eInt, eStr, eUn, ePick, eConvert, eExtract, eNil, eCall, eCallV, eBuiltin, eLen, eCap, srcCells, keepV, keep1, row?, eStoreOp, EVal.cells, EVal.one, eShift, eField, eIndexAddrOp, eIndexAddr, eIndexOp, eIndex, eSliceOp, eSlice, bound, eBuild, eBuildSlice, eMakeSlice, eRange, eNextS, argB, isLent, flat, one, keepA, h16, h17, hsh, h17b, hs1]))
    exact hR
  ((try simp only [argsL, SS, TF3LawForms, kcall, setRange, repl, extB_q, isNew, Option.isNone_none, Option.isNone_some, Nat.reduceLT, Nat.reduceEqDiff, Nat.reduceAdd, Nat.reduceMul, Nat.reduceSub, Nat.reduceLeDiff, Nat.reduceBEq, reduceCtorEq, isNextM, absCell, eBinOp, eBin, eInt2, eInt, eStr, eUn, ePick, eConvert, eExtract, eNil, eCall, eCallV, eBuiltin, eLen, eCap, srcCells, keepV, keep1, row?, eStoreOp, EVal.cells, EVal.one, eShift, eField, eIndexAddrOp, eIndexAddr, eIndexOp, eIndex, eSliceOp, eSlice, bound, eBuild, eBuildSlice, eMakeSlice, eRange, eNextS, argB, isLent, flat, one, keepA]); (repeat' (first | refine wpStep_not (fun h => ?_) (fun h => ?_) | refine wpStep_sym (fun h => ?_) (fun h => ?_) | refine wpCond_not (fun h => ?_) (fun h => ?_) | refine wpCond_sym (fun h => ?_) (fun h => ?_) | refine wpDStep_not (fun h => ?_) (fun h => ?_) | refine wpDStep_sym (fun h => ?_) (fun h => ?_)) <;> simp only [h, SS, TF3LawForms, kcall, setRange, repl, extB_q, isNew, Option.isNone_none, Option.isNone_some, Nat.reduceLT, Nat.reduceEqDiff, Nat.reduceAdd, Nat.reduceMul, Nat.reduceSub, Nat.reduceLeDiff, Nat.reduceBEq, reduceCtorEq, isNextM, absCell, eBinOp, eBin, eInt2, eInt, eStr, eUn, ePick, eConvert, eExtract, eNil, eCall, eCallV, eBuiltin, eLen, eCap, srcCells, keepV, keep1, row?, eStoreOp, EVal.cells, EVal.one, eShift, eField, eIndexAddrOp, eIndexAddr, eIndexOp, eIndex, eSliceOp, eSlice, bound, eBuild, eBuildSlice, eMakeSlice, eRange, eNextS, argB, isLent, flat, one, keepA]))
  refine wp_of_draw (Top.draw mixed noNG (by kernel_rfl) ?_)
  ((try simp only [argsL, SS, TF3LawForms, kcall, setRange, repl, extB_q, isNew, Option.isNone_none, Option.isNone_some, Nat.reduceLT, Nat.reduceEqDiff, Nat.reduceAdd, Nat.reduceMul, Nat.reduceSub, Nat.reduceLeDiff, Nat.reduceBEq, reduceCtorEq, isNextM, absCell, eBinOp, eBin, eInt2, eInt, eStr, eUn, ePick, eConvert, eExtract, eNil, eCall, eCallV, eBuiltin, eLen, eCap, srcCells, keepV, keep1, row?, eStoreOp, EVal.cells, EVal.one, eShift, eField, eIndexAddrOp, eIndexAddr, eIndexOp, eIndex, eSliceOp, eSlice, bound, eBuild, eBuildSlice, eMakeSlice, eRange, eNextS, argB, isLent, flat, one, keepA, h19, h18, h20, h22, h21, h23]); (repeat' (first | refine wpStep_not (fun h => ?_) (fun h => ?_) | refine wpStep_sym (fun h => ?_) (fun h => ?_) | refine wpCond_not (fun h => ?_) (fun h => ?_) | refine wpCond_sym (fun h => ?_) (fun h => ?_) | refine wpDStep_not (fun h => ?_) (fun h => ?_) | refine wpDStep_sym (fun h => ?_) (fun h => ?_)) <;> simp only [h, SS, TF3LawForms, kcall, setRange, repl, extB_q, isNew, Option.isNone_none, Option.isNone_some, Nat.reduceLT, Nat.reduceEqDiff, Nat.reduceAdd, Nat.reduceMul, Nat.reduceSub, Nat.reduceLeDiff, Nat.reduceBEq, reduceCtorEq, isNextM, absCell, eBinOp, eBin, eInt2, eInt, eStr, eUn, ePick, eConvert, eExtract, eNil, eCall, eCallV, eBuiltin, eLen, eCap, srcCells, keepV, keep1, row?, eStoreOp, EVal.cells, EVal.one, eShift, eField, eIndexAddrOp, eIndexAddr, eIndexOp, eIndex, eSliceOp, eSlice, bound, eBuild, eBuildSlice, eMakeSlice, eRange, eNextS, argB, isLent, flat, one, keepA, h19, h18, h20, h22, h21, h23]))
  refine ⟨by kernel_rfl, ?_⟩
  ((try simp only [argsL, SS, TF3LawForms, kcall, setRange, repl, extB_q, isNew, Option.isNone_none, Option.isNone_some, Nat.reduceLT, Nat.reduceEqDiff, Nat.reduceAdd, Nat.reduceMul, Nat.reduceSub, Nat.reduceLeDiff, Nat.reduceBEq, reduceCtorEq, isNextM, absCell, eBinOp, eBin, eInt2, eInt, eStr, eUn, ePick, eConvert, eExtract, eNil, eCall, eCallV, eBuiltin, eLen, eCap, srcCells, keepV, keep1, row?, eStoreOp, EVal.cells, EVal.one, eShift, eField, eIndexAddrOp, eIndexAddr, eIndexOp, eIndex, eSliceOp, eSlice, bound, eBuild, eBuildSlice, eMakeSlice, eRange, eNextS, argB, isLent, flat, one, keepA]); (repeat' (first | refine wpStep_not (fun h => ?_) (fun h => ?_) | refine wpStep_sym (fun h => ?_) (fun h => ?_) | refine wpCond_not (fun h => ?_) (fun h => ?_) | refine wpCond_sym (fun h => ?_) (fun h => ?_) | refine wpDStep_not (fun h => ?_) (fun h => ?_) | refine wpDStep_sym (fun h => ?_) (fun h => ?_)) <;> simp only [h, SS, TF3LawForms, kcall, setRange, repl, extB_q, isNew, Option.isNone_none, Option.isNone_some, Nat.reduceLT, Nat.reduceEqDiff, Nat.reduceAdd, Nat.reduceMul, Nat.reduceSub, Nat.reduceLeDiff, Nat.reduceBEq, reduceCtorEq, isNextM, absCell, eBinOp, eBin, eInt2, eInt, eStr, eUn, ePick, eConvert, eExtract, eNil, eCall, eCallV, eBuiltin, eLen, eCap, srcCells, keepV, keep1, row?, eStoreOp, EVal.cells, EVal.one, eShift, eField, eIndexAddrOp, eIndexAddr, eIndexOp, eIndex, eSliceOp, eSlice, bound, eBuild, eBuildSlice, eMakeSlice, eRange, eNextS, argB, isLent, flat, one, keepA]))
  (refine hQ _ _ _ (ends_of (by first | exact .inl rfl | exact .inr rfl) ?_); simp only [SS, TF3LawForms, kcall, setRange, repl, extB_q, isNew, Option.isNone_none, Option.isNone_some, Nat.reduceLT, Nat.reduceEqDiff, Nat.reduceAdd, Nat.reduceMul, Nat.reduceSub, Nat.reduceLeDiff, Nat.reduceBEq, reduceCtorEq, isNextM, absCell, eBinOp, eBin, eInt2, eInt, eStr, eUn, ePick, eConvert, eExtract, eNil, eCall, eCallV, eBuiltin, eLen, eCap, srcCells, keepV, keep1, row?, eStoreOp, EVal.cells, EVal.one, eShift, eField, eIndexAddrOp, eIndexAddr, eIndexOp, eIndex, eSliceOp, eSlice, bound, eBuild, eBuildSlice, eMakeSlice, eRange, eNextS, argB, isLent, flat, one, keepA])
end Go.Ev
