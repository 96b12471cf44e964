import Derived.Test.YtcmlciebgapmjaaGreatDoorEvC
import Derived.Test.YtcmlciebgapmjaaGreatDoorRef2
set_option linter.unusedSimpArgs false
set_option linter.unusedVariables false
namespace Go.Ev
open Go.RowKit Go.Proofs
set_option linter.defProp false
def TF22Copy := And.intro (And.intro (And.intro (And.intro (And.intro (@Tryz.underlying3) (@sz3)) (And.intro (@info3) (And.intro (@I3s) (@I3b)))) (And.intro (And.intro (@zero3) (And.intro (@grow3) (@Tryz.underlying4))) (And.intro (@sz4) (And.intro (@info4) (@I4s))))) (And.intro (And.intro (And.intro (@I4b) (@zero4)) (And.intro (@grow4) (And.intro (@Tryz.underlying9) (@sz9)))) (And.intro (And.intro (@info9) (And.intro (@I9s) (@I9b))) (And.intro (@zero9) (And.intro (@grow9) (@Tryz.underlying22)))))) (And.intro (And.intro (And.intro (And.intro (@sz22) (@info22)) (And.intro (@I22s) (And.intro (@I22b) (@zero22)))) (And.intro (And.intro (@grow22) (And.intro (@Tryz.underlying25) (@sz25))) (And.intro (@info25) (And.intro (@I25s) (@I25b))))) (And.intro (And.intro (And.intro (@zero25) (@grow25)) (And.intro (@Tryz.underlying27) (And.intro (@sz27) (@fok27)))) (And.intro (And.intro (@info27) (And.intro (@I27s) (@I27b))) (And.intro (@zero27) (And.intro (@grow27) (@Tryz.results22))))))
set_option maxRecDepth 20000
set_option maxHeartbeats 4000000

/-! copies -/
def copyOK (l : List Mv) : Bool := decide (l.length ≤ 300) && l.all fun m => decide (m.b.length ≤ 1000)
def F22 : List EVal → Option EVal
  | [a] => (dMoves a).bind fun l => if copyOK l = true then some (.lsl (eMoves l)) else none
  | _ => none
theorem fn22 : FnT 22 F22 := by
  refine Fn.intro mixed noNG Tryz.func22 rfl [] (fun _ h => by cases h) ?_
  intro args v hF
  unfold F22 at hF
  split at hF
  rotate_left
  · cases hF
  intro Q hV
  have hQ := Viewed.of hV
  rename_i a
  cases ha : dMoves a with
  | none => rw [ha] at hF; cases hF
  | some l =>
  rw [ha] at hF
  simp only [Option.bind_some] at hF
  split at hF
  rotate_left
  · cases hF
  rename_i hc
  cases hF
  obtain ⟨rfl, hlen, hok⟩ := dMoves_inv ha
  clear ha
  simp only [copyOK, Bool.and_eq_true, decide_eq_true_eq, List.all_eq_true] at hc
  obtain ⟨h300, hb1000⟩ := hc
  refine Top.view (View.start (n := 26) rfl (by simp)) (wp_sound noNG _ _ _ _ ?_)
  ((try simp only [argsL, SS, TF22Copy, kcall, setRange, repl, extB_q, isNew, Option.isNone_none, Option.isNone_some, Nat.reduceLT, Nat.reduceEqDiff, Nat.reduceAdd, Nat.reduceMul, Nat.reduceSub, Nat.reduceLeDiff, Nat.reduceBEq, reduceCtorEq, isNextM, absCell, eBinOp, eBin, eInt2, eInt, eStr, eUn, ePick, eConvert, eExtract, eNil, eCall, eCallV, eBuiltin, eLen, eCap, srcCells, keepV, keep1, row?, eStoreOp, EVal.cells, EVal.one, eShift, eField, eIndexAddrOp, eIndexAddr, eIndexOp, eIndex, eSliceOp, eSlice, bound, eBuild, eBuildSlice, eMakeSlice, eRange, eNextS, argB, isLent, flat, one, keepA]); (repeat' (first | refine wpStep_not (fun h => ?_) (fun h => ?_) | refine wpStep_sym (fun h => ?_) (fun h => ?_) | refine wpCond_not (fun h => ?_) (fun h => ?_) | refine wpCond_sym (fun h => ?_) (fun h => ?_) | refine wpDStep_not (fun h => ?_) (fun h => ?_) | refine wpDStep_sym (fun h => ?_) (fun h => ?_)) <;> simp only [h, SS, TF22Copy, kcall, setRange, repl, extB_q, isNew, Option.isNone_none, Option.isNone_some, Nat.reduceLT, Nat.reduceEqDiff, Nat.reduceAdd, Nat.reduceMul, Nat.reduceSub, Nat.reduceLeDiff, Nat.reduceBEq, reduceCtorEq, isNextM, absCell, eBinOp, eBin, eInt2, eInt, eStr, eUn, ePick, eConvert, eExtract, eNil, eCall, eCallV, eBuiltin, eLen, eCap, srcCells, keepV, keep1, row?, eStoreOp, EVal.cells, EVal.one, eShift, eField, eIndexAddrOp, eIndexAddr, eIndexOp, eIndex, eSliceOp, eSlice, bound, eBuild, eBuildSlice, eMakeSlice, eRange, eNextS, argB, isLent, flat, one, keepA]))
  refine wp_of_top (Top.loop (I := fun s : { k : Nat // k ≤ l.length } => (mkF 26 [(4, .int .i64 (s.1 : Nat)), (3, .gsl 0 (eMoves (l.take s.1))), (0, .lsl (eMoves l))], mkH 0 [] 1 [(0, some ((l.take s.1).length, 27))])) (μ := fun s => l.length - s.1) ⟨0, by omega⟩ (View.trans (View.grow 3 27 (by omega) (by omega) (by simp [look])) (View.sub (by simp [look, eMoves]))) ?_)
  rintro ⟨k, hk⟩
  have htl : (l.take k).length = k := by rw [List.length_take]; omega
  simp only [htl]
  by_cases hlt : k < l.length
  rotate_left
  · refine wp_sound noNG _ _ _ _ ?_
    obtain rfl : k = l.length := by omega
    have q1 : decide ((l.length : Int) < (l.length : Int)) = false := by simp
    rw [List.take_length]
    ((try simp only [argsL, SS, TF22Copy, kcall, setRange, repl, extB_q, isNew, Option.isNone_none, Option.isNone_some, Nat.reduceLT, Nat.reduceEqDiff, Nat.reduceAdd, Nat.reduceMul, Nat.reduceSub, Nat.reduceLeDiff, Nat.reduceBEq, reduceCtorEq, isNextM, absCell, eBinOp, eBin, eInt2, eInt, eStr, eUn, ePick, eConvert, eExtract, eNil, eCall, eCallV, eBuiltin, eLen, eCap, srcCells, keepV, keep1, row?, eStoreOp, EVal.cells, EVal.one, eShift, eField, eIndexAddrOp, eIndexAddr, eIndexOp, eIndex, eSliceOp, eSlice, bound, eBuild, eBuildSlice, eMakeSlice, eRange, eNextS, argB, isLent, flat, one, keepA, eMoves_length, q1]); (repeat' (first | refine wpStep_not (fun h => ?_) (fun h => ?_) | refine wpStep_sym (fun h => ?_) (fun h => ?_) | refine wpCond_not (fun h => ?_) (fun h => ?_) | refine wpCond_sym (fun h => ?_) (fun h => ?_) | refine wpDStep_not (fun h => ?_) (fun h => ?_) | refine wpDStep_sym (fun h => ?_) (fun h => ?_)) <;> simp only [h, SS, TF22Copy, kcall, setRange, repl, extB_q, isNew, Option.isNone_none, Option.isNone_some, Nat.reduceLT, Nat.reduceEqDiff, Nat.reduceAdd, Nat.reduceMul, Nat.reduceSub, Nat.reduceLeDiff, Nat.reduceBEq, reduceCtorEq, isNextM, absCell, eBinOp, eBin, eInt2, eInt, eStr, eUn, ePick, eConvert, eExtract, eNil, eCall, eCallV, eBuiltin, eLen, eCap, srcCells, keepV, keep1, row?, eStoreOp, EVal.cells, EVal.one, eShift, eField, eIndexAddrOp, eIndexAddr, eIndexOp, eIndex, eSliceOp, eSlice, bound, eBuild, eBuildSlice, eMakeSlice, eRange, eNextS, argB, isLent, flat, one, keepA, eMoves_length, q1]))
    (refine hQ _ _ _ (ends_of (by first | exact .inl rfl | exact .inr rfl) ?_); simp only [SS, TF22Copy, kcall, setRange, repl, extB_q, isNew, Option.isNone_none, Option.isNone_some, Nat.reduceLT, Nat.reduceEqDiff, Nat.reduceAdd, Nat.reduceMul, Nat.reduceSub, Nat.reduceLeDiff, Nat.reduceBEq, reduceCtorEq, isNextM, absCell, eBinOp, eBin, eInt2, eInt, eStr, eUn, ePick, eConvert, eExtract, eNil, eCall, eCallV, eBuiltin, eLen, eCap, srcCells, keepV, keep1, row?, eStoreOp, EVal.cells, EVal.one, eShift, eField, eIndexAddrOp, eIndexAddr, eIndexOp, eIndex, eSliceOp, eSlice, bound, eBuild, eBuildSlice, eMakeSlice, eRange, eNextS, argB, isLent, flat, one, keepA])
  obtain ⟨m, hx⟩ : ∃ m, l[k]? = some m := ⟨l[k], List.getElem?_eq_getElem hlt⟩
  have hmb := hb1000 m (List.mem_of_getElem? hx)
  have q1 : decide ((k : Int) < (l.length : Int)) = true := by simp; omega
  have q2 : IntKind.i64.wrap ((k : Int) + 1) = ((k + 1 : Nat) : Int) := by rw [wrap_id] <;> omega
  have q3 : 64 * (k + 1) ≤ 1000000 := by omega
  have htk : l.take (k + 1) = l.take k ++ [m] := by rw [List.take_add_one, hx]; rfl
  have fin : ∀ f h, View none Tryz.prog f h (mkF 26 [(4, .int .i64 ((k + 1 : Nat) : Int)), (3, .gsl 0 (eMoves (l.take k ++ [m]))), (0, .lsl (eMoves l))]) (mkH 0 [] 1 [(0, some (k + 1, 27))]) → ∃ s' : { k : Nat // k ≤ l.length }, (fun s : { k : Nat // k ≤ l.length } => l.length - s.1) s' < l.length - k ∧ View none Tryz.prog f h (mkF 26 [(4, .int .i64 (s'.1 : Nat)), (3, .gsl 0 (eMoves (l.take s'.1))), (0, .lsl (eMoves l))]) (mkH 0 [] 1 [(0, some ((l.take s'.1).length, 27))]) := by
    intro f h v
    refine ⟨⟨k + 1, hlt⟩, by simp; omega, ?_⟩
    have e : (l.take (k + 1)).length = k + 1 := by rw [List.length_take]; omega
    simp only [e]
    rw [htk]
    exact v
  apply Top.cut noNG
  · intro R hR
    ((try simp only [argsL, SS, TF22Copy, kcall, setRange, repl, extB_q, isNew, Option.isNone_none, Option.isNone_some, Nat.reduceLT, Nat.reduceEqDiff, Nat.reduceAdd, Nat.reduceMul, Nat.reduceSub, Nat.reduceLeDiff, Nat.reduceBEq, reduceCtorEq, isNextM, absCell, eBinOp, eBin, eInt2, eInt, eStr, eUn, ePick, eConvert, eExtract, eNil, eCall, eCallV, eBuiltin, eLen, eCap, srcCells, keepV, keep1, row?, eStoreOp, EVal.cells, EVal.one, eShift, eField, eIndexAddrOp, eIndexAddr, eIndexOp, eIndex, eSliceOp, eSlice, bound, eBuild, eBuildSlice, eMakeSlice, eRange, eNextS, argB, isLent, flat, one, keepA, eMoves_length, q1]); (repeat' (first | refine wpStep_not (fun h => ?_) (fun h => ?_) | refine wpStep_sym (fun h => ?_) (fun h => ?_) | refine wpCond_not (fun h => ?_) (fun h => ?_) | refine wpCond_sym (fun h => ?_) (fun h => ?_) | refine wpDStep_not (fun h => ?_) (fun h => ?_) | refine wpDStep_sym (fun h => ?_) (fun h => ?_)) <;> simp only [h, SS, TF22Copy, kcall, setRange, repl, extB_q, isNew, Option.isNone_none, Option.isNone_some, Nat.reduceLT, Nat.reduceEqDiff, Nat.reduceAdd, Nat.reduceMul, Nat.reduceSub, Nat.reduceLeDiff, Nat.reduceBEq, reduceCtorEq, isNextM, absCell, eBinOp, eBin, eInt2, eInt, eStr, eUn, ePick, eConvert, eExtract, eNil, eCall, eCallV, eBuiltin, eLen, eCap, srcCells, keepV, keep1, row?, eStoreOp, EVal.cells, EVal.one, eShift, eField, eIndexAddrOp, eIndexAddr, eIndexOp, eIndex, eSliceOp, eSlice, bound, eBuild, eBuildSlice, eMakeSlice, eRange, eNextS, argB, isLent, flat, one, keepA, eMoves_length, q1]))
    exact hR
  · exact View.refl
  apply Top.cutT (f1 := mkF 26 [(4, .int .i64 (k : Nat)), (3, .gsl 0 (eMoves (l.take k ++ [m]))), (0, .lsl (eMoves l))]) (h1 := mkH 0 [] 1 [(0, some (k + 1, 27))])
  · intro R hR
    apply Top.block
    apply Top.cut noNG
    · intro R2 hR2
      ((try simp only [argsL, SS, TF22Copy, kcall, setRange, repl, extB_q, isNew, Option.isNone_none, Option.isNone_some, Nat.reduceLT, Nat.reduceEqDiff, Nat.reduceAdd, Nat.reduceMul, Nat.reduceSub, Nat.reduceLeDiff, Nat.reduceBEq, reduceCtorEq, isNextM, absCell, eBinOp, eBin, eInt2, eInt, eStr, eUn, ePick, eConvert, eExtract, eNil, eCall, eCallV, eBuiltin, eLen, eCap, srcCells, keepV, keep1, row?, eStoreOp, EVal.cells, EVal.one, eShift, eField, eIndexAddrOp, eIndexAddr, eIndexOp, eIndex, eSliceOp, eSlice, bound, eBuild, eBuildSlice, eMakeSlice, eRange, eNextS, argB, isLent, flat, one, keepA, eMoves_get, eMove_q, hx]); (repeat' (first | refine wpStep_not (fun h => ?_) (fun h => ?_) | refine wpStep_sym (fun h => ?_) (fun h => ?_) | refine wpCond_not (fun h => ?_) (fun h => ?_) | refine wpCond_sym (fun h => ?_) (fun h => ?_) | refine wpDStep_not (fun h => ?_) (fun h => ?_) | refine wpDStep_sym (fun h => ?_) (fun h => ?_)) <;> simp only [h, SS, TF22Copy, kcall, setRange, repl, extB_q, isNew, Option.isNone_none, Option.isNone_some, Nat.reduceLT, Nat.reduceEqDiff, Nat.reduceAdd, Nat.reduceMul, Nat.reduceSub, Nat.reduceLeDiff, Nat.reduceBEq, reduceCtorEq, isNextM, absCell, eBinOp, eBin, eInt2, eInt, eStr, eUn, ePick, eConvert, eExtract, eNil, eCall, eCallV, eBuiltin, eLen, eCap, srcCells, keepV, keep1, row?, eStoreOp, EVal.cells, EVal.one, eShift, eField, eIndexAddrOp, eIndexAddr, eIndexOp, eIndex, eSliceOp, eSlice, bound, eBuild, eBuildSlice, eMakeSlice, eRange, eNextS, argB, isLent, flat, one, keepA, eMoves_get, eMove_q, hx]))
      exact hR2
    · exact View.refl
    by_cases hb0 : m.b.length = 0
    · have hb : m.b = [] := List.eq_nil_of_length_eq_zero hb0
      have hi : eInts m.b = [] := by rw [hb]; rfl
      have zl : lensOK 1 ([] : List (List EVal)) = true := rfl
      have hL : chunk 1 0 ([] : List EVal) = [] := rfl
      apply Top.cut noNG
      · intro R2 hR2
        ((try simp only [argsL, SS, TF22Copy, kcall, setRange, repl, extB_q, isNew, Option.isNone_none, Option.isNone_some, Nat.reduceLT, Nat.reduceEqDiff, Nat.reduceAdd, Nat.reduceMul, Nat.reduceSub, Nat.reduceLeDiff, Nat.reduceBEq, reduceCtorEq, isNextM, absCell, eBinOp, eBin, eInt2, eInt, eStr, eUn, ePick, eConvert, eExtract, eNil, eCall, eCallV, eBuiltin, eLen, eCap, srcCells, keepV, keep1, row?, eStoreOp, EVal.cells, EVal.one, eShift, eField, eIndexAddrOp, eIndexAddr, eIndexOp, eIndex, eSliceOp, eSlice, bound, eBuild, eBuildSlice, eMakeSlice, eRange, eNextS, argB, isLent, flat, one, keepA, hi, zl]); (repeat' (first | refine wpStep_not (fun h => ?_) (fun h => ?_) | refine wpStep_sym (fun h => ?_) (fun h => ?_) | refine wpCond_not (fun h => ?_) (fun h => ?_) | refine wpCond_sym (fun h => ?_) (fun h => ?_) | refine wpDStep_not (fun h => ?_) (fun h => ?_) | refine wpDStep_sym (fun h => ?_) (fun h => ?_)) <;> simp only [h, SS, TF22Copy, kcall, setRange, repl, extB_q, isNew, Option.isNone_none, Option.isNone_some, Nat.reduceLT, Nat.reduceEqDiff, Nat.reduceAdd, Nat.reduceMul, Nat.reduceSub, Nat.reduceLeDiff, Nat.reduceBEq, reduceCtorEq, isNextM, absCell, eBinOp, eBin, eInt2, eInt, eStr, eUn, ePick, eConvert, eExtract, eNil, eCall, eCallV, eBuiltin, eLen, eCap, srcCells, keepV, keep1, row?, eStoreOp, EVal.cells, EVal.one, eShift, eField, eIndexAddrOp, eIndexAddr, eIndexOp, eIndex, eSliceOp, eSlice, bound, eBuild, eBuildSlice, eMakeSlice, eRange, eNextS, argB, isLent, flat, one, keepA, hi, zl]))
        exact hR2
      · exact View.fz (sz := 1) (len := 0) (cells := []) (cells' := []) (e := 3) (lo := 0) (hi := 0) (sl := false) 1 (by omega) (by simp [lookG, hi]) (rfl) (rfl)
          (fl2 := [(4, .int .i64 (k : Nat)), (3, .gsl 0 (eMoves (l.take k))), (5, .ptr 0 0), (0, .lsl (eMoves l))])
          (l2 := [(0, some (.row [.int .i64 m.f, .int .i64 m.t, .bool m.o, .str m.h, .lsl (eInts m.b)] 27 0 0 false))]) (k2 := [(0, some (k, 27))])
          (by simp [look, fzR]) (by
            simp only [List.forall_mem_cons]
            refine ⟨⟨by omega, by omega, _, rfl, .inr ⟨_, _, 27, 0, 0, false, by simp [lookG]; rfl, rfl, ?_⟩⟩, fun _ h => by cases h⟩
            simp [fzL, fzR, capOK, hL, hi]) (by simp [lookG])
      refine Top.unview (wp_sound noNG _ _ _ _ ?_)
      ((try simp only [argsL, SS, TF22Copy, kcall, setRange, repl, extB_q, isNew, Option.isNone_none, Option.isNone_some, Nat.reduceLT, Nat.reduceEqDiff, Nat.reduceAdd, Nat.reduceMul, Nat.reduceSub, Nat.reduceLeDiff, Nat.reduceBEq, reduceCtorEq, isNextM, absCell, eBinOp, eBin, eInt2, eInt, eStr, eUn, ePick, eConvert, eExtract, eNil, eCall, eCallV, eBuiltin, eLen, eCap, srcCells, keepV, keep1, row?, eStoreOp, EVal.cells, EVal.one, eShift, eField, eIndexAddrOp, eIndexAddr, eIndexOp, eIndex, eSliceOp, eSlice, bound, eBuild, eBuildSlice, eMakeSlice, eRange, eNextS, argB, isLent, flat, one, keepA, q3, eMoves_length, htl, lensOK_eMoves, eMoves_snoc]); (repeat' (first | refine wpStep_not (fun h => ?_) (fun h => ?_) | refine wpStep_sym (fun h => ?_) (fun h => ?_) | refine wpCond_not (fun h => ?_) (fun h => ?_) | refine wpCond_sym (fun h => ?_) (fun h => ?_) | refine wpDStep_not (fun h => ?_) (fun h => ?_) | refine wpDStep_sym (fun h => ?_) (fun h => ?_)) <;> simp only [h, SS, TF22Copy, kcall, setRange, repl, extB_q, isNew, Option.isNone_none, Option.isNone_some, Nat.reduceLT, Nat.reduceEqDiff, Nat.reduceAdd, Nat.reduceMul, Nat.reduceSub, Nat.reduceLeDiff, Nat.reduceBEq, reduceCtorEq, isNextM, absCell, eBinOp, eBin, eInt2, eInt, eStr, eUn, ePick, eConvert, eExtract, eNil, eCall, eCallV, eBuiltin, eLen, eCap, srcCells, keepV, keep1, row?, eStoreOp, EVal.cells, EVal.one, eShift, eField, eIndexAddrOp, eIndexAddr, eIndexOp, eIndex, eSliceOp, eSlice, bound, eBuild, eBuildSlice, eMakeSlice, eRange, eNextS, argB, isLent, flat, one, keepA, q3, eMoves_length, htl, lensOK_eMoves, eMoves_snoc]))
      exact ⟨_, _, (View.drop (by simp [look, below, belowL]) (by simp [lookG, belowO, below, belowL, below_eRow]) (by simp [lookG])), hR⟩
    · have q4 : (m.b.length ≤ 0) = False := by simp only [eq_iff_iff, iff_false]; omega
      have q5 : 8 * m.b.length ≤ 1000000 := by omega
      have hL : chunk 1 m.b.length (eRow m.b) = eInts m.b := chunk_eRow _
      apply Top.cut noNG
      · intro R2 hR2
        ((try simp only [argsL, SS, TF22Copy, kcall, setRange, repl, extB_q, isNew, Option.isNone_none, Option.isNone_some, Nat.reduceLT, Nat.reduceEqDiff, Nat.reduceAdd, Nat.reduceMul, Nat.reduceSub, Nat.reduceLeDiff, Nat.reduceBEq, reduceCtorEq, isNextM, absCell, eBinOp, eBin, eInt2, eInt, eStr, eUn, ePick, eConvert, eExtract, eNil, eCall, eCallV, eBuiltin, eLen, eCap, srcCells, keepV, keep1, row?, eStoreOp, EVal.cells, EVal.one, eShift, eField, eIndexAddrOp, eIndexAddr, eIndexOp, eIndex, eSliceOp, eSlice, bound, eBuild, eBuildSlice, eMakeSlice, eRange, eNextS, argB, isLent, flat, one, keepA, lensOK_eInts, eInts_length, eInts_flatten, eRow_length, q4, q5]); (repeat' (first | refine wpStep_not (fun h => ?_) (fun h => ?_) | refine wpStep_sym (fun h => ?_) (fun h => ?_) | refine wpCond_not (fun h => ?_) (fun h => ?_) | refine wpCond_sym (fun h => ?_) (fun h => ?_) | refine wpDStep_not (fun h => ?_) (fun h => ?_) | refine wpDStep_sym (fun h => ?_) (fun h => ?_)) <;> simp only [h, SS, TF22Copy, kcall, setRange, repl, extB_q, isNew, Option.isNone_none, Option.isNone_some, Nat.reduceLT, Nat.reduceEqDiff, Nat.reduceAdd, Nat.reduceMul, Nat.reduceSub, Nat.reduceLeDiff, Nat.reduceBEq, reduceCtorEq, isNextM, absCell, eBinOp, eBin, eInt2, eInt, eStr, eUn, ePick, eConvert, eExtract, eNil, eCall, eCallV, eBuiltin, eLen, eCap, srcCells, keepV, keep1, row?, eStoreOp, EVal.cells, EVal.one, eShift, eField, eIndexAddrOp, eIndexAddr, eIndexOp, eIndex, eSliceOp, eSlice, bound, eBuild, eBuildSlice, eMakeSlice, eRange, eNextS, argB, isLent, flat, one, keepA, lensOK_eInts, eInts_length, eInts_flatten, eRow_length, q4, q5]))
        exact hR2
      · exact View.fz (sz := 1) (len := m.b.length) (cells := eRow m.b) (cells' := eRow m.b) (e := 3) (lo := 0) (hi := 0) (sl := true) 2 (by omega) (by simp [lookG]) (keepL_eRow _) (by simp [eRow_length])
          (fl2 := [(4, .int .i64 (k : Nat)), (3, .gsl 0 (eMoves (l.take k))), (5, .ptr 0 0), (0, .lsl (eMoves l))])
          (l2 := [(0, some (.row [.int .i64 m.f, .int .i64 m.t, .bool m.o, .str m.h, .lsl (eInts m.b)] 27 0 0 false))]) (k2 := [(0, some (k, 27))])
          (by simp [look, fzR]) (by
            simp only [List.forall_mem_cons]
            refine ⟨⟨by omega, by omega, _, rfl, .inr ⟨_, _, 27, 0, 0, false, by simp [lookG]; rfl, rfl, ?_⟩⟩, fun _ h => by cases h⟩
            simp [fzL, fzR, capOK, hL]) (by simp [lookG])
      refine Top.unview (wp_sound noNG _ _ _ _ ?_)
      ((try simp only [argsL, SS, TF22Copy, kcall, setRange, repl, extB_q, isNew, Option.isNone_none, Option.isNone_some, Nat.reduceLT, Nat.reduceEqDiff, Nat.reduceAdd, Nat.reduceMul, Nat.reduceSub, Nat.reduceLeDiff, Nat.reduceBEq, reduceCtorEq, isNextM, absCell, eBinOp, eBin, eInt2, eInt, eStr, eUn, ePick, eConvert, eExtract, eNil, eCall, eCallV, eBuiltin, eLen, eCap, srcCells, keepV, keep1, row?, eStoreOp, EVal.cells, EVal.one, eShift, eField, eIndexAddrOp, eIndexAddr, eIndexOp, eIndex, eSliceOp, eSlice, bound, eBuild, eBuildSlice, eMakeSlice, eRange, eNextS, argB, isLent, flat, one, keepA, q3, eMoves_length, htl, lensOK_eMoves, eMoves_snoc]); (repeat' (first | refine wpStep_not (fun h => ?_) (fun h => ?_) | refine wpStep_sym (fun h => ?_) (fun h => ?_) | refine wpCond_not (fun h => ?_) (fun h => ?_) | refine wpCond_sym (fun h => ?_) (fun h => ?_) | refine wpDStep_not (fun h => ?_) (fun h => ?_) | refine wpDStep_sym (fun h => ?_) (fun h => ?_)) <;> simp only [h, SS, TF22Copy, kcall, setRange, repl, extB_q, isNew, Option.isNone_none, Option.isNone_some, Nat.reduceLT, Nat.reduceEqDiff, Nat.reduceAdd, Nat.reduceMul, Nat.reduceSub, Nat.reduceLeDiff, Nat.reduceBEq, reduceCtorEq, isNextM, absCell, eBinOp, eBin, eInt2, eInt, eStr, eUn, ePick, eConvert, eExtract, eNil, eCall, eCallV, eBuiltin, eLen, eCap, srcCells, keepV, keep1, row?, eStoreOp, EVal.cells, EVal.one, eShift, eField, eIndexAddrOp, eIndexAddr, eIndexOp, eIndex, eSliceOp, eSlice, bound, eBuild, eBuildSlice, eMakeSlice, eRange, eNextS, argB, isLent, flat, one, keepA, q3, eMoves_length, htl, lensOK_eMoves, eMoves_snoc]))
      exact ⟨_, _, (View.drop (by simp [look, below, belowL]) (by simp [lookG, belowO, below, belowL, below_eRow]) (by simp [lookG])), hR⟩
  · exact View.refl
  refine wp_sound noNG _ _ _ _ ?_
  ((try simp only [argsL, SS, TF22Copy, kcall, setRange, repl, extB_q, isNew, Option.isNone_none, Option.isNone_some, Nat.reduceLT, Nat.reduceEqDiff, Nat.reduceAdd, Nat.reduceMul, Nat.reduceSub, Nat.reduceLeDiff, Nat.reduceBEq, reduceCtorEq, isNextM, absCell, eBinOp, eBin, eInt2, eInt, eStr, eUn, ePick, eConvert, eExtract, eNil, eCall, eCallV, eBuiltin, eLen, eCap, srcCells, keepV, keep1, row?, eStoreOp, EVal.cells, EVal.one, eShift, eField, eIndexAddrOp, eIndexAddr, eIndexOp, eIndex, eSliceOp, eSlice, bound, eBuild, eBuildSlice, eMakeSlice, eRange, eNextS, argB, isLent, flat, one, keepA, q2]); (repeat' (first | refine wpStep_not (fun h => ?_) (fun h => ?_) | refine wpStep_sym (fun h => ?_) (fun h => ?_) | refine wpCond_not (fun h => ?_) (fun h => ?_) | refine wpCond_sym (fun h => ?_) (fun h => ?_) | refine wpDStep_not (fun h => ?_) (fun h => ?_) | refine wpDStep_sym (fun h => ?_) (fun h => ?_)) <;> simp only [h, SS, TF22Copy, kcall, setRange, repl, extB_q, isNew, Option.isNone_none, Option.isNone_some, Nat.reduceLT, Nat.reduceEqDiff, Nat.reduceAdd, Nat.reduceMul, Nat.reduceSub, Nat.reduceLeDiff, Nat.reduceBEq, reduceCtorEq, isNextM, absCell, eBinOp, eBin, eInt2, eInt, eStr, eUn, ePick, eConvert, eExtract, eNil, eCall, eCallV, eBuiltin, eLen, eCap, srcCells, keepV, keep1, row?, eStoreOp, EVal.cells, EVal.one, eShift, eField, eIndexAddrOp, eIndexAddr, eIndexOp, eIndex, eSliceOp, eSlice, bound, eBuild, eBuildSlice, eMakeSlice, eRange, eNextS, argB, isLent, flat, one, keepA, q2]))
  exact fin _ _ (View.drop (by simp [look, below, belowL]) (by simp [lookG, belowO, below, belowL, below_eRow]) (by simp [lookG]))
end Go.Ev
