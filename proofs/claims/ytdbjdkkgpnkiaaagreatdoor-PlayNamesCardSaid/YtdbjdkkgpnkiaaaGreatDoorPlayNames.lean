import Derived.Test.YtdbjdkkgpnkiaaaGreatDoorNames2
import Derived.Test.YtdbjdkkgpnkiaaaGreatDoorDraw2
set_option linter.unusedSimpArgs false
set_option linter.unusedVariables false
namespace Go.Ev
open Go.RowKit Go.Proofs
set_option maxRecDepth 20000
set_option maxHeartbeats 4000000

/-! the examples -/
def allTrue : Option (List Out) → Bool
  | some l => l.all fun o => match o with | .val (.bool true) _ => true | _ => false
  | none => false
noncomputable def quietF : FuncId → Bool := fun f => Nat.beq f 167
noncomputable def quiet : Known := quietK Tryz.prog gT 100 quietF
set_option maxRecDepth 100000 in
theorem awake_runs : allTrue (run Tryz.prog gT quiet 3000 (.call 16 [] H.start)) = true := by kernel_rfl

def F16 : List EVal → Option EVal
  | [] => some (.bool true)
  | _ => none
theorem e16 : F16 [] = some (.bool true) := rfl
theorem fn16 : FnT 16 F16 := by
  intro B0 W0 G args v hF vs fro w hvs hfz hb hs
  unfold F16 at hF
  split at hF
  rotate_left
  · cases hF
  cases hF
  have G1 : GRel w.heap.size w gT := G.grow hb hs
  have h := awake_runs
  cases hr : run Tryz.prog gT quiet 3000 (.call 16 [] H.start) with
  | none => rw [hr] at h; cases h
  | some outs =>
    rw [hr] at h
    have hall : ∀ o ∈ outs, (match o with | .val (.bool true) _ => true | _ => false) = true := List.all_eq_true.1 h
    refine (run_calls mixed noNG hfz G1 (quietK_ok (W0 := ⟨w, fro⟩) mixed noNG G1 100 quietF) hr hvs).mono ?_
    rintro e w' ⟨v, h', u, ρ, hm, rfl, hv, hR⟩
    have := hall _ hm
    split at this
    · rename_i heq
      cases heq
      cases hv
      refine ⟨_, ρ.fro, rfl, .bool true, hR.below, ?_⟩
      have hfro : (fun b => if b < w.heap.size then fro b else ρ.fro b) = ρ.fro := by
        funext b
        split
        · rename_i hb; exact (hR.fz0 b hb).symm
        · rfl
      rw [hfro]; exact hR.fz
    · cases this

/-! the list and its error -/
def listB (l : List Int) (e bad : Int) (want : List Int) : Bool := decide (e = bad) && (decide (bad ≠ 0) && decide (l.length = 0) || decide (bad = 0) && decide (l = want))
def F29 : List EVal → Option EVal
  | [a, .int .i64 e, .int .i64 bad, b] => match dInts a, dInts b with
    | some l, some m => some (.bool (listB l e bad m))
    | _, _ => none
  | _ => none
theorem e29 {l m : List Int} {e bad : Int} (h1 : l.length < 1000000) (h2 : m.length < 1000000) : F29 [.lsl (eInts l), .int .i64 e, .int .i64 bad, .lsl (eInts m)] = some (.bool (listB l e bad m)) := by
  simp only [F29, dInts_e h1, dInts_e h2]
theorem fn29 : FnT 29 F29 := by
  refine Fn.intro mixed noNG Tryz.func29 rfl [(78, F78)] (by simp only [List.forall_mem_cons]; exact ⟨fn78, fun _ h => by cases h⟩) ?_
  intro args v hF
  unfold F29 at hF
  split at hF
  rotate_left
  · cases hF
  intro Q hV
  have hQ := Viewed.of hV
  rename_i a e bad b
  split at hF
  rotate_left
  · cases hF
  rename_i l m ha hb
  cases hF
  obtain ⟨rfl, hl⟩ := dInts_inv ha
  obtain ⟨rfl, hm⟩ := dInts_inv hb
  clear ha hb
  refine Top.view (View.start (n := 30) rfl (by simp)) (wp_sound noNG _ _ _ _ ?_)
  have h1 := e78 hl hm
  ((try simp only [argsL, wp_seq, wp_region, wp_block, wp_scope, wp_exit, wp_skip, wp_label, wp_ret, wp_cond, loopQ_normal, loopQ_exit, loopQ_ret, seqQ_normal, seqQ_exit, seqQ_ret, blockQ_normal, blockQ_exit, blockQ_ret, wpCond_true, wpCond_false, wpOps_cons, wpOps_nil, wpStep_true, wpStep_false, wpNext, wpOp_eq, wpOpB_false, isNextM, wpOut_val, wpOut_enter, wpKc_some, wpDraw_cons, wpDraw_nil, wpDStep_true, wpDStep_false, wpDNext, wpDOut_val, wpDOut_enter, wpDKc_some, wpDSel_pure, wpDSel_quiet, wpDSel_act, isPure, isQuiet, wantedE, yieldedE, eOp, Go.Ev.mk, ev_tmp, ev_int, ev_bool, ev_str, ev_nils, ev_nilp, ev_nilm, ev_nilf, ev_func, ev_glob, ev_agg, evs, evParts, evOpt, absCell, absCells, mkF_putd, mkF_putd_none, mkF_tmps, mkF_defers, T.get_ofL, look, mkH_new, mkH_put, mkH_kill, mkH_tok, mkH_get, mkH_k, mkH_n, lookG, eBinOp, eBin, eInt2, eInt, eStr, eShl, eShr, eUnOp, eUn, ePick, eConvOp, eConvert, eExtract, eNil, eCall, eCallV, eCallB, eBuiltin, eLen, eLenM, eCap, eAppend, eAppendX, eAppendS, eAppendS', eAppendG, eGrow, srcCells, takeN, keepL, keepV, keep1, chunk, eLoadOp, eLoad, eLoad', row?, aggT, eStoreOp, eStore, eStoreCells, setRange, EVal.cells, allOne, EVal.one, eFieldAddrOp, eFieldAddr, eShift, eFieldOp, eField, ePart, eIndexAddrOp, eIndexAddr, eIndexAddr', eIndexL, eIndexOp, eIndex, eSliceOp, eSlice, eSliceL, bound, eAlloc, eBox, eBuild, eBuildS, eBuildA, eBuildSlice, eBuildSlice', fillE, placeS, eMakeSlice, eMakeSlice', repl, eRange, eNextS, eNextS', kcall, argsB, argB, capOK, isLent, flat, flatL, known_nil, known_hit, known_cons, undefE, Option.map_some, Option.map_none, Option.some.injEq, if_true, if_false, Nat.reduceLT, Nat.reduceEqDiff, Nat.reduceAdd, Nat.reduceMul, Nat.reduceSub, Nat.reduceLeDiff, Nat.reduceBEq, List.getElem?_toArray, List.getElem?_cons_zero, List.getElem?_cons_succ, List.length_cons, List.length_nil, List.append_nil, List.nil_append, List.cons_append, List.map_cons, List.map_nil, List.any_cons, List.any_nil, List.take_succ_cons, List.take_zero, List.drop_succ_cons, List.drop_zero, List.drop_nil, List.take_nil, Nat.zero_add, Nat.mul_one, Nat.zero_le, bne_not, some_beq, none_beq, beq_t, beq_f, Int.natCast_nonneg, Int.toNat_natCast, Int.le_refl, Int.toNat_zero, Int.natCast_zero, BEq.rfl, beq_self_eq_true, Option.bind_some, resultsE, one, keepV, Bool.not_true, Bool.not_false, Bool.or_false, Bool.false_or, Bool.or_true, Bool.true_or, Bool.and_true, Bool.true_and, Bool.and_false, Bool.false_and, Bool.cond_true, Bool.cond_false, decide_true, decide_false, Bool.false_eq_true, reduceCtorEq, ne_eq, not_true_eq_false, not_false_eq_true, gt_iff_lt, ge_iff_le, or_self, or_false, false_or, true_or, or_true, H.start_mk, Nat.lt_irrefl, Nat.le_refl, List.flatten_cons, List.flatten_nil, List.replicate, true_and, and_true, true_implies, false_implies, implies_true, exists_eq_left', and_self, Tryz.underlying3, sz3, info3, I3s, I3b, zero3, grow3, Tryz.underlying25, sz25, info25, I25s, I25b, zero25, grow25, call78, Tryz.results29, h1, eInts_length]); (repeat' (first | refine wpStep_not (fun h => ?_) (fun h => ?_) | refine wpStep_sym (fun h => ?_) (fun h => ?_) | refine wpCond_not (fun h => ?_) (fun h => ?_) | refine wpCond_sym (fun h => ?_) (fun h => ?_) | refine wpDStep_not (fun h => ?_) (fun h => ?_) | refine wpDStep_sym (fun h => ?_) (fun h => ?_)) <;> simp only [h, wp_seq, wp_region, wp_block, wp_scope, wp_exit, wp_skip, wp_label, wp_ret, wp_cond, loopQ_normal, loopQ_exit, loopQ_ret, seqQ_normal, seqQ_exit, seqQ_ret, blockQ_normal, blockQ_exit, blockQ_ret, wpCond_true, wpCond_false, wpOps_cons, wpOps_nil, wpStep_true, wpStep_false, wpNext, wpOp_eq, wpOpB_false, isNextM, wpOut_val, wpOut_enter, wpKc_some, wpDraw_cons, wpDraw_nil, wpDStep_true, wpDStep_false, wpDNext, wpDOut_val, wpDOut_enter, wpDKc_some, wpDSel_pure, wpDSel_quiet, wpDSel_act, isPure, isQuiet, wantedE, yieldedE, eOp, Go.Ev.mk, ev_tmp, ev_int, ev_bool, ev_str, ev_nils, ev_nilp, ev_nilm, ev_nilf, ev_func, ev_glob, ev_agg, evs, evParts, evOpt, absCell, absCells, mkF_putd, mkF_putd_none, mkF_tmps, mkF_defers, T.get_ofL, look, mkH_new, mkH_put, mkH_kill, mkH_tok, mkH_get, mkH_k, mkH_n, lookG, eBinOp, eBin, eInt2, eInt, eStr, eShl, eShr, eUnOp, eUn, ePick, eConvOp, eConvert, eExtract, eNil, eCall, eCallV, eCallB, eBuiltin, eLen, eLenM, eCap, eAppend, eAppendX, eAppendS, eAppendS', eAppendG, eGrow, srcCells, takeN, keepL, keepV, keep1, chunk, eLoadOp, eLoad, eLoad', row?, aggT, eStoreOp, eStore, eStoreCells, setRange, EVal.cells, allOne, EVal.one, eFieldAddrOp, eFieldAddr, eShift, eFieldOp, eField, ePart, eIndexAddrOp, eIndexAddr, eIndexAddr', eIndexL, eIndexOp, eIndex, eSliceOp, eSlice, eSliceL, bound, eAlloc, eBox, eBuild, eBuildS, eBuildA, eBuildSlice, eBuildSlice', fillE, placeS, eMakeSlice, eMakeSlice', repl, eRange, eNextS, eNextS', kcall, argsB, argB, capOK, isLent, flat, flatL, known_nil, known_hit, known_cons, undefE, Option.map_some, Option.map_none, Option.some.injEq, if_true, if_false, Nat.reduceLT, Nat.reduceEqDiff, Nat.reduceAdd, Nat.reduceMul, Nat.reduceSub, Nat.reduceLeDiff, Nat.reduceBEq, List.getElem?_toArray, List.getElem?_cons_zero, List.getElem?_cons_succ, List.length_cons, List.length_nil, List.append_nil, List.nil_append, List.cons_append, List.map_cons, List.map_nil, List.any_cons, List.any_nil, List.take_succ_cons, List.take_zero, List.drop_succ_cons, List.drop_zero, List.drop_nil, List.take_nil, Nat.zero_add, Nat.mul_one, Nat.zero_le, bne_not, some_beq, none_beq, beq_t, beq_f, Int.natCast_nonneg, Int.toNat_natCast, Int.le_refl, Int.toNat_zero, Int.natCast_zero, BEq.rfl, beq_self_eq_true, Option.bind_some, resultsE, one, keepV, Bool.not_true, Bool.not_false, Bool.or_false, Bool.false_or, Bool.or_true, Bool.true_or, Bool.and_true, Bool.true_and, Bool.and_false, Bool.false_and, Bool.cond_true, Bool.cond_false, decide_true, decide_false, Bool.false_eq_true, reduceCtorEq, ne_eq, not_true_eq_false, not_false_eq_true, gt_iff_lt, ge_iff_le, or_self, or_false, false_or, true_or, or_true, H.start_mk, Nat.lt_irrefl, Nat.le_refl, List.flatten_cons, List.flatten_nil, List.replicate, true_and, and_true, true_implies, false_implies, implies_true, exists_eq_left', and_self, Tryz.underlying3, sz3, info3, I3s, I3b, zero3, grow3, Tryz.underlying25, sz25, info25, I25s, I25b, zero25, grow25, call78, Tryz.results29, h1, eInts_length]))
  all_goals ((refine hQ _ _ _ (ends_of (by first | exact .inl rfl | exact .inr rfl) ?_); simp only [wp_seq, wp_region, wp_block, wp_scope, wp_exit, wp_skip, wp_label, wp_ret, wp_cond, loopQ_normal, loopQ_exit, loopQ_ret, seqQ_normal, seqQ_exit, seqQ_ret, blockQ_normal, blockQ_exit, blockQ_ret, wpCond_true, wpCond_false, wpOps_cons, wpOps_nil, wpStep_true, wpStep_false, wpNext, wpOp_eq, wpOpB_false, isNextM, wpOut_val, wpOut_enter, wpKc_some, wpDraw_cons, wpDraw_nil, wpDStep_true, wpDStep_false, wpDNext, wpDOut_val, wpDOut_enter, wpDKc_some, wpDSel_pure, wpDSel_quiet, wpDSel_act, isPure, isQuiet, wantedE, yieldedE, eOp, Go.Ev.mk, ev_tmp, ev_int, ev_bool, ev_str, ev_nils, ev_nilp, ev_nilm, ev_nilf, ev_func, ev_glob, ev_agg, evs, evParts, evOpt, absCell, absCells, mkF_putd, mkF_putd_none, mkF_tmps, mkF_defers, T.get_ofL, look, mkH_new, mkH_put, mkH_kill, mkH_tok, mkH_get, mkH_k, mkH_n, lookG, eBinOp, eBin, eInt2, eInt, eStr, eShl, eShr, eUnOp, eUn, ePick, eConvOp, eConvert, eExtract, eNil, eCall, eCallV, eCallB, eBuiltin, eLen, eLenM, eCap, eAppend, eAppendX, eAppendS, eAppendS', eAppendG, eGrow, srcCells, takeN, keepL, keepV, keep1, chunk, eLoadOp, eLoad, eLoad', row?, aggT, eStoreOp, eStore, eStoreCells, setRange, EVal.cells, allOne, EVal.one, eFieldAddrOp, eFieldAddr, eShift, eFieldOp, eField, ePart, eIndexAddrOp, eIndexAddr, eIndexAddr', eIndexL, eIndexOp, eIndex, eSliceOp, eSlice, eSliceL, bound, eAlloc, eBox, eBuild, eBuildS, eBuildA, eBuildSlice, eBuildSlice', fillE, placeS, eMakeSlice, eMakeSlice', repl, eRange, eNextS, eNextS', kcall, argsB, argB, capOK, isLent, flat, flatL, known_nil, known_hit, known_cons, undefE, Option.map_some, Option.map_none, Option.some.injEq, if_true, if_false, Nat.reduceLT, Nat.reduceEqDiff, Nat.reduceAdd, Nat.reduceMul, Nat.reduceSub, Nat.reduceLeDiff, Nat.reduceBEq, List.getElem?_toArray, List.getElem?_cons_zero, List.getElem?_cons_succ, List.length_cons, List.length_nil, List.append_nil, List.nil_append, List.cons_append, List.map_cons, List.map_nil, List.any_cons, List.any_nil, List.take_succ_cons, List.take_zero, List.drop_succ_cons, List.drop_zero, List.drop_nil, List.take_nil, Nat.zero_add, Nat.mul_one, Nat.zero_le, bne_not, some_beq, none_beq, beq_t, beq_f, Int.natCast_nonneg, Int.toNat_natCast, Int.le_refl, Int.toNat_zero, Int.natCast_zero, BEq.rfl, beq_self_eq_true, Option.bind_some, resultsE, one, keepV, Bool.not_true, Bool.not_false, Bool.or_false, Bool.false_or, Bool.or_true, Bool.true_or, Bool.and_true, Bool.true_and, Bool.and_false, Bool.false_and, Bool.cond_true, Bool.cond_false, decide_true, decide_false, Bool.false_eq_true, reduceCtorEq, ne_eq, not_true_eq_false, not_false_eq_true, gt_iff_lt, ge_iff_le, or_self, or_false, false_or, true_or, or_true, H.start_mk, Nat.lt_irrefl, Nat.le_refl, List.flatten_cons, List.flatten_nil, List.replicate, true_and, and_true, true_implies, false_implies, implies_true, exists_eq_left', and_self, Tryz.underlying3, sz3, info3, I3s, I3b, zero3, grow3, Tryz.underlying25, sz25, info25, I25s, I25b, zero25, grow25, call78, Tryz.results29]); simp [listB] at *; try (first | omega | simp [*]))
end Go.Ev
