import Derived.Test.YtcmlciebgapmjaaGreatDoorPutouts
set_option linter.unusedSimpArgs false
set_option linter.unusedVariables false
namespace Go.Ev
open Go.RowKit Go.Proofs
set_option linter.defProp false
def TF59Putouts2 := And.intro (And.intro (And.intro (And.intro (And.intro (And.intro (@Tryz.underlying3) (@sz3)) (And.intro (@bT) (@I3s))) (And.intro (And.intro (@I3b) (@bS)) (And.intro (@bV) (@Tryz.underlying4)))) (And.intro (And.intro (And.intro (@sz4) (@cV)) (And.intro (@I4s) (@I4b))) (And.intro (And.intro (@cU) (@cW)) (And.intro (@Tryz.underlying9) (And.intro (@sz9) (@cL)))))) (And.intro (And.intro (And.intro (And.intro (@I9s) (@I9b)) (And.intro (@cI) (@cM))) (And.intro (And.intro (@Tryz.underlying22) (@sz22)) (And.intro (@info22) (And.intro (@I22s) (@I22b))))) (And.intro (And.intro (And.intro (@zero22) (@grow22)) (And.intro (@Tryz.underlying24) (@sz24))) (And.intro (And.intro (@fok24) (@info24)) (And.intro (@I24s) (And.intro (@I24b) (@zero24))))))) (And.intro (And.intro (And.intro (And.intro (And.intro (@grow24) (@Tryz.underlying25)) (And.intro (@dF) (@bZ))) (And.intro (And.intro (@dG) (@dH)) (And.intro (@bX) (@cA)))) (And.intro (And.intro (And.intro (@Tryz.underlying27) (@dQ)) (And.intro (@dB) (@cN))) (And.intro (And.intro (@dR) (@dS)) (And.intro (@cK) (And.intro (@cO) (@Tryz.underlying30)))))) (And.intro (And.intro (And.intro (And.intro (@sz30) (@info30)) (And.intro (@I30s) (@I30b))) (And.intro (And.intro (@zero30) (@grow30)) (And.intro (@Tryz.underlying123) (And.intro (@sz123) (@info123))))) (And.intro (And.intro (And.intro (@I123s) (@I123b)) (And.intro (@zero123) (@grow123))) (And.intro (And.intro (@call18) (@call120)) (And.intro (@call121) (And.intro (@call124) (@Tryz.results59)))))))
def TF124Putouts2 := And.intro (And.intro (And.intro (And.intro (And.intro (@Tryz.underlying3) (@sz3)) (And.intro (@bT) (@I3s))) (And.intro (And.intro (@I3b) (@bS)) (And.intro (@bV) (And.intro (@Tryz.underlying4) (@sz4))))) (And.intro (And.intro (And.intro (@cV) (@I4s)) (And.intro (@I4b) (@cU))) (And.intro (And.intro (@cW) (@Tryz.underlying9)) (And.intro (@sz9) (And.intro (@cL) (@I9s)))))) (And.intro (And.intro (And.intro (And.intro (@I9b) (@cI)) (And.intro (@cM) (@Tryz.underlying25))) (And.intro (And.intro (@dF) (@bZ)) (And.intro (@dG) (And.intro (@dH) (@bX))))) (And.intro (And.intro (And.intro (@cA) (@Tryz.underlying27)) (And.intro (@dQ) (And.intro (@dB) (@cN)))) (And.intro (And.intro (@dR) (@dS)) (And.intro (@cK) (And.intro (@cO) (@Tryz.results124))))))
set_option maxRecDepth 20000
set_option maxHeartbeats 8000000

/-! the last who touched; putouts -/
def F124 : List EVal → Option EVal
  | [.agg [.int .i64 _, .int .i64 _, .bool _, .str _, x]] => (dK x).bind fun b => if b ≠ [] then some (.int .i64 (b.getLastD 0)) else none
  | _ => none
theorem e124 {m : Mv} (hk : okMv m) (hb : m.b ≠ []) : F124 [.agg [.int .i64 m.f, .int .i64 m.t, .bool m.o, .str m.h, .lsl (bJ m.b)]] = some (.int .i64 (lastT m)) := by
  simp only [F124, dInts_e hk, Option.bind_some]; rw [if_pos hb]; rfl
theorem fn124 : FnT 124 F124 := by
  refine Fn.intro mixed bA Tryz.func124 rfl [] (fun _ h => by cases h) ?_
  intro args v hF
  unfold F124 at hF
  split at hF
  rotate_left
  · cases hF
  intro Q hV
  have hQ := bL.of hV
  rename_i f t o h x
  cases ha : dK x with
  | none => rw [ha] at hF; cases hF
  | some b =>
  rw [ha] at hF
  simp only [Option.bind_some] at hF
  split at hF
  rotate_left
  · cases hF
  rename_i hb
  cases hF
  obtain ⟨rfl, hlen⟩ := dInts_inv ha
  clear ha
  have hbl : 0 < b.length := List.length_pos_iff.2 hb
  have q4 : IntKind.i64.wrap ((b.length : Int) - 1) = ((b.length - 1 : Nat) : Int) := by rw [bE] <;> omega
  obtain ⟨z, hz⟩ : ∃ z, z = b.getLastD 0 := ⟨_, rfl⟩
  have hlg : b[b.length - 1]? = some z := by rw [hz]; exact last_get hb
  rw [← hz] at hQ
  refine Top.view (aX.start (n := 11) rfl (by simp)) (aS bA _ _ _ _ ?_)
  ((try simp only [aO, SS, TF124Putouts2, aM, setRange, aN, aC, aB, aF, aE, aD, aA, Nat.reduceLT, Nat.reduceEqDiff, Nat.reduceAdd, Nat.reduceMul, Nat.reduceSub, Nat.reduceLeDiff, Nat.reduceBEq, reduceCtorEq, aQ, q4, aZ, hlg]); (repeat' ((first | apply aJ | apply aI | apply aL | apply aK | apply aH | apply aG) <;> intro h <;> simp only [h, SS, TF124Putouts2, aM, setRange, aN, aC, aB, aF, aE, aD, aA, Nat.reduceLT, Nat.reduceEqDiff, Nat.reduceAdd, Nat.reduceMul, Nat.reduceSub, Nat.reduceLeDiff, Nat.reduceBEq, reduceCtorEq, aQ, q4, aZ, hlg])))
  (refine hQ _ _ _ (aR (by first | exact .inl rfl | exact .inr rfl) ?_); simp only [SS, TF124Putouts2, aM, setRange, aN, aC, aB, aF, aE, aD, aA, Nat.reduceLT, Nat.reduceEqDiff, Nat.reduceAdd, Nat.reduceMul, Nat.reduceSub, Nat.reduceLeDiff, Nat.reduceBEq, reduceCtorEq])

theorem mvE_touched {m : Mv} (h : mvE m = 0) (ho : m.o = true) : m.b ≠ [] := by
  intro hb
  have h1 : touchE m.o m.b = 16 := by unfold touchE; rw [if_pos (.inr ⟨ho, by rw [hb]; rfl⟩)]
  unfold mvE moveE at h
  simp only [h1, cD] at h
  repeat' split at h
  all_goals simp_all
def putE (p e : List Nat) (l : List Mv) : EVal := if playE p e l = 0 then .tup [.lsl (bJ (dC l)), .int .i64 0] else .tup [.lsl [], .int .i64 (playE p e l)]
def F59 : List EVal → Option EVal
  | [.agg [.str p, .str e, .bool _, ms]] => if cY p = true ∧ cY e = true then (bR ms).map fun l => putE p e l else none
  | _ => none
theorem potF_take {l : List Mv} {k : Nat} {m : Mv} (h : l[k]? = some m) : (l.take (k + 1)).map lastT = (l.take k).map lastT ++ [lastT m] := by
  rw [List.take_add_one, h]; simp
theorem fn59 : FnT 59 F59 := by
  refine Fn.intro mixed bA Tryz.func59 rfl [(18, F18), (120, F120), (124, F124)] (by simp only [List.forall_mem_cons]; exact ⟨fn18, fn120, fn124, fun _ h => by cases h⟩) ?_
  intro args v hF
  unfold F59 at hF
  split at hF
  rotate_left
  · cases hF
  intro Q hV
  have hQ := bL.of hV
  rename_i p e late ms
  split at hF
  rotate_left
  · cases hF
  rename_i hb
  cases ha : bR ms with
  | none => rw [ha] at hF; cases hF
  | some l =>
  rw [ha] at hF
  cases hF
  obtain ⟨rfl, hlen, hok⟩ := bU ha
  clear ha
  dsimp only at hQ hV
  have h18 := e18 (late := late) hb hlen hok
  refine Top.view (aX.start (n := 28) rfl (by simp)) (aS bA _ _ _ _ ?_)
  cases hz : (playE p e l == 0) with
  | false =>
    have hz0 : ¬ playE p e l = 0 := by simpa using hz
    ((try simp only [aO, SS, TF59Putouts2, aM, setRange, aN, aC, aB, aF, aE, aD, aA, Nat.reduceLT, Nat.reduceEqDiff, Nat.reduceAdd, Nat.reduceMul, Nat.reduceSub, Nat.reduceLeDiff, Nat.reduceBEq, reduceCtorEq, h18, hz]); (repeat' ((first | apply aJ | apply aI | apply aL | apply aK | apply aH | apply aG) <;> intro h <;> simp only [h, SS, TF59Putouts2, aM, setRange, aN, aC, aB, aF, aE, aD, aA, Nat.reduceLT, Nat.reduceEqDiff, Nat.reduceAdd, Nat.reduceMul, Nat.reduceSub, Nat.reduceLeDiff, Nat.reduceBEq, reduceCtorEq, h18, hz])))
    (refine hQ _ _ _ (aR (by first | exact .inl rfl | exact .inr rfl) ?_); simp only [SS, TF59Putouts2, aM, setRange, aN, aC, aB, aF, aE, aD, aA, Nat.reduceLT, Nat.reduceEqDiff, Nat.reduceAdd, Nat.reduceMul, Nat.reduceSub, Nat.reduceLeDiff, Nat.reduceBEq, reduceCtorEq])
    simp only [putE, hz0, if_false]
  | true =>
    have hz0 : playE p e l = 0 := by simpa using hz
    obtain ⟨h4, hmv⟩ := movesE_zero (playE_zero hz0).2.2
    have h120 : F120 [.lsl (bF l), .func 121 []] = some (.lsl (bF (l.filter isO))) := by
      simp only [F120, F120_121, F120_122, dMoves_e hlen hok, Option.bind_some]
      rw [if_pos (by omega)]; rfl
    have hfl : (l.filter isO).length ≤ 4 := Nat.le_trans (List.length_filter_le _ _) h4
    have hfm : ∀ m ∈ l.filter isO, okMv m ∧ m.b ≠ [] := by
      intro m hm
      obtain ⟨h1, h2⟩ := List.mem_filter.1 hm
      exact ⟨hok m h1, mvE_touched (hmv m h1) h2⟩
    have hE : putE p e l = .tup [.lsl (bJ ((l.filter isO).map lastT)), .int .i64 0] := by simp only [putE, hz0, if_true, dC]
    rw [hE] at hQ
    generalize hg : l.filter isO = g at *
    ((try simp only [aO, SS, TF59Putouts2, aM, setRange, aN, aC, aB, aF, aE, aD, aA, Nat.reduceLT, Nat.reduceEqDiff, Nat.reduceAdd, Nat.reduceMul, Nat.reduceSub, Nat.reduceLeDiff, Nat.reduceBEq, reduceCtorEq, h18, hz, call121, h120, aP]); (repeat' ((first | apply aJ | apply aI | apply aL | apply aK | apply aH | apply aG) <;> intro h <;> simp only [h, SS, TF59Putouts2, aM, setRange, aN, aC, aB, aF, aE, aD, aA, Nat.reduceLT, Nat.reduceEqDiff, Nat.reduceAdd, Nat.reduceMul, Nat.reduceSub, Nat.reduceLeDiff, Nat.reduceBEq, reduceCtorEq, h18, hz, call121, h120, aP])))
    refine bH (Top.loop (I := fun s : { k : Nat // k ≤ g.length } => (mkF 28 [(17, .int .i64 (s.1 : Nat)), (16, .int .i64 (g.length : Int)), (15, .lsl (bF g)), (5, .gsl 0 (bJ ((g.take s.1).map lastT)))], mkH 1 [(0, some (.row [.str p, .str e, .bool late, .lsl (bF l)] 24 0 0 false))] 1 [(0, some (((g.take s.1).map lastT).length, 3))])) (μ := fun s => g.length - s.1) ⟨0, by omega⟩ (aX.trans (aX.grow 5 3 (by omega) (by omega) (by simp [look])) (aX.sub (by simp [look, bJ]))) ?_)
    rintro ⟨k, hk⟩
    refine aS bA _ _ _ _ ?_
    by_cases hlt : k < g.length
    rotate_left
    · obtain rfl : k = g.length := by omega
      have q1 : decide ((g.length : Int) < (g.length : Int)) = false := by simp
      rw [List.take_length]
      ((try simp only [aO, SS, TF59Putouts2, aM, setRange, aN, aC, aB, aF, aE, aD, aA, Nat.reduceLT, Nat.reduceEqDiff, Nat.reduceAdd, Nat.reduceMul, Nat.reduceSub, Nat.reduceLeDiff, Nat.reduceBEq, reduceCtorEq, q1]); (repeat' ((first | apply aJ | apply aI | apply aL | apply aK | apply aH | apply aG) <;> intro h <;> simp only [h, SS, TF59Putouts2, aM, setRange, aN, aC, aB, aF, aE, aD, aA, Nat.reduceLT, Nat.reduceEqDiff, Nat.reduceAdd, Nat.reduceMul, Nat.reduceSub, Nat.reduceLeDiff, Nat.reduceBEq, reduceCtorEq, q1])))
      (refine hQ _ _ _ (aR (by first | exact .inl rfl | exact .inr rfl) ?_); simp only [SS, TF59Putouts2, aM, setRange, aN, aC, aB, aF, aE, aD, aA, Nat.reduceLT, Nat.reduceEqDiff, Nat.reduceAdd, Nat.reduceMul, Nat.reduceSub, Nat.reduceLeDiff, Nat.reduceBEq, reduceCtorEq])
    obtain ⟨m, hx⟩ : ∃ m, g[k]? = some m := ⟨g[k], List.getElem?_eq_getElem hlt⟩
    have q1 : decide ((k : Int) < (g.length : Int)) = true := by simp; omega
    have q2 : IntKind.i64.wrap ((k : Int) + 1) = ((k + 1 : Nat) : Int) := by rw [bE] <;> omega
    have hle : ((g.take k).map lastT).length ≤ 4 := by rw [List.length_map, List.length_take]; omega
    have q3 : 8 * (((g.take k).map lastT).length + 1) ≤ 1000000 := by omega
    have htk := potF_take hx
    obtain ⟨hkm, hbm⟩ := hfm m (List.mem_of_getElem? hx)
    have h124 := e124 hkm hbm
    ((try simp only [aO, SS, TF59Putouts2, aM, setRange, aN, aC, aB, aF, aE, aD, aA, Nat.reduceLT, Nat.reduceEqDiff, Nat.reduceAdd, Nat.reduceMul, Nat.reduceSub, Nat.reduceLeDiff, Nat.reduceBEq, reduceCtorEq, q1, q2, aW, bC, hx, h124, q3, aQ, lensOK_eInts, eInts_snoc]); (repeat' ((first | apply aJ | apply aI | apply aL | apply aK | apply aH | apply aG) <;> intro h <;> simp only [h, SS, TF59Putouts2, aM, setRange, aN, aC, aB, aF, aE, aD, aA, Nat.reduceLT, Nat.reduceEqDiff, Nat.reduceAdd, Nat.reduceMul, Nat.reduceSub, Nat.reduceLeDiff, Nat.reduceBEq, reduceCtorEq, q1, q2, aW, bC, hx, h124, q3, aQ, lensOK_eInts, eInts_snoc])))
    refine ⟨⟨k + 1, hlt⟩, by simp; omega, ?_⟩
    simp only [htk, List.length_append, List.length_cons, List.length_nil, Nat.zero_add]
    exact (aX.drop (by simp [look, below, aT]) (by simp [aU, bG, below, aT, aV]) (by simp [aU]))
end Go.Ev
