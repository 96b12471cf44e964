import Derived.Test.YtcmlciebgapmjaaGreatDoorPutouts
set_option linter.unusedSimpArgs false
set_option linter.unusedVariables false
namespace Go.Ev
open Go.RowKit Go.Proofs
set_option linter.defProp false
def TF59Putouts2 := And.intro (And.intro (And.intro (And.intro (And.intro (And.intro (@Tryz.underlying3) (@sz3)) (And.intro (@bS) (@I3s))) (And.intro (And.intro (@I3b) (@bR)) (And.intro (@bU) (@Tryz.underlying4)))) (And.intro (And.intro (And.intro (@sz4) (@cW)) (And.intro (@I4s) (@I4b))) (And.intro (And.intro (@cU) (@cX)) (And.intro (@Tryz.underlying9) (And.intro (@sz9) (@cK)))))) (And.intro (And.intro (And.intro (And.intro (@I9s) (@I9b)) (And.intro (@cH) (@cL))) (And.intro (And.intro (@Tryz.underlying22) (@sz22)) (And.intro (@info22) (And.intro (@I22s) (@I22b))))) (And.intro (And.intro (And.intro (@zero22) (@grow22)) (And.intro (@Tryz.underlying24) (@sz24))) (And.intro (And.intro (@fok24) (@info24)) (And.intro (@I24s) (And.intro (@I24b) (@zero24))))))) (And.intro (And.intro (And.intro (And.intro (And.intro (@grow24) (@Tryz.underlying25)) (And.intro (@dD) (@bY))) (And.intro (And.intro (@dE) (@dF)) (And.intro (@bW) (@bZ)))) (And.intro (And.intro (And.intro (@Tryz.underlying27) (@dM)) (And.intro (@dA) (@cM))) (And.intro (And.intro (@dN) (@dO)) (And.intro (@cJ) (And.intro (@cN) (@Tryz.underlying30)))))) (And.intro (And.intro (And.intro (And.intro (@sz30) (@info30)) (And.intro (@I30s) (@I30b))) (And.intro (And.intro (@zero30) (@grow30)) (And.intro (@Tryz.underlying123) (And.intro (@sz123) (@info123))))) (And.intro (And.intro (And.intro (@I123s) (@I123b)) (And.intro (@zero123) (@grow123))) (And.intro (And.intro (@call18) (@call120)) (And.intro (@call121) (And.intro (@call124) (@Tryz.results59)))))))
def TF124Putouts2 := And.intro (And.intro (And.intro (And.intro (And.intro (@Tryz.underlying3) (@sz3)) (And.intro (@bS) (@I3s))) (And.intro (And.intro (@I3b) (@bR)) (And.intro (@bU) (And.intro (@Tryz.underlying4) (@sz4))))) (And.intro (And.intro (And.intro (@cW) (@I4s)) (And.intro (@I4b) (@cU))) (And.intro (And.intro (@cX) (@Tryz.underlying9)) (And.intro (@sz9) (And.intro (@cK) (@I9s)))))) (And.intro (And.intro (And.intro (And.intro (@I9b) (@cH)) (And.intro (@cL) (@Tryz.underlying25))) (And.intro (And.intro (@dD) (@bY)) (And.intro (@dE) (And.intro (@dF) (@bW))))) (And.intro (And.intro (And.intro (@bZ) (@Tryz.underlying27)) (And.intro (@dM) (And.intro (@dA) (@cM)))) (And.intro (And.intro (@dN) (@dO)) (And.intro (@cJ) (And.intro (@cN) (@Tryz.results124))))))
set_option maxRecDepth 20000
set_option maxHeartbeats 8000000

/-! the last who touched; putouts -/
def F124 : List EVal → Option EVal
  | [.agg [.int .i64 _, .int .i64 _, .bool _, .str _, x]] => (dG x).bind fun b => if b ≠ [] then some (.int .i64 (b.getLastD 0)) else none
  | _ => none
theorem e124 {m : Mv} (hk : okMv m) (hb : m.b ≠ []) : F124 [.agg [.int .i64 m.f, .int .i64 m.t, .bool m.o, .str m.h, .lsl (bJ m.b)]] = some (.int .i64 (lastT m)) := by
  simp only [F124, dInts_e hk, Option.bind_some]; rw [if_pos hb]; rfl
theorem fn124 : FnT 124 F124 := by
  refine Fn.intro mixed bA Tryz.func124 rfl [] (fun _ h => by cases h) ?_
  intro args v hF
  unfold F124 at hF
  split at hF
  rotate_left
  · cases hF
  intro Q hV
  have hQ := bL.of hV
  rename_i f t o h x
  cases ha : dG x with
  | none => rw [ha] at hF; cases hF
  | some b =>
  rw [ha] at hF
  simp only [Option.bind_some] at hF
  split at hF
  rotate_left
  · cases hF
  rename_i hb
  cases hF
  obtain ⟨rfl, hlen⟩ := dInts_inv ha
  clear ha
  have hbl : 0 < b.length := List.length_pos_iff.2 hb
  have q4 : IntKind.i64.wrap ((b.length : Int) - 1) = ((b.length - 1 : Nat) : Int) := by rw [bG] <;> omega
  obtain ⟨z, hz⟩ : ∃ z, z = b.getLastD 0 := ⟨_, rfl⟩
  have hlg : b[b.length - 1]? = some z := by rw [hz]; exact last_get hb
  rw [← hz] at hQ
  refine Top.view (aY.start (n := 11) rfl (by simp)) (aS bA _ _ _ _ ?_)
  ((try simp only [aO, SS, TF124Putouts2, aM, setRange, aN, aC, aB, aF, aE, aD, aA, Nat.reduceLT, Nat.reduceEqDiff, Nat.reduceAdd, Nat.reduceMul, Nat.reduceSub, Nat.reduceLeDiff, Nat.reduceBEq, reduceCtorEq, aR, q4, aZ, hlg]); (repeat' ((first | apply aJ | apply aI | apply aL | apply aK | apply aH | apply aG) <;> intro h <;> simp only [h, SS, TF124Putouts2, aM, setRange, aN, aC, aB, aF, aE, aD, aA, Nat.reduceLT, Nat.reduceEqDiff, Nat.reduceAdd, Nat.reduceMul, Nat.reduceSub, Nat.reduceLeDiff, Nat.reduceBEq, reduceCtorEq, aR, q4, aZ, hlg])))
  (refine hQ _ _ _ (aQ (by first | exact .inl rfl | exact .inr rfl) ?_); simp only [SS, TF124Putouts2, aM, setRange, aN, aC, aB, aF, aE, aD, aA, Nat.reduceLT, Nat.reduceEqDiff, Nat.reduceAdd, Nat.reduceMul, Nat.reduceSub, Nat.reduceLeDiff, Nat.reduceBEq, reduceCtorEq])

theorem mvE_touched {m : Mv} (h : mvE m = 0) (ho : m.o = true) : m.b ≠ [] := by
  intro hb
  have h1 : touchE m.o m.b = 16 := by unfold touchE; rw [if_pos (.inr ⟨ho, by rw [hb]; rfl⟩)]
  unfold mvE moveE at h
  simp only [h1, cA] at h
  repeat' split at h
  all_goals simp_all
def putE (p e : List Nat) (l : List Mv) : EVal := if playE p e l = 0 then .tup [.lsl (bJ (potL l)), .int .i64 0] else .tup [.lsl [], .int .i64 (playE p e l)]
def F59 : List EVal → Option EVal
  | [.agg [.str p, .str e, .bool _, ms]] => if cZ p = true ∧ cZ e = true then (bT ms).map fun l => putE p e l else none
  | _ => none
theorem potF_take {l : List Mv} {k : Nat} {m : Mv} (h : l[k]? = some m) : (l.take (k + 1)).map lastT = (l.take k).map lastT ++ [lastT m] := by
  rw [List.take_add_one, h]; simp
theorem fn59 : FnT 59 F59 := by
  refine Fn.intro mixed bA Tryz.func59 rfl [(18, F18), (120, F120), (124, F124)] (by simp only [List.forall_mem_cons]; exact ⟨fn18, fn120, fn124, fun _ h => by cases h⟩) ?_
  intro args v hF
  unfold F59 at hF
  split at hF
  rotate_left
  · cases hF
  intro Q hV
  have hQ := bL.of hV
  rename_i p e late ms
  split at hF
  rotate_left
  · cases hF
  rename_i hb
  cases ha : bT ms with
  | none => rw [ha] at hF; cases hF
  | some l =>
  rw [ha] at hF
  cases hF
  obtain ⟨rfl, hlen, hok⟩ := bV ha
  clear ha
  dsimp only at hQ hV
  have h18 := e18 (late := late) hb hlen hok
  refine Top.view (aY.start (n := 28) rfl (by simp)) (aS bA _ _ _ _ ?_)
  cases hz : (playE p e l == 0) with
  | false =>
    have hz0 : ¬ playE p e l = 0 := by simpa using hz
    ((try simp only [aO, SS, TF59Putouts2, aM, setRange, aN, aC, aB, aF, aE, aD, aA, Nat.reduceLT, Nat.reduceEqDiff, Nat.reduceAdd, Nat.reduceMul, Nat.reduceSub, Nat.reduceLeDiff, Nat.reduceBEq, reduceCtorEq, h18, hz]); (repeat' ((first | apply aJ | apply aI | apply aL | apply aK | apply aH | apply aG) <;> intro h <;> simp only [h, SS, TF59Putouts2, aM, setRange, aN, aC, aB, aF, aE, aD, aA, Nat.reduceLT, Nat.reduceEqDiff, Nat.reduceAdd, Nat.reduceMul, Nat.reduceSub, Nat.reduceLeDiff, Nat.reduceBEq, reduceCtorEq, h18, hz])))
    (refine hQ _ _ _ (aQ (by first | exact .inl rfl | exact .inr rfl) ?_); simp only [SS, TF59Putouts2, aM, setRange, aN, aC, aB, aF, aE, aD, aA, Nat.reduceLT, Nat.reduceEqDiff, Nat.reduceAdd, Nat.reduceMul, Nat.reduceSub, Nat.reduceLeDiff, Nat.reduceBEq, reduceCtorEq])
    simp only [putE, hz0, if_false]
  | true =>
    have hz0 : playE p e l = 0 := by simpa using hz
    obtain ⟨h4, hmv⟩ := movesE_zero (playE_zero hz0).2.2
    have h120 : F120 [.lsl (bE l), .func 121 []] = some (.lsl (bE (l.filter isO))) := by
      simp only [F120, F120_121, F120_122, dMoves_e hlen hok, Option.bind_some]
      rw [if_pos (by omega)]; rfl
    have hfl : (l.filter isO).length ≤ 4 := Nat.le_trans (List.length_filter_le _ _) h4
    have hfm : ∀ m ∈ l.filter isO, okMv m ∧ m.b ≠ [] := by
      intro m hm
      obtain ⟨h1, h2⟩ := List.mem_filter.1 hm
      exact ⟨hok m h1, mvE_touched (hmv m h1) h2⟩
    have hE : putE p e l = .tup [.lsl (bJ ((l.filter isO).map lastT)), .int .i64 0] := by simp only [putE, hz0, if_true, potL]
    rw [hE] at hQ
    generalize hg : l.filter isO = g at *
    ((try simp only [aO, SS, TF59Putouts2, aM, setRange, aN, aC, aB, aF, aE, aD, aA, Nat.reduceLT, Nat.reduceEqDiff, Nat.reduceAdd, Nat.reduceMul, Nat.reduceSub, Nat.reduceLeDiff, Nat.reduceBEq, reduceCtorEq, h18, hz, call121, h120, aP]); (repeat' ((first | apply aJ | apply aI | apply aL | apply aK | apply aH | apply aG) <;> intro h <;> simp only [h, SS, TF59Putouts2, aM, setRange, aN, aC, aB, aF, aE, aD, aA, Nat.reduceLT, Nat.reduceEqDiff, Nat.reduceAdd, Nat.reduceMul, Nat.reduceSub, Nat.reduceLeDiff, Nat.reduceBEq, reduceCtorEq, h18, hz, call121, h120, aP])))
    refine bH (Top.loop (I := fun s : { k : Nat // k ≤ g.length } => (mkF 28 [(17, .int .i64 (s.1 : Nat)), (16, .int .i64 (g.length : Int)), (15, .lsl (bE g)), (5, .gsl 0 (bJ ((g.take s.1).map lastT)))], mkH 1 [(0, some (.row [.str p, .str e, .bool late, .lsl (bE l)] 24 0 0 false))] 1 [(0, some (((g.take s.1).map lastT).length, 3))])) (μ := fun s => g.length - s.1) ⟨0, by omega⟩ (aY.trans (aY.grow 5 3 (by omega) (by omega) (by simp [look])) (aY.sub (by simp [look, bJ]))) ?_)
    rintro ⟨k, hk⟩
    refine aS bA _ _ _ _ ?_
    by_cases hlt : k < g.length
    rotate_left
    · obtain rfl : k = g.length := by omega
      have q1 : decide ((g.length : Int) < (g.length : Int)) = false := by simp
      rw [List.take_length]
      ((try simp only [aO, SS, TF59Putouts2, aM, setRange, aN, aC, aB, aF, aE, aD, aA, Nat.reduceLT, Nat.reduceEqDiff, Nat.reduceAdd, Nat.reduceMul, Nat.reduceSub, Nat.reduceLeDiff, Nat.reduceBEq, reduceCtorEq, q1]); (repeat' ((first | apply aJ | apply aI | apply aL | apply aK | apply aH | apply aG) <;> intro h <;> simp only [h, SS, TF59Putouts2, aM, setRange, aN, aC, aB, aF, aE, aD, aA, Nat.reduceLT, Nat.reduceEqDiff, Nat.reduceAdd, Nat.reduceMul, Nat.reduceSub, Nat.reduceLeDiff, Nat.reduceBEq, reduceCtorEq, q1])))
      (refine hQ _ _ _ (aQ (by first | exact .inl rfl | exact .inr rfl) ?_); simp only [SS, TF59Putouts2, aM, setRange, aN, aC, aB, aF, aE, aD, aA, Nat.reduceLT, Nat.reduceEqDiff, Nat.reduceAdd, Nat.reduceMul, Nat.reduceSub, Nat.reduceLeDiff, Nat.reduceBEq, reduceCtorEq])
    obtain ⟨m, hx⟩ : ∃ m, g[k]? = some m := ⟨g[k], List.getElem?_eq_getElem hlt⟩
    have q1 : decide ((k : Int) < (g.length : Int)) = true := by simp; omega
    have q2 : IntKind.i64.wrap ((k : Int) + 1) = ((k + 1 : Nat) : Int) := by rw [bG] <;> omega
    have hle : ((g.take k).map lastT).length ≤ 4 := by rw [List.length_map, List.length_take]; omega
    have q3 : 8 * (((g.take k).map lastT).length + 1) ≤ 1000000 := by omega
    have htk := potF_take hx
    obtain ⟨hkm, hbm⟩ := hfm m (List.mem_of_getElem? hx)
    have h124 := e124 hkm hbm
    ((try simp only [aO, SS, TF59Putouts2, aM, setRange, aN, aC, aB, aF, aE, aD, aA, Nat.reduceLT, Nat.reduceEqDiff, Nat.reduceAdd, Nat.reduceMul, Nat.reduceSub, Nat.reduceLeDiff, Nat.reduceBEq, reduceCtorEq, q1, q2, aV, bB, hx, h124, q3, aR, lensOK_eInts, eInts_snoc]); (repeat' ((first | apply aJ | apply aI | apply aL | apply aK | apply aH | apply aG) <;> intro h <;> simp only [h, SS, TF59Putouts2, aM, setRange, aN, aC, aB, aF, aE, aD, aA, Nat.reduceLT, Nat.reduceEqDiff, Nat.reduceAdd, Nat.reduceMul, Nat.reduceSub, Nat.reduceLeDiff, Nat.reduceBEq, reduceCtorEq, q1, q2, aV, bB, hx, h124, q3, aR, lensOK_eInts, eInts_snoc])))
    refine ⟨⟨k + 1, hlt⟩, by simp; omega, ?_⟩
    simp only [htk, List.length_append, List.length_cons, List.length_nil, Nat.zero_add]
    exact (aY.drop (by simp [look, below, aT]) (by simp [aU, bI, below, aT, aX]) (by simp [aU]))
end Go.Ev
