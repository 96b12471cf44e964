import Derived.Test.YtcmlciebgapmjaaGreatDoorKeys3
set_option linter.unusedSimpArgs false
set_option linter.unusedVariables false
namespace Go.Ev
open Go.RowKit Go.Proofs
set_option linter.defProp false
def bQ := And.intro (And.intro (And.intro (And.intro (And.intro (And.intro (@Tryz.underlying3) (@sz3)) (And.intro (@bT) (@I3s))) (And.intro (And.intro (@I3b) (@bS)) (And.intro (@bV) (And.intro (@Tryz.underlying4) (@sz4))))) (And.intro (And.intro (And.intro (@cV) (@I4s)) (And.intro (@I4b) (And.intro (@cU) (@cW)))) (And.intro (And.intro (@Tryz.underlying9) (@sz9)) (And.intro (@cL) (And.intro (@I9s) (@I9b)))))) (And.intro (And.intro (And.intro (And.intro (@cI) (@cM)) (And.intro (@Tryz.underlying22) (@sz22))) (And.intro (And.intro (@info22) (@I22s)) (And.intro (@I22b) (And.intro (@zero22) (@grow22))))) (And.intro (And.intro (And.intro (@Tryz.underlying24) (@sz24)) (And.intro (@fok24) (And.intro (@info24) (@I24s)))) (And.intro (And.intro (@I24b) (@zero24)) (And.intro (@grow24) (And.intro (@Tryz.underlying25) (@dF))))))) (And.intro (And.intro (And.intro (And.intro (And.intro (@bZ) (@dG)) (And.intro (@dH) (@bX))) (And.intro (And.intro (@cA) (@Tryz.underlying27)) (And.intro (@dQ) (And.intro (@dB) (@cN))))) (And.intro (And.intro (And.intro (@dR) (@dS)) (And.intro (@cK) (And.intro (@cO) (@Tryz.underlying30)))) (And.intro (And.intro (@sz30) (@info30)) (And.intro (@I30s) (And.intro (@I30b) (@zero30)))))) (And.intro (And.intro (And.intro (And.intro (@grow30) (@Tryz.underlying152)) (And.intro (@sz152) (And.intro (@info152) (@I152s)))) (And.intro (And.intro (@I152b) (@zero152)) (And.intro (@grow152) (And.intro (@Tryz.underlying155) (@sz155))))) (And.intro (And.intro (And.intro (@info155) (@I155s)) (And.intro (@I155b) (And.intro (@zero155) (@grow155)))) (And.intro (And.intro (@call57) (@call124)) (And.intro (@call125) (And.intro (@call126) (@Tryz.results60)))))))
set_option maxRecDepth 20000
set_option maxHeartbeats 8000000

/-! who helped with an out -/
def helpedAt (c : Int) (l : List Mv) : EVal := match l.find? (fun m => m.f == c) with
  | some m => if m.o = true then .tup [.lsl (bJ (cZ m.b 9)), .int .i64 0] else .tup [.lsl [], .int .i64 15]
  | none => .tup [.lsl [], .int .i64 7]
def assistsE (p e : List Nat) (l : List Mv) (c : Int) : EVal := if cD [playE p e l, cR c 0 3] = 0 then helpedAt c l else .tup [.lsl [], .int .i64 (cD [playE p e l, cR c 0 3])]
def F60 : List EVal → Option EVal
  | [.agg [.str p, .str e, .bool _, ms], .int .i64 c] => if cY p = true ∧ cY e = true then (bR ms).map fun l => assistsE p e l c else none
  | _ => none
theorem fn60 : FnT 60 F60 := by
  refine Fn.intro mixed bA Tryz.func60 rfl [(57, F57), (124, F124), (205, F205), (173, F173)] (by simp only [List.forall_mem_cons]; exact ⟨fn57, fn124, fn205, fn173, fun _ h => by cases h⟩) ?_
  intro args v hF
  unfold F60 at hF
  split at hF
  rotate_left
  · cases hF
  intro Q hV
  have hQ := bL.of hV
  rename_i p e late ms c
  split at hF
  rotate_left
  · cases hF
  rename_i hb
  cases ha : bR ms with
  | none => rw [ha] at hF; cases hF
  | some l =>
  rw [ha] at hF
  cases hF
  obtain ⟨rfl, hlen, hok⟩ := bU ha
  clear ha
  dsimp only at hQ hV
  have h57 : F57 [.agg [.str p, .str e, .bool late, .lsl (bF l)], .int .i64 c] = some (moveOfE p e l c) := by
    simp only [F57, dMoves_e hlen hok, Option.map_some]; rw [if_pos hb]
  have hzz : ∃ z, cD [playE p e l, cR c 0 3] = z := ⟨_, rfl⟩
  obtain ⟨z, hz⟩ := hzz
  have hE : moveOfE p e l c = if z = 0 then moveAt c l else .tup [.agg [.int .i64 0, .int .i64 0, .bool false, .str [], .lsl []], .int .i64 z] := by unfold moveOfE; rw [hz]
  have hA : assistsE p e l c = if z = 0 then helpedAt c l else .tup [.lsl [], .int .i64 z] := by unfold assistsE; rw [hz]
  rw [hE] at h57
  refine Top.view (aX.start (n := 41) rfl (by simp)) (aS bA _ _ _ _ ?_)
  cases hc0 : (z == 0) with
  | false =>
    have hz0 : ¬ z = 0 := by simpa using hc0
    rw [if_neg hz0] at h57 hA
    rw [hA] at hQ
    ((try simp only [aO, SS, bQ, aM, setRange, aN, aC, aB, aF, aE, aD, aA, Nat.reduceLT, Nat.reduceEqDiff, Nat.reduceAdd, Nat.reduceMul, Nat.reduceSub, Nat.reduceLeDiff, Nat.reduceBEq, reduceCtorEq, h57, hc0]); (repeat' ((first | apply aJ | apply aI | apply aL | apply aK | apply aH | apply aG) <;> intro h <;> simp only [h, SS, bQ, aM, setRange, aN, aC, aB, aF, aE, aD, aA, Nat.reduceLT, Nat.reduceEqDiff, Nat.reduceAdd, Nat.reduceMul, Nat.reduceSub, Nat.reduceLeDiff, Nat.reduceBEq, reduceCtorEq, h57, hc0])))
    (refine hQ _ _ _ (aR (by first | exact .inl rfl | exact .inr rfl) ?_); simp only [SS, bQ, aM, setRange, aN, aC, aB, aF, aE, aD, aA, Nat.reduceLT, Nat.reduceEqDiff, Nat.reduceAdd, Nat.reduceMul, Nat.reduceSub, Nat.reduceLeDiff, Nat.reduceBEq, reduceCtorEq])
  | true =>
  have hz0 : z = 0 := by simpa using hc0
  rw [if_pos hz0] at h57 hA
  rw [hA] at hQ hV
  have hp0 : playE p e l = 0 := by
    apply Classical.byContradiction
    intro h
    have : cD [playE p e l, cR c 0 3] = playE p e l := by simp [cD, h]
    omega
  obtain ⟨h4, hmv⟩ := movesE_zero (playE_zero hp0).2.2
  unfold moveAt at h57
  unfold helpedAt at hQ hV
  cases hfd : l.find? (fun m => m.f == c) with
  | none =>
    rw [hfd] at h57 hQ
    have z7 : ((7 : Int) == 0) = false := by decide
    ((try simp only [aO, SS, bQ, aM, setRange, aN, aC, aB, aF, aE, aD, aA, Nat.reduceLT, Nat.reduceEqDiff, Nat.reduceAdd, Nat.reduceMul, Nat.reduceSub, Nat.reduceLeDiff, Nat.reduceBEq, reduceCtorEq, h57, z7]); (repeat' ((first | apply aJ | apply aI | apply aL | apply aK | apply aH | apply aG) <;> intro h <;> simp only [h, SS, bQ, aM, setRange, aN, aC, aB, aF, aE, aD, aA, Nat.reduceLT, Nat.reduceEqDiff, Nat.reduceAdd, Nat.reduceMul, Nat.reduceSub, Nat.reduceLeDiff, Nat.reduceBEq, reduceCtorEq, h57, z7])))
    (refine hQ _ _ _ (aR (by first | exact .inl rfl | exact .inr rfl) ?_); simp only [SS, bQ, aM, setRange, aN, aC, aB, aF, aE, aD, aA, Nat.reduceLT, Nat.reduceEqDiff, Nat.reduceAdd, Nat.reduceMul, Nat.reduceSub, Nat.reduceLeDiff, Nat.reduceBEq, reduceCtorEq])
  | some m =>
  rw [hfd] at h57 hQ hV
  dsimp only at h57 hQ hV
  have hm := List.mem_of_find?_eq_some hfd
  have hz3 := hmv m hm
  rw [bC] at h57
  have z0 : ((0 : Int) == 0) = true := by decide
  cases ho : m.o with
  | false =>
    rw [ho, if_neg (by simp)] at hQ
    rw [ho] at h57
    ((try simp only [aO, SS, bQ, aM, setRange, aN, aC, aB, aF, aE, aD, aA, Nat.reduceLT, Nat.reduceEqDiff, Nat.reduceAdd, Nat.reduceMul, Nat.reduceSub, Nat.reduceLeDiff, Nat.reduceBEq, reduceCtorEq, h57, z0]); (repeat' ((first | apply aJ | apply aI | apply aL | apply aK | apply aH | apply aG) <;> intro h <;> simp only [h, SS, bQ, aM, setRange, aN, aC, aB, aF, aE, aD, aA, Nat.reduceLT, Nat.reduceEqDiff, Nat.reduceAdd, Nat.reduceMul, Nat.reduceSub, Nat.reduceLeDiff, Nat.reduceBEq, reduceCtorEq, h57, z0])))
    (refine hQ _ _ _ (aR (by first | exact .inl rfl | exact .inr rfl) ?_); simp only [SS, bQ, aM, setRange, aN, aC, aB, aF, aE, aD, aA, Nat.reduceLT, Nat.reduceEqDiff, Nat.reduceAdd, Nat.reduceMul, Nat.reduceSub, Nat.reduceLeDiff, Nat.reduceBEq, reduceCtorEq])
  | true =>
  rw [ho, if_pos rfl] at hQ hV
  have hbn := mvE_touched hz3 ho
  have hb9 := mvE_short hz3
  have hin := mvE_in hz3
  rw [ho] at h57
  have h124 : F124 [.agg [.int .i64 m.f, .int .i64 m.t, .bool true, .str m.h, .lsl (bJ m.b)]] = some (.int .i64 (lastT m)) := by
    have := e124 (m := m) (hok m hm) hbn
    rwa [ho] at this
  have hlast : lastT m = m.b.getLastD 0 := rfl
  generalize lastT m = t at h124 hlast
  ((try simp only [aO, SS, bQ, aM, setRange, aN, aC, aB, aF, aE, aD, aA, Nat.reduceLT, Nat.reduceEqDiff, Nat.reduceAdd, Nat.reduceMul, Nat.reduceSub, Nat.reduceLeDiff, Nat.reduceBEq, reduceCtorEq, h57, z0, aQ]); (repeat' ((first | apply aJ | apply aI | apply aL | apply aK | apply aH | apply aG) <;> intro h <;> simp only [h, SS, bQ, aM, setRange, aN, aC, aB, aF, aE, aD, aA, Nat.reduceLT, Nat.reduceEqDiff, Nat.reduceAdd, Nat.reduceMul, Nat.reduceSub, Nat.reduceLeDiff, Nat.reduceBEq, reduceCtorEq, h57, z0, aQ])))
  refine bH (Top.loop (I := fun s : { j : Nat // j ≤ m.b.length } => (mkF 41 [(27, .int .i64 (s.1 : Nat)), (26, .int .i64 (m.b.length : Int)), (25, .lsl (bJ m.b)), (8, .map 2), (6, .ptr 1 0)], mkH 3 [(2, some (.map (dO 0 (keysB t (m.b.take s.1))) (keysB t (m.b.take s.1)).length)), (1, some (.row [.int .i64 m.f, .int .i64 m.t, .bool true, .str m.h, .lsl (bJ m.b)] 27 0 0 false)), (0, some (.row [.str p, .str e, .bool late, .lsl (bF l)] 24 0 0 false))] 0 [])) (μ := fun s => m.b.length - s.1) ⟨0, by omega⟩ (aX.drop (by simp [look, below, aT]) (by simp [aU, bG, below, aT, keysB, dO]) (by simp [aU])) ?_)
  rintro ⟨j, hj⟩
  refine aS bA _ _ _ _ ?_
  by_cases hjl : j < m.b.length
  rotate_left
  · obtain rfl : j = m.b.length := by omega
    have q3 : decide ((m.b.length : Int) < (m.b.length : Int)) = false := by simp
    rw [List.take_length]
    have hkl : (keysB t m.b).length ≤ 9 := Nat.le_trans (keysB_all t m.b).2.2 hb9
    ((try simp only [aO, SS, bQ, aM, setRange, aN, aC, aB, aF, aE, aD, aA, Nat.reduceLT, Nat.reduceEqDiff, Nat.reduceAdd, Nat.reduceMul, Nat.reduceSub, Nat.reduceLeDiff, Nat.reduceBEq, reduceCtorEq, ↓kcall_miss, q3]); (repeat' ((first | apply aJ | apply aI | apply aL | apply aK | apply aH | apply aG) <;> intro h <;> simp only [h, SS, bQ, aM, setRange, aN, aC, aB, aF, aE, aD, aA, Nat.reduceLT, Nat.reduceEqDiff, Nat.reduceAdd, Nat.reduceMul, Nat.reduceSub, Nat.reduceLeDiff, Nat.reduceBEq, reduceCtorEq, ↓kcall_miss, q3])))
    refine ct126 ?_
    ((try simp only [aO, SS, bQ, aM, setRange, aN, aC, aB, aF, aE, aD, aA, Nat.reduceLT, Nat.reduceEqDiff, Nat.reduceAdd, Nat.reduceMul, Nat.reduceSub, Nat.reduceLeDiff, Nat.reduceBEq, reduceCtorEq, ↓kcall_miss]); (repeat' ((first | apply aJ | apply aI | apply aL | apply aK | apply aH | apply aG) <;> intro h <;> simp only [h, SS, bQ, aM, setRange, aN, aC, aB, aF, aE, aD, aA, Nat.reduceLT, Nat.reduceEqDiff, Nat.reduceAdd, Nat.reduceMul, Nat.reduceSub, Nat.reduceLeDiff, Nat.reduceBEq, reduceCtorEq, ↓kcall_miss])))
    refine ct125 hkl (fun N => by simp [aT, below]) (fun N => by simp [aT, below]) (fun h0 => ?_) (fun c' hne hs hord => ?_)
    · ((try simp only [aO, SS, bQ, aM, setRange, aN, aC, aB, aF, aE, aD, aA, Nat.reduceLT, Nat.reduceEqDiff, Nat.reduceAdd, Nat.reduceMul, Nat.reduceSub, Nat.reduceLeDiff, Nat.reduceBEq, reduceCtorEq]); (repeat' ((first | apply aJ | apply aI | apply aL | apply aK | apply aH | apply aG) <;> intro h <;> simp only [h, SS, bQ, aM, setRange, aN, aC, aB, aF, aE, aD, aA, Nat.reduceLT, Nat.reduceEqDiff, Nat.reduceAdd, Nat.reduceMul, Nat.reduceSub, Nat.reduceLeDiff, Nat.reduceBEq, reduceCtorEq])))
      have : cZ m.b 9 = [] := by
        have hs : Same (keysB (m.b.getLastD 0) m.b) [] := by rw [← hlast, h0]; exact Same.refl _
        exact (sorted_help hin hs (fun a b _ hb => by cases hb)).symm
      rw [this] at hQ
      have hi : bJ [] = [] := rfl
      rw [hi] at hQ
      (refine hQ _ _ _ (aR (by first | exact .inl rfl | exact .inr rfl) ?_); simp only [SS, bQ, aM, setRange, aN, aC, aB, aF, aE, aD, aA, Nat.reduceLT, Nat.reduceEqDiff, Nat.reduceAdd, Nat.reduceMul, Nat.reduceSub, Nat.reduceLeDiff, Nat.reduceBEq, reduceCtorEq])
    · ((try simp only [aO, SS, bQ, aM, setRange, aN, aC, aB, aF, aE, aD, aA, Nat.reduceLT, Nat.reduceEqDiff, Nat.reduceAdd, Nat.reduceMul, Nat.reduceSub, Nat.reduceLeDiff, Nat.reduceBEq, reduceCtorEq]); (repeat' ((first | apply aJ | apply aI | apply aL | apply aK | apply aH | apply aG) <;> intro h <;> simp only [h, SS, bQ, aM, setRange, aN, aC, aB, aF, aE, aD, aA, Nat.reduceLT, Nat.reduceEqDiff, Nat.reduceAdd, Nat.reduceMul, Nat.reduceSub, Nat.reduceLeDiff, Nat.reduceBEq, reduceCtorEq])))
      have hc' : c' = cZ m.b 9 := by
        rw [hlast] at hs
        exact sorted_help hin hs hord
      have hcc : cX 1 c'.length (bY c') = bJ (cZ m.b 9) := by rw [chunk_eRow, hc']
      refine hV _ _ _ ⟨_, _, aX.freeze (sz := 1) (fl2 := [(5, .int .i64 0)]) (len := c'.length) (cap := .slack 0) (cells := bY c') (e := 3) (lo := 0) (hi := 0) (sl := true) 4 4 (by omega) (by omega) (by simp [look]) (by simp [aU]) rfl (keepL_eRow c') (by rw [eRow_length]; simp) (by simp [look, keepV, keep1]), aR (.inl rfl) ?_⟩
      rw [hcc]
      simp only [SS, bQ, aM, setRange, aN, aC, aB, aF, aE, aD, aA, Nat.reduceLT, Nat.reduceEqDiff, Nat.reduceAdd, Nat.reduceMul, Nat.reduceSub, Nat.reduceLeDiff, Nat.reduceBEq, reduceCtorEq]
  obtain ⟨x, hxb⟩ : ∃ x, m.b[j]? = some x := ⟨m.b[j], List.getElem?_eq_getElem hjl⟩
  have q3 : decide ((j : Int) < (m.b.length : Int)) = true := by simp; omega
  have q4 : IntKind.i64.wrap ((j : Int) + 1) = ((j + 1 : Nat) : Int) := by rw [bE] <;> omega
  have hkt := keysB_take (z := t) hxb
  have hup := updE_mapE (l := keysB t (m.b.take j)) (t := 0) (x := x)
  have hap := mapE_append (l := keysB t (m.b.take j)) (t := 0) (x := x)
  rw [Nat.zero_add] at hap
  generalize keysB t (m.b.take j) = ks at hkt hup hap ⊢
  cases hxt : (x == t) with
  | true =>
    rw [hxt, if_pos rfl] at hkt
    ((try simp only [aO, SS, bQ, aM, setRange, aN, aC, aB, aF, aE, aD, aA, Nat.reduceLT, Nat.reduceEqDiff, Nat.reduceAdd, Nat.reduceMul, Nat.reduceSub, Nat.reduceLeDiff, Nat.reduceBEq, reduceCtorEq, q3, q4, aZ, hxb, h124, hxt, bne]); (repeat' ((first | apply aJ | apply aI | apply aL | apply aK | apply aH | apply aG) <;> intro h <;> simp only [h, SS, bQ, aM, setRange, aN, aC, aB, aF, aE, aD, aA, Nat.reduceLT, Nat.reduceEqDiff, Nat.reduceAdd, Nat.reduceMul, Nat.reduceSub, Nat.reduceLeDiff, Nat.reduceBEq, reduceCtorEq, q3, q4, aZ, hxb, h124, hxt, bne])))
    refine ⟨⟨j + 1, hjl⟩, by simp; omega, ?_⟩
    simp only [hkt]
    exact (aX.dropD (ds := []) (r := none) (by intro q h; cases h) (by simp) (by simp) (by simp [look, below]) (by simp [aU, okO_mapE, okO_row, aT, below]) (by simp))
  | false =>
    rw [hxt, if_neg (by simp)] at hkt
    cases hany : ks.any (· == x) with
    | true =>
      have hins : insK ks x = ks := by unfold insK; rw [if_pos hany]
      rw [hins] at hkt
      rw [hany, if_pos rfl] at hup
      ((try simp only [aO, SS, bQ, aM, setRange, aN, aC, aB, aF, aE, aD, aA, Nat.reduceLT, Nat.reduceEqDiff, Nat.reduceAdd, Nat.reduceMul, Nat.reduceSub, Nat.reduceLeDiff, Nat.reduceBEq, reduceCtorEq, q3, q4, aZ, hxb, h124, hxt, bne, eUpdateOp, eUpdate, keyFits, hup, eUpdate']); (repeat' ((first | apply aJ | apply aI | apply aL | apply aK | apply aH | apply aG) <;> intro h <;> simp only [h, SS, bQ, aM, setRange, aN, aC, aB, aF, aE, aD, aA, Nat.reduceLT, Nat.reduceEqDiff, Nat.reduceAdd, Nat.reduceMul, Nat.reduceSub, Nat.reduceLeDiff, Nat.reduceBEq, reduceCtorEq, q3, q4, aZ, hxb, h124, hxt, bne, eUpdateOp, eUpdate, keyFits, hup, eUpdate'])))
      refine ⟨⟨j + 1, hjl⟩, by simp; omega, ?_⟩
      simp only [hkt]
      exact (aX.dropD (ds := []) (r := none) (by intro q h; cases h) (by simp) (by simp) (by simp [look, below]) (by simp [aU, okO_mapE, okO_row, aT, below]) (by simp))
    | false =>
      have hins : insK ks x = ks ++ [x] := by unfold insK; rw [if_neg (by rw [hany]; simp)]
      rw [hins] at hkt
      rw [hany, if_neg (by simp)] at hup
      have hl1 : ks.length + 1 = (ks ++ [x]).length := by simp
      ((try simp only [aO, SS, bQ, aM, setRange, aN, aC, aB, aF, aE, aD, aA, Nat.reduceLT, Nat.reduceEqDiff, Nat.reduceAdd, Nat.reduceMul, Nat.reduceSub, Nat.reduceLeDiff, Nat.reduceBEq, reduceCtorEq, q3, q4, aZ, hxb, h124, hxt, bne, eUpdateOp, eUpdate, keyFits, hup, eUpdate', hap, hl1]); (repeat' ((first | apply aJ | apply aI | apply aL | apply aK | apply aH | apply aG) <;> intro h <;> simp only [h, SS, bQ, aM, setRange, aN, aC, aB, aF, aE, aD, aA, Nat.reduceLT, Nat.reduceEqDiff, Nat.reduceAdd, Nat.reduceMul, Nat.reduceSub, Nat.reduceLeDiff, Nat.reduceBEq, reduceCtorEq, q3, q4, aZ, hxb, h124, hxt, bne, eUpdateOp, eUpdate, keyFits, hup, eUpdate', hap, hl1])))
      refine ⟨⟨j + 1, hjl⟩, by simp; omega, ?_⟩
      simp only [hkt]
      exact (aX.dropD (ds := []) (r := none) (by intro q h; cases h) (by simp) (by simp) (by simp [look, below]) (by simp [aU, okO_mapE, okO_row, aT, below]) (by simp))
end Go.Ev
