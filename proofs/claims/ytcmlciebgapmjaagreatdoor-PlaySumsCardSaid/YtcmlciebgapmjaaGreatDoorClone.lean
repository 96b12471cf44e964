import Derived.Test.YtcmlciebgapmjaaGreatDoorRef2
import Derived.Test.YtcmlciebgapmjaaGreatDoorSame
import Derived.Test.YtcmlciebgapmjaaGreatDoorDraw
import Derived.Test.YtcmlciebgapmjaaGreatDoorMoveOf
set_option linter.unusedSimpArgs false
set_option linter.unusedVariables false
namespace Go.Ev
open Go.RowKit Go.Proofs
set_option linter.defProp false
def TF57Clone := And.intro (And.intro (And.intro (And.intro (And.intro (And.intro (@Tryz.underlying3) (@sz3)) (And.intro (@bT) (@I3s))) (And.intro (And.intro (@I3b) (@bS)) (And.intro (@bV) (@Tryz.underlying4)))) (And.intro (And.intro (And.intro (@sz4) (@cV)) (And.intro (@I4s) (@I4b))) (And.intro (And.intro (@cU) (@cW)) (And.intro (@Tryz.underlying9) (And.intro (@sz9) (@cL)))))) (And.intro (And.intro (And.intro (And.intro (@I9s) (@I9b)) (And.intro (@cI) (@cM))) (And.intro (And.intro (@Tryz.underlying22) (@sz22)) (And.intro (@info22) (And.intro (@I22s) (@I22b))))) (And.intro (And.intro (And.intro (@zero22) (@grow22)) (And.intro (@Tryz.underlying24) (@sz24))) (And.intro (And.intro (@fok24) (@info24)) (And.intro (@I24s) (And.intro (@I24b) (@zero24))))))) (And.intro (And.intro (And.intro (And.intro (And.intro (@grow24) (@Tryz.underlying25)) (And.intro (@dF) (@bZ))) (And.intro (And.intro (@dG) (@dH)) (And.intro (@bX) (@cA)))) (And.intro (And.intro (And.intro (@Tryz.underlying27) (@dQ)) (And.intro (@dB) (@cN))) (And.intro (And.intro (@dR) (@dS)) (And.intro (@cK) (And.intro (@cO) (@Tryz.underlying30)))))) (And.intro (And.intro (And.intro (And.intro (@sz30) (@info30)) (And.intro (@I30s) (@I30b))) (And.intro (And.intro (@zero30) (@grow30)) (And.intro (@Tryz.underlying158) (And.intro (@sz158) (@info158))))) (And.intro (And.intro (And.intro (@I158s) (@I158b)) (And.intro (@zero158) (@grow158))) (And.intro (And.intro (@call18) (@call79)) (And.intro (@call86) (And.intro (@call123) (@Tryz.results57)))))))
def TF123Clone := And.intro (And.intro (And.intro (@Tryz.underlying3) (And.intro (@sz3) (@bT))) (And.intro (And.intro (@I3s) (@I3b)) (And.intro (@bS) (@bV)))) (And.intro (And.intro (And.intro (@Tryz.underlying25) (@dF)) (And.intro (@bZ) (@dG))) (And.intro (And.intro (@dH) (@bX)) (And.intro (@cA) (@Tryz.results123))))
set_option maxRecDepth 20000
set_option maxHeartbeats 8000000

/-! a list of integers, copied -/
def F123 : List EVal → Option EVal
  | [x] => (dK x).bind fun b => if b.length ≤ 1000 then some (.lsl (bJ b)) else none
  | _ => none
theorem e123 {b : List Int} (h : b.length ≤ 1000) : F123 [.lsl (bJ b)] = some (.lsl (bJ b)) := by
  simp only [F123, dInts_e (l := b) (by omega), Option.bind_some]; rw [if_pos h]
theorem fn123 : FnT 123 F123 := by
  refine Fn.intro mixed bA Tryz.func123 rfl [] (fun _ h => by cases h) ?_
  intro args v hF
  unfold F123 at hF
  split at hF
  rotate_left
  · cases hF
  intro Q hV
  have hQ := bL.of hV
  rename_i x
  cases ha : dK x with
  | none => rw [ha] at hF; cases hF
  | some b =>
  rw [ha] at hF
  simp only [Option.bind_some] at hF
  split at hF
  rotate_left
  · cases hF
  rename_i h1000
  cases hF
  obtain ⟨rfl, hlen⟩ := dInts_inv ha
  clear ha
  refine Top.view (aX.start (n := 8) rfl (by simp)) (aS bA _ _ _ _ ?_)
  match b, h1000, hlen, hQ, hV with
  | [], _, _, hQ, hV =>
    have hi : bJ [] = [] := rfl
    rw [hi] at hQ hV ⊢
    ((try simp only [aO, SS, TF123Clone, aM, setRange, aN, aC, aB, aF, aE, aD, aA, Nat.reduceLT, Nat.reduceEqDiff, Nat.reduceAdd, Nat.reduceMul, Nat.reduceSub, Nat.reduceLeDiff, Nat.reduceBEq, reduceCtorEq, eOther, eqX, eqNilS, ndEq_yes Tryz.underlying25]); (repeat' ((first | apply aJ | apply aI | apply aL | apply aK | apply aH | apply aG) <;> intro h <;> simp only [h, SS, TF123Clone, aM, setRange, aN, aC, aB, aF, aE, aD, aA, Nat.reduceLT, Nat.reduceEqDiff, Nat.reduceAdd, Nat.reduceMul, Nat.reduceSub, Nat.reduceLeDiff, Nat.reduceBEq, reduceCtorEq, eOther, eqX, eqNilS, ndEq_yes Tryz.underlying25])))
    intro q
    cases q with
    | true =>
      ((try simp only [aO, SS, TF123Clone, aM, setRange, aN, aC, aB, aF, aE, aD, aA, Nat.reduceLT, Nat.reduceEqDiff, Nat.reduceAdd, Nat.reduceMul, Nat.reduceSub, Nat.reduceLeDiff, Nat.reduceBEq, reduceCtorEq]); (repeat' ((first | apply aJ | apply aI | apply aL | apply aK | apply aH | apply aG) <;> intro h <;> simp only [h, SS, TF123Clone, aM, setRange, aN, aC, aB, aF, aE, aD, aA, Nat.reduceLT, Nat.reduceEqDiff, Nat.reduceAdd, Nat.reduceMul, Nat.reduceSub, Nat.reduceLeDiff, Nat.reduceBEq, reduceCtorEq])))
      (refine hQ _ _ _ (aR (by first | exact .inl rfl | exact .inr rfl) ?_); simp only [SS, TF123Clone, aM, setRange, aN, aC, aB, aF, aE, aD, aA, Nat.reduceLT, Nat.reduceEqDiff, Nat.reduceAdd, Nat.reduceMul, Nat.reduceSub, Nat.reduceLeDiff, Nat.reduceBEq, reduceCtorEq])
    | false =>
      ((try simp only [aO, SS, TF123Clone, aM, setRange, aN, aC, aB, aF, aE, aD, aA, Nat.reduceLT, Nat.reduceEqDiff, Nat.reduceAdd, Nat.reduceMul, Nat.reduceSub, Nat.reduceLeDiff, Nat.reduceBEq, reduceCtorEq, lensOK, List.all_nil]); (repeat' ((first | apply aJ | apply aI | apply aL | apply aK | apply aH | apply aG) <;> intro h <;> simp only [h, SS, TF123Clone, aM, setRange, aN, aC, aB, aF, aE, aD, aA, Nat.reduceLT, Nat.reduceEqDiff, Nat.reduceAdd, Nat.reduceMul, Nat.reduceSub, Nat.reduceLeDiff, Nat.reduceBEq, reduceCtorEq, lensOK, List.all_nil])))
      refine hV _ _ _ ⟨_, _, aX.freeze (sz := 1) (fl2 := []) (len := 0) (cap := .exact 0) (cells := []) (e := 3) (lo := 0) (hi := 0) (sl := false) 2 0 (by omega) (by omega) (by simp [look]) (by simp [aU]) rfl rfl rfl (by simp), aR (.inl rfl) ?_⟩
      simp only [SS, TF123Clone, aM, setRange, aN, aC, aB, aF, aE, aD, aA, Nat.reduceLT, Nat.reduceEqDiff, Nat.reduceAdd, Nat.reduceMul, Nat.reduceSub, Nat.reduceLeDiff, Nat.reduceBEq, reduceCtorEq]
  | x :: b, h1000, hlen, hQ, hV =>
    have hi : bJ (x :: b) = [.int .i64 x] :: bJ b := rfl
    have hl : (bJ (x :: b)).length = b.length + 1 := by rw [aQ]; rfl
    have hf : (bJ (x :: b)).flatten = bY (x :: b) := eInts_flatten _
    have hlens : lensOK 1 (bJ (x :: b)) = true := lensOK_eInts _
    have q4 : (b.length + 1 ≤ 0) = False := by simp
    have q5 : 8 * (b.length + 1) ≤ 1000000 := by simp only [List.length_cons] at h1000; omega
    have hq : eqNilS (.lsl (bJ (x :: b))) .nilslice = some false := rfl
    ((try simp only [aO, SS, TF123Clone, aM, setRange, aN, aC, aB, aF, aE, aD, aA, Nat.reduceLT, Nat.reduceEqDiff, Nat.reduceAdd, Nat.reduceMul, Nat.reduceSub, Nat.reduceLeDiff, Nat.reduceBEq, reduceCtorEq, eOther, eqX, hq, hl, hf, hlens, q4, q5]); (repeat' ((first | apply aJ | apply aI | apply aL | apply aK | apply aH | apply aG) <;> intro h <;> simp only [h, SS, TF123Clone, aM, setRange, aN, aC, aB, aF, aE, aD, aA, Nat.reduceLT, Nat.reduceEqDiff, Nat.reduceAdd, Nat.reduceMul, Nat.reduceSub, Nat.reduceLeDiff, Nat.reduceBEq, reduceCtorEq, eOther, eqX, hq, hl, hf, hlens, q4, q5])))
    refine hV _ _ _ ⟨_, _, aX.freeze (sz := 1) (fl2 := []) (len := b.length + 1) (cap := .slack 0) (cells := bY (x :: b)) (e := 3) (lo := 0) (hi := 0) (sl := true) 2 1 (by omega) (by omega) (by simp [look]) (by simp [aU]) rfl (keepL_eRow _) (by rw [eRow_length]; simp) (by simp), aR (.inl rfl) ?_⟩
    have hc : cX 1 (b.length + 1) (bY (x :: b)) = bJ (x :: b) := by
      have := chunk_eRow (x :: b)
      simpa only [List.length_cons] using this
    rw [hc]
    simp only [SS, TF123Clone, aM, setRange, aN, aC, aB, aF, aE, aD, aA, Nat.reduceLT, Nat.reduceEqDiff, Nat.reduceAdd, Nat.reduceMul, Nat.reduceSub, Nat.reduceLeDiff, Nat.reduceBEq, reduceCtorEq]

/-! the move of a runner -/
def moveAt (c : Int) (l : List Mv) : EVal := match l.find? (fun m => m.f == c) with
  | some m => .tup [.agg (eMove m), .int .i64 0]
  | none => .tup [.agg [.int .i64 0, .int .i64 0, .bool false, .str [], .lsl []], .int .i64 7]
def moveOfE (p e : List Nat) (l : List Mv) (c : Int) : EVal := if cD [playE p e l, cR c 0 3] = 0 then moveAt c l else .tup [.agg [.int .i64 0, .int .i64 0, .bool false, .str [], .lsl []], .int .i64 (cD [playE p e l, cR c 0 3])]
theorem find_hit {c : Int} {l : List Mv} {k : Nat} {m : Mv} (h : l[k]? = some m) (hn : ∀ x ∈ l.take k, (x.f == c) = false) (hm : (m.f == c) = true) : l.find? (fun m => m.f == c) = some m := by
  obtain ⟨hk, rfl⟩ := List.getElem?_eq_some_iff.1 h
  rw [List.find?_eq_some_iff_getElem]
  refine ⟨hm, k, hk, rfl, fun j hj => ?_⟩
  have h1 := hn (l[j]'(by omega)) (by rw [List.mem_take_iff_getElem]; exact ⟨j, by omega, rfl⟩)
  simp [h1]
theorem find_miss {c : Int} {l : List Mv} (hn : ∀ x ∈ l.take l.length, (x.f == c) = false) : l.find? (fun m => m.f == c) = none := by
  rw [List.take_length] at hn
  rw [List.find?_eq_none]
  intro x hx; simp [hn x hx]
def F57 : List EVal → Option EVal
  | [.agg [.str p, .str e, .bool _, ms], .int .i64 c] => if cY p = true ∧ cY e = true then (bR ms).map fun l => moveOfE p e l c else none
  | _ => none
theorem mvE_short {m : Mv} (h : mvE m = 0) : m.b.length ≤ 9 := by
  apply Classical.byContradiction
  intro hb
  have h1 : touchE m.o m.b = 16 := by unfold touchE; rw [if_pos (.inl (by omega))]
  unfold mvE moveE at h
  simp only [h1, cD] at h
  repeat' split at h
  all_goals simp_all
theorem fn57 : FnT 57 F57 := by
  refine Fn.intro mixed bA Tryz.func57 rfl [(18, F18), (79, F79), (86, F86), (123, F123)] (by simp only [List.forall_mem_cons]; exact ⟨fn18, fn79, fn86, fn123, fun _ h => by cases h⟩) ?_
  intro args v hF
  unfold F57 at hF
  split at hF
  rotate_left
  · cases hF
  intro Q hV
  have hQ := bL.of hV
  rename_i p e late ms c
  split at hF
  rotate_left
  · cases hF
  rename_i hb
  cases ha : bR ms with
  | none => rw [ha] at hF; cases hF
  | some l =>
  rw [ha] at hF
  cases hF
  obtain ⟨rfl, hlen, hok⟩ := bU ha
  clear ha
  dsimp only at hQ hV
  have h18 := e18 (late := late) hb hlen hok
  generalize hz1 : playE p e l = z1 at h18
  have hzz : ∃ z, cD [z1, cR c 0 3] = z := ⟨_, rfl⟩
  obtain ⟨z, hz⟩ := hzz
  have hE : moveOfE p e l c = if z = 0 then moveAt c l else .tup [.agg [.int .i64 0, .int .i64 0, .bool false, .str [], .lsl []], .int .i64 z] := by unfold moveOfE; rw [hz1, hz]
  rw [hE] at hQ
  refine Top.view (aX.start (n := 37) rfl (by simp)) (aS bA _ _ _ _ ?_)
  cases hc0 : (z == 0) with
  | false =>
    have hz0 : ¬ z = 0 := by simpa using hc0
    rw [if_neg hz0] at hQ
    ((try simp only [aO, SS, TF57Clone, aM, setRange, aN, aC, aB, aF, aE, aD, aA, Nat.reduceLT, Nat.reduceEqDiff, Nat.reduceAdd, Nat.reduceMul, Nat.reduceSub, Nat.reduceLeDiff, Nat.reduceBEq, reduceCtorEq, h18, e86, e79two, hz, hc0]); (repeat' ((first | apply aJ | apply aI | apply aL | apply aK | apply aH | apply aG) <;> intro h <;> simp only [h, SS, TF57Clone, aM, setRange, aN, aC, aB, aF, aE, aD, aA, Nat.reduceLT, Nat.reduceEqDiff, Nat.reduceAdd, Nat.reduceMul, Nat.reduceSub, Nat.reduceLeDiff, Nat.reduceBEq, reduceCtorEq, h18, e86, e79two, hz, hc0])))
    (refine hQ _ _ _ (aR (by first | exact .inl rfl | exact .inr rfl) ?_); simp only [SS, TF57Clone, aM, setRange, aN, aC, aB, aF, aE, aD, aA, Nat.reduceLT, Nat.reduceEqDiff, Nat.reduceAdd, Nat.reduceMul, Nat.reduceSub, Nat.reduceLeDiff, Nat.reduceBEq, reduceCtorEq])
  | true =>
  have hz0 : z = 0 := by simpa using hc0
  rw [if_pos hz0] at hQ
  have hp0 : playE p e l = 0 := by
    rw [hz1]
    apply Classical.byContradiction
    intro h
    have : cD [z1, cR c 0 3] = z1 := by simp [cD, h]
    omega
  obtain ⟨h4, hmv⟩ := movesE_zero (playE_zero hp0).2.2
  ((try simp only [aO, SS, TF57Clone, aM, setRange, aN, aC, aB, aF, aE, aD, aA, Nat.reduceLT, Nat.reduceEqDiff, Nat.reduceAdd, Nat.reduceMul, Nat.reduceSub, Nat.reduceLeDiff, Nat.reduceBEq, reduceCtorEq, h18, e86, e79two, hz, hc0, aP]); (repeat' ((first | apply aJ | apply aI | apply aL | apply aK | apply aH | apply aG) <;> intro h <;> simp only [h, SS, TF57Clone, aM, setRange, aN, aC, aB, aF, aE, aD, aA, Nat.reduceLT, Nat.reduceEqDiff, Nat.reduceAdd, Nat.reduceMul, Nat.reduceSub, Nat.reduceLeDiff, Nat.reduceBEq, reduceCtorEq, h18, e86, e79two, hz, hc0, aP])))
  refine bH (Top.loop (I := fun s : { k : Nat // k ≤ l.length ∧ ∀ x ∈ l.take k, (x.f == c) = false } => (mkF 37 [(22, .int .i64 (s.1 : Nat)), (21, .int .i64 (l.length : Int)), (20, .lsl (bF l)), (1, .int .i64 c), (4, .ptr 1 0)], mkH 2 [(1, some (.row [.int .i64 0, .int .i64 0, .bool false, .str [], .nilslice] 27 0 0 false)), (0, some (.row [.str p, .str e, .bool late, .lsl (bF l)] 24 0 0 false))] 0 [])) (μ := fun s => l.length - s.1) ⟨0, by simp, by simp⟩ (aX.drop (by simp [look, below, aT]) (by simp [aU, bG, below, aT, aV]) (by simp [aU])) ?_)
  rintro ⟨k, hk, hf⟩
  refine aS bA _ _ _ _ ?_
  by_cases hlt : k < l.length
  rotate_left
  · obtain rfl : k = l.length := by omega
    have q1 : decide ((l.length : Int) < (l.length : Int)) = false := by simp
    have hm : moveAt c l = .tup [.agg [.int .i64 0, .int .i64 0, .bool false, .str [], .lsl []], .int .i64 7] := by unfold moveAt; rw [find_miss hf]
    rw [hm] at hQ
    ((try simp only [aO, SS, TF57Clone, aM, setRange, aN, aC, aB, aF, aE, aD, aA, Nat.reduceLT, Nat.reduceEqDiff, Nat.reduceAdd, Nat.reduceMul, Nat.reduceSub, Nat.reduceLeDiff, Nat.reduceBEq, reduceCtorEq, q1]); (repeat' ((first | apply aJ | apply aI | apply aL | apply aK | apply aH | apply aG) <;> intro h <;> simp only [h, SS, TF57Clone, aM, setRange, aN, aC, aB, aF, aE, aD, aA, Nat.reduceLT, Nat.reduceEqDiff, Nat.reduceAdd, Nat.reduceMul, Nat.reduceSub, Nat.reduceLeDiff, Nat.reduceBEq, reduceCtorEq, q1])))
    (refine hQ _ _ _ (aR (by first | exact .inl rfl | exact .inr rfl) ?_); simp only [SS, TF57Clone, aM, setRange, aN, aC, aB, aF, aE, aD, aA, Nat.reduceLT, Nat.reduceEqDiff, Nat.reduceAdd, Nat.reduceMul, Nat.reduceSub, Nat.reduceLeDiff, Nat.reduceBEq, reduceCtorEq])
  obtain ⟨m, hx⟩ : ∃ m, l[k]? = some m := ⟨l[k], List.getElem?_eq_getElem hlt⟩
  have q1 : decide ((k : Int) < (l.length : Int)) = true := by simp; omega
  have q2 : IntKind.i64.wrap ((k : Int) + 1) = ((k + 1 : Nat) : Int) := by rw [bE] <;> omega
  have hb9 := mvE_short (hmv m (List.mem_of_getElem? hx))
  have h123 := e123 (b := m.b) (by omega)
  cases hc : (m.f == c) with
  | true =>
    have hm : moveAt c l = .tup [.agg (eMove m), .int .i64 0] := by unfold moveAt; rw [find_hit hx hf hc]
    rw [hm, bC] at hQ
    ((try simp only [aO, SS, TF57Clone, aM, setRange, aN, aC, aB, aF, aE, aD, aA, Nat.reduceLT, Nat.reduceEqDiff, Nat.reduceAdd, Nat.reduceMul, Nat.reduceSub, Nat.reduceLeDiff, Nat.reduceBEq, reduceCtorEq, q1, q2, aW, bC, hx, hc, h123]); (repeat' ((first | apply aJ | apply aI | apply aL | apply aK | apply aH | apply aG) <;> intro h <;> simp only [h, SS, TF57Clone, aM, setRange, aN, aC, aB, aF, aE, aD, aA, Nat.reduceLT, Nat.reduceEqDiff, Nat.reduceAdd, Nat.reduceMul, Nat.reduceSub, Nat.reduceLeDiff, Nat.reduceBEq, reduceCtorEq, q1, q2, aW, bC, hx, hc, h123])))
    (refine hQ _ _ _ (aR (by first | exact .inl rfl | exact .inr rfl) ?_); simp only [SS, TF57Clone, aM, setRange, aN, aC, aB, aF, aE, aD, aA, Nat.reduceLT, Nat.reduceEqDiff, Nat.reduceAdd, Nat.reduceMul, Nat.reduceSub, Nat.reduceLeDiff, Nat.reduceBEq, reduceCtorEq])
  | false =>
    ((try simp only [aO, SS, TF57Clone, aM, setRange, aN, aC, aB, aF, aE, aD, aA, Nat.reduceLT, Nat.reduceEqDiff, Nat.reduceAdd, Nat.reduceMul, Nat.reduceSub, Nat.reduceLeDiff, Nat.reduceBEq, reduceCtorEq, q1, q2, aW, bC, hx, hc]); (repeat' ((first | apply aJ | apply aI | apply aL | apply aK | apply aH | apply aG) <;> intro h <;> simp only [h, SS, TF57Clone, aM, setRange, aN, aC, aB, aF, aE, aD, aA, Nat.reduceLT, Nat.reduceEqDiff, Nat.reduceAdd, Nat.reduceMul, Nat.reduceSub, Nat.reduceLeDiff, Nat.reduceBEq, reduceCtorEq, q1, q2, aW, bC, hx, hc])))
    exact ⟨⟨k + 1, hlt, mvIx_step hx hf hc⟩, by simp; omega, (aX.drop (by simp [look, below, aT]) (by simp [aU, bG, below, aT, aV]) (by simp [aU]))⟩
end Go.Ev
