import Derived.Test.YtdhnjbgggkdiiaaGreatDoorRdMove
set_option linter.unusedSimpArgs false
set_option linter.unusedVariables false
namespace Go.Ev
open Go.RowKit Go.Proofs
set_option linter.defProp false
def aK := And.intro (And.intro (And.intro (And.intro (And.intro (@Tryz.underlying3) (@sz3)) (And.intro (@bN) (And.intro (@I3s) (@I3b)))) (And.intro (And.intro (@bL) (And.intro (@bO) (@Tryz.underlying4))) (And.intro (@sz4) (And.intro (@dC) (@I4s))))) (And.intro (And.intro (And.intro (@I4b) (@cY)) (And.intro (@dD) (And.intro (@Tryz.underlying5) (@sz5)))) (And.intro (And.intro (@dK) (And.intro (@I5s) (@I5b))) (And.intro (@dG) (And.intro (@dL) (@Tryz.underlying9)))))) (And.intro (And.intro (And.intro (And.intro (@sz9) (@bI)) (And.intro (@I9s) (And.intro (@I9b) (@bH)))) (And.intro (And.intro (@bJ) (And.intro (@Tryz.underlying25) (@eB))) (And.intro (@cE) (And.intro (@eC) (@eD))))) (And.intro (And.intro (And.intro (@cC) (And.intro (@cF) (@Tryz.underlying27))) (And.intro (@eE) (And.intro (@dF) (@cJ)))) (And.intro (And.intro (@eF) (And.intro (@eG) (@cH))) (And.intro (@cK) (And.intro (@call97) (@Tryz.results102))))))
set_option maxRecDepth 20000
set_option maxHeartbeats 8000000

/-! a move's word, by the reference -/
def mv00 : Mv := ⟨0, 0, false, [], []⟩
def F102 : List EVal → Option EVal
  | [.str w] => if aM w = true ∧ w.length ≤ 5000 then some (.tup [.agg (dR (if mvW w = true then eL w else mv00)), .bool (mvW w)]) else none
  | _ => none
theorem wrapD {x : Nat} (h : 48 ≤ x ∧ x ≤ 57) : IntKind.u8.wrap ((x : Int) - 48) = bT x ∧ IntKind.i64.wrap (bT x) = bT x := by
  have : ∀ x : Nat, x < 10 → IntKind.u8.wrap (((x + 48 : Nat) : Int) - 48) = bT (x + 48) ∧ IntKind.i64.wrap (bT (x + 48)) = bT (x + 48) := by decide
  have := this (x - 48) (by omega)
  rwa [show x - 48 + 48 = x by omega] at this
theorem e97n {x : Nat} : F97 [.int .u8 (x : Int)] = some (.bool (dQ x)) := rfl
theorem fn102 : FnT 102 F102 := by
  refine Fn.intro mixed aI Tryz.func102 rfl [(97, F97)] (by simp only [List.forall_mem_cons]; exact ⟨fn97, fun _ h => by cases h⟩) ?_
  intro args v hF
  unfold F102 at hF
  split at hF
  rotate_left
  · cases hF
  intro Q hV
  have hQ := aS.of hV
  rename_i w
  split at hF
  rotate_left
  · cases hF
  rename_i hc
  obtain ⟨hby, hlen⟩ := hc
  cases hF
  refine Top.view (aH.mode (n := 0) (m := 0) (l := []) (k := []) 128 (by omega)) ?_
  refine Top.view (aH.start (n := 94) rfl (by simp)) (aD aI _ _ _ _ ?_)
  have bad : mvW w = false → EVal.tup [.agg (dR (if mvW w = true then eL w else mv00)), .bool (mvW w)] = .tup [.agg [.int .i64 0, .int .i64 0, .bool false, .str [], .lsl []], .bool false] := by
    intro h; rw [h]; rfl
  by_cases h4 : w.length < 4
  · have hz : mvW w = false := by
      match w, h4 with
      | [], _ => rfl
      | [_], _ => rfl
      | [_, _], _ => rfl
      | [_, _, _], _ => rfl
      | _ :: _ :: _ :: _ :: _, h => simp at h; omega
    have q1 : decide ((w.length : Int) < 4) = true := by simp; omega
    (try simp only [aG, SS, aK, setRange, aA, aO, Nat.reduceLT, Nat.reduceEqDiff, Nat.reduceAdd, reduceCtorEq, q1])
    (refine hQ _ _ _ (aC (by first | exact .inl rfl | exact .inr rfl) ?_); simp only [SS, aK, Nat.reduceLT, Nat.reduceEqDiff, Nat.reduceAdd, reduceCtorEq])
    rw [bad hz]
  obtain ⟨a, b, c, d, r, rfl⟩ : ∃ a b c d r, w = a :: b :: c :: d :: r := by
    match w, h4 with
    | a :: b :: c :: d :: r, _ => exact ⟨a, b, c, d, r, rfl⟩
    | [], h => simp at h
    | [_], h => simp at h
    | [_, _], h => simp at h
    | [_, _, _], h => simp at h
  simp only [aM, List.all_cons, Bool.and_eq_true, decide_eq_true_eq] at hby
  obtain ⟨ba, bb, bc, bd, br⟩ := hby
  have q1 : decide (((r.length + 1 + 1 + 1 + 1 : Nat) : Int) < 4) = false := by simp; omega
  have q45 : ((b : Int) == 45) = (b == 45) := by rw [Bool.eq_iff_iff, beq_iff_eq, beq_iff_eq]; omega
  have q120 : ((b : Int) == 120) = (b == 120) := by rw [Bool.eq_iff_iff, beq_iff_eq, beq_iff_eq]; omega
  cases ga : dQ a with
  | false =>
    (try simp only [aG, SS, aK, aF, setRange, aA, aO, Nat.reduceLT, Nat.reduceEqDiff, Nat.reduceAdd, reduceCtorEq, q1, e97n, ga])
    (refine hQ _ _ _ (aC (by first | exact .inl rfl | exact .inr rfl) ?_); simp only [SS, aK, Nat.reduceLT, Nat.reduceEqDiff, Nat.reduceAdd, reduceCtorEq])
    rw [bad (by simp only [mvW, ga, Bool.false_and, Bool.and_false])]
  | true =>
  cases gb : ((b == 45) || (b == 120)) with
  | false =>
    simp only [Bool.or_eq_false_iff] at gb
    (try simp only [aG, SS, aK, aF, setRange, aA, aO, Nat.reduceLT, Nat.reduceEqDiff, Nat.reduceAdd, reduceCtorEq, q1, Int.reduceLE, Int.reduceToNat, e97n, ga, q45, q120, gb.1, gb.2])
    (refine hQ _ _ _ (aC (by first | exact .inl rfl | exact .inr rfl) ?_); simp only [SS, aK, Nat.reduceLT, Nat.reduceEqDiff, Nat.reduceAdd, reduceCtorEq])
    rw [bad (by simp only [mvW, gb.1, gb.2, Bool.or_self, Bool.false_and])]
  | true =>
  cases hb1 : (b == 45) with
  | true =>
    cases gc : dQ c with
    | false =>
      (try simp only [aG, SS, aK, aF, setRange, aA, aO, Nat.reduceLT, Nat.reduceEqDiff, Nat.reduceAdd, reduceCtorEq, q1, Int.reduceLE, Int.reduceToNat, e97n, ga, q45, hb1, gc])
      (refine hQ _ _ _ (aC (by first | exact .inl rfl | exact .inr rfl) ?_); simp only [SS, aK, Nat.reduceLT, Nat.reduceEqDiff, Nat.reduceAdd, reduceCtorEq])
      rw [bad (by simp only [mvW, gc, Bool.false_and, Bool.and_false])]
    | true =>
    cases gd1 : decide ((d : Int) < 97) with
    | true =>
      have gd : eJ d = false := by simp only [decide_eq_true_eq] at gd1; simp [eJ, lowerB]; omega
      (try simp only [aG, SS, aK, aF, setRange, aA, aO, Nat.reduceLT, Nat.reduceEqDiff, Nat.reduceAdd, reduceCtorEq, q1, Int.reduceLE, Int.reduceToNat, e97n, ga, q45, hb1, gc, gd1])
      (refine hQ _ _ _ (aC (by first | exact .inl rfl | exact .inr rfl) ?_); simp only [SS, aK, Nat.reduceLT, Nat.reduceEqDiff, Nat.reduceAdd, reduceCtorEq])
      rw [bad (by simp only [mvW, gd, Bool.and_false, Bool.false_and])]
    | false =>
    cases gd2 : decide ((122 : Int) < (d : Int)) with
    | true =>
      have gd : eJ d = false := by simp only [decide_eq_true_eq] at gd2; simp [eJ, lowerB]; omega
      (try simp only [aG, SS, aK, aF, setRange, aA, aO, Nat.reduceLT, Nat.reduceEqDiff, Nat.reduceAdd, reduceCtorEq, q1, Int.reduceLE, Int.reduceToNat, e97n, ga, q45, hb1, gc, gd1, gd2])
      (refine hQ _ _ _ (aC (by first | exact .inl rfl | exact .inr rfl) ?_); simp only [SS, aK, Nat.reduceLT, Nat.reduceEqDiff, Nat.reduceAdd, reduceCtorEq])
      rw [bad (by simp only [mvW, gd, Bool.and_false, Bool.false_and])]
    | false =>
    have gd : eJ d = true := by simp only [decide_eq_false_iff_not] at gd1 gd2; simp [eJ, lowerB]; omega
    have hgood : ((b == 45) || (b == 120)) = true := gb
    have da : 48 ≤ a ∧ a ≤ 57 := by simp [dQ, digitB] at ga; omega
    have dc : 48 ≤ c ∧ c ≤ 57 := by simp [dQ, digitB] at gc; omega
    obtain ⟨wa1, wa2⟩ := wrapD da
    obtain ⟨wc1, wc2⟩ := wrapD dc
    have l34 : ((3 : Int) ≤ ((4 : Nat) : Int)) = True := by decide
    match r, br with
    | [e], br =>
      have n2 : ((5 : Int) == 5) = true := by decide
      have n3 : ((5 : Nat) : Int) = 5 := rfl
      have n4 : decide ((5 : Int) < 4) = false := by decide
      (try simp only [aG, SS, aK, aF, setRange, aA, aO, Nat.reduceLT, Nat.reduceEqDiff, Nat.reduceAdd, reduceCtorEq, Int.reduceLE, Int.reduceToNat, e97n, ga, q45, hb1, gc, gd1, gd2, n3, n4])
      (refine hQ _ _ _ (aC (by first | exact .inl rfl | exact .inr rfl) ?_); simp only [SS, aK, Nat.reduceLT, Nat.reduceEqDiff, Nat.reduceAdd, reduceCtorEq])
      rw [bad (by simp [mvW, cS])]
    | [], br =>
      have hm : mvW [a, b, c, d] = true := by simp only [mvW, ga, gc, gd, hgood, Bool.and_self, decide_true, Bool.true_or]
      have hE : EVal.tup [.agg (dR (if mvW [a, b, c, d] = true then eL [a, b, c, d] else mv00)), .bool (mvW [a, b, c, d])] = .tup [.agg [.int .i64 (bT a), .int .i64 (bT c), .bool (b == 120), .str [d], .lsl []], .bool true] := by rw [hm]; rfl
      have n2 : ((4 : Int) == 5) = false := by decide
      have n3 : ((4 : Nat) : Int) = 4 := rfl
      have n4 : decide ((4 : Int) < 4) = false := by decide
      have n5 : decide ((5 : Int) < 4) = false := by decide
      have l4 : ((4 : Int) ≤ ((4 : Nat) : Int)) = True := by decide
      have l44 : ((4 : Int) ≤ 4) = True := by decide
      (try simp only [aG, SS, aK, aF, aA, Nat.reduceLT, Nat.reduceEqDiff, Nat.reduceAdd, reduceCtorEq, Int.reduceLE, Int.reduceToNat, e97n, ga, q45, hb1, gc, gd1, gd2, n2, n3, n4, n5])
      refine aX (Top.draw mixed aI (by kernel_rfl) ?_)
      (try simp only [SS, aK, setRange, aA, aL, aQ, aO, Nat.reduceLT, Nat.reduceEqDiff, Nat.reduceAdd, reduceCtorEq, Int.reduceLE, Int.reduceToNat, q120, wa1, wa2, wc1, wc2, l44, n3])
      refine ⟨by kernel_rfl, ?_⟩
      (try simp only [aG, SS, aK, aF, setRange, bQ, aA, aL, bB, aQ, aO, aE, Nat.reduceLT, Nat.reduceEqDiff, Nat.reduceAdd, Nat.reduceMul, Nat.reduceSub, Nat.reduceLeDiff, Nat.reduceBEq, reduceCtorEq])
      refine aU (Top.loop (I := fun _ : Unit => (mkF 94 [(5, .int .i64 5), (4, .ptr 1 0), (2, .ptr 0 0), (0, .str [a, b, c, d]), (3, .bool false)], mkH 2 [(1, some (.row [.int .i64 (bT a), .int .i64 (bT c), .bool (b == 120), .str [d], .nilslice] 27 0 0 false)), (0, some (.row [.int .i64 0, .int .i64 0, .bool false, .str [], .nilslice] 27 0 0 false))] 128 [])) (μ := fun _ => 0) () (aH.drop (by simp [look, below]) (by simp [aB, bG, below, bV]) (by simp [aB])) ?_)
      intro _
      refine aD aI _ _ _ _ ?_
      (try simp only [SS, aK, setRange, aA, Nat.reduceLT, Nat.reduceEqDiff, Nat.reduceAdd, reduceCtorEq, n3, n5])
      (refine hQ _ _ _ (aC (by first | exact .inl rfl | exact .inr rfl) ?_); simp only [SS, aK, Nat.reduceLT, Nat.reduceEqDiff, Nat.reduceAdd, reduceCtorEq])
      exact hE.symm
    | e :: f :: r3, br =>
      have m0 : decide (((r3.length + 1 + 1 + 1 + 1 + 1 + 1 : Nat) : Int) < 4) = false := by simp; omega
      have m2 : (((r3.length + 1 + 1 + 1 + 1 + 1 + 1 : Nat) : Int) == 5) = false := by rw [beq_eq_false_iff_ne]; omega
      have m5 : decide ((5 : Int) < ((r3.length + 1 + 1 + 1 + 1 + 1 + 1 : Nat) : Int)) = true := by simp; omega
      have l4 : ((4 : Int) ≤ ((r3.length + 1 + 1 + 1 + 1 + 1 + 1 : Nat) : Int)) = True := by simp only [eq_iff_iff, iff_true]; omega
      have q58 : ((e : Int) == 58) = (e == 58) := by rw [Bool.eq_iff_iff, beq_iff_eq, beq_iff_eq]; omega
      cases ge : (e == 58) with
      | false =>
        (try simp only [aG, SS, aK, aF, setRange, aA, aO, Nat.reduceLT, Nat.reduceEqDiff, Nat.reduceAdd, reduceCtorEq, Int.reduceLE, Int.reduceToNat, e97n, ga, q45, hb1, gc, gd1, gd2, m0, m2, m5, q58, ge])
        (refine hQ _ _ _ (aC (by first | exact .inl rfl | exact .inr rfl) ?_); simp only [SS, aK, Nat.reduceLT, Nat.reduceEqDiff, Nat.reduceAdd, reduceCtorEq])
        rw [bad (by simp [mvW, ge])]
      | true =>
      obtain ⟨r2, hr2⟩ : ∃ r2, r2 = f :: r3 := ⟨_, rfl⟩
      have hr2l : r2.length = r3.length + 1 := by rw [hr2]; rfl
      have hbb : ∀ x ∈ r2, x < 256 := by
        simp only [List.all_cons, Bool.and_eq_true, decide_eq_true_eq, List.all_eq_true] at br
        rw [hr2]
        intro x hx
        rcases List.mem_cons.1 hx with rfl | hx
        · exact br.2.1
        · exact br.2.2 x hx
      have hgo : r2.all dQ = true → EVal.tup [.agg (dR (if mvW (a :: b :: c :: d :: e :: f :: r3) = true then eL (a :: b :: c :: d :: e :: f :: r3) else mv00)), .bool (mvW (a :: b :: c :: d :: e :: f :: r3))] = .tup [.agg [.int .i64 (bT a), .int .i64 (bT c), .bool (b == 120), .str [d], .lsl (bU (r2.map bT))], .bool true] := by
        intro h
        have hm : mvW (a :: b :: c :: d :: e :: f :: r3) = true := by
          rw [hr2] at h
          simp only [mvW, ga, gc, gd, hgood, ge, cS, h, reduceCtorEq, decide_false, Bool.false_or, ne_eq, not_false_eq_true, decide_true, Bool.and_true]
        rw [hm, hr2]; rfl
      have hba : r2.all dQ = false → mvW (a :: b :: c :: d :: e :: f :: r3) = false := by
        intro h
        rw [hr2] at h
        simp only [mvW, cS, h, Bool.false_and, Bool.and_false, reduceCtorEq, decide_false, Bool.or_false]
      have hWk : ∀ k, (a :: b :: c :: d :: e :: f :: r3)[5 + k]? = r2[k]? := by
        intro k
        rw [show 5 + k = k + 1 + 1 + 1 + 1 + 1 by omega, hr2]
        simp only [List.getElem?_cons_succ]
      (try simp only [aG, SS, aK, aF, aA, Nat.reduceLT, Nat.reduceEqDiff, reduceCtorEq, Int.reduceLE, Int.reduceToNat, e97n, ga, q45, hb1, gc, gd1, gd2, m0, m2, m5, q58, ge])
      refine aX (Top.draw mixed aI (by kernel_rfl) ?_)
      (try simp only [SS, aK, setRange, aA, aL, aQ, aO, Nat.reduceLT, Nat.reduceEqDiff, Nat.reduceAdd, reduceCtorEq, Int.reduceLE, Int.reduceToNat, q120, wa1, wa2, wc1, wc2, l34, l4])
      refine ⟨by kernel_rfl, ?_⟩
      (try simp only [aG, SS, aK, aF, setRange, bQ, aA, aL, bB, aQ, aO, aE, Nat.reduceLT, Nat.reduceEqDiff, Nat.reduceAdd, Nat.reduceMul, Nat.reduceSub, Nat.reduceLeDiff, Nat.reduceBEq, reduceCtorEq])
      simp only [List.length_cons] at hlen
      refine aU (Top.loop (I := fun s : { x : Nat × EVal × Nat × List (Nat × Option EObj) // x.1 ≤ r2.length ∧ x.2.2.1 ≤ 2 + x.1 ∧ 2 ≤ x.2.2.1 ∧ (r2.take x.1).all dQ = true ∧ IL 2 x.2.1 ((r2.take x.1).map bT) x.2.2.1 x.2.2.2 ∧ aB x.2.2.2 1 = some (.row [.int .i64 (bT a), .int .i64 (bT c), .bool (b == 120), .str [d], x.2.1] 27 0 0 false) ∧ aB x.2.2.2 0 = some (.row [.int .i64 0, .int .i64 0, .bool false, .str [], .nilslice] 27 0 0 false) } => (mkF 94 [(5, .int .i64 ((5 + s.1.1 : Nat) : Int)), (4, .ptr 1 0), (2, .ptr 0 0), (0, .str (a :: b :: c :: d :: e :: f :: r3)), (3, .bool false)], mkH s.1.2.2.1 s.1.2.2.2 128 [])) (μ := fun s => r2.length - s.1.1) ⟨(0, .nilslice, 2, _), by simp, by simp, by simp, by simp, .inl ⟨rfl, rfl⟩, rfl, rfl⟩ (aH.sub (by simp [look])) ?_)
      rintro ⟨⟨k, v, N, l⟩, hk, hN, hN2, hdg, I1, A1, A0⟩
      dsimp only at hk hN hN2 hdg I1 A1 A0
      refine aD aI _ _ _ _ ?_
      dsimp only
      by_cases hlt : k < r2.length
      · obtain ⟨x, hx⟩ : ∃ x, r2[k]? = some x := ⟨r2[k], List.getElem?_eq_getElem hlt⟩
        have hWx := hWk k
        rw [hx] at hWx
        have p1 : decide (((5 + k : Nat) : Int) < ((r3.length + 1 + 1 + 1 + 1 + 1 + 1 : Nat) : Int)) = true := by simp only [decide_eq_true_eq]; omega
        have p2 : IntKind.i64.wrap (((5 + k : Nat) : Int) + 1) = ((5 + (k + 1) : Nat) : Int) := by rw [aR] <;> omega
        cases hxd : dQ x with
        | false =>
          have hall : r2.all dQ = false := by
            rw [List.all_eq_false]
            exact ⟨x, List.mem_of_getElem? hx, by rw [hxd]; simp⟩
          (try simp only [SS, aK, aF, setRange, aA, aO, Nat.reduceLT, Nat.reduceEqDiff, Nat.reduceAdd, reduceCtorEq, p1, hWx, e97n, hxd, A0])
          (refine hQ _ _ _ (aC (by first | exact .inl rfl | exact .inr rfl) ?_); simp only [SS, aK, Nat.reduceLT, Nat.reduceEqDiff, Nat.reduceAdd, reduceCtorEq])
          rw [bad (hba hall)]
        | true =>
        have hx9 : 48 ≤ x ∧ x ≤ 57 := by simp [dQ, digitB] at hxd; omega
        obtain ⟨wx1, wx2⟩ := wrapD hx9
        obtain ⟨v2, l2, hap, I2, S2⟩ := eAppend_IL (x := bT x) (m := 128) (kk := []) I1 hN2 (by omega) (by simp; omega)
        have B1 : aB l2 1 = some (.row [.int .i64 (bT a), .int .i64 (bT c), .bool (b == 120), .str [d], v] 27 0 0 false) := by rw [S2 1 (by omega)]; exact A1
        have B0 : aB l2 0 = some (.row [.int .i64 0, .int .i64 0, .bool false, .str [], .nilslice] 27 0 0 false) := by rw [S2 0 (by omega)]; exact A0
        obtain ⟨o1, o2, o3⟩ := IL_one I2
        (try simp only [SS, aK, aF, aA, Nat.reduceLT, Nat.reduceEqDiff, reduceCtorEq, p1, hWx, e97n, hxd])
        refine aX (Top.draw mixed aI (by kernel_rfl) ?_)
        (try simp only [SS, aK, setRange, bQ, aA, aL, aE, Nat.reduceLT, Nat.reduceEqDiff, Nat.reduceAdd, Nat.reduceLeDiff, reduceCtorEq, ↓hap, A1, B1, hWx, wx1, wx2, o1, o3])
        refine ⟨by kernel_rfl, ?_⟩
        (try simp only [p2])
        refine ⟨⟨(k + 1, v2, N + 1, (1, some (.row [.int .i64 (bT a), .int .i64 (bT c), .bool (b == 120), .str [d], v2] 27 0 0 false)) :: l2), hlt, by show N + 1 ≤ 2 + (k + 1); omega, by show 2 ≤ N + 1; omega, ?_, ?_, ?_, ?_⟩, by simp; omega, aH.sub (by simp [look])⟩
        · show (r2.take (k + 1)).all dQ = true
          rw [List.take_add_one, hx, List.all_append, hdg]; simp [hxd]
        · have e : (r2.take (k + 1)).map bT = (r2.take k).map bT ++ [bT x] := by rw [List.take_add_one, hx, List.map_append]; rfl
          show IL 2 v2 ((r2.take (k + 1)).map bT) (N + 1) _
          rw [e]
          rcases I2 with h | ⟨id, h1, h2, h3, h4⟩
          · exact .inl h
          · exact .inr ⟨id, h1, h2, h3, by rw [aB.eq_2, if_neg (by omega)]; exact h4⟩
        · simp [aB]
        · show aB ((1, _) :: l2) 0 = _
          rw [aB.eq_2, if_neg (by omega)]; exact B0
      have hkl : k = r2.length := by omega
      rw [hkl, List.take_length] at I1 hdg
      have p1 : decide (((5 + k : Nat) : Int) < ((r3.length + 1 + 1 + 1 + 1 + 1 + 1 : Nat) : Int)) = false := by simp only [decide_eq_false_iff_not]; omega
      rw [hgo hdg] at hQ hV
      obtain ⟨o1, o2, o3⟩ := IL_one I1
      (try simp only [SS, aK, setRange, aA, Nat.reduceLT, Nat.reduceEqDiff, Nat.reduceAdd, reduceCtorEq, p1, A1, A0, o3])
      rcases I1 with ⟨rfl, hn⟩ | ⟨id, h1, h2, rfl, h4⟩
      · (refine hQ _ _ _ (aC (by first | exact .inl rfl | exact .inr rfl) ?_); simp only [SS, aK, Nat.reduceLT, Nat.reduceEqDiff, Nat.reduceAdd, reduceCtorEq])
        have : r2.map bT = [] := hn
        rw [this]; rfl
      · have hid0 : id < 16000 := by omega
        refine hV _ _ _ ⟨_, _, aH.fz (sz := 1) (len := (r2.map bT).length) (fl2 := [(2, .ptr 0 0), (3, .bool true)]) (l2 := [(0, some (.row [.int .i64 (bT a), .int .i64 (bT c), .bool (b == 120), .str [d], .lsl (cP 1 (r2.map bT).length (eRow (r2.map bT)))] 27 0 0 false))]) (k2 := []) id hid0 (by rw [aB.eq_2, if_neg (by omega)]; exact h4) (keepL_eRow _) (by simp [eRow_length]) ?_ ?_ (by simp), aC (.inl rfl) ?_⟩
        · simp [look, fzR]
        · intro p hp
          rw [List.mem_singleton] at hp
          subst hp
          refine ⟨by simp, by show 0 ≠ id; omega, _, rfl, .inr ⟨[.int .i64 (bT a), .int .i64 (bT c), .bool (b == 120), .str [d], .slice id 0 (r2.map bT).length (.slack 0)], _, _, _, _, _, by simp [aB], rfl, ?_⟩⟩
          exact ⟨.inl rfl, .inl rfl, .inl rfl, .inl rfl, .inr ⟨.slack 0, rfl, rfl, rfl⟩, trivial⟩
        · rw [chunk_eRow]
          simp only [SS, aK, Nat.reduceLT, Nat.reduceEqDiff, Nat.reduceAdd]
  | false =>
    have hb2 : (b == 120) = true := by rw [hb1] at gb; simpa using gb
    cases gc : dQ c with
    | false =>
      (try simp only [aG, SS, aK, aF, setRange, aA, aO, Nat.reduceLT, Nat.reduceEqDiff, Nat.reduceAdd, reduceCtorEq, q1, Int.reduceLE, Int.reduceToNat, e97n, ga, q45, q120, hb1, hb2, gc])
      (refine hQ _ _ _ (aC (by first | exact .inl rfl | exact .inr rfl) ?_); simp only [SS, aK, Nat.reduceLT, Nat.reduceEqDiff, Nat.reduceAdd, reduceCtorEq])
      rw [bad (by simp only [mvW, gc, Bool.false_and, Bool.and_false])]
    | true =>
    cases gd1 : decide ((d : Int) < 97) with
    | true =>
      have gd : eJ d = false := by simp only [decide_eq_true_eq] at gd1; simp [eJ, lowerB]; omega
      (try simp only [aG, SS, aK, aF, setRange, aA, aO, Nat.reduceLT, Nat.reduceEqDiff, Nat.reduceAdd, reduceCtorEq, q1, Int.reduceLE, Int.reduceToNat, e97n, ga, q45, q120, hb1, hb2, gc, gd1])
      (refine hQ _ _ _ (aC (by first | exact .inl rfl | exact .inr rfl) ?_); simp only [SS, aK, Nat.reduceLT, Nat.reduceEqDiff, Nat.reduceAdd, reduceCtorEq])
      rw [bad (by simp only [mvW, gd, Bool.and_false, Bool.false_and])]
    | false =>
    cases gd2 : decide ((122 : Int) < (d : Int)) with
    | true =>
      have gd : eJ d = false := by simp only [decide_eq_true_eq] at gd2; simp [eJ, lowerB]; omega
      (try simp only [aG, SS, aK, aF, setRange, aA, aO, Nat.reduceLT, Nat.reduceEqDiff, Nat.reduceAdd, reduceCtorEq, q1, Int.reduceLE, Int.reduceToNat, e97n, ga, q45, q120, hb1, hb2, gc, gd1, gd2])
      (refine hQ _ _ _ (aC (by first | exact .inl rfl | exact .inr rfl) ?_); simp only [SS, aK, Nat.reduceLT, Nat.reduceEqDiff, Nat.reduceAdd, reduceCtorEq])
      rw [bad (by simp only [mvW, gd, Bool.and_false, Bool.false_and])]
    | false =>
    have gd : eJ d = true := by simp only [decide_eq_false_iff_not] at gd1 gd2; simp [eJ, lowerB]; omega
    have hgood : ((b == 45) || (b == 120)) = true := gb
    have da : 48 ≤ a ∧ a ≤ 57 := by simp [dQ, digitB] at ga; omega
    have dc : 48 ≤ c ∧ c ≤ 57 := by simp [dQ, digitB] at gc; omega
    obtain ⟨wa1, wa2⟩ := wrapD da
    obtain ⟨wc1, wc2⟩ := wrapD dc
    have l34 : ((3 : Int) ≤ ((4 : Nat) : Int)) = True := by decide
    match r, br with
    | [e], br =>
      have n2 : ((5 : Int) == 5) = true := by decide
      have n3 : ((5 : Nat) : Int) = 5 := rfl
      have n4 : decide ((5 : Int) < 4) = false := by decide
      (try simp only [aG, SS, aK, aF, setRange, aA, aO, Nat.reduceLT, Nat.reduceEqDiff, Nat.reduceAdd, reduceCtorEq, Int.reduceLE, Int.reduceToNat, e97n, ga, q45, q120, hb1, hb2, gc, gd1, gd2, n3, n4])
      (refine hQ _ _ _ (aC (by first | exact .inl rfl | exact .inr rfl) ?_); simp only [SS, aK, Nat.reduceLT, Nat.reduceEqDiff, Nat.reduceAdd, reduceCtorEq])
      rw [bad (by simp [mvW, cS])]
    | [], br =>
      have hm : mvW [a, b, c, d] = true := by simp only [mvW, ga, gc, gd, hgood, Bool.and_self, decide_true, Bool.true_or]
      have hE : EVal.tup [.agg (dR (if mvW [a, b, c, d] = true then eL [a, b, c, d] else mv00)), .bool (mvW [a, b, c, d])] = .tup [.agg [.int .i64 (bT a), .int .i64 (bT c), .bool (b == 120), .str [d], .lsl []], .bool true] := by rw [hm]; rfl
      have n2 : ((4 : Int) == 5) = false := by decide
      have n3 : ((4 : Nat) : Int) = 4 := rfl
      have n4 : decide ((4 : Int) < 4) = false := by decide
      have n5 : decide ((5 : Int) < 4) = false := by decide
      have l4 : ((4 : Int) ≤ ((4 : Nat) : Int)) = True := by decide
      have l44 : ((4 : Int) ≤ 4) = True := by decide
      (try simp only [aG, SS, aK, aF, aA, Nat.reduceLT, Nat.reduceEqDiff, Nat.reduceAdd, reduceCtorEq, Int.reduceLE, Int.reduceToNat, e97n, ga, q45, q120, hb1, hb2, gc, gd1, gd2, n2, n3, n4, n5])
      refine aX (Top.draw mixed aI (by kernel_rfl) ?_)
      (try simp only [SS, aK, setRange, aA, aL, aQ, aO, Nat.reduceLT, Nat.reduceEqDiff, Nat.reduceAdd, reduceCtorEq, Int.reduceLE, Int.reduceToNat, q120, wa1, wa2, wc1, wc2, l44, n3])
      refine ⟨by kernel_rfl, ?_⟩
      (try simp only [aG, SS, aK, aF, setRange, bQ, aA, aL, bB, aQ, aO, aE, Nat.reduceLT, Nat.reduceEqDiff, Nat.reduceAdd, Nat.reduceMul, Nat.reduceSub, Nat.reduceLeDiff, Nat.reduceBEq, reduceCtorEq])
      refine aU (Top.loop (I := fun _ : Unit => (mkF 94 [(5, .int .i64 5), (4, .ptr 1 0), (2, .ptr 0 0), (0, .str [a, b, c, d]), (3, .bool false)], mkH 2 [(1, some (.row [.int .i64 (bT a), .int .i64 (bT c), .bool (b == 120), .str [d], .nilslice] 27 0 0 false)), (0, some (.row [.int .i64 0, .int .i64 0, .bool false, .str [], .nilslice] 27 0 0 false))] 128 [])) (μ := fun _ => 0) () (aH.drop (by simp [look, below]) (by simp [aB, bG, below, bV]) (by simp [aB])) ?_)
      intro _
      refine aD aI _ _ _ _ ?_
      (try simp only [SS, aK, setRange, aA, Nat.reduceLT, Nat.reduceEqDiff, Nat.reduceAdd, reduceCtorEq, n3, n5])
      (refine hQ _ _ _ (aC (by first | exact .inl rfl | exact .inr rfl) ?_); simp only [SS, aK, Nat.reduceLT, Nat.reduceEqDiff, Nat.reduceAdd, reduceCtorEq])
      exact hE.symm
    | e :: f :: r3, br =>
      have m0 : decide (((r3.length + 1 + 1 + 1 + 1 + 1 + 1 : Nat) : Int) < 4) = false := by simp; omega
      have m2 : (((r3.length + 1 + 1 + 1 + 1 + 1 + 1 : Nat) : Int) == 5) = false := by rw [beq_eq_false_iff_ne]; omega
      have m5 : decide ((5 : Int) < ((r3.length + 1 + 1 + 1 + 1 + 1 + 1 : Nat) : Int)) = true := by simp; omega
      have l4 : ((4 : Int) ≤ ((r3.length + 1 + 1 + 1 + 1 + 1 + 1 : Nat) : Int)) = True := by simp only [eq_iff_iff, iff_true]; omega
      have q58 : ((e : Int) == 58) = (e == 58) := by rw [Bool.eq_iff_iff, beq_iff_eq, beq_iff_eq]; omega
      cases ge : (e == 58) with
      | false =>
        (try simp only [aG, SS, aK, aF, setRange, aA, aO, Nat.reduceLT, Nat.reduceEqDiff, Nat.reduceAdd, reduceCtorEq, Int.reduceLE, Int.reduceToNat, e97n, ga, q45, q120, hb1, hb2, gc, gd1, gd2, m0, m2, m5, q58, ge])
        (refine hQ _ _ _ (aC (by first | exact .inl rfl | exact .inr rfl) ?_); simp only [SS, aK, Nat.reduceLT, Nat.reduceEqDiff, Nat.reduceAdd, reduceCtorEq])
        rw [bad (by simp [mvW, ge])]
      | true =>
      obtain ⟨r2, hr2⟩ : ∃ r2, r2 = f :: r3 := ⟨_, rfl⟩
      have hr2l : r2.length = r3.length + 1 := by rw [hr2]; rfl
      have hbb : ∀ x ∈ r2, x < 256 := by
        simp only [List.all_cons, Bool.and_eq_true, decide_eq_true_eq, List.all_eq_true] at br
        rw [hr2]
        intro x hx
        rcases List.mem_cons.1 hx with rfl | hx
        · exact br.2.1
        · exact br.2.2 x hx
      have hgo : r2.all dQ = true → EVal.tup [.agg (dR (if mvW (a :: b :: c :: d :: e :: f :: r3) = true then eL (a :: b :: c :: d :: e :: f :: r3) else mv00)), .bool (mvW (a :: b :: c :: d :: e :: f :: r3))] = .tup [.agg [.int .i64 (bT a), .int .i64 (bT c), .bool (b == 120), .str [d], .lsl (bU (r2.map bT))], .bool true] := by
        intro h
        have hm : mvW (a :: b :: c :: d :: e :: f :: r3) = true := by
          rw [hr2] at h
          simp only [mvW, ga, gc, gd, hgood, ge, cS, h, reduceCtorEq, decide_false, Bool.false_or, ne_eq, not_false_eq_true, decide_true, Bool.and_true]
        rw [hm, hr2]; rfl
      have hba : r2.all dQ = false → mvW (a :: b :: c :: d :: e :: f :: r3) = false := by
        intro h
        rw [hr2] at h
        simp only [mvW, cS, h, Bool.false_and, Bool.and_false, reduceCtorEq, decide_false, Bool.or_false]
      have hWk : ∀ k, (a :: b :: c :: d :: e :: f :: r3)[5 + k]? = r2[k]? := by
        intro k
        rw [show 5 + k = k + 1 + 1 + 1 + 1 + 1 by omega, hr2]
        simp only [List.getElem?_cons_succ]
      (try simp only [aG, SS, aK, aF, aA, Nat.reduceLT, Nat.reduceEqDiff, reduceCtorEq, Int.reduceLE, Int.reduceToNat, e97n, ga, q45, q120, hb1, hb2, gc, gd1, gd2, m0, m2, m5, q58, ge])
      refine aX (Top.draw mixed aI (by kernel_rfl) ?_)
      (try simp only [SS, aK, setRange, aA, aL, aQ, aO, Nat.reduceLT, Nat.reduceEqDiff, Nat.reduceAdd, reduceCtorEq, Int.reduceLE, Int.reduceToNat, q120, wa1, wa2, wc1, wc2, l34, l4])
      refine ⟨by kernel_rfl, ?_⟩
      (try simp only [aG, SS, aK, aF, setRange, bQ, aA, aL, bB, aQ, aO, aE, Nat.reduceLT, Nat.reduceEqDiff, Nat.reduceAdd, Nat.reduceMul, Nat.reduceSub, Nat.reduceLeDiff, Nat.reduceBEq, reduceCtorEq])
      simp only [List.length_cons] at hlen
      refine aU (Top.loop (I := fun s : { x : Nat × EVal × Nat × List (Nat × Option EObj) // x.1 ≤ r2.length ∧ x.2.2.1 ≤ 2 + x.1 ∧ 2 ≤ x.2.2.1 ∧ (r2.take x.1).all dQ = true ∧ IL 2 x.2.1 ((r2.take x.1).map bT) x.2.2.1 x.2.2.2 ∧ aB x.2.2.2 1 = some (.row [.int .i64 (bT a), .int .i64 (bT c), .bool (b == 120), .str [d], x.2.1] 27 0 0 false) ∧ aB x.2.2.2 0 = some (.row [.int .i64 0, .int .i64 0, .bool false, .str [], .nilslice] 27 0 0 false) } => (mkF 94 [(5, .int .i64 ((5 + s.1.1 : Nat) : Int)), (4, .ptr 1 0), (2, .ptr 0 0), (0, .str (a :: b :: c :: d :: e :: f :: r3)), (3, .bool false)], mkH s.1.2.2.1 s.1.2.2.2 128 [])) (μ := fun s => r2.length - s.1.1) ⟨(0, .nilslice, 2, _), by simp, by simp, by simp, by simp, .inl ⟨rfl, rfl⟩, rfl, rfl⟩ (aH.sub (by simp [look])) ?_)
      rintro ⟨⟨k, v, N, l⟩, hk, hN, hN2, hdg, I1, A1, A0⟩
      dsimp only at hk hN hN2 hdg I1 A1 A0
      refine aD aI _ _ _ _ ?_
      dsimp only
      by_cases hlt : k < r2.length
      · obtain ⟨x, hx⟩ : ∃ x, r2[k]? = some x := ⟨r2[k], List.getElem?_eq_getElem hlt⟩
        have hWx := hWk k
        rw [hx] at hWx
        have p1 : decide (((5 + k : Nat) : Int) < ((r3.length + 1 + 1 + 1 + 1 + 1 + 1 : Nat) : Int)) = true := by simp only [decide_eq_true_eq]; omega
        have p2 : IntKind.i64.wrap (((5 + k : Nat) : Int) + 1) = ((5 + (k + 1) : Nat) : Int) := by rw [aR] <;> omega
        cases hxd : dQ x with
        | false =>
          have hall : r2.all dQ = false := by
            rw [List.all_eq_false]
            exact ⟨x, List.mem_of_getElem? hx, by rw [hxd]; simp⟩
          (try simp only [SS, aK, aF, setRange, aA, aO, Nat.reduceLT, Nat.reduceEqDiff, Nat.reduceAdd, reduceCtorEq, p1, hWx, e97n, hxd, A0])
          (refine hQ _ _ _ (aC (by first | exact .inl rfl | exact .inr rfl) ?_); simp only [SS, aK, Nat.reduceLT, Nat.reduceEqDiff, Nat.reduceAdd, reduceCtorEq])
          rw [bad (hba hall)]
        | true =>
        have hx9 : 48 ≤ x ∧ x ≤ 57 := by simp [dQ, digitB] at hxd; omega
        obtain ⟨wx1, wx2⟩ := wrapD hx9
        obtain ⟨v2, l2, hap, I2, S2⟩ := eAppend_IL (x := bT x) (m := 128) (kk := []) I1 hN2 (by omega) (by simp; omega)
        have B1 : aB l2 1 = some (.row [.int .i64 (bT a), .int .i64 (bT c), .bool (b == 120), .str [d], v] 27 0 0 false) := by rw [S2 1 (by omega)]; exact A1
        have B0 : aB l2 0 = some (.row [.int .i64 0, .int .i64 0, .bool false, .str [], .nilslice] 27 0 0 false) := by rw [S2 0 (by omega)]; exact A0
        obtain ⟨o1, o2, o3⟩ := IL_one I2
        (try simp only [SS, aK, aF, aA, Nat.reduceLT, Nat.reduceEqDiff, reduceCtorEq, p1, hWx, e97n, hxd])
        refine aX (Top.draw mixed aI (by kernel_rfl) ?_)
        (try simp only [SS, aK, setRange, bQ, aA, aL, aE, Nat.reduceLT, Nat.reduceEqDiff, Nat.reduceAdd, Nat.reduceLeDiff, reduceCtorEq, ↓hap, A1, B1, hWx, wx1, wx2, o1, o3])
        refine ⟨by kernel_rfl, ?_⟩
        (try simp only [p2])
        refine ⟨⟨(k + 1, v2, N + 1, (1, some (.row [.int .i64 (bT a), .int .i64 (bT c), .bool (b == 120), .str [d], v2] 27 0 0 false)) :: l2), hlt, by show N + 1 ≤ 2 + (k + 1); omega, by show 2 ≤ N + 1; omega, ?_, ?_, ?_, ?_⟩, by simp; omega, aH.sub (by simp [look])⟩
        · show (r2.take (k + 1)).all dQ = true
          rw [List.take_add_one, hx, List.all_append, hdg]; simp [hxd]
        · have e : (r2.take (k + 1)).map bT = (r2.take k).map bT ++ [bT x] := by rw [List.take_add_one, hx, List.map_append]; rfl
          show IL 2 v2 ((r2.take (k + 1)).map bT) (N + 1) _
          rw [e]
          rcases I2 with h | ⟨id, h1, h2, h3, h4⟩
          · exact .inl h
          · exact .inr ⟨id, h1, h2, h3, by rw [aB.eq_2, if_neg (by omega)]; exact h4⟩
        · simp [aB]
        · show aB ((1, _) :: l2) 0 = _
          rw [aB.eq_2, if_neg (by omega)]; exact B0
      have hkl : k = r2.length := by omega
      rw [hkl, List.take_length] at I1 hdg
      have p1 : decide (((5 + k : Nat) : Int) < ((r3.length + 1 + 1 + 1 + 1 + 1 + 1 : Nat) : Int)) = false := by simp only [decide_eq_false_iff_not]; omega
      rw [hgo hdg] at hQ hV
      obtain ⟨o1, o2, o3⟩ := IL_one I1
      (try simp only [SS, aK, setRange, aA, Nat.reduceLT, Nat.reduceEqDiff, Nat.reduceAdd, reduceCtorEq, p1, A1, A0, o3])
      rcases I1 with ⟨rfl, hn⟩ | ⟨id, h1, h2, rfl, h4⟩
      · (refine hQ _ _ _ (aC (by first | exact .inl rfl | exact .inr rfl) ?_); simp only [SS, aK, Nat.reduceLT, Nat.reduceEqDiff, Nat.reduceAdd, reduceCtorEq])
        have : r2.map bT = [] := hn
        rw [this]; rfl
      · have hid0 : id < 16000 := by omega
        refine hV _ _ _ ⟨_, _, aH.fz (sz := 1) (len := (r2.map bT).length) (fl2 := [(2, .ptr 0 0), (3, .bool true)]) (l2 := [(0, some (.row [.int .i64 (bT a), .int .i64 (bT c), .bool (b == 120), .str [d], .lsl (cP 1 (r2.map bT).length (eRow (r2.map bT)))] 27 0 0 false))]) (k2 := []) id hid0 (by rw [aB.eq_2, if_neg (by omega)]; exact h4) (keepL_eRow _) (by simp [eRow_length]) ?_ ?_ (by simp), aC (.inl rfl) ?_⟩
        · simp [look, fzR]
        · intro p hp
          rw [List.mem_singleton] at hp
          subst hp
          refine ⟨by simp, by show 0 ≠ id; omega, _, rfl, .inr ⟨[.int .i64 (bT a), .int .i64 (bT c), .bool (b == 120), .str [d], .slice id 0 (r2.map bT).length (.slack 0)], _, _, _, _, _, by simp [aB], rfl, ?_⟩⟩
          exact ⟨.inl rfl, .inl rfl, .inl rfl, .inl rfl, .inr ⟨.slack 0, rfl, rfl, rfl⟩, trivial⟩
        · rw [chunk_eRow]
          simp only [SS, aK, Nat.reduceLT, Nat.reduceEqDiff, Nat.reduceAdd]
end Go.Ev
