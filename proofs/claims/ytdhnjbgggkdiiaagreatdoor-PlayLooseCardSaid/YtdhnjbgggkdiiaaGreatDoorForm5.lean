import Derived.Test.YtdhnjbgggkdiiaaGreatDoorForm4
set_option linter.unusedSimpArgs false
set_option linter.unusedVariables false
namespace Go.Ev
open Go.RowKit Go.Proofs
set_option linter.defProp false
def TF21Form5 := And.intro (And.intro (And.intro (And.intro (And.intro (@Tryz.underlying3) (And.intro (@sz3) (@bK))) (And.intro (And.intro (@I3s) (@I3b)) (And.intro (@bJ) (@bL)))) (And.intro (And.intro (@Tryz.underlying4) (And.intro (@sz4) (@cT))) (And.intro (And.intro (@I4s) (@I4b)) (And.intro (@cS) (@cU))))) (And.intro (And.intro (And.intro (@Tryz.underlying9) (And.intro (@sz9) (@bZ))) (And.intro (And.intro (@I9s) (@I9b)) (And.intro (@bX) (@cA)))) (And.intro (And.intro (@Tryz.underlying25) (And.intro (@dI) (@bQ))) (And.intro (And.intro (@dJ) (@dK)) (And.intro (@bP) (@bR)))))) (And.intro (And.intro (And.intro (And.intro (@Tryz.underlying27) (And.intro (@dN) (@cV))) (And.intro (And.intro (@cF) (@dO)) (And.intro (@dP) (@cC)))) (And.intro (And.intro (@cG) (And.intro (@Tryz.underlying30) (@sz30))) (And.intro (And.intro (@info30) (@I30s)) (And.intro (@I30b) (@zero30))))) (And.intro (And.intro (And.intro (@grow30) (And.intro (@Tryz.underlying158) (@sz158))) (And.intro (And.intro (@info158) (@I158s)) (And.intro (@I158b) (@zero158)))) (And.intro (And.intro (@grow158) (And.intro (@call79) (@call86))) (And.intro (And.intro (@call87) (@call88)) (And.intro (@call89) (@Tryz.results21))))))
def TF23Form5 := And.intro (And.intro (And.intro (And.intro (And.intro (@Tryz.underlying3) (@sz3)) (And.intro (@bK) (And.intro (@I3s) (@I3b)))) (And.intro (And.intro (@bJ) (@bL)) (And.intro (@Tryz.underlying4) (And.intro (@sz4) (@cT))))) (And.intro (And.intro (And.intro (@I4s) (@I4b)) (And.intro (@cS) (And.intro (@cU) (@Tryz.underlying9)))) (And.intro (And.intro (@sz9) (And.intro (@bZ) (@I9s))) (And.intro (@I9b) (And.intro (@bX) (@cA)))))) (And.intro (And.intro (And.intro (And.intro (@Tryz.underlying25) (@dI)) (And.intro (@bQ) (And.intro (@dJ) (@dK)))) (And.intro (And.intro (@bP) (@bR)) (And.intro (@Tryz.underlying27) (And.intro (@dN) (@cV))))) (And.intro (And.intro (And.intro (@cF) (@dO)) (And.intro (@dP) (And.intro (@cC) (@cG)))) (And.intro (And.intro (@call47) (And.intro (@call61) (@call90))) (And.intro (@call91) (And.intro (@call92) (@Tryz.results23))))))
def bD := And.intro (And.intro (And.intro (And.intro (And.intro (@Tryz.underlying3) (@sz3)) (And.intro (@bK) (@I3s))) (And.intro (And.intro (@I3b) (@bJ)) (And.intro (@bL) (And.intro (@Tryz.underlying4) (@sz4))))) (And.intro (And.intro (And.intro (@cT) (@I4s)) (And.intro (@I4b) (@cS))) (And.intro (And.intro (@cU) (@Tryz.underlying9)) (And.intro (@sz9) (And.intro (@bZ) (@I9s)))))) (And.intro (And.intro (And.intro (And.intro (@I9b) (@bX)) (And.intro (@cA) (@Tryz.underlying25))) (And.intro (And.intro (@dI) (@bQ)) (And.intro (@dJ) (And.intro (@dK) (@bP))))) (And.intro (And.intro (And.intro (@bR) (@Tryz.underlying27)) (And.intro (@dN) (And.intro (@cV) (@cF)))) (And.intro (And.intro (@dO) (@dP)) (And.intro (@cC) (And.intro (@cG) (@Tryz.results92))))))
set_option maxRecDepth 20000
set_option maxHeartbeats 4000000

/-! touches, as the reference tells them -/
def F92 : List EVal → Option EVal
  | [.agg [.int .i64 _, .int .i64 _, .bool o, .str _, by']] => (dInts by').map fun b => .int .i64 (touchE o b)
  | _ => none
theorem fn92 : FnT 92 F92 := by
  refine Fn.intro mixed aJ Tryz.func92 rfl [] (fun _ h => by cases h) ?_
  intro args v hF
  unfold F92 at hF
  split at hF
  rotate_left
  · cases hF
  intro Q hV
  have hQ := aW.of hV
  rename_i f t o h by'
  cases hb : dInts by' with
  | none => rw [hb] at hF; cases hF
  | some b =>
  rw [hb] at hF
  cases hF
  obtain ⟨rfl, hlen⟩ := dInts_inv hb
  clear hb
  refine Top.view (aF.start (n := 57) rfl (by simp)) (aD aJ _ _ _ _ ?_)
  by_cases h9 : 9 < b.length
  · have c1 : decide ((9 : Int) < (b.length : Int)) = true := by simp; omega
    (try simp only [aI, SS, bD, aA, Nat.reduceLT, Nat.reduceEqDiff, reduceCtorEq, aM, c1])
    (refine hQ _ _ _ (aC (by first | exact .inl rfl | exact .inr rfl) ?_); simp only [SS, bD, Nat.reduceLT, Nat.reduceEqDiff, reduceCtorEq])
    simp [touchE, h9]
  have c1 : decide ((9 : Int) < (b.length : Int)) = false := by simp; omega
  by_cases h0 : o = true ∧ b.length = 0
  · obtain ⟨rfl, h0⟩ := h0
    have c2 : ((b.length : Int) == 0) = true := by rw [h0]; rfl
    (try simp only [aI, SS, bD, aA, Nat.reduceLT, Nat.reduceEqDiff, reduceCtorEq, aM, c1, c2])
    (refine hQ _ _ _ (aC (by first | exact .inl rfl | exact .inr rfl) ?_); simp only [SS, bD, Nat.reduceLT, Nat.reduceEqDiff, reduceCtorEq])
    simp [touchE, h0]
  dsimp only at hQ hV
  have hE : touchE o b = if touchOK none b = true then 0 else 16 := by
    unfold touchE; rw [if_neg (by rintro (h | h); exact h9 h; exact h0 h)]
  rw [hE] at hQ
  clear hE
  have c2 : o = true → ((b.length : Int) == 0) = false := fun e => by
    have : b.length ≠ 0 := fun e2 => h0 ⟨e, e2⟩
    simp only [beq_eq_false_iff_ne]; omega
  cases o with
  | false =>
    (try simp only [aI, SS, bD, aA, Nat.reduceLT, Nat.reduceEqDiff, reduceCtorEq, aM, c1])
    refine aT (Top.loop (I := fun s : { k : Nat // k ≤ b.length ∧ touchOK none b = touchOK (bV b k) (b.drop k) } => (mkF 57 [(3, .int .i64 (s.1 : Nat)), (1, .ptr 0 0)], mkH 1 [(0, some (.row [.int .i64 f, .int .i64 t, .bool false, .str h, .lsl (aS b)] 27 0 0 false))] 0 [])) (μ := fun s => b.length - s.1) ⟨0, by simp, rfl⟩ (aF.drop (by simp [look, below]) (by simp [aB, aR, below, aX]) (by simp [aB])) ?_)
    rintro ⟨k, hk, hf⟩
    refine aD aJ _ _ _ _ ?_
    by_cases hlt : k < b.length
    rotate_left
    · have q1 : decide ((k : Int) < (b.length : Int)) = false := by simp; omega
      (try simp only [SS, bD, aA, Nat.reduceLT, Nat.reduceEqDiff, reduceCtorEq, aM, q1])
      (refine hQ _ _ _ (aC (by first | exact .inl rfl | exact .inr rfl) ?_); simp only [SS, bD, Nat.reduceLT, Nat.reduceEqDiff])
      have : b.drop k = [] := List.drop_eq_nil_of_le (by omega)
      rw [hf, this]; rfl
    obtain ⟨x, hx⟩ : ∃ x, b[k]? = some x := ⟨b[k], List.getElem?_eq_getElem hlt⟩
    have q1 : decide ((k : Int) < (b.length : Int)) = true := by simp; omega
    have q2 : IntKind.i64.wrap ((k : Int) + 1) = ((k + 1 : Nat) : Int) := by rw [aP] <;> omega
    have hfd := touchOK_drop hx
    (try simp only [SS, bD, aA, Nat.reduceLT, Nat.reduceEqDiff, reduceCtorEq, aM, q1])
    refine bA (Top.draw mixed aJ (by kernel_rfl) ?_)
    by_cases hlo : x < 1
    · have q3 : decide (x < 1) = true := by simpa using hlo
      have q9 : withinB x 1 9 = false := withinC_f (by omega)
      (try simp only [SS, bD, aA, Nat.reduceLT, Nat.reduceEqDiff, reduceCtorEq, bM, hx, q3])
      refine ⟨by kernel_rfl, ?_⟩
      (try simp only [aI, SS, bD, aH, setRange, bS, aA, aO, bN, bG, aY, aE, Nat.reduceLT, Nat.reduceEqDiff, Nat.reduceAdd, Nat.reduceMul, Nat.reduceSub, Nat.reduceLeDiff, Nat.reduceBEq, reduceCtorEq])
      (refine hQ _ _ _ (aC (by first | exact .inl rfl | exact .inr rfl) ?_); simp only [SS, bD, Nat.reduceLT, Nat.reduceEqDiff])
      rw [hf, hfd, q9]; rfl
    have q3 : decide (x < 1) = false := by simpa using hlo
    by_cases hhi : 9 < x
    · have q4 : decide (9 < x) = true := by simpa using hhi
      have q9 : withinB x 1 9 = false := withinC_f (by omega)
      (try simp only [SS, bD, aA, Nat.reduceLT, Nat.reduceEqDiff, reduceCtorEq, bM, hx, q3, q4])
      refine ⟨by kernel_rfl, ?_⟩
      (try simp only [aI, SS, bD, aH, setRange, bS, aA, aO, bN, bG, aY, aE, Nat.reduceLT, Nat.reduceEqDiff, Nat.reduceAdd, Nat.reduceMul, Nat.reduceSub, Nat.reduceLeDiff, Nat.reduceBEq, reduceCtorEq])
      (refine hQ _ _ _ (aC (by first | exact .inl rfl | exact .inr rfl) ?_); simp only [SS, bD, Nat.reduceLT, Nat.reduceEqDiff])
      rw [hf, hfd, q9]; rfl
    have q4 : decide (9 < x) = false := by simpa using hhi
    have q9 : withinB x 1 9 = true := withinC_t (by omega)
    by_cases hk0 : k = 0
    · have q5 : decide ((0 : Int) < (k : Int)) = false := by simp; omega
      (try simp only [SS, bD, aA, Nat.reduceLT, Nat.reduceEqDiff, reduceCtorEq, bM, hx, q3, q4, q5])
      refine ⟨by kernel_rfl, ?_⟩
      (try simp only [q2])
      exact ⟨⟨k + 1, hlt, by rw [hf, hfd, q9]; simp [bV, hk0]⟩, by simp; omega, (aF.drop (by simp [look, below]) (by simp [aB, aR, below, aX]) (by simp [aB]))⟩
    obtain ⟨y, hy⟩ : ∃ y, b[k - 1]? = some y := ⟨b[k - 1], List.getElem?_eq_getElem (by omega)⟩
    have hbf : bV b k = some y := by simp [bV, hk0, hy]
    have q5 : decide ((0 : Int) < (k : Int)) = true := by simp; omega
    have q6 : IntKind.i64.wrap ((k : Int) - 1) = ((k - 1 : Nat) : Int) := by rw [aP] <;> omega
    by_cases hxy : x = y
    · have q7 : (x == y) = true := by simpa using hxy
      (try simp only [SS, bD, aA, Nat.reduceLT, Nat.reduceEqDiff, reduceCtorEq, bM, hx, hy, q3, q4, q5, q6, q7])
      refine ⟨by kernel_rfl, ?_⟩
      (try simp only [aI, SS, bD, aH, setRange, bS, aA, aO, bN, bG, aY, aE, Nat.reduceLT, Nat.reduceEqDiff, Nat.reduceAdd, Nat.reduceMul, Nat.reduceSub, Nat.reduceLeDiff, Nat.reduceBEq, reduceCtorEq])
      (refine hQ _ _ _ (aC (by first | exact .inl rfl | exact .inr rfl) ?_); simp only [SS, bD, Nat.reduceLT, Nat.reduceEqDiff])
      rw [hf, hfd, q9, hbf, hxy]; simp
    · have q7 : (x == y) = false := by simpa using hxy
      (try simp only [SS, bD, aA, Nat.reduceLT, Nat.reduceEqDiff, reduceCtorEq, bM, hx, hy, q3, q4, q5, q6, q7])
      refine ⟨by kernel_rfl, ?_⟩
      (try simp only [q2])
      refine ⟨⟨k + 1, hlt, ?_⟩, by simp; omega, (aF.drop (by simp [look, below]) (by simp [aB, aR, below, aX]) (by simp [aB]))⟩
      rw [hf, hfd, q9, hbf]
      have : ¬ y = x := fun e => hxy e.symm
      simp [this]
  | true =>
    have c2 := c2 rfl
    (try simp only [aI, SS, bD, aA, Nat.reduceLT, Nat.reduceEqDiff, reduceCtorEq, aM, c1, c2])
    refine aT (Top.loop (I := fun s : { k : Nat // k ≤ b.length ∧ touchOK none b = touchOK (bV b k) (b.drop k) } => (mkF 57 [(3, .int .i64 (s.1 : Nat)), (1, .ptr 0 0)], mkH 1 [(0, some (.row [.int .i64 f, .int .i64 t, .bool true, .str h, .lsl (aS b)] 27 0 0 false))] 0 [])) (μ := fun s => b.length - s.1) ⟨0, by simp, rfl⟩ (aF.drop (by simp [look, below]) (by simp [aB, aR, below, aX]) (by simp [aB])) ?_)
    rintro ⟨k, hk, hf⟩
    refine aD aJ _ _ _ _ ?_
    by_cases hlt : k < b.length
    rotate_left
    · have q1 : decide ((k : Int) < (b.length : Int)) = false := by simp; omega
      (try simp only [SS, bD, aA, Nat.reduceLT, Nat.reduceEqDiff, reduceCtorEq, aM, q1])
      (refine hQ _ _ _ (aC (by first | exact .inl rfl | exact .inr rfl) ?_); simp only [SS, bD, Nat.reduceLT, Nat.reduceEqDiff])
      have : b.drop k = [] := List.drop_eq_nil_of_le (by omega)
      rw [hf, this]; rfl
    obtain ⟨x, hx⟩ : ∃ x, b[k]? = some x := ⟨b[k], List.getElem?_eq_getElem hlt⟩
    have q1 : decide ((k : Int) < (b.length : Int)) = true := by simp; omega
    have q2 : IntKind.i64.wrap ((k : Int) + 1) = ((k + 1 : Nat) : Int) := by rw [aP] <;> omega
    have hfd := touchOK_drop hx
    (try simp only [SS, bD, aA, Nat.reduceLT, Nat.reduceEqDiff, reduceCtorEq, aM, q1])
    refine bA (Top.draw mixed aJ (by kernel_rfl) ?_)
    by_cases hlo : x < 1
    · have q3 : decide (x < 1) = true := by simpa using hlo
      have q9 : withinB x 1 9 = false := withinC_f (by omega)
      (try simp only [SS, bD, aA, Nat.reduceLT, Nat.reduceEqDiff, reduceCtorEq, bM, hx, q3])
      refine ⟨by kernel_rfl, ?_⟩
      (try simp only [aI, SS, bD, aH, setRange, bS, aA, aO, bN, bG, aY, aE, Nat.reduceLT, Nat.reduceEqDiff, Nat.reduceAdd, Nat.reduceMul, Nat.reduceSub, Nat.reduceLeDiff, Nat.reduceBEq, reduceCtorEq])
      (refine hQ _ _ _ (aC (by first | exact .inl rfl | exact .inr rfl) ?_); simp only [SS, bD, Nat.reduceLT, Nat.reduceEqDiff])
      rw [hf, hfd, q9]; rfl
    have q3 : decide (x < 1) = false := by simpa using hlo
    by_cases hhi : 9 < x
    · have q4 : decide (9 < x) = true := by simpa using hhi
      have q9 : withinB x 1 9 = false := withinC_f (by omega)
      (try simp only [SS, bD, aA, Nat.reduceLT, Nat.reduceEqDiff, reduceCtorEq, bM, hx, q3, q4])
      refine ⟨by kernel_rfl, ?_⟩
      (try simp only [aI, SS, bD, aH, setRange, bS, aA, aO, bN, bG, aY, aE, Nat.reduceLT, Nat.reduceEqDiff, Nat.reduceAdd, Nat.reduceMul, Nat.reduceSub, Nat.reduceLeDiff, Nat.reduceBEq, reduceCtorEq])
      (refine hQ _ _ _ (aC (by first | exact .inl rfl | exact .inr rfl) ?_); simp only [SS, bD, Nat.reduceLT, Nat.reduceEqDiff])
      rw [hf, hfd, q9]; rfl
    have q4 : decide (9 < x) = false := by simpa using hhi
    have q9 : withinB x 1 9 = true := withinC_t (by omega)
    by_cases hk0 : k = 0
    · have q5 : decide ((0 : Int) < (k : Int)) = false := by simp; omega
      (try simp only [SS, bD, aA, Nat.reduceLT, Nat.reduceEqDiff, reduceCtorEq, bM, hx, q3, q4, q5])
      refine ⟨by kernel_rfl, ?_⟩
      (try simp only [q2])
      exact ⟨⟨k + 1, hlt, by rw [hf, hfd, q9]; simp [bV, hk0]⟩, by simp; omega, (aF.drop (by simp [look, below]) (by simp [aB, aR, below, aX]) (by simp [aB]))⟩
    obtain ⟨y, hy⟩ : ∃ y, b[k - 1]? = some y := ⟨b[k - 1], List.getElem?_eq_getElem (by omega)⟩
    have hbf : bV b k = some y := by simp [bV, hk0, hy]
    have q5 : decide ((0 : Int) < (k : Int)) = true := by simp; omega
    have q6 : IntKind.i64.wrap ((k : Int) - 1) = ((k - 1 : Nat) : Int) := by rw [aP] <;> omega
    by_cases hxy : x = y
    · have q7 : (x == y) = true := by simpa using hxy
      (try simp only [SS, bD, aA, Nat.reduceLT, Nat.reduceEqDiff, reduceCtorEq, bM, hx, hy, q3, q4, q5, q6, q7])
      refine ⟨by kernel_rfl, ?_⟩
      (try simp only [aI, SS, bD, aH, setRange, bS, aA, aO, bN, bG, aY, aE, Nat.reduceLT, Nat.reduceEqDiff, Nat.reduceAdd, Nat.reduceMul, Nat.reduceSub, Nat.reduceLeDiff, Nat.reduceBEq, reduceCtorEq])
      (refine hQ _ _ _ (aC (by first | exact .inl rfl | exact .inr rfl) ?_); simp only [SS, bD, Nat.reduceLT, Nat.reduceEqDiff])
      rw [hf, hfd, q9, hbf, hxy]; simp
    · have q7 : (x == y) = false := by simpa using hxy
      (try simp only [SS, bD, aA, Nat.reduceLT, Nat.reduceEqDiff, reduceCtorEq, bM, hx, hy, q3, q4, q5, q6, q7])
      refine ⟨by kernel_rfl, ?_⟩
      (try simp only [q2])
      refine ⟨⟨k + 1, hlt, ?_⟩, by simp; omega, (aF.drop (by simp [look, below]) (by simp [aB, aR, below, aX]) (by simp [aB]))⟩
      rw [hf, hfd, q9, hbf]
      have : ¬ y = x := fun e => hxy e.symm
      simp [this]

/-! a move -/
def moveE (f t : Int) (o : Bool) (h : List Nat) (b : List Int) : Int := cH [rangeE f 0 3, rangeE t 1 4, wayE f t o h, touchE o b]
def F21 : List EVal → Option EVal
  | [.agg [.int .i64 f, .int .i64 t, .bool o, .str h, by']] => (dInts by').map fun b => .int .i64 (moveE f t o h b)
  | _ => none
theorem e79four {a b c d : Int} : F79 [.lsl [[.int .i64 a], [.int .i64 b], [.int .i64 c], [.int .i64 d]]] = some (.int .i64 (cH [a, b, c, d])) := e79 (l := [a, b, c, d]) (by simp)
theorem e89 {f t : Int} {o : Bool} {h : List Nat} {b : List Int} (hl : b.length < 9223372036854775808) : F89 [.agg [.int .i64 f, .int .i64 t, .bool o, .str h, .lsl (aS b)]] = some (.int .i64 (touchE o b)) := by
  simp only [F89, dInts_e hl, Option.map_some]
theorem e92 {f t : Int} {o : Bool} {h : List Nat} {b : List Int} (hl : b.length < 9223372036854775808) : F92 [.agg [.int .i64 f, .int .i64 t, .bool o, .str h, .lsl (aS b)]] = some (.int .i64 (touchE o b)) := by
  simp only [F92, dInts_e hl, Option.map_some]
theorem e88 {f t : Int} {o : Bool} {h : List Nat} {els : List (List EVal)} : F88 [.agg [.int .i64 f, .int .i64 t, .bool o, .str h, .lsl els]] = some (.int .i64 (wayE f t o h)) := rfl
theorem fn21 : FnT 21 F21 := by
  refine Fn.intro mixed aJ Tryz.func21 rfl [(79, F79), (86, F86), (87, F87), (88, F88), (89, F89)] (by simp only [List.forall_mem_cons]; exact ⟨fn79, fn86, fn87, fn88, fn89, fun _ h => by cases h⟩) ?_
  intro args v hF
  unfold F21 at hF
  split at hF
  rotate_left
  · cases hF
  intro Q hV
  have hQ := aW.of hV
  rename_i f t o h by'
  cases hb : dInts by' with
  | none => rw [hb] at hF; cases hF
  | some b =>
  rw [hb] at hF
  cases hF
  obtain ⟨rfl, hlen⟩ := dInts_inv hb
  clear hb
  have h89 := e89 (f := f) (t := t) (o := o) (h := h) hlen
  refine Top.view (aF.start (n := 15) rfl (by simp)) (aD aJ _ _ _ _ ?_)
  (try simp only [aI, SS, aA, Nat.reduceLT])
  refine bA (Top.draw mixed aJ (by kernel_rfl) ?_)
  (try simp only [SS, TF21Form5, aH, setRange, bS, aE, Nat.reduceLT, Nat.reduceEqDiff, Nat.reduceAdd, Nat.reduceLeDiff, reduceCtorEq, e86, e87, e88, h89, e79four])
  refine ⟨by kernel_rfl, ?_⟩
  (try simp only [aI, SS, TF21Form5, aH, setRange, bS, aA, aO, bN, bG, aY, aE, Nat.reduceLT, Nat.reduceEqDiff, Nat.reduceAdd, Nat.reduceMul, Nat.reduceSub, Nat.reduceLeDiff, Nat.reduceBEq, reduceCtorEq])
  (refine hQ _ _ _ (aC (by first | exact .inl rfl | exact .inr rfl) ?_); simp only [SS, TF21Form5, Nat.reduceLT, Nat.reduceEqDiff, reduceCtorEq])
  rfl
theorem moveE_zero {f t : Int} {o : Bool} {h : List Nat} {b : List Int} (hf : 0 ≤ f ∧ f ≤ 3) (ht : 1 ≤ t ∧ t ≤ 4) : moveE f t o h b = if wayR f t o h = 0 then touchE o b else wayR f t o h := by
  unfold moveE
  rw [rangeE_in hf, rangeE_in ht, way_eq hf ht]
  simp only [cH]
  by_cases h1 : wayR f t o h = 0
  · simp [h1]
    intro h2; exact h2.symm
  · simp [h1]
def F23 : List EVal → Option EVal
  | [.agg [.int .i64 f, .int .i64 t, .bool o, .str h, by']] => (dInts by').map fun b => .int .i64 (moveE f t o h b)
  | _ => none
theorem fn23 : FnT 23 F23 := by
  refine Fn.intro mixed aJ Tryz.func23 rfl [(47, F47), (61, F61), (90, F90), (91, F91), (92, F92)] (by simp only [List.forall_mem_cons]; exact ⟨fn47, fn61, fn90, fn91, fn92, fun _ h => by cases h⟩) ?_
  intro args v hF
  unfold F23 at hF
  split at hF
  rotate_left
  · cases hF
  intro Q hV
  have hQ := aW.of hV
  rename_i f t o h by'
  cases hb : dInts by' with
  | none => rw [hb] at hF; cases hF
  | some b =>
  rw [hb] at hF
  cases hF
  obtain ⟨rfl, hlen⟩ := dInts_inv hb
  clear hb
  dsimp only at hQ hV
  have h92 := e92 (f := f) (t := t) (o := o) (h := h) hlen
  have z3 : ((3 : Int) == 0) = false := by decide
  refine Top.view (aF.start (n := 26) rfl (by simp)) (aD aJ _ _ _ _ ?_)
  (try simp only [aI, SS, aA, Nat.reduceLT])
  refine bA (Top.draw mixed aJ (by kernel_rfl) ?_)
  by_cases hf : 0 ≤ f ∧ f ≤ 3
  rotate_left
  · have hl : cH [rangeE f 0 3, rangeE t 1 4] = 3 := by rw [rangeE_out hf]; rfl
    (try simp only [SS, TF23Form5, aH, setRange, bS, aA, aE, Nat.reduceLT, Nat.reduceEqDiff, Nat.reduceAdd, Nat.reduceLeDiff, reduceCtorEq, e61', e47two, hl])
    refine ⟨by kernel_rfl, ?_⟩
    (try simp only [SS, aA, Nat.reduceLT, Nat.reduceEqDiff, reduceCtorEq, z3])
    (refine hQ _ _ _ (aC (by first | exact .inl rfl | exact .inr rfl) ?_); simp only [SS, TF23Form5, Nat.reduceLT, Nat.reduceEqDiff, reduceCtorEq])
    unfold moveE; rw [rangeE_out hf]; rfl
  by_cases ht : 1 ≤ t ∧ t ≤ 4
  rotate_left
  · have hl : cH [rangeE f 0 3, rangeE t 1 4] = 3 := by rw [rangeE_in hf, rangeE_out ht]; rfl
    (try simp only [SS, TF23Form5, aH, setRange, bS, aA, aE, Nat.reduceLT, Nat.reduceEqDiff, Nat.reduceAdd, Nat.reduceLeDiff, reduceCtorEq, e61', e47two, hl])
    refine ⟨by kernel_rfl, ?_⟩
    (try simp only [SS, aA, Nat.reduceLT, Nat.reduceEqDiff, reduceCtorEq, z3])
    (refine hQ _ _ _ (aC (by first | exact .inl rfl | exact .inr rfl) ?_); simp only [SS, TF23Form5, Nat.reduceLT, Nat.reduceEqDiff, reduceCtorEq])
    unfold moveE; rw [rangeE_in hf, rangeE_out ht]; rfl
  have hl : cH [rangeE f 0 3, rangeE t 1 4] = 0 := by rw [rangeE_in hf, rangeE_in ht]; rfl
  rw [moveE_zero hf ht] at hQ
  (try simp only [SS, TF23Form5, aH, setRange, bS, aA, aE, Nat.reduceLT, Nat.reduceEqDiff, Nat.reduceAdd, Nat.reduceLeDiff, reduceCtorEq, e61', e47two, hl])
  refine ⟨by kernel_rfl, ?_⟩
  cases hw : isWayB o h with
  | false =>
    (try simp only [SS, aA, Nat.reduceLT, Nat.reduceEqDiff, reduceCtorEq, e90, hw])
    (refine hQ _ _ _ (aC (by first | exact .inl rfl | exact .inr rfl) ?_); simp only [SS, TF23Form5, Nat.reduceLT, Nat.reduceEqDiff, reduceCtorEq])
    simp [wayR, hw]
  | true =>
    obtain ⟨c, rfl⟩ : ∃ c, h = [c] := by
      match h, hw with
      | [c], _ => exact ⟨c, rfl⟩
    have h91 : F91 [.agg [.int .i64 f, .int .i64 t, .bool o, .str [c], .lsl (aS b)]] = some (.bool (fitsB f t o c)) := by
      simp only [F91]; rw [if_pos hf]
    cases hfit : fitsB f t o c with
    | false =>
      (try simp only [SS, TF23Form5, aH, aA, Nat.reduceLT, Nat.reduceEqDiff, Nat.reduceAdd, reduceCtorEq, e90, hw, h91, hfit])
      (refine hQ _ _ _ (aC (by first | exact .inl rfl | exact .inr rfl) ?_); simp only [SS, TF23Form5, Nat.reduceLT, Nat.reduceEqDiff, reduceCtorEq])
      simp [wayR, hw, hfit]
    | true =>
      (try simp only [SS, TF23Form5, aH, aA, Nat.reduceLT, Nat.reduceEqDiff, Nat.reduceAdd, reduceCtorEq, e90, hw, h91, hfit, h92])
      (refine hQ _ _ _ (aC (by first | exact .inl rfl | exact .inr rfl) ?_); simp only [SS, TF23Form5, Nat.reduceLT, Nat.reduceEqDiff, reduceCtorEq])
      simp [wayR, hw, hfit]
end Go.Ev
