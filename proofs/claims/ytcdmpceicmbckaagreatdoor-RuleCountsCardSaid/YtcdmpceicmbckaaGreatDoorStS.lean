import Derived.Test.YtcdmpceicmbckaaGreatDoorStR
import Derived.Test.YtcdmpceicmbckaaGreatDoorStG
set_option linter.unusedSimpArgs false
set_option linter.unusedVariables false
namespace Go.Ev
open Go.RowKit Go.Proofs
set_option linter.defProp false
def TF65StS := And.intro (And.intro (And.intro (@Tryz.underlying3) (And.intro (@sz3) (@bP))) (And.intro (And.intro (@I3s) (@I3b)) (And.intro (@bN) (@bQ)))) (And.intro (And.intro (And.intro (@Tryz.underlying30) (@sz30)) (And.intro (@info30) (@I30s))) (And.intro (And.intro (@I30b) (@zero30)) (And.intro (@grow30) (@Tryz.results65))))
def TF66StS := And.intro (And.intro (And.intro (And.intro (And.intro (@Tryz.underlying3) (@sz3)) (And.intro (@bP) (@I3s))) (And.intro (And.intro (@I3b) (@bN)) (And.intro (@bQ) (And.intro (@Tryz.underlying4) (@sz4))))) (And.intro (And.intro (And.intro (@info4) (@I4s)) (And.intro (@I4b) (@zero4))) (And.intro (And.intro (@grow4) (@Tryz.underlying22)) (And.intro (@sz22) (And.intro (@info22) (@I22s)))))) (And.intro (And.intro (And.intro (And.intro (@I22b) (@zero22)) (And.intro (@grow22) (@Tryz.underlying23))) (And.intro (And.intro (@sz23) (@info23)) (And.intro (@I23s) (And.intro (@I23b) (@zero23))))) (And.intro (And.intro (And.intro (@grow23) (@Tryz.underlying25)) (And.intro (@sz25) (And.intro (@fok25) (@info25)))) (And.intro (And.intro (@I25s) (@I25b)) (And.intro (@zero25) (And.intro (@grow25) (@Tryz.results66))))))
def bE := And.intro (And.intro (And.intro (And.intro (And.intro (@Tryz.underlying3) (@sz3)) (And.intro (@bP) (@I3s))) (And.intro (And.intro (@I3b) (@bN)) (And.intro (@bQ) (And.intro (@Tryz.underlying4) (@sz4))))) (And.intro (And.intro (And.intro (@info4) (@I4s)) (And.intro (@I4b) (And.intro (@zero4) (@grow4)))) (And.intro (And.intro (@Tryz.underlying22) (@sz22)) (And.intro (@info22) (And.intro (@I22s) (@I22b)))))) (And.intro (And.intro (And.intro (And.intro (@zero22) (@grow22)) (And.intro (@Tryz.underlying23) (@sz23))) (And.intro (And.intro (@info23) (@I23s)) (And.intro (@I23b) (And.intro (@zero23) (@grow23))))) (And.intro (And.intro (And.intro (@Tryz.underlying25) (@sz25)) (And.intro (@fok25) (And.intro (@info25) (@I25s)))) (And.intro (And.intro (@I25b) (@zero25)) (And.intro (@grow25) (And.intro (@call117) (@Tryz.results68))))))
def TF117StS := And.intro (And.intro (And.intro (And.intro (And.intro (@Tryz.underlying3) (@sz3)) (And.intro (@bP) (@I3s))) (And.intro (And.intro (@I3b) (@bN)) (And.intro (@bQ) (And.intro (@Tryz.underlying4) (@sz4))))) (And.intro (And.intro (And.intro (@info4) (@I4s)) (And.intro (@I4b) (And.intro (@zero4) (@grow4)))) (And.intro (And.intro (@Tryz.underlying22) (@sz22)) (And.intro (@info22) (And.intro (@I22s) (@I22b)))))) (And.intro (And.intro (And.intro (And.intro (@zero22) (@grow22)) (And.intro (@Tryz.underlying23) (@sz23))) (And.intro (And.intro (@info23) (@I23s)) (And.intro (@I23b) (And.intro (@zero23) (@grow23))))) (And.intro (And.intro (And.intro (@Tryz.underlying25) (@sz25)) (And.intro (@fok25) (And.intro (@info25) (@I25s)))) (And.intro (And.intro (@I25b) (@zero25)) (And.intro (@grow25) (And.intro (@call154) (@Tryz.results117))))))
set_option maxRecDepth 20000
set_option maxHeartbeats 4000000

/-! the first of a list of errors that is not 0 -/
def F1065 : List EVal → Option EVal
  | [a] => (dInts a).map fun l => .int .i64 (bL l)
  | _ => none
theorem e1065 {l : List Int} (h : l.length < 9223372036854775808) : F1065 [.lsl (eInts l)] = some (.int .i64 (bL l)) := by
  simp only [F1065, dInts_e h, Option.map_some]
theorem firstI_drop {l : List Int} {k : Nat} {x : Int} (h : l[k]? = some x) : bL (l.drop k) = if x = 0 then bL (l.drop (k + 1)) else x := by
  obtain ⟨h1, h2⟩ := List.getElem?_eq_some_iff.1 h
  rw [List.drop_eq_getElem_cons h1, h2, bL]
theorem fn1065 : FnT 65 F1065 := by
  refine Fn.intro mixed aK Tryz.func65 rfl [] (fun _ h => by cases h) ?_
  intro args v hF
  unfold F1065 at hF
  split at hF
  rotate_left
  · cases hF
  intro Q hV
  have hQ := aV.of hV
  rename_i a
  cases ha : dInts a with
  | none => rw [ha] at hF; cases hF
  | some l =>
  rw [ha] at hF
  cases hF
  obtain ⟨rfl, hlen⟩ := dInts_inv ha
  clear ha
  refine Top.view (aH.start (n := 19) rfl (by simp)) (aC aK _ _ _ _ ?_)
  (try simp only [aT, SS, aA, Nat.reduceLT])
  refine wp_of_top (Top.loop (I := fun s : { k : Nat // k ≤ l.length ∧ bL l = bL (l.drop k) } => (mkF 19 [(3, .int .i64 (s.1 : Nat)), (0, .lsl (eInts l))], H.start)) (μ := fun s => l.length - s.1) ⟨0, by simp⟩ (aH.sub (by simp [aX])) ?_)
  rintro ⟨k, hk, hf⟩
  refine aC aK _ _ _ _ ?_
  by_cases hlt : k < l.length
  · obtain ⟨x, hx⟩ : ∃ x, l[k]? = some x := ⟨l[k], List.getElem?_eq_getElem hlt⟩
    have c1 : decide ((k : Int) < (l.length : Int)) = true := by simp; omega
    have c2 : IntKind.i64.wrap ((k : Int) + 1) = ((k + 1 : Nat) : Int) := by rw [wrap_id] <;> omega
    have hfd := firstI_drop hx
    by_cases h0 : x = 0
    · have c0 : (x == 0) = true := by simp [h0]
      (try simp only [SS, TF65StS, aA, Nat.reduceLT, Nat.reduceEqDiff, reduceCtorEq, eInts_length, eInts_get, c1, c2, hx, c0])
      rw [if_pos h0] at hfd
      exact ⟨⟨k + 1, hlt, by rw [hf, hfd]⟩, by simp; omega, aH.sub (by simp [aX])⟩
    · have c0 : (x == 0) = false := by simp [h0]
      (try simp only [SS, TF65StS, aA, Nat.reduceLT, Nat.reduceEqDiff, reduceCtorEq, eInts_length, eInts_get, c1, hx, c0])
      rw [if_neg h0] at hfd
      (refine hQ _ _ _ (aD (by first | exact .inl rfl | exact .inr rfl) ?_); simp only [SS, TF65StS, Nat.reduceLT, Nat.reduceEqDiff, reduceCtorEq])
      rw [hf, hfd]
  · have c1 : decide ((k : Int) < (l.length : Int)) = false := by simp; omega
    (try simp only [SS, TF65StS, aA, Nat.reduceLT, Nat.reduceEqDiff, reduceCtorEq, eInts_length, c1])
    (refine hQ _ _ _ (aD (by first | exact .inl rfl | exact .inr rfl) ?_); simp only [SS, TF65StS, Nat.reduceLT, Nat.reduceEqDiff, reduceCtorEq])
    rw [hf, List.drop_eq_nil_of_le (by omega)]; rfl

/-! the end of a game, for the reference -/
def lstB (s : St) : Bool := leadB s || decide (s.half = 1) && (decide (s.c0 ≠ s.c1) || decide (s.inn = 30))
theorem overB_eq (s : St) : overB s = (decide (s.outs = 0) && decide (s.balls = 0) && decide (s.strikes = 0) && (decide (s.b1 = 0) && decide (s.b2 = 0) && decide (s.b3 = 0)) && decide (9 ≤ s.inn) && lstB s) := by
  have h : decide (s = clr s) = (decide (s.outs = 0) && decide (s.balls = 0) && decide (s.strikes = 0) && (decide (s.b1 = 0) && decide (s.b2 = 0) && decide (s.b3 = 0))) := by
    rw [Bool.eq_iff_iff]
    simp only [decide_eq_true_eq, Bool.and_eq_true]
    cases s
    simp only [clr, St.mk.injEq]
    constructor
    · rintro ⟨_, _, rfl, rfl, rfl, rfl, rfl, rfl, _⟩; simp
    · rintro ⟨⟨⟨rfl, rfl⟩, rfl⟩, ⟨rfl, rfl⟩, rfl⟩; simp
  unfold overB lastB
  rw [h, ← Bool.and_assoc]
  rfl
theorem eq22 {a b c : Int} : eqX Tryz.prog 22 (.agg [.int .i64 a, .int .i64 b, .int .i64 c]) (.agg [.int .i64 0, .int .i64 0, .int .i64 0]) = some (decide (a = 0) && decide (b = 0) && decide (c = 0)) := by
  have hg : Tryz.prog.eqGuardType Tryz.prog.depth 22 = false := by kernel_rfl
  simp only [eqX, Tryz.underlying22, eqAgg, hg, sz3, List.length_cons, List.length_nil, and_self, if_true, eqItemsE, eqBasic, Tryz.underlying3, eqIntE, eqN, Nat.zero_add, Nat.reduceAdd]
  by_cases h1 : a = 0 <;> simp only [h1, decide_true, decide_false]
  · by_cases h2 : b = 0 <;> simp only [h2, decide_true, decide_false]
    · by_cases h3 : c = 0 <;> simp only [h3, decide_true, decide_false] <;> rfl
    · rfl
  · rfl
def F1066 : List EVal → Option EVal := onSt fun s => some (.bool (overB s))
theorem e1066 {s : St} : F1066 [.agg (eSt s)] = some (.bool (overB s)) := rfl
theorem fn1066 : FnT 66 F1066 := by
  refine Fn.intro mixed aK Tryz.func66 rfl [] (fun _ h => by cases h) ?_
  intro args v hF0
  obtain ⟨s, rfl, hF⟩ := onSt_inv hF0
  clear hF0
  cases hF
  intro Q hV
  rw [overB_eq] at hV
  have hQ := aV.of hV
  have u : eSt s = [.int .i64 s.inn, .int .i64 s.half, .int .i64 s.outs, .int .i64 s.balls, .int .i64 s.strikes, .int .i64 s.b1, .int .i64 s.b2, .int .i64 s.b3, .int .i64 s.n0, .int .i64 s.n1, .int .i64 s.c0, .int .i64 s.c1, .bool s.over] := rfl
  have eq2 := eq22 (a := s.b1) (b := s.b2) (c := s.b3)
  refine Top.view (aH.start (n := 53) rfl (by simp)) ?_
  refine Top.seam (σ := Unit) aK (fun _ => mkF 53 [(2, .bool false), (1, .ptr 0 0)]) (fun _ => mkH 1 [(0, some (.row [.int .i64 s.inn, .int .i64 s.half, .int .i64 s.outs, .int .i64 s.balls, .int .i64 s.strikes, .int .i64 s.b1, .int .i64 s.b2, .int .i64 s.b3, .int .i64 s.n0, .int .i64 s.n1, .int .i64 s.c0, .int .i64 s.c1, .bool s.over] 25 0 0 false))] 0 []) ?_ ?_
  · intro R hR
    (try simp only [aT, SS, aA, Nat.reduceLT, u])
    exact hR () _ _ (aH.drop (by simp [aX, below]) (by simp [aG, belowO, below, aN]) (by simp [aG]))
  intro _
  cases x1 : (s.outs == 0) with
  | false =>
    refine aC aK _ _ _ _ ?_
    (try simp only [SS, TF66StS, aA, Nat.reduceLT, Nat.reduceEqDiff, reduceCtorEq, x1])
    (refine hQ _ _ _ (aD (by first | exact .inl rfl | exact .inr rfl) ?_); simp only [SS, TF66StS, Nat.reduceLT, Nat.reduceEqDiff])
    simp only [eqN] at x1; simp [x1]
  | true =>
  cases x2 : (s.balls == 0) with
  | false =>
    refine aC aK _ _ _ _ ?_
    (try simp only [SS, TF66StS, aA, Nat.reduceLT, Nat.reduceEqDiff, reduceCtorEq, x1, x2])
    (refine hQ _ _ _ (aD (by first | exact .inl rfl | exact .inr rfl) ?_); simp only [SS, TF66StS, Nat.reduceLT, Nat.reduceEqDiff])
    simp only [eqN] at x2; simp [x2]
  | true =>
  cases x3 : (s.strikes == 0) with
  | false =>
    refine aC aK _ _ _ _ ?_
    (try simp only [SS, TF66StS, aA, Nat.reduceLT, Nat.reduceEqDiff, reduceCtorEq, x1, x2, x3])
    (refine hQ _ _ _ (aD (by first | exact .inl rfl | exact .inr rfl) ?_); simp only [SS, TF66StS, Nat.reduceLT, Nat.reduceEqDiff])
    simp only [eqN] at x3; simp [x3]
  | true =>
  cases x4 : (decide (s.b1 = 0) && decide (s.b2 = 0) && decide (s.b3 = 0)) with
  | false =>
    refine aC aK _ _ _ _ ?_
    rw [x4] at eq2
    (try simp only [SS, TF66StS, aA, aJ, Nat.reduceLT, Nat.reduceEqDiff, Nat.reduceAdd, reduceCtorEq, x1, x2, x3, eq2, eOther])
    (refine hQ _ _ _ (aD (by first | exact .inl rfl | exact .inr rfl) ?_); simp only [SS, TF66StS, Nat.reduceLT, Nat.reduceEqDiff])
    simp only [x4, Bool.and_false, Bool.false_and]
  | true =>
  rw [x4] at eq2
  cases x5 : decide (s.inn < 9) with
  | true =>
    refine aC aK _ _ _ _ ?_
    (try simp only [SS, TF66StS, aA, aJ, Nat.reduceLT, Nat.reduceEqDiff, Nat.reduceAdd, reduceCtorEq, x1, x2, x3, eq2, eOther, x5])
    (refine hQ _ _ _ (aD (by first | exact .inl rfl | exact .inr rfl) ?_); simp only [SS, TF66StS, Nat.reduceLT, Nat.reduceEqDiff])
    have : decide (9 ≤ s.inn) = false := by simp only [decide_eq_true_eq] at x5; simp; omega
    simp [this]
  | false =>
  simp only [eqN] at x1 x2 x3
  have hE : (decide (s.outs = 0) && decide (s.balls = 0) && decide (s.strikes = 0) && true && decide (9 ≤ s.inn) && lstB s) = lstB s := by
    have : decide (9 ≤ s.inn) = true := by simp only [decide_eq_false_iff_not] at x5; simp; omega
    simp only [x1, x2, x3, this, Bool.true_and]
  rw [x4, hE] at hQ
  clear hV
  simp only [← eqN] at x1 x2 x3
  refine Top.seam (σ := Unit) aK (fun _ => mkF 53 [(2, .bool false), (1, .ptr 0 0)]) (fun _ => mkH 1 [(0, some (.row [.int .i64 s.inn, .int .i64 s.half, .int .i64 s.outs, .int .i64 s.balls, .int .i64 s.strikes, .int .i64 s.b1, .int .i64 s.b2, .int .i64 s.b3, .int .i64 s.n0, .int .i64 s.n1, .int .i64 s.c0, .int .i64 s.c1, .bool s.over] 25 0 0 false))] 0 []) ?_ ?_
  · intro R hR
    (try simp only [SS, TF66StS, aA, aJ, Nat.reduceLT, Nat.reduceEqDiff, Nat.reduceAdd, reduceCtorEq, x1, x2, x3, eq2, eOther, x5])
    exact hR () _ _ (aH.drop (by simp [aX, below]) (by simp [aG, belowO, below, aN]) (by simp [aG]))
  intro _
  refine aC aK _ _ _ _ ?_
  ((try simp only [aT, SS, TF66StS, aE, setRange, bF, aA, aF, aQ, aP, aJ, aB, Nat.reduceLT, Nat.reduceEqDiff, Nat.reduceAdd, Nat.reduceMul, Nat.reduceSub, Nat.reduceLeDiff, Nat.reduceBEq, reduceCtorEq, BND]); (repeat' ((first | apply wpStep_not | apply wpStep_sym | apply wpCond_not | apply wpCond_sym | apply wpDStep_not | apply wpDStep_sym) <;> intro h <;> simp only [h, SS, TF66StS, aE, setRange, bF, aA, aF, aQ, aP, aJ, aB, Nat.reduceLT, Nat.reduceEqDiff, Nat.reduceAdd, Nat.reduceMul, Nat.reduceSub, Nat.reduceLeDiff, Nat.reduceBEq, reduceCtorEq, BND])))
  all_goals ((refine hQ _ _ _ (aD (by first | exact .inl rfl | exact .inr rfl) ?_); simp only [SS, TF66StS, aE, setRange, bF, aA, aF, aQ, aP, aJ, aB, Nat.reduceLT, Nat.reduceEqDiff, Nat.reduceAdd, Nat.reduceMul, Nat.reduceSub, Nat.reduceLeDiff, Nat.reduceBEq, reduceCtorEq]))
  all_goals (simp_all [lstB, leadB, eqN])
  all_goals (try (intros; omega))

/-! turns since, for the reference -/
def F1117 : List EVal → Option EVal
  | [.agg l, .int .i64 r] => match dSt l with
    | some s => if (halfOK s && in19 r && in19 (cF s)) = true then some (.int .i64 (bO r (cF s))) else none
    | none => none
  | _ => none
theorem e1117 {s : St} {r : Int} (h : halfOK s = true) (h1 : in19 r = true) (h2 : in19 (cF s) = true) : F1117 [.agg (eSt s), .int .i64 r] = some (.int .i64 (bO r (cF s))) := by
  show (if (halfOK s && in19 r && in19 (cF s)) = true then _ else _) = _
  rw [h, h1, h2]; rfl
theorem fn1117 : FnT 117 F1117 := by
  refine Fn.intro mixed aK Tryz.func117 rfl [(154, F1154)] (by simp only [List.forall_mem_cons]; exact ⟨fn1154, fun _ h => by cases h⟩) ?_
  intro args v hF
  unfold F1117 at hF
  split at hF
  rotate_left
  · cases hF
  intro Q hV
  have hQ := aV.of hV
  rename_i l r
  split at hF
  rotate_left
  · cases hF
  rename_i s hs
  split at hF
  rotate_left
  · cases hF
  rename_i hok
  cases hF
  obtain rfl := dSt_inv hs
  clear hs
  simp only [Bool.and_eq_true, in19_iff] at hok
  obtain ⟨⟨hh, h1, h2⟩, h3, h4⟩ := hok
  have hs := sinC_lt r (cF s)
  have hh : s.half = 0 ∨ s.half = 1 := by simpa [halfOK] using hh
  have b0 : behC r = (r + ((0 : Nat) : Int)) % 9 + 1 := by
    unfold behC; rw [Int.tmod_eq_emod_of_nonneg (by omega)]; omega
  have hst : ∀ (hd : Int) (nx : Int), (s.half = hd ∧ ((hd = 0 ∧ nx = s.n0) ∨ (hd = 1 ∧ nx = s.n1))) → cF s = nx := by
    rintro hd nx ⟨e, h | h⟩
    · unfold cF; rw [if_pos (by omega)]; omega
    · unfold cF; rw [if_neg (by omega)]; omega
  have u : eSt s = [.int .i64 s.inn, .int .i64 s.half, .int .i64 s.outs, .int .i64 s.balls, .int .i64 s.strikes, .int .i64 s.b1, .int .i64 s.b2, .int .i64 s.b3, .int .i64 s.n0, .int .i64 s.n1, .int .i64 s.c0, .int .i64 s.c1, .bool s.over] := rfl
  rcases hh with hh | hh
  · obtain ⟨bt, hbt⟩ : ∃ x, x = s.n0 := ⟨_, rfl⟩
    have hb2 : cF s = bt := by unfold cF; rw [if_pos hh]; exact hbt.symm
    rw [hb2] at hs h3 h4 hV
    have hQ := aV.of hV
    refine Top.view (aH.start (n := 21) rfl (by simp)) (aC aK _ _ _ _ ?_)
    (try simp only [aT, SS, TF117StS, aE, aA, Nat.reduceLT, Nat.reduceEqDiff, reduceCtorEq, u, hh, e1154, b0, ← hbt])
    refine wp_of_top (Top.loop (I := fun x : { k : Nat // (k : Int) ≤ bO r bt } => (mkF 21 [(6, .int .i64 ((r + (x.1 : Nat)) % 9 + 1)), (5, .int .i64 (x.1 : Nat)), (2, .ptr 0 0)], mkH 1 [(0, some (.row [.int .i64 s.inn, .int .i64 0, .int .i64 s.outs, .int .i64 s.balls, .int .i64 s.strikes, .int .i64 s.b1, .int .i64 s.b2, .int .i64 s.b3, .int .i64 bt, .int .i64 s.n1, .int .i64 s.c0, .int .i64 s.c1, .bool s.over] 25 0 0 false))] 0 [])) (μ := fun x => 9 - x.1) ⟨0, by omega⟩ (aH.drop (by simp [aX, below]) (by simp [aG, belowO, below, aN]) (by simp [aG])) ?_)
    rintro ⟨k, hk⟩
    refine aC aK _ _ _ _ ?_
    dsimp only
    have c2 : behC ((r + (k : Int)) % 9 + 1) = (r + ((k + 1 : Nat) : Int)) % 9 + 1 := by
      have := beh_at (r := r) (k := k + 1) h1
      rw [show r + ((k + 1 : Nat) : Int) - 1 = r + (k : Int) by omega] at this
      exact this
    have c3 : IntKind.i64.wrap ((k : Int) + 1) = ((k + 1 : Nat) : Int) := by rw [wrap_id] <;> omega
    rcases Int.lt_or_eq_of_le hk with hlt | heq
    · have c4 : ((r + (k : Int)) % 9 + 1 == bt) = false := by simpa using at_ne h1 h2 h3 h4 hlt
      (try simp only [SS, TF117StS, aE, aA, Nat.reduceLT, Nat.reduceEqDiff, Nat.reduceAdd, reduceCtorEq, BND, c4, e1154, c2, c3])
      exact ⟨⟨k + 1, by omega⟩, by simp; omega, (aH.drop (by simp [aX, below]) (by simp [aG, belowO, below, aN]) (by simp [aG]))⟩
    · have c4 : ((r + (k : Int)) % 9 + 1 == bt) = true := by simpa using at_eq h1 h2 h3 h4 heq
      (try simp only [SS, TF117StS, aA, Nat.reduceLT, Nat.reduceEqDiff, Nat.reduceAdd, reduceCtorEq, BND, c4])
      (refine hQ _ _ _ (aD (by first | exact .inl rfl | exact .inr rfl) ?_); simp only [SS, TF117StS, Nat.reduceLT, Nat.reduceEqDiff])
      rw [heq]
  · obtain ⟨bt, hbt⟩ : ∃ x, x = s.n1 := ⟨_, rfl⟩
    have hb2 : cF s = bt := by unfold cF; rw [if_neg (by omega)]; exact hbt.symm
    rw [hb2] at hs h3 h4 hV
    have hQ := aV.of hV
    refine Top.view (aH.start (n := 21) rfl (by simp)) (aC aK _ _ _ _ ?_)
    (try simp only [aT, SS, TF117StS, aE, aA, Nat.reduceLT, Nat.reduceEqDiff, reduceCtorEq, u, hh, e1154, b0, ← hbt])
    refine wp_of_top (Top.loop (I := fun x : { k : Nat // (k : Int) ≤ bO r bt } => (mkF 21 [(6, .int .i64 ((r + (x.1 : Nat)) % 9 + 1)), (5, .int .i64 (x.1 : Nat)), (2, .ptr 0 0)], mkH 1 [(0, some (.row [.int .i64 s.inn, .int .i64 1, .int .i64 s.outs, .int .i64 s.balls, .int .i64 s.strikes, .int .i64 s.b1, .int .i64 s.b2, .int .i64 s.b3, .int .i64 s.n0, .int .i64 bt, .int .i64 s.c0, .int .i64 s.c1, .bool s.over] 25 0 0 false))] 0 [])) (μ := fun x => 9 - x.1) ⟨0, by omega⟩ (aH.drop (by simp [aX, below]) (by simp [aG, belowO, below, aN]) (by simp [aG])) ?_)
    rintro ⟨k, hk⟩
    refine aC aK _ _ _ _ ?_
    dsimp only
    have c2 : behC ((r + (k : Int)) % 9 + 1) = (r + ((k + 1 : Nat) : Int)) % 9 + 1 := by
      have := beh_at (r := r) (k := k + 1) h1
      rw [show r + ((k + 1 : Nat) : Int) - 1 = r + (k : Int) by omega] at this
      exact this
    have c3 : IntKind.i64.wrap ((k : Int) + 1) = ((k + 1 : Nat) : Int) := by rw [wrap_id] <;> omega
    rcases Int.lt_or_eq_of_le hk with hlt | heq
    · have c4 : ((r + (k : Int)) % 9 + 1 == bt) = false := by simpa using at_ne h1 h2 h3 h4 hlt
      (try simp only [SS, TF117StS, aE, aA, Nat.reduceLT, Nat.reduceEqDiff, Nat.reduceAdd, reduceCtorEq, BND, c4, e1154, c2, c3])
      exact ⟨⟨k + 1, by omega⟩, by simp; omega, (aH.drop (by simp [aX, below]) (by simp [aG, belowO, below, aN]) (by simp [aG]))⟩
    · have c4 : ((r + (k : Int)) % 9 + 1 == bt) = true := by simpa using at_eq h1 h2 h3 h4 heq
      (try simp only [SS, TF117StS, aA, Nat.reduceLT, Nat.reduceEqDiff, Nat.reduceAdd, reduceCtorEq, BND, c4])
      (refine hQ _ _ _ (aD (by first | exact .inl rfl | exact .inr rfl) ?_); simp only [SS, TF117StS, Nat.reduceLT, Nat.reduceEqDiff])
      rw [heq]
/-! the order of the runners, for the reference -/
def F1068 : List EVal → Option EVal := onSt fun s => if goodS s = true then some (.bool (fitB s)) else none
theorem e1068 {s : St} (h : goodS s = true) : F1068 [.agg (eSt s)] = some (.bool (fitB s)) := by
  show (if goodS s = true then _ else _) = _
  rw [if_pos h]
theorem fn1068 : FnT 68 F1068 := by
  refine Fn.intro mixed aK Tryz.func68 rfl [(117, F1117)] (by simp only [List.forall_mem_cons]; exact ⟨fn1117, fun _ h => by cases h⟩) ?_
  intro args v hF0
  obtain ⟨s, rfl, hF⟩ := onSt_inv hF0
  clear hF0
  split at hF
  rotate_left
  · cases hF
  rename_i hgood
  cases hF
  have hg := good_of hgood
  clear hgood
  intro Q hV
  have hQ := aV.of hV
  have u : eSt s = [.int .i64 s.inn, .int .i64 s.half, .int .i64 s.outs, .int .i64 s.balls, .int .i64 s.strikes, .int .i64 s.b1, .int .i64 s.b2, .int .i64 s.b3, .int .i64 s.n0, .int .i64 s.n1, .int .i64 s.c0, .int .i64 s.c1, .bool s.over] := rfl
  have hbat := hg.bat
  have hout := hg.outs
  have h17 : ∀ r, in19 r = true → F1117 [.agg (eSt s), .int .i64 r] = some (.int .i64 (bO r (cF s))) := fun r h => e1117 hg.hok h hbat
  simp only [u] at h17
  obtain ⟨bt, hbt⟩ : ∃ x, x = cF s := ⟨_, rfl⟩
  rw [← hbt] at h17 hbat
  refine Top.view (aH.start (n := 41) rfl (by simp)) (aC aK _ _ _ _ ?_)
  (try simp only [aT, SS, aA, Nat.reduceLT, u])
  refine wp_of_top (Top.loop (I := fun x : { x : Nat × Int × Int // x.1 ≤ 3 ∧ fitN s x.1 = some (x.2.1, x.2.2) ∧ 0 ≤ x.2.1 ∧ x.2.1 ≤ x.1 } => (mkF 41 [(5, .int .i64 ((x.1.1 : Nat) : Int)), (4, .int .i64 x.1.2.2), (3, .int .i64 x.1.2.1), (1, .ptr 0 0)], mkH 1 [(0, some (.row [.int .i64 s.inn, .int .i64 s.half, .int .i64 s.outs, .int .i64 s.balls, .int .i64 s.strikes, .int .i64 s.b1, .int .i64 s.b2, .int .i64 s.b3, .int .i64 s.n0, .int .i64 s.n1, .int .i64 s.c0, .int .i64 s.c1, .bool s.over] 25 0 0 false))] 0 [])) (μ := fun x => 3 - x.1.1) ⟨(0, 0, -1), by simp [fitN]⟩ (aH.drop (by simp [aX, below]) (by simp [aG, belowO, below, aN]) (by simp [aG])) ?_)
  rintro ⟨⟨k, lo, la⟩, hk, hfit, hlo, hlk⟩
  refine aC aK _ _ _ _ ?_
  dsimp only at hk hfit hlo hlk ⊢
  have hw : IntKind.i64.wrap (lo + s.outs) = lo + s.outs := by rw [wrap_id] <;> omega
  have hw2 : IntKind.i64.wrap (lo + 1) = lo + 1 := by rw [wrap_id] <;> omega
  obtain rfl | rfl | rfl | rfl : k = 0 ∨ k = 1 ∨ k = 2 ∨ k = 3 := by omega
  · have hn : fitN s 1 = stepF s s.b1 (some (lo, la)) := by show stepF s _ (fitN s 0) = _; rw [hfit]; rfl
    simp only [stepF] at hn
    rw [← hbt] at hn
    by_cases h0 : s.b1 = 0
    · have c0 : (s.b1 == 0) = true := by simpa using h0
      rw [if_pos h0] at hn
      (try simp only [SS, bE, aA, Nat.reduceLT, Nat.reduceEqDiff, Nat.reduceAdd, Nat.reduceSub, reduceCtorEq, UP, c0])
      exact ⟨⟨(1, lo, la), by omega, hn, by omega, by simp; omega⟩, by simp, (aH.drop (by simp [aX, below]) (by simp [aG, belowO, below, aN]) (by simp [aG]))⟩
    have c0 : (s.b1 == 0) = false := by simpa using h0
    rw [if_neg h0] at hn
    have h21 := h17 s.b1 (by rw [in19_iff]; have := hg.b1; omega)
    (try simp only [SS, bE, aA, Nat.reduceLT, Nat.reduceEqDiff, Nat.reduceAdd, reduceCtorEq, UP, c0])
    refine wp_of_draw (Top.draw mixed aK (by kernel_rfl) ?_)
    (try simp only [SS, bE, aE, aA, Nat.reduceLT, Nat.reduceEqDiff, Nat.reduceAdd, reduceCtorEq, UP, h21])
    refine ⟨by kernel_rfl, ?_⟩
    cases h1 : decide (bO s.b1 bt < lo)
    rotate_left
    · have g1 : inB (bO s.b1 bt) lo (lo + s.outs) = false := by simp only [decide_eq_true_eq] at h1; simp [inB]; omega
      rw [g1] at hn
      (try simp only [SS, aA, Nat.reduceLT, Nat.reduceEqDiff])
      (refine hQ _ _ _ (aD (by first | exact .inl rfl | exact .inr rfl) ?_); simp only [SS, bE, Nat.reduceLT, Nat.reduceEqDiff])
      simp only [fit_dead (k := 1) hn (by omega)]
    cases h3 : decide (lo + s.outs < bO s.b1 bt)
    rotate_left
    · have g1 : inB (bO s.b1 bt) lo (lo + s.outs) = false := by simp only [decide_eq_true_eq] at h3; simp [inB]; omega
      rw [g1] at hn
      (try simp only [SS, bE, aA, Nat.reduceLT, Nat.reduceEqDiff, reduceCtorEq, hw, h3])
      (refine hQ _ _ _ (aD (by first | exact .inl rfl | exact .inr rfl) ?_); simp only [SS, bE, Nat.reduceLT, Nat.reduceEqDiff])
      simp only [fit_dead (k := 1) hn (by omega)]
    have g1 : inB (bO s.b1 bt) lo (lo + s.outs) = true := by simp only [decide_eq_false_iff_not] at h1 h3; simp [inB]; omega
    cases h2 : decide (bO s.b1 bt ≤ la)
    · rw [g1, h2] at hn
      (try simp only [SS, bE, aA, Nat.reduceLT, Nat.reduceEqDiff, Nat.reduceSub, reduceCtorEq, UP, hw, hw2, h2, h3])
      exact ⟨⟨(1, lo + 1, bO s.b1 bt), by omega, hn, by show (0 : Int) ≤ lo + 1; omega, by show lo + 1 ≤ ((_ : Nat) : Int); omega⟩, by simp, (aH.drop (by simp [aX, below]) (by simp [aG, belowO, below, aN]) (by simp [aG]))⟩
    · rw [g1, h2] at hn
      (try simp only [SS, bE, aA, Nat.reduceLT, Nat.reduceEqDiff, reduceCtorEq, hw, h2, h3])
      (refine hQ _ _ _ (aD (by first | exact .inl rfl | exact .inr rfl) ?_); simp only [SS, bE, Nat.reduceLT, Nat.reduceEqDiff])
      simp only [fit_dead (k := 1) hn (by omega)]
  · have hn : fitN s 2 = stepF s s.b2 (some (lo, la)) := by show stepF s _ (fitN s 1) = _; rw [hfit]; rfl
    simp only [stepF] at hn
    rw [← hbt] at hn
    by_cases h0 : s.b2 = 0
    · have c0 : (s.b2 == 0) = true := by simpa using h0
      rw [if_pos h0] at hn
      (try simp only [SS, bE, aA, Nat.reduceLT, Nat.reduceEqDiff, Nat.reduceAdd, Nat.reduceSub, reduceCtorEq, UP, BND, c0])
      exact ⟨⟨(2, lo, la), by omega, hn, by omega, by simp; omega⟩, by simp, (aH.drop (by simp [aX, below]) (by simp [aG, belowO, below, aN]) (by simp [aG]))⟩
    have c0 : (s.b2 == 0) = false := by simpa using h0
    rw [if_neg h0] at hn
    have h21 := h17 s.b2 (by rw [in19_iff]; have := hg.b2; omega)
    (try simp only [SS, bE, aA, Nat.reduceLT, Nat.reduceEqDiff, Nat.reduceAdd, reduceCtorEq, UP, BND, c0])
    refine wp_of_draw (Top.draw mixed aK (by kernel_rfl) ?_)
    (try simp only [SS, bE, aE, aA, Nat.reduceLT, Nat.reduceEqDiff, Nat.reduceAdd, reduceCtorEq, UP, BND, h21])
    refine ⟨by kernel_rfl, ?_⟩
    cases h1 : decide (bO s.b2 bt < lo)
    rotate_left
    · have g1 : inB (bO s.b2 bt) lo (lo + s.outs) = false := by simp only [decide_eq_true_eq] at h1; simp [inB]; omega
      rw [g1] at hn
      (try simp only [SS, aA, Nat.reduceLT, Nat.reduceEqDiff])
      (refine hQ _ _ _ (aD (by first | exact .inl rfl | exact .inr rfl) ?_); simp only [SS, bE, Nat.reduceLT, Nat.reduceEqDiff])
      simp only [fit_dead (k := 2) hn (by omega)]
    cases h3 : decide (lo + s.outs < bO s.b2 bt)
    rotate_left
    · have g1 : inB (bO s.b2 bt) lo (lo + s.outs) = false := by simp only [decide_eq_true_eq] at h3; simp [inB]; omega
      rw [g1] at hn
      (try simp only [SS, bE, aA, Nat.reduceLT, Nat.reduceEqDiff, reduceCtorEq, hw, h3])
      (refine hQ _ _ _ (aD (by first | exact .inl rfl | exact .inr rfl) ?_); simp only [SS, bE, Nat.reduceLT, Nat.reduceEqDiff])
      simp only [fit_dead (k := 2) hn (by omega)]
    have g1 : inB (bO s.b2 bt) lo (lo + s.outs) = true := by simp only [decide_eq_false_iff_not] at h1 h3; simp [inB]; omega
    cases h2 : decide (bO s.b2 bt ≤ la)
    · rw [g1, h2] at hn
      (try simp only [SS, bE, aA, Nat.reduceLT, Nat.reduceEqDiff, Nat.reduceSub, reduceCtorEq, UP, hw, hw2, h2, h3])
      exact ⟨⟨(2, lo + 1, bO s.b2 bt), by omega, hn, by show (0 : Int) ≤ lo + 1; omega, by show lo + 1 ≤ ((_ : Nat) : Int); omega⟩, by simp, (aH.drop (by simp [aX, below]) (by simp [aG, belowO, below, aN]) (by simp [aG]))⟩
    · rw [g1, h2] at hn
      (try simp only [SS, bE, aA, Nat.reduceLT, Nat.reduceEqDiff, reduceCtorEq, hw, h2, h3])
      (refine hQ _ _ _ (aD (by first | exact .inl rfl | exact .inr rfl) ?_); simp only [SS, bE, Nat.reduceLT, Nat.reduceEqDiff])
      simp only [fit_dead (k := 2) hn (by omega)]
  · have hn : fitN s 3 = stepF s s.b3 (some (lo, la)) := by show stepF s _ (fitN s 2) = _; rw [hfit]; rfl
    simp only [stepF] at hn
    rw [← hbt] at hn
    by_cases h0 : s.b3 = 0
    · have c0 : (s.b3 == 0) = true := by simpa using h0
      rw [if_pos h0] at hn
      (try simp only [SS, bE, aA, Nat.reduceLT, Nat.reduceEqDiff, Nat.reduceAdd, Nat.reduceSub, reduceCtorEq, UP, BND, c0])
      exact ⟨⟨(3, lo, la), by omega, hn, by omega, by simp; omega⟩, by simp, (aH.drop (by simp [aX, below]) (by simp [aG, belowO, below, aN]) (by simp [aG]))⟩
    have c0 : (s.b3 == 0) = false := by simpa using h0
    rw [if_neg h0] at hn
    have h21 := h17 s.b3 (by rw [in19_iff]; have := hg.b3; omega)
    (try simp only [SS, bE, aA, Nat.reduceLT, Nat.reduceEqDiff, Nat.reduceAdd, reduceCtorEq, UP, BND, c0])
    refine wp_of_draw (Top.draw mixed aK (by kernel_rfl) ?_)
    (try simp only [SS, bE, aE, aA, Nat.reduceLT, Nat.reduceEqDiff, Nat.reduceAdd, reduceCtorEq, UP, BND, h21])
    refine ⟨by kernel_rfl, ?_⟩
    cases h1 : decide (bO s.b3 bt < lo)
    rotate_left
    · have g1 : inB (bO s.b3 bt) lo (lo + s.outs) = false := by simp only [decide_eq_true_eq] at h1; simp [inB]; omega
      rw [g1] at hn
      (try simp only [SS, aA, Nat.reduceLT, Nat.reduceEqDiff])
      (refine hQ _ _ _ (aD (by first | exact .inl rfl | exact .inr rfl) ?_); simp only [SS, bE, Nat.reduceLT, Nat.reduceEqDiff])
      simp only [fit_dead (k := 3) hn (by omega)]
    cases h3 : decide (lo + s.outs < bO s.b3 bt)
    rotate_left
    · have g1 : inB (bO s.b3 bt) lo (lo + s.outs) = false := by simp only [decide_eq_true_eq] at h3; simp [inB]; omega
      rw [g1] at hn
      (try simp only [SS, bE, aA, Nat.reduceLT, Nat.reduceEqDiff, reduceCtorEq, hw, h3])
      (refine hQ _ _ _ (aD (by first | exact .inl rfl | exact .inr rfl) ?_); simp only [SS, bE, Nat.reduceLT, Nat.reduceEqDiff])
      simp only [fit_dead (k := 3) hn (by omega)]
    have g1 : inB (bO s.b3 bt) lo (lo + s.outs) = true := by simp only [decide_eq_false_iff_not] at h1 h3; simp [inB]; omega
    cases h2 : decide (bO s.b3 bt ≤ la)
    · rw [g1, h2] at hn
      (try simp only [SS, bE, aA, Nat.reduceLT, Nat.reduceEqDiff, Nat.reduceSub, reduceCtorEq, UP, hw, hw2, h2, h3])
      exact ⟨⟨(3, lo + 1, bO s.b3 bt), by omega, hn, by show (0 : Int) ≤ lo + 1; omega, by show lo + 1 ≤ ((_ : Nat) : Int); omega⟩, by simp, (aH.drop (by simp [aX, below]) (by simp [aG, belowO, below, aN]) (by simp [aG]))⟩
    · rw [g1, h2] at hn
      (try simp only [SS, bE, aA, Nat.reduceLT, Nat.reduceEqDiff, reduceCtorEq, hw, h2, h3])
      (refine hQ _ _ _ (aD (by first | exact .inl rfl | exact .inr rfl) ?_); simp only [SS, bE, Nat.reduceLT, Nat.reduceEqDiff])
      simp only [fit_dead (k := 3) hn (by omega)]
  · (try simp only [SS, aA, Nat.reduceLT, Nat.reduceEqDiff, UP])
    (refine hQ _ _ _ (aD (by first | exact .inl rfl | exact .inr rfl) ?_); simp only [SS, bE, Nat.reduceLT, Nat.reduceEqDiff])
    simp only [fitB, hfit]
    rfl
end Go.Ev
