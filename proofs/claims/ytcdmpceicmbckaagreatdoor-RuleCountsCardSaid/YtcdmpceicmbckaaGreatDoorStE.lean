import Derived.Test.YtcdmpceicmbckaaGreatDoorStD
set_option linter.unusedSimpArgs false
set_option linter.unusedVariables false
namespace Go.Ev
open Go.RowKit Go.Proofs
set_option linter.defProp false
def TF73StE := And.intro (And.intro (And.intro (And.intro (And.intro (@Tryz.underlying3) (@sz3)) (And.intro (@bP) (And.intro (@I3s) (@I3b)))) (And.intro (And.intro (@bN) (@bQ)) (And.intro (@Tryz.underlying4) (And.intro (@sz4) (@info4))))) (And.intro (And.intro (And.intro (@I4s) (@I4b)) (And.intro (@zero4) (And.intro (@grow4) (@Tryz.underlying22)))) (And.intro (And.intro (@sz22) (@info22)) (And.intro (@I22s) (And.intro (@I22b) (@zero22)))))) (And.intro (And.intro (And.intro (And.intro (@grow22) (@Tryz.underlying23)) (And.intro (@sz23) (And.intro (@info23) (@I23s)))) (And.intro (And.intro (@I23b) (@zero23)) (And.intro (@grow23) (And.intro (@Tryz.underlying26) (@sz26))))) (And.intro (And.intro (And.intro (@fok26) (@info26)) (And.intro (@I26s) (And.intro (@I26b) (@zero26)))) (And.intro (And.intro (@grow26) (@call62)) (And.intro (@call118) (And.intro (@call121) (@Tryz.results73))))))
def TF121StE := And.intro (And.intro (And.intro (@Tryz.underlying3) (@sz3)) (And.intro (@bP) (@I3s))) (And.intro (And.intro (@I3b) (@bN)) (And.intro (@bQ) (And.intro (@call146) (@Tryz.results121))))
set_option maxRecDepth 20000
set_option maxHeartbeats 4000000

/-! turns since a runner's -/
def bO (r b : Int) : Int := (b - r + 8) % 9
def in19 (n : Int) : Bool := inB n 1 9
theorem in19_iff {n : Int} : in19 n = true ↔ 1 ≤ n ∧ n ≤ 9 := by simp [in19, inB]
theorem beh_at {r : Int} {k : Nat} (h1 : 1 ≤ r) : behC ((r + k - 1) % 9 + 1) = (r + k) % 9 + 1 := by
  unfold behC
  rw [Int.tmod_eq_emod_of_nonneg (by omega)]
  omega
theorem at_eq {r b : Int} {k : Nat} (h1 : 1 ≤ r) (h2 : r ≤ 9) (h3 : 1 ≤ b) (h4 : b ≤ 9) (hk : (k : Int) = bO r b) : (r + k) % 9 + 1 = b := by
  unfold bO at hk; omega
theorem at_ne {r b : Int} {k : Nat} (h1 : 1 ≤ r) (h2 : r ≤ 9) (h3 : 1 ≤ b) (h4 : b ≤ 9) (hk : (k : Int) < bO r b) : (r + k) % 9 + 1 ≠ b := by
  unfold bO at hk; omega
theorem sinC_lt (r b : Int) : 0 ≤ bO r b ∧ bO r b < 9 := by unfold bO; omega
def F1121 : List EVal → Option EVal
  | [.int .i64 r, .int .i64 b] => if (in19 r && in19 b) = true then some (.int .i64 (bO r b)) else none
  | _ => none
theorem e1121 {r b : Int} (h : in19 r = true) (h2 : in19 b = true) : F1121 [.int .i64 r, .int .i64 b] = some (.int .i64 (bO r b)) := by simp only [F1121, h, h2, Bool.and_self, if_true]
theorem fn1121 : FnT 121 F1121 := by
  refine Fn.intro mixed aK Tryz.func121 rfl [(146, F1146)] (by simp only [List.forall_mem_cons]; exact ⟨fn1146, fun _ h => by cases h⟩) ?_
  intro args v hF
  unfold F1121 at hF
  split at hF
  rotate_left
  · cases hF
  intro Q hV
  have hQ := aV.of hV
  rename_i r b
  split at hF
  rotate_left
  · cases hF
  rename_i hok
  cases hF
  simp only [Bool.and_eq_true, in19_iff] at hok
  obtain ⟨⟨h1, h2⟩, h3, h4⟩ := hok
  have hs := sinC_lt r b
  refine Top.view (aH.start (n := 18) rfl (by simp)) (aC aK _ _ _ _ ?_)
  (try simp only [aT, SS, aA, Nat.reduceLT, Nat.reduceEqDiff, reduceCtorEq])
  refine wp_of_top (Top.loop (I := fun x : { k : Nat // (k : Int) ≤ bO r b } => (mkF 18 [(8, .int .i64 (x.1 : Nat)), (5, .int .i64 ((r + (x.1 : Nat) - 1) % 9 + 1)), (1, .int .i64 b)], H.start)) (μ := fun x => 9 - x.1) ⟨0, by omega⟩ (aH.sub (by simp [aX]; omega)) ?_)
  rintro ⟨k, hk⟩
  refine aC aK _ _ _ _ ?_
  dsimp only
  have c1 : decide ((k : Int) < 9) = true := by simp; omega
  have c2 := beh_at (r := r) (k := k) h1
  have c3 : IntKind.i64.wrap ((k : Int) + 1) = ((k + 1 : Nat) : Int) := by rw [wrap_id] <;> omega
  rcases Int.lt_or_eq_of_le hk with hlt | heq
  · have c4 : ((r + (k : Int)) % 9 + 1 == b) = false := by simpa using at_ne h1 h2 h3 h4 hlt
    (try simp only [SS, TF121StE, aE, aA, Nat.reduceLT, Nat.reduceEqDiff, c1, e1146, c2, c4, c3])
    refine ⟨⟨k + 1, by omega⟩, by simp; omega, aH.sub ?_⟩
    simp [aX]
    omega
  · have c4 : ((r + (k : Int)) % 9 + 1 == b) = true := by simpa using at_eq h1 h2 h3 h4 heq
    (try simp only [SS, TF121StE, aE, aA, Nat.reduceLT, Nat.reduceEqDiff, c1, e1146, c2, c4])
    (refine hQ _ _ _ (aD (by first | exact .inl rfl | exact .inr rfl) ?_); simp only [SS, TF121StE, Nat.reduceLT, Nat.reduceEqDiff])
    rw [heq]

/-! the order of the runners -/
def bsC (s : St) : Nat → Int
  | 0 => s.b1
  | 1 => s.b2
  | _ => s.b3
def stepF (s : St) (slot : Int) : Option (Int × Int) → Option (Int × Int)
  | none => none
  | some (lo, la) => if slot = 0 then some (lo, la) else
    if (inB (bO slot (cF s)) lo (lo + s.outs) && !decide (bO slot (cF s) ≤ la)) = true then some (lo + 1, bO slot (cF s)) else none
def fitN (s : St) : Nat → Option (Int × Int)
  | 0 => some (0, -1)
  | n + 1 => stepF s (bsC s n) (fitN s n)
def fitB (s : St) : Bool := (fitN s 3).isSome
theorem fit_none {s : St} {k : Nat} (h : fitN s k = none) (j : Nat) : fitN s (k + j) = none := by
  induction j with
  | zero => exact h
  | succ j ih => show stepF s _ (fitN s (k + j)) = none; rw [ih]; rfl
theorem fit_dead {s : St} {k : Nat} (h : fitN s k = none) (hk : k ≤ 3) : fitB s = false := by
  have := fit_none h (3 - k)
  rw [show k + (3 - k) = 3 by omega] at this
  simp [fitB, this]
def goodS (s : St) : Bool := halfOK s && nuB s 2
structure Good (s : St) : Prop where
  half : s.half = 0 ∨ s.half = 1
  outs : 0 ≤ s.outs ∧ s.outs ≤ 2
  b1 : 0 ≤ s.b1 ∧ s.b1 ≤ 9
  b2 : 0 ≤ s.b2 ∧ s.b2 ≤ 9
  b3 : 0 ≤ s.b3 ∧ s.b3 ≤ 9
  n0 : 1 ≤ s.n0 ∧ s.n0 ≤ 9
  n1 : 1 ≤ s.n1 ∧ s.n1 ≤ 9
theorem good_of {s : St} (h : goodS s = true) : Good s := by
  simp only [goodS, nuB, baB, cnB, inB, halfOK, Bool.and_eq_true, Bool.or_eq_true, decide_eq_true_eq] at h
  exact ⟨h.1, by omega, by omega, by omega, by omega, by omega, by omega⟩
theorem Good.bat {s : St} (h : Good s) : in19 (cF s) = true := by
  rw [in19_iff]; unfold cF; have := h.n0; have := h.n1; split <;> omega
theorem Good.hok {s : St} (h : Good s) : halfOK s = true := by simpa [halfOK] using h.half
theorem e1062 {s : St} (h : Good s) : F1062 [.agg (eSt s)] = some (.int .i64 (cF s)) := by
  show (if halfOK s = true then _ else _) = _
  rw [if_pos h.hok]
def runE (s : St) : Int := if fitB s = true then 0 else 11
def F1073 : List EVal → Option EVal := onSt fun s => if goodS s = true then some (.int .i64 (runE s)) else none
theorem fn1073 : FnT 73 F1073 := by
  refine Fn.intro mixed aK Tryz.func73 rfl [(62, F1062), (118, F1118), (121, F1121)] (by simp only [List.forall_mem_cons]; exact ⟨fn1062, fn1118, fn1121, fun _ h => by cases h⟩) ?_
  intro args v hF0
  obtain ⟨s, rfl, hF⟩ := onSt_inv hF0
  clear hF0
  split at hF
  rotate_left
  · cases hF
  rename_i hgood
  cases hF
  have hg := good_of hgood
  clear hgood
  intro Q hV
  have hQ := aV.of hV
  have u : eSt s = [.int .i64 s.inn, .int .i64 s.half, .int .i64 s.outs, .int .i64 s.balls, .int .i64 s.strikes, .int .i64 s.b1, .int .i64 s.b2, .int .i64 s.b3, .int .i64 s.n0, .int .i64 s.n1, .int .i64 s.c0, .int .i64 s.c1, .bool s.over] := rfl
  have h62 := e1062 hg
  have hbat := hg.bat
  have hout := hg.outs
  simp only [u] at h62
  obtain ⟨bt, hbt⟩ : ∃ x, x = cF s := ⟨_, rfl⟩
  rw [← hbt] at h62 hbat
  refine Top.view (aH.start (n := 36) rfl (by simp)) (aC aK _ _ _ _ ?_)
  (try simp only [aT, SS, TF73StE, aA, Nat.reduceLT, Nat.reduceEqDiff, Nat.reduceAdd, reduceCtorEq, u])
  refine wp_of_top (Top.loop (I := fun x : { x : Nat × Int × Int // x.1 ≤ 3 ∧ fitN s x.1 = some (x.2.1, x.2.2) ∧ 0 ≤ x.2.1 ∧ x.2.1 ≤ x.1 } => (mkF 36 [(10, .int .i64 ((x.1.1 : Nat) : Int)), (9, .agg [.int .i64 s.b1, .int .i64 s.b2, .int .i64 s.b3]), (4, .int .i64 x.1.2.2), (3, .int .i64 x.1.2.1), (1, .ptr 0 0)], mkH 1 [(0, some (.row [.int .i64 s.inn, .int .i64 s.half, .int .i64 s.outs, .int .i64 s.balls, .int .i64 s.strikes, .int .i64 s.b1, .int .i64 s.b2, .int .i64 s.b3, .int .i64 s.n0, .int .i64 s.n1, .int .i64 s.c0, .int .i64 s.c1, .bool s.over] 26 0 0 false))] 0 [])) (μ := fun x => 3 - x.1.1) ⟨(0, 0, -1), by simp [fitN]⟩ (aH.drop (by simp [aX, below, aN]) (by simp [aG, belowO, below, aN]) (by simp [aG])) ?_)
  rintro ⟨⟨k, lo, la⟩, hk, hfit, hlo, hlk⟩
  refine aC aK _ _ _ _ ?_
  dsimp only at hk hfit hlo hlk ⊢
  have hw : IntKind.i64.wrap (lo + s.outs) = lo + s.outs := by rw [wrap_id] <;> omega
  have hw2 : IntKind.i64.wrap (lo + 1) = lo + 1 := by rw [wrap_id] <;> omega
  obtain rfl | rfl | rfl | rfl : k = 0 ∨ k = 1 ∨ k = 2 ∨ k = 3 := by omega
  · have hn : fitN s 1 = stepF s s.b1 (some (lo, la)) := by show stepF s _ (fitN s 0) = _; rw [hfit]; rfl
    simp only [stepF] at hn
    rw [← hbt] at hn
    by_cases h0 : s.b1 = 0
    · have c0 : (s.b1 == 0) = true := by simpa using h0
      rw [if_pos h0] at hn
      (try simp only [SS, TF73StE, aA, Nat.reduceLT, Nat.reduceEqDiff, Nat.reduceSub, reduceCtorEq, UP, c0])
      exact ⟨⟨(1, lo, la), by omega, hn, by omega, by simp; omega⟩, by simp, (aH.drop (by simp [aX, below, aN]) (by simp [aG, belowO, below, aN]) (by simp [aG]))⟩
    have c0 : (s.b1 == 0) = false := by simpa using h0
    rw [if_neg h0] at hn
    have h21 := e1121 (r := s.b1) (b := bt) (by rw [in19_iff]; have := hg.b1; omega) hbat
    cases h1 : inB (bO s.b1 bt) lo (lo + s.outs)
    · rw [h1] at hn
      (try simp only [SS, TF73StE, aE, aA, Nat.reduceLT, Nat.reduceEqDiff, Nat.reduceAdd, reduceCtorEq, UP, c0, h62, h21, e1118, hw, h1])
      (refine hQ _ _ _ (aD (by first | exact .inl rfl | exact .inr rfl) ?_); simp only [SS, TF73StE, Nat.reduceLT, Nat.reduceEqDiff])
      simp only [runE, fit_dead (k := 1) hn (by omega)]
      rfl
    cases h2 : decide (bO s.b1 bt ≤ la)
    · rw [h1, h2] at hn
      (try simp only [SS, TF73StE, aE, aA, Nat.reduceLT, Nat.reduceEqDiff, Nat.reduceAdd, Nat.reduceSub, reduceCtorEq, UP, c0, h62, h21, e1118, hw, hw2, h1, h2])
      exact ⟨⟨(1, lo + 1, bO s.b1 bt), by omega, hn, by show (0 : Int) ≤ lo + 1; omega, by show lo + 1 ≤ ((_ : Nat) : Int); omega⟩, by simp, (aH.drop (by simp [aX, below, aN]) (by simp [aG, belowO, below, aN]) (by simp [aG]))⟩
    · rw [h1, h2] at hn
      (try simp only [SS, TF73StE, aE, aA, Nat.reduceLT, Nat.reduceEqDiff, Nat.reduceAdd, reduceCtorEq, UP, c0, h62, h21, e1118, hw, h1, h2])
      (refine hQ _ _ _ (aD (by first | exact .inl rfl | exact .inr rfl) ?_); simp only [SS, TF73StE, Nat.reduceLT, Nat.reduceEqDiff])
      simp only [runE, fit_dead (k := 1) hn (by omega)]
      rfl
  · have hn : fitN s 2 = stepF s s.b2 (some (lo, la)) := by show stepF s _ (fitN s 1) = _; rw [hfit]; rfl
    simp only [stepF] at hn
    rw [← hbt] at hn
    by_cases h0 : s.b2 = 0
    · have c0 : (s.b2 == 0) = true := by simpa using h0
      rw [if_pos h0] at hn
      (try simp only [SS, TF73StE, aA, Nat.reduceLT, Nat.reduceEqDiff, Nat.reduceSub, reduceCtorEq, UP, BND, c0])
      exact ⟨⟨(2, lo, la), by omega, hn, by omega, by simp; omega⟩, by simp, (aH.drop (by simp [aX, below, aN]) (by simp [aG, belowO, below, aN]) (by simp [aG]))⟩
    have c0 : (s.b2 == 0) = false := by simpa using h0
    rw [if_neg h0] at hn
    have h21 := e1121 (r := s.b2) (b := bt) (by rw [in19_iff]; have := hg.b2; omega) hbat
    cases h1 : inB (bO s.b2 bt) lo (lo + s.outs)
    · rw [h1] at hn
      (try simp only [SS, TF73StE, aE, aA, Nat.reduceLT, Nat.reduceEqDiff, Nat.reduceAdd, reduceCtorEq, UP, BND, c0, h62, h21, e1118, hw, h1])
      (refine hQ _ _ _ (aD (by first | exact .inl rfl | exact .inr rfl) ?_); simp only [SS, TF73StE, Nat.reduceLT, Nat.reduceEqDiff])
      simp only [runE, fit_dead (k := 2) hn (by omega)]
      rfl
    cases h2 : decide (bO s.b2 bt ≤ la)
    · rw [h1, h2] at hn
      (try simp only [SS, TF73StE, aE, aA, Nat.reduceLT, Nat.reduceEqDiff, Nat.reduceAdd, Nat.reduceSub, reduceCtorEq, UP, BND, c0, h62, h21, e1118, hw, hw2, h1, h2])
      exact ⟨⟨(2, lo + 1, bO s.b2 bt), by omega, hn, by show (0 : Int) ≤ lo + 1; omega, by show lo + 1 ≤ ((_ : Nat) : Int); omega⟩, by simp, (aH.drop (by simp [aX, below, aN]) (by simp [aG, belowO, below, aN]) (by simp [aG]))⟩
    · rw [h1, h2] at hn
      (try simp only [SS, TF73StE, aE, aA, Nat.reduceLT, Nat.reduceEqDiff, Nat.reduceAdd, reduceCtorEq, UP, BND, c0, h62, h21, e1118, hw, h1, h2])
      (refine hQ _ _ _ (aD (by first | exact .inl rfl | exact .inr rfl) ?_); simp only [SS, TF73StE, Nat.reduceLT, Nat.reduceEqDiff])
      simp only [runE, fit_dead (k := 2) hn (by omega)]
      rfl
  · have hn : fitN s 3 = stepF s s.b3 (some (lo, la)) := by show stepF s _ (fitN s 2) = _; rw [hfit]; rfl
    simp only [stepF] at hn
    rw [← hbt] at hn
    by_cases h0 : s.b3 = 0
    · have c0 : (s.b3 == 0) = true := by simpa using h0
      rw [if_pos h0] at hn
      (try simp only [SS, TF73StE, aA, Nat.reduceLT, Nat.reduceEqDiff, Nat.reduceSub, reduceCtorEq, UP, BND, c0])
      exact ⟨⟨(3, lo, la), by omega, hn, by omega, by simp; omega⟩, by simp, (aH.drop (by simp [aX, below, aN]) (by simp [aG, belowO, below, aN]) (by simp [aG]))⟩
    have c0 : (s.b3 == 0) = false := by simpa using h0
    rw [if_neg h0] at hn
    have h21 := e1121 (r := s.b3) (b := bt) (by rw [in19_iff]; have := hg.b3; omega) hbat
    cases h1 : inB (bO s.b3 bt) lo (lo + s.outs)
    · rw [h1] at hn
      (try simp only [SS, TF73StE, aE, aA, Nat.reduceLT, Nat.reduceEqDiff, Nat.reduceAdd, reduceCtorEq, UP, BND, c0, h62, h21, e1118, hw, h1])
      (refine hQ _ _ _ (aD (by first | exact .inl rfl | exact .inr rfl) ?_); simp only [SS, TF73StE, Nat.reduceLT, Nat.reduceEqDiff])
      simp only [runE, fit_dead (k := 3) hn (by omega)]
      rfl
    cases h2 : decide (bO s.b3 bt ≤ la)
    · rw [h1, h2] at hn
      (try simp only [SS, TF73StE, aE, aA, Nat.reduceLT, Nat.reduceEqDiff, Nat.reduceAdd, Nat.reduceSub, reduceCtorEq, UP, BND, c0, h62, h21, e1118, hw, hw2, h1, h2])
      exact ⟨⟨(3, lo + 1, bO s.b3 bt), by omega, hn, by show (0 : Int) ≤ lo + 1; omega, by show lo + 1 ≤ ((_ : Nat) : Int); omega⟩, by simp, (aH.drop (by simp [aX, below, aN]) (by simp [aG, belowO, below, aN]) (by simp [aG]))⟩
    · rw [h1, h2] at hn
      (try simp only [SS, TF73StE, aE, aA, Nat.reduceLT, Nat.reduceEqDiff, Nat.reduceAdd, reduceCtorEq, UP, BND, c0, h62, h21, e1118, hw, h1, h2])
      (refine hQ _ _ _ (aD (by first | exact .inl rfl | exact .inr rfl) ?_); simp only [SS, TF73StE, Nat.reduceLT, Nat.reduceEqDiff])
      simp only [runE, fit_dead (k := 3) hn (by omega)]
      rfl
  · (try simp only [SS, aA, Nat.reduceLT, Nat.reduceEqDiff, UP])
    (refine hQ _ _ _ (aD (by first | exact .inl rfl | exact .inr rfl) ?_); simp only [SS, TF73StE, Nat.reduceLT, Nat.reduceEqDiff])
    simp only [runE, fitB, hfit]
    rfl
end Go.Ev
