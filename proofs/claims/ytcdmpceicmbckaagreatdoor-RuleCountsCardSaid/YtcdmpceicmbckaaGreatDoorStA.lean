import Derived.Test.YtcdmpceicmbckaaGreatDoorEvD
import Derived.Test.YtcdmpceicmbckaaGreatDoorTypes
set_option linter.unusedSimpArgs false
set_option linter.unusedVariables false
namespace Go.Ev
open Go.RowKit Go.Proofs
set_option linter.defProp false
def TF61StA := And.intro (And.intro (And.intro (And.intro (And.intro (@Tryz.underlying3) (@sz3)) (And.intro (@bP) (@I3s))) (And.intro (And.intro (@I3b) (@bN)) (And.intro (@bQ) (And.intro (@Tryz.underlying4) (@sz4))))) (And.intro (And.intro (And.intro (@info4) (@I4s)) (And.intro (@I4b) (@zero4))) (And.intro (And.intro (@grow4) (@Tryz.underlying22)) (And.intro (@sz22) (And.intro (@info22) (@I22s)))))) (And.intro (And.intro (And.intro (And.intro (@I22b) (@zero22)) (And.intro (@grow22) (@Tryz.underlying23))) (And.intro (And.intro (@sz23) (@info23)) (And.intro (@I23s) (And.intro (@I23b) (@zero23))))) (And.intro (And.intro (And.intro (@grow23) (@Tryz.underlying26)) (And.intro (@sz26) (And.intro (@fok26) (@info26)))) (And.intro (And.intro (@I26s) (@I26b)) (And.intro (@zero26) (And.intro (@grow26) (@Tryz.results61))))))
def TF62StA := And.intro (And.intro (And.intro (And.intro (And.intro (@Tryz.underlying3) (@sz3)) (And.intro (@bP) (@I3s))) (And.intro (And.intro (@I3b) (@bN)) (And.intro (@bQ) (And.intro (@Tryz.underlying4) (@sz4))))) (And.intro (And.intro (And.intro (@info4) (@I4s)) (And.intro (@I4b) (@zero4))) (And.intro (And.intro (@grow4) (@Tryz.underlying22)) (And.intro (@sz22) (And.intro (@info22) (@I22s)))))) (And.intro (And.intro (And.intro (And.intro (@I22b) (@zero22)) (And.intro (@grow22) (@Tryz.underlying23))) (And.intro (And.intro (@sz23) (@info23)) (And.intro (@I23s) (And.intro (@I23b) (@zero23))))) (And.intro (And.intro (And.intro (@grow23) (@Tryz.underlying26)) (And.intro (@sz26) (And.intro (@fok26) (@info26)))) (And.intro (And.intro (@I26s) (@I26b)) (And.intro (@zero26) (And.intro (@grow26) (@Tryz.results62))))))
def TF118StA := And.intro (And.intro (And.intro (@Tryz.underlying3) (@sz3)) (And.intro (@bP) (@I3s))) (And.intro (And.intro (@I3b) (@bN)) (And.intro (@bQ) (@Tryz.results118)))
set_option maxRecDepth 20000
set_option maxHeartbeats 4000000

/-! states, as data -/
structure St where
  inn : Int
  half : Int
  outs : Int
  balls : Int
  strikes : Int
  b1 : Int
  b2 : Int
  b3 : Int
  n0 : Int
  n1 : Int
  c0 : Int
  c1 : Int
  over : Bool
  deriving DecidableEq
def eSt (s : St) : List EVal := [.int .i64 s.inn, .int .i64 s.half, .int .i64 s.outs, .int .i64 s.balls, .int .i64 s.strikes, .int .i64 s.b1, .int .i64 s.b2, .int .i64 s.b3, .int .i64 s.n0, .int .i64 s.n1, .int .i64 s.c0, .int .i64 s.c1, .bool s.over]
def dSt : List EVal → Option St
  | [.int .i64 a, .int .i64 b, .int .i64 c, .int .i64 d, .int .i64 e, .int .i64 f, .int .i64 g, .int .i64 h, .int .i64 i, .int .i64 j, .int .i64 k, .int .i64 l, .bool m] => some ⟨a, b, c, d, e, f, g, h, i, j, k, l, m⟩
  | _ => none
theorem dSt_inv {l : List EVal} {s : St} (h : dSt l = some s) : l = eSt s := by
  unfold dSt at h
  split at h
  · cases h; rfl
  · cases h
theorem eqN (a b : Int) : (a == b) = decide (a = b) := by rw [Bool.eq_iff_iff]; simp
def inB (n lo hi : Int) : Bool := decide (lo ≤ n) && decide (n ≤ hi)

def F1118 : List EVal → Option EVal
  | [.int .i64 n, .int .i64 lo, .int .i64 hi] => some (.bool (inB n lo hi))
  | _ => none
theorem e1118 {n lo hi : Int} : F1118 [.int .i64 n, .int .i64 lo, .int .i64 hi] = some (.bool (inB n lo hi)) := rfl
theorem fn1118 : FnT 118 F1118 := by
  refine Fn.intro mixed aK Tryz.func118 rfl [] (fun _ h => by cases h) ?_
  intro args v hF
  unfold F1118 at hF
  split at hF
  rotate_left
  · cases hF
  intro Q hV
  have hQ := aV.of hV
  rename_i n lo hi
  cases hF
  refine Top.view (aH.start (n := 15) rfl (by simp)) (aC aK _ _ _ _ ?_)
  ((try simp only [aT, SS, TF118StA, aE, setRange, bF, aA, aF, aQ, aP, aJ, aB, Nat.reduceLT, Nat.reduceEqDiff, Nat.reduceAdd, Nat.reduceMul, Nat.reduceSub, Nat.reduceLeDiff, Nat.reduceBEq, reduceCtorEq]); (repeat' ((first | apply wpStep_not | apply wpStep_sym | apply wpCond_not | apply wpCond_sym | apply wpDStep_not | apply wpDStep_sym) <;> intro h <;> simp only [h, SS, TF118StA, aE, setRange, bF, aA, aF, aQ, aP, aJ, aB, Nat.reduceLT, Nat.reduceEqDiff, Nat.reduceAdd, Nat.reduceMul, Nat.reduceSub, Nat.reduceLeDiff, Nat.reduceBEq, reduceCtorEq])))
  all_goals ((refine hQ _ _ _ (aD (by first | exact .inl rfl | exact .inr rfl) ?_); simp only [SS, TF118StA, aE, setRange, bF, aA, aF, aQ, aP, aJ, aB, Nat.reduceLT, Nat.reduceEqDiff, Nat.reduceAdd, Nat.reduceMul, Nat.reduceSub, Nat.reduceLeDiff, Nat.reduceBEq, reduceCtorEq]))
  all_goals (simp_all [inB])
  all_goals (try omega)

set_option linter.defProp false
theorem bd02 : ((0 : Int) < ((2 : Nat) : Int)) = True := by simp
theorem bd12 : ((1 : Int) < ((2 : Nat) : Int)) = True := by simp
theorem bd03 : ((0 : Int) < ((3 : Nat) : Int)) = True := by simp
theorem bd13 : ((1 : Int) < ((3 : Nat) : Int)) = True := by simp
theorem bd23 : ((2 : Int) < ((3 : Nat) : Int)) = True := by simp
theorem bp1 : ((0 : Int) ≤ 1) = True := by simp
theorem bp2 : ((0 : Int) ≤ 2) = True := by simp
theorem bt1 : Int.toNat 1 = 1 := rfl
theorem bt2 : Int.toNat 2 = 2 := rfl
def BND := And.intro bd02 (And.intro bd12 (And.intro bd03 (And.intro bd13 (And.intro bd23 (And.intro bp1 (And.intro bp2 (And.intro bt1 bt2)))))))
/-- a contract on states -/
def onSt (f : St → Option EVal) : List EVal → Option EVal
  | [.agg l] => match dSt l with
    | some s => f s
    | none => none
  | _ => none
theorem onSt_inv {f : St → Option EVal} {a : List EVal} {v : EVal} (h : onSt f a = some v) : ∃ s, a = [.agg (eSt s)] ∧ f s = some v := by
  unfold onSt at h
  split at h
  · split at h
    · rename_i s hs
      exact ⟨s, by rw [dSt_inv hs], h⟩
    · cases h
  · cases h

def cF (s : St) : Int := if s.half = 0 then s.n0 else s.n1
def halfOK (s : St) : Bool := decide (s.half = 0) || decide (s.half = 1)
def F1062 : List EVal → Option EVal := onSt fun s => if halfOK s = true then some (.int .i64 (cF s)) else none
theorem fn1062 : FnT 62 F1062 := by
  refine Fn.intro mixed aK Tryz.func62 rfl [] (fun _ h => by cases h) ?_
  intro args v hF0
  obtain ⟨s, rfl, hF⟩ := onSt_inv hF0
  clear hF0
  split at hF
  rotate_left
  · cases hF
  rename_i hok
  cases hF
  intro Q hV
  have hQ := aV.of hV
  refine Top.view (aH.start (n := 8) rfl (by simp)) (aC aK _ _ _ _ ?_)
  have hh : s.half = 0 ∨ s.half = 1 := by simpa [halfOK] using hok
  rcases hh with hh | hh
  · (try simp only [aT, SS, TF62StA, aA, Nat.reduceLT, Nat.reduceEqDiff, Nat.reduceAdd, reduceCtorEq, eSt, hh, BND])
    (refine hQ _ _ _ (aD (by first | exact .inl rfl | exact .inr rfl) ?_); simp only [SS, TF62StA, Nat.reduceLT, Nat.reduceEqDiff, reduceCtorEq])
    simp [cF, hh]
  · (try simp only [aT, SS, TF62StA, aA, Nat.reduceLT, Nat.reduceEqDiff, Nat.reduceAdd, reduceCtorEq, eSt, hh, BND])
    (refine hQ _ _ _ (aD (by first | exact .inl rfl | exact .inr rfl) ?_); simp only [SS, TF62StA, Nat.reduceLT, Nat.reduceEqDiff, reduceCtorEq])
    simp [cF, hh]

def F1061 : List EVal → Option EVal := onSt fun s => some (.int .i64 (if s.over = true then 20 else 0))
theorem fn1061 : FnT 61 F1061 := by
  refine Fn.intro mixed aK Tryz.func61 rfl [] (fun _ h => by cases h) ?_
  intro args v hF0
  obtain ⟨s, rfl, hF⟩ := onSt_inv hF0
  clear hF0
  cases hF
  intro Q hV
  have hQ := aV.of hV
  refine Top.view (aH.start (n := 5) rfl (by simp)) (aC aK _ _ _ _ ?_)
  cases ho : s.over with
  | true =>
    (try simp only [aT, SS, TF61StA, aA, Nat.reduceLT, Nat.reduceEqDiff, reduceCtorEq, eSt, ho])
    (refine hQ _ _ _ (aD (by first | exact .inl rfl | exact .inr rfl) ?_); simp only [SS, TF61StA, Nat.reduceLT, Nat.reduceEqDiff, reduceCtorEq, ho])
  | false =>
    (try simp only [aT, SS, TF61StA, aA, Nat.reduceLT, Nat.reduceEqDiff, reduceCtorEq, eSt, ho])
    (refine hQ _ _ _ (aD (by first | exact .inl rfl | exact .inr rfl) ?_); simp only [SS, TF61StA, Nat.reduceLT, Nat.reduceEqDiff, reduceCtorEq, ho])
end Go.Ev
