import Derived.Test.YtdhnjbgggkdiiaaGreatDoorEvC
import Derived.Test.YtdhnjbgggkdiiaaGreatDoorTypes
set_option linter.unusedSimpArgs false
set_option linter.unusedVariables false
namespace Go.Ev
open Go.RowKit Go.Proofs
set_option linter.defProp false
def TF47Names := And.intro (And.intro (And.intro (@Tryz.underlying3) (And.intro (@sz3) (@bK))) (And.intro (And.intro (@I3s) (@I3b)) (And.intro (@bJ) (@bL)))) (And.intro (And.intro (And.intro (@Tryz.underlying25) (@dI)) (And.intro (@bQ) (@dJ))) (And.intro (And.intro (@dK) (@bP)) (And.intro (@bR) (@Tryz.results47))))
def TF61Names := And.intro (And.intro (And.intro (@Tryz.underlying3) (@sz3)) (And.intro (@bK) (@I3s))) (And.intro (And.intro (@I3b) (@bJ)) (And.intro (@bL) (@Tryz.results61)))
def TF93Names := And.intro (And.intro (And.intro (@Tryz.underlying3) (@sz3)) (And.intro (@bK) (@I3s))) (And.intro (And.intro (@I3b) (@bJ)) (And.intro (@bL) (@Tryz.results93)))
set_option maxRecDepth 20000
set_option maxHeartbeats 2000000

/-! within -/
def withinB (n lo hi : Int) : Bool := decide (lo ≤ n) && decide (n ≤ hi)
def F93 : List EVal → Option EVal
  | [.int .i64 n, .int .i64 lo, .int .i64 hi] => some (.bool (withinB n lo hi))
  | _ => none
theorem e93 {n lo hi : Int} : F93 [.int .i64 n, .int .i64 lo, .int .i64 hi] = some (.bool (withinB n lo hi)) := rfl
theorem fn93 : FnT 93 F93 := by
  refine Fn.intro mixed aJ Tryz.func93 rfl [] (fun _ h => by cases h) ?_
  intro args v hF
  unfold F93 at hF
  split at hF
  rotate_left
  · cases hF
  intro Q hV
  have hQ := aW.of hV
  rename_i n lo hi
  cases hF
  refine Top.view (aF.start (n := 15) rfl (by simp)) (aD aJ _ _ _ _ ?_)
  ((try simp only [aI, SS, TF93Names, aH, setRange, bS, aA, aO, bN, bG, aY, aE, Nat.reduceLT, Nat.reduceEqDiff, Nat.reduceAdd, Nat.reduceMul, Nat.reduceSub, Nat.reduceLeDiff, Nat.reduceBEq, reduceCtorEq]); (repeat' ((first | apply wpStep_not | apply wpStep_sym | apply wpCond_not | apply wpCond_sym | apply wpDStep_not | apply wpDStep_sym) <;> intro h <;> simp only [h, SS, TF93Names, aH, setRange, bS, aA, aO, bN, bG, aY, aE, Nat.reduceLT, Nat.reduceEqDiff, Nat.reduceAdd, Nat.reduceMul, Nat.reduceSub, Nat.reduceLeDiff, Nat.reduceBEq, reduceCtorEq])))
  all_goals ((refine hQ _ _ _ (aC (by first | exact .inl rfl | exact .inr rfl) ?_); simp only [*, SS, TF93Names, aH, setRange, bS, aA, aO, bN, bG, aY, aE, Nat.reduceLT, Nat.reduceEqDiff, Nat.reduceAdd, Nat.reduceMul, Nat.reduceSub, Nat.reduceLeDiff, Nat.reduceBEq, reduceCtorEq, withinB]))

def F61 : List EVal → Option EVal
  | [.int .i64 n, .int .i64 lo, .int .i64 hi] => some (.int .i64 (if n < lo ∨ hi < n then 3 else 0))
  | _ => none
theorem fn61 : FnT 61 F61 := by
  refine Fn.intro mixed aJ Tryz.func61 rfl [] (fun _ h => by cases h) ?_
  intro args v hF
  unfold F61 at hF
  split at hF
  rotate_left
  · cases hF
  intro Q hV
  have hQ := aW.of hV
  rename_i n lo hi
  cases hF
  refine Top.view (aF.start (n := 15) rfl (by simp)) (aD aJ _ _ _ _ ?_)
  ((try simp only [aI, SS, TF61Names, aH, setRange, bS, aA, aO, bN, bG, aY, aE, Nat.reduceLT, Nat.reduceEqDiff, Nat.reduceAdd, Nat.reduceMul, Nat.reduceSub, Nat.reduceLeDiff, Nat.reduceBEq, reduceCtorEq]); (repeat' ((first | apply wpStep_not | apply wpStep_sym | apply wpCond_not | apply wpCond_sym | apply wpDStep_not | apply wpDStep_sym) <;> intro h <;> simp only [h, SS, TF61Names, aH, setRange, bS, aA, aO, bN, bG, aY, aE, Nat.reduceLT, Nat.reduceEqDiff, Nat.reduceAdd, Nat.reduceMul, Nat.reduceSub, Nat.reduceLeDiff, Nat.reduceBEq, reduceCtorEq])))
  all_goals ((refine hQ _ _ _ (aC (by first | exact .inl rfl | exact .inr rfl) ?_); simp only [*, SS, TF61Names, aH, setRange, bS, aA, aO, bN, bG, aY, aE, Nat.reduceLT, Nat.reduceEqDiff, Nat.reduceAdd, Nat.reduceMul, Nat.reduceSub, Nat.reduceLeDiff, Nat.reduceBEq, reduceCtorEq]))
  all_goals (simp at *; omega)

/-! the first error -/
def F47 : List EVal → Option EVal
  | [a] => (dInts a).map fun l => .int .i64 (cH l)
  | _ => none
theorem e47 {l : List Int} (h : l.length < 9223372036854775808) : F47 [.lsl (aS l)] = some (.int .i64 (cH l)) := by
  simp only [F47, dInts_e h, Option.map_some]
theorem fn47 : FnT 47 F47 := by
  refine Fn.intro mixed aJ Tryz.func47 rfl [] (fun _ h => by cases h) ?_
  intro args v hF
  unfold F47 at hF
  split at hF
  rotate_left
  · cases hF
  intro Q hV
  have hQ := aW.of hV
  rename_i a
  cases ha : dInts a with
  | none => rw [ha] at hF; cases hF
  | some l =>
  rw [ha] at hF
  cases hF
  obtain ⟨rfl, hlen⟩ := dInts_inv ha
  clear ha
  refine Top.view (aF.start (n := 19) rfl (by simp)) (aD aJ _ _ _ _ ?_)
  simp only [aI, SS, TF47Names, aH, setRange, bS, aA, aO, bN, bG, aY, aE, Nat.reduceLT, Nat.reduceEqDiff, Nat.reduceAdd, Nat.reduceMul, Nat.reduceSub, Nat.reduceLeDiff, Nat.reduceBEq, reduceCtorEq]
  refine aT (Top.loop (I := fun s : { k : Nat // k ≤ l.length ∧ cH l = cH (l.drop k) } => (mkF 19 [(3, .int .i64 (s.1 : Nat)), (0, .lsl (aS l))], H.start)) (μ := fun s => l.length - s.1) ⟨0, by simp⟩ (aF.sub (by simp [look])) ?_)
  rintro ⟨k, hk, hf⟩
  refine aD aJ _ _ _ _ ?_
  by_cases hlt : k < l.length
  · obtain ⟨x, hx⟩ : ∃ x, l[k]? = some x := ⟨l[k], List.getElem?_eq_getElem hlt⟩
    have c1 : decide ((k : Int) < (l.length : Int)) = true := by simp; omega
    have c2 : IntKind.i64.wrap ((k : Int) + 1) = ((k + 1 : Nat) : Int) := by rw [aP] <;> omega
    have hfd := firstL_drop hx
    ((try simp only [aI, SS, TF47Names, aH, setRange, bS, aA, aO, bN, bG, aY, aE, Nat.reduceLT, Nat.reduceEqDiff, Nat.reduceAdd, Nat.reduceMul, Nat.reduceSub, Nat.reduceLeDiff, Nat.reduceBEq, reduceCtorEq, aM, bM, c1, c2, hx]); (repeat' ((first | apply wpStep_not | apply wpStep_sym | apply wpCond_not | apply wpCond_sym | apply wpDStep_not | apply wpDStep_sym) <;> intro h <;> simp only [h, SS, TF47Names, aH, setRange, bS, aA, aO, bN, bG, aY, aE, Nat.reduceLT, Nat.reduceEqDiff, Nat.reduceAdd, Nat.reduceMul, Nat.reduceSub, Nat.reduceLeDiff, Nat.reduceBEq, reduceCtorEq, aM, bM, c1, c2, hx])))
    · have h' : x ≠ 0 := by simpa using h
      rw [if_pos h'] at hfd
      (refine hQ _ _ _ (aC (by first | exact .inl rfl | exact .inr rfl) ?_); simp only [SS, TF47Names, aH, setRange, bS, aA, aO, bN, bG, aY, aE, Nat.reduceLT, Nat.reduceEqDiff, Nat.reduceAdd, Nat.reduceMul, Nat.reduceSub, Nat.reduceLeDiff, Nat.reduceBEq, reduceCtorEq])
      rw [hf, hfd]
    · have h0 : x = 0 := by simpa using h
      refine ⟨⟨k + 1, hlt, by rw [hf, hfd, if_neg (by simp [h0])]⟩, by simp; omega, aF.sub (by simp [look])⟩
  · have c1 : decide ((k : Int) < (l.length : Int)) = false := by simp; omega
    (try simp only [SS, TF47Names, aA, Nat.reduceLT, Nat.reduceEqDiff, reduceCtorEq, aM, c1])
    (refine hQ _ _ _ (aC (by first | exact .inl rfl | exact .inr rfl) ?_); simp only [SS, TF47Names, Nat.reduceLT, Nat.reduceEqDiff, reduceCtorEq])
    rw [hf, List.drop_eq_nil_of_le (by omega)]; rfl

/-! a draw's arguments -/
def rangeE (n lo hi : Int) : Int := if n < lo ∨ hi < n then 3 else 0
theorem e61' {n lo hi : Int} : F61 [.int .i64 n, .int .i64 lo, .int .i64 hi] = some (.int .i64 (rangeE n lo hi)) := rfl
theorem e47two {a b : Int} : F47 [.lsl [[.int .i64 a], [.int .i64 b]]] = some (.int .i64 (cH [a, b])) := e47 (l := [a, b]) (by simp)
end Go.Ev
