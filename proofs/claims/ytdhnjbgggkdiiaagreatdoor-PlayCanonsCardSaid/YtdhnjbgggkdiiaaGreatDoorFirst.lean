import Derived.Test.YtdhnjbgggkdiiaaGreatDoorNames
set_option linter.unusedSimpArgs false
set_option linter.unusedVariables false
namespace Go.Ev
open Go.RowKit Go.Proofs
set_option linter.defProp false
def TF79First := And.intro (And.intro (And.intro (And.intro (@Tryz.underlying3) (@sz3)) (And.intro (@bI) (And.intro (@I3s) (@I3b)))) (And.intro (And.intro (@bH) (And.intro (@bJ) (@Tryz.underlying30))) (And.intro (@sz30) (And.intro (@info30) (@I30s))))) (And.intro (And.intro (And.intro (@I30b) (@zero30)) (And.intro (@grow30) (And.intro (@Tryz.underlying158) (@sz158)))) (And.intro (And.intro (@info158) (And.intro (@I158s) (@I158b))) (And.intro (@zero158) (And.intro (@grow158) (@Tryz.results79)))))
set_option maxRecDepth 20000
set_option maxHeartbeats 4000000

/-! the first error of the program -/
def F79 : List EVal → Option EVal
  | [a] => (dInts a).map fun l => .int .i64 (cF l)
  | _ => none
theorem e79 {l : List Int} (h : l.length < 9223372036854775808) : F79 [.lsl (aS l)] = some (.int .i64 (cF l)) := by
  simp only [F79, dInts_e h, Option.map_some]
theorem e79two {a b : Int} : F79 [.lsl [[.int .i64 a], [.int .i64 b]]] = some (.int .i64 (cF [a, b])) := e79 (l := [a, b]) (by simp)
theorem fn79 : FnT 79 F79 := by
  refine Fn.intro mixed aI Tryz.func79 rfl [] (fun _ h => by cases h) ?_
  intro args v hF
  unfold F79 at hF
  split at hF
  rotate_left
  · cases hF
  intro Q hV
  have hQ := aW.of hV
  rename_i a
  cases ha : dInts a with
  | none => rw [ha] at hF; cases hF
  | some l =>
  rw [ha] at hF
  cases hF
  obtain ⟨rfl, hlen⟩ := dInts_inv ha
  clear ha
  refine Top.view (aF.start (n := 15) rfl (by simp)) (aD aI _ _ _ _ ?_)
  ((try simp only [aH, SS, TF79First, aG, setRange, bK, aA, aO, bG, bA, aV, aE, Nat.reduceLT, Nat.reduceEqDiff, Nat.reduceAdd, Nat.reduceMul, Nat.reduceSub, Nat.reduceLeDiff, Nat.reduceBEq, reduceCtorEq, aM]); (repeat' ((first | apply wpStep_not | apply wpStep_sym | apply wpCond_not | apply wpCond_sym | apply wpDStep_not | apply wpDStep_sym) <;> intro h <;> simp only [h, SS, TF79First, aG, setRange, bK, aA, aO, bG, bA, aV, aE, Nat.reduceLT, Nat.reduceEqDiff, Nat.reduceAdd, Nat.reduceMul, Nat.reduceSub, Nat.reduceLeDiff, Nat.reduceBEq, reduceCtorEq, aM])))
  refine aQ (Top.loop (I := fun s : { k : Nat // k ≤ l.length ∧ cF l = cF (l.drop k) } => (mkF 15 [(7, .int .i64 (s.1 : Nat)), (6, .int .i64 (l.length : Int)), (5, .lsl (aS l))], H.start)) (μ := fun s => l.length - s.1) ⟨0, by simp⟩ (aF.sub (by simp [look])) ?_)
  rintro ⟨k, hk, hf⟩
  refine aD aI _ _ _ _ ?_
  by_cases hlt : k < l.length
  · obtain ⟨x, hx⟩ : ∃ x, l[k]? = some x := ⟨l[k], List.getElem?_eq_getElem hlt⟩
    have c1 : decide ((k : Int) < (l.length : Int)) = true := by simp; omega
    have c2 : IntKind.i64.wrap ((k : Int) + 1) = ((k + 1 : Nat) : Int) := by rw [aP] <;> omega
    have hfd := firstL_drop hx
    ((try simp only [aH, SS, TF79First, aG, setRange, bK, aA, aO, bG, bA, aV, aE, Nat.reduceLT, Nat.reduceEqDiff, Nat.reduceAdd, Nat.reduceMul, Nat.reduceSub, Nat.reduceLeDiff, Nat.reduceBEq, reduceCtorEq, aM, bF, c1, c2, hx]); (repeat' ((first | apply wpStep_not | apply wpStep_sym | apply wpCond_not | apply wpCond_sym | apply wpDStep_not | apply wpDStep_sym) <;> intro h <;> simp only [h, SS, TF79First, aG, setRange, bK, aA, aO, bG, bA, aV, aE, Nat.reduceLT, Nat.reduceEqDiff, Nat.reduceAdd, Nat.reduceMul, Nat.reduceSub, Nat.reduceLeDiff, Nat.reduceBEq, reduceCtorEq, aM, bF, c1, c2, hx])))
    · have h' : x ≠ 0 := by simpa using h
      rw [if_pos h'] at hfd
      (refine hQ _ _ _ (aC (by first | exact .inl rfl | exact .inr rfl) ?_); simp only [SS, TF79First, aG, setRange, bK, aA, aO, bG, bA, aV, aE, Nat.reduceLT, Nat.reduceEqDiff, Nat.reduceAdd, Nat.reduceMul, Nat.reduceSub, Nat.reduceLeDiff, Nat.reduceBEq, reduceCtorEq])
      rw [hf, hfd]
    · have h0 : x = 0 := by simpa using h
      refine ⟨⟨k + 1, hlt, by rw [hf, hfd, if_neg (by simp [h0])]⟩, by simp; omega, aF.sub (by simp [look])⟩
  · have c1 : decide ((k : Int) < (l.length : Int)) = false := by simp; omega
    (try simp only [SS, aA, Nat.reduceLT, Nat.reduceEqDiff, c1])
    (refine hQ _ _ _ (aC (by first | exact .inl rfl | exact .inr rfl) ?_); simp only [SS, TF79First, Nat.reduceLT, Nat.reduceEqDiff])
    rw [hf, List.drop_eq_nil_of_le (by omega)]; rfl
end Go.Ev
