import Derived.Test.YtdhnjbgggkdiiaaGreatDoorNames
set_option linter.unusedSimpArgs false
set_option linter.unusedVariables false
namespace Go.Ev
open Go.RowKit Go.Proofs
set_option linter.defProp false
def TF79First := And.intro (And.intro (And.intro (And.intro (@Tryz.underlying3) (@sz3)) (And.intro (@cM) (And.intro (@I3s) (@I3b)))) (And.intro (And.intro (@cJ) (And.intro (@cN) (@Tryz.underlying30))) (And.intro (@sz30) (And.intro (@info30) (@I30s))))) (And.intro (And.intro (And.intro (@I30b) (@zero30)) (And.intro (@grow30) (And.intro (@Tryz.underlying158) (@sz158)))) (And.intro (And.intro (@info158) (And.intro (@I158s) (@I158b))) (And.intro (@zero158) (And.intro (@grow158) (@Tryz.results79)))))
set_option maxRecDepth 20000
set_option maxHeartbeats 4000000

/-! the first error of the program -/
def F79 : List EVal → Option EVal
  | [a] => (dInts a).map fun l => .int .i64 (dG l)
  | _ => none
theorem e79 {l : List Int} (h : l.length < 9223372036854775808) : F79 [.lsl (cC l)] = some (.int .i64 (dG l)) := by
  simp only [F79, dInts_e h, Option.map_some]
theorem fn79 : FnT 79 F79 := by
  refine Fn.intro mixed aX Tryz.func79 rfl [] (fun _ h => by cases h) ?_
  intro args v hF
  unfold F79 at hF
  split at hF
  rotate_left
  · cases hF
  intro Q hV
  have hQ := bL.of hV
  rename_i a
  cases ha : dInts a with
  | none => rw [ha] at hF; cases hF
  | some l =>
  rw [ha] at hF
  cases hF
  obtain ⟨rfl, hlen⟩ := dInts_inv ha
  clear ha
  refine Top.view (aV.start (n := 15) rfl (by simp)) (aS aX _ _ _ _ ?_)
  ((try simp only [aO, SS, TF79First, aM, setRange, aN, aC, aB, aF, aE, aD, aA, Nat.reduceLT, Nat.reduceEqDiff, Nat.reduceAdd, Nat.reduceMul, Nat.reduceSub, Nat.reduceLeDiff, Nat.reduceBEq, reduceCtorEq, aT]); (repeat' ((first | apply aJ | apply aI | apply aL | apply aK | apply aH | apply aG) <;> intro h <;> simp only [h, SS, TF79First, aM, setRange, aN, aC, aB, aF, aE, aD, aA, Nat.reduceLT, Nat.reduceEqDiff, Nat.reduceAdd, Nat.reduceMul, Nat.reduceSub, Nat.reduceLeDiff, Nat.reduceBEq, reduceCtorEq, aT])))
  refine bO (Top.loop (I := fun s : { k : Nat // k ≤ l.length ∧ dG l = dG (l.drop k) } => (mkF 15 [(7, .int .i64 (s.1 : Nat)), (6, .int .i64 (l.length : Int)), (5, .lsl (cC l))], H.start)) (μ := fun s => l.length - s.1) ⟨0, by simp⟩ (aV.sub (by simp [look])) ?_)
  rintro ⟨k, hk, hf⟩
  refine aS aX _ _ _ _ ?_
  by_cases hlt : k < l.length
  · obtain ⟨x, hx⟩ : ∃ x, l[k]? = some x := ⟨l[k], List.getElem?_eq_getElem hlt⟩
    have c1 : decide ((k : Int) < (l.length : Int)) = true := by simp; omega
    have c2 : IntKind.i64.wrap ((k : Int) + 1) = ((k + 1 : Nat) : Int) := by rw [bM] <;> omega
    have hfd := firstL_drop hx
    ((try simp only [aO, SS, TF79First, aM, setRange, aN, aC, aB, aF, aE, aD, aA, Nat.reduceLT, Nat.reduceEqDiff, Nat.reduceAdd, Nat.reduceMul, Nat.reduceSub, Nat.reduceLeDiff, Nat.reduceBEq, reduceCtorEq, aT, bD, c1, c2, hx]); (repeat' ((first | apply aJ | apply aI | apply aL | apply aK | apply aH | apply aG) <;> intro h <;> simp only [h, SS, TF79First, aM, setRange, aN, aC, aB, aF, aE, aD, aA, Nat.reduceLT, Nat.reduceEqDiff, Nat.reduceAdd, Nat.reduceMul, Nat.reduceSub, Nat.reduceLeDiff, Nat.reduceBEq, reduceCtorEq, aT, bD, c1, c2, hx])))
    · have h' : x ≠ 0 := by simpa using h
      rw [if_pos h'] at hfd
      (refine hQ _ _ _ (aP (by first | exact .inl rfl | exact .inr rfl) ?_); simp only [SS, TF79First, aM, setRange, aN, aC, aB, aF, aE, aD, aA, Nat.reduceLT, Nat.reduceEqDiff, Nat.reduceAdd, Nat.reduceMul, Nat.reduceSub, Nat.reduceLeDiff, Nat.reduceBEq, reduceCtorEq])
      rw [hf, hfd]
    · have h0 : x = 0 := by simpa using h
      refine ⟨⟨k + 1, hlt, by rw [hf, hfd, if_neg (by simp [h0])]⟩, by simp; omega, aV.sub (by simp [look])⟩
  · have c1 : decide ((k : Int) < (l.length : Int)) = false := by simp; omega
    ((try simp only [aO, SS, TF79First, aM, setRange, aN, aC, aB, aF, aE, aD, aA, Nat.reduceLT, Nat.reduceEqDiff, Nat.reduceAdd, Nat.reduceMul, Nat.reduceSub, Nat.reduceLeDiff, Nat.reduceBEq, reduceCtorEq, aT, c1]); (repeat' ((first | apply aJ | apply aI | apply aL | apply aK | apply aH | apply aG) <;> intro h <;> simp only [h, SS, TF79First, aM, setRange, aN, aC, aB, aF, aE, aD, aA, Nat.reduceLT, Nat.reduceEqDiff, Nat.reduceAdd, Nat.reduceMul, Nat.reduceSub, Nat.reduceLeDiff, Nat.reduceBEq, reduceCtorEq, aT, c1])))
    (refine hQ _ _ _ (aP (by first | exact .inl rfl | exact .inr rfl) ?_); simp only [SS, TF79First, aM, setRange, aN, aC, aB, aF, aE, aD, aA, Nat.reduceLT, Nat.reduceEqDiff, Nat.reduceAdd, Nat.reduceMul, Nat.reduceSub, Nat.reduceLeDiff, Nat.reduceBEq, reduceCtorEq])
    rw [hf, List.drop_eq_nil_of_le (by omega)]; rfl
end Go.Ev
