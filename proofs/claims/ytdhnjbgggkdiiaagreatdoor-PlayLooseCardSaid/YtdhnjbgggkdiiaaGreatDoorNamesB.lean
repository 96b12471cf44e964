import Derived.Test.YtdhnjbgggkdiiaaGreatDoorNames
set_option linter.unusedSimpArgs false
set_option linter.unusedVariables false
namespace Go.Ev
open Go.RowKit Go.Proofs
set_option linter.defProp false
def TF25NamesB := And.intro (And.intro (And.intro (And.intro (@Tryz.underlying3) (@sz3)) (And.intro (@bK) (@I3s))) (And.intro (And.intro (@I3b) (@bJ)) (And.intro (@bL) (@Tryz.underlying25)))) (And.intro (And.intro (And.intro (@dI) (@bQ)) (And.intro (@dJ) (@dK))) (And.intro (And.intro (@bP) (@bR)) (And.intro (@call47) (And.intro (@call61) (@Tryz.results25)))))
def TF78NamesB := And.intro (And.intro (And.intro (@Tryz.underlying3) (And.intro (@sz3) (@bK))) (And.intro (And.intro (@I3s) (@I3b)) (And.intro (@bJ) (@bL)))) (And.intro (And.intro (And.intro (@Tryz.underlying25) (@dI)) (And.intro (@bQ) (@dJ))) (And.intro (And.intro (@dK) (@bP)) (And.intro (@bR) (@Tryz.results78))))
set_option maxRecDepth 20000
set_option maxHeartbeats 2000000

def lowerB (r : Int) : Bool := decide (97 ≤ r) && decide (r ≤ 122)
def digitB (r : Int) : Bool := decide (48 ≤ r) && decide (r ≤ 57)
/-! the reference's letters -/
def F25 : List EVal → Option EVal
  | [.int .i64 a, .int .i64 b] => some (.int .i64 (cH [rangeE a 1 2147483398, rangeE b 0 256]))
  | _ => none
theorem e25 {a b : Int} : F25 [.int .i64 a, .int .i64 b] = some (.int .i64 (cH [rangeE a 1 2147483398, rangeE b 0 256])) := rfl
theorem fn25 : FnT 25 F25 := by
  refine Fn.intro mixed aJ Tryz.func25 rfl [(61, F61), (47, F47)] (by simp only [List.forall_mem_cons]; exact ⟨fn61, fn47, fun _ h => by cases h⟩) ?_
  intro args v hF
  unfold F25 at hF
  split at hF
  rotate_left
  · cases hF
  intro Q hV
  have hQ := aW.of hV
  rename_i a b
  cases hF
  refine Top.view (aF.start (n := 11) rfl (by simp)) (aD aJ _ _ _ _ ?_)
  (try simp only [aI, SS, TF25NamesB, aH, setRange, bS, aA, aE, Nat.reduceLT, Nat.reduceEqDiff, Nat.reduceAdd, Nat.reduceLeDiff, reduceCtorEq, e61', e47two])
  (refine hQ _ _ _ (aC (by first | exact .inl rfl | exact .inr rfl) ?_); simp only [SS, TF25NamesB, Nat.reduceLT, Nat.reduceEqDiff, reduceCtorEq])

/-! lists of numbers, compared -/
def F78 : List EVal → Option EVal
  | [a, b] => match dInts a, dInts b with
    | some l, some m => some (.bool (decide (l = m)))
    | _, _ => none
  | _ => none
theorem e78 {l m : List Int} (h1 : l.length < 9223372036854775808) (h2 : m.length < 9223372036854775808) : F78 [.lsl (aS l), .lsl (aS m)] = some (.bool (decide (l = m))) := by
  simp only [F78, dInts_e h1, dInts_e h2]
theorem fn78 : FnT 78 F78 := by
  refine Fn.intro mixed aJ Tryz.func78 rfl [] (fun _ h => by cases h) ?_
  intro args v hF
  unfold F78 at hF
  split at hF
  rotate_left
  · cases hF
  intro Q hV
  have hQ := aW.of hV
  rename_i a b
  split at hF
  rotate_left
  · cases hF
  rename_i l m ha hb
  cases hF
  obtain ⟨rfl, hl⟩ := dInts_inv ha
  obtain ⟨rfl, hm⟩ := dInts_inv hb
  clear ha hb
  refine Top.view (aF.start (n := 26) rfl (by simp)) (aD aJ _ _ _ _ ?_)
  by_cases hlen : l.length = m.length
  · have c0 : ((l.length : Int) == (m.length : Int)) = true := by simp [hlen]
    (try simp only [aI, SS, TF78NamesB, aA, Nat.reduceLT, Nat.reduceEqDiff, reduceCtorEq, aM, c0])
    refine aT (Top.loop (I := fun s : { k : Nat // k ≤ l.length ∧ l.take k = m.take k } => (mkF 26 [(5, .int .i64 (s.1 : Nat)), (0, .lsl (aS l)), (1, .lsl (aS m))], H.start)) (μ := fun s => l.length - s.1) ⟨0, by simp⟩ (aF.sub (by simp [look])) ?_)
    rintro ⟨k, hk, hf⟩
    refine aD aJ _ _ _ _ ?_
    by_cases hlt : k < l.length
    · obtain ⟨x, hx⟩ : ∃ x, l[k]? = some x := ⟨l[k], List.getElem?_eq_getElem hlt⟩
      obtain ⟨y, hy⟩ : ∃ y, m[k]? = some y := ⟨m[k], List.getElem?_eq_getElem (by omega)⟩
      have c1 : decide ((k : Int) < (l.length : Int)) = true := by simp; omega
      have c2 : IntKind.i64.wrap ((k : Int) + 1) = ((k + 1 : Nat) : Int) := by rw [aP] <;> omega
      (try simp only [SS, TF78NamesB, aA, Nat.reduceLT, Nat.reduceEqDiff, reduceCtorEq, aM, c1])
      refine bA (Top.draw mixed aJ (by kernel_rfl) ?_)
      ((try simp only [aI, SS, TF78NamesB, aH, setRange, bS, aA, aO, bN, bG, aY, aE, Nat.reduceLT, Nat.reduceEqDiff, Nat.reduceAdd, Nat.reduceMul, Nat.reduceSub, Nat.reduceLeDiff, Nat.reduceBEq, reduceCtorEq, aM, bM, c1, c2, hx, hy]); (repeat' ((first | apply wpStep_not | apply wpStep_sym | apply wpCond_not | apply wpCond_sym | apply wpDStep_not | apply wpDStep_sym) <;> intro h <;> simp only [h, SS, TF78NamesB, aH, setRange, bS, aA, aO, bN, bG, aY, aE, Nat.reduceLT, Nat.reduceEqDiff, Nat.reduceAdd, Nat.reduceMul, Nat.reduceSub, Nat.reduceLeDiff, Nat.reduceBEq, reduceCtorEq, aM, bM, c1, c2, hx, hy])))
      refine ⟨by kernel_rfl, ?_⟩
      ((try simp only [aI, SS, TF78NamesB, aH, setRange, bS, aA, aO, bN, bG, aY, aE, Nat.reduceLT, Nat.reduceEqDiff, Nat.reduceAdd, Nat.reduceMul, Nat.reduceSub, Nat.reduceLeDiff, Nat.reduceBEq, reduceCtorEq, aM, bM, c1, c2, hx, hy]); (repeat' ((first | apply wpStep_not | apply wpStep_sym | apply wpCond_not | apply wpCond_sym | apply wpDStep_not | apply wpDStep_sym) <;> intro h <;> simp only [h, SS, TF78NamesB, aH, setRange, bS, aA, aO, bN, bG, aY, aE, Nat.reduceLT, Nat.reduceEqDiff, Nat.reduceAdd, Nat.reduceMul, Nat.reduceSub, Nat.reduceLeDiff, Nat.reduceBEq, reduceCtorEq, aM, bM, c1, c2, hx, hy])))
      · have h' : x ≠ y := by simpa using h
        (refine hQ _ _ _ (aC (by first | exact .inl rfl | exact .inr rfl) ?_); simp only [SS, TF78NamesB, aH, setRange, bS, aA, aO, bN, bG, aY, aE, Nat.reduceLT, Nat.reduceEqDiff, Nat.reduceAdd, Nat.reduceMul, Nat.reduceSub, Nat.reduceLeDiff, Nat.reduceBEq, reduceCtorEq])
        have : l ≠ m := fun e => h' (by rw [e, hy] at hx; exact (Option.some.inj hx).symm)
        simp [this]
      · have h' : x = y := by simpa using h
        refine ⟨⟨k + 1, hlt, by rw [List.take_add_one, List.take_add_one, hf, hx, hy, h']⟩, by simp; omega, aF.sub (by simp [look])⟩
    · have c1 : decide ((k : Int) < (l.length : Int)) = false := by simp; omega
      (try simp only [SS, TF78NamesB, aA, Nat.reduceLT, Nat.reduceEqDiff, reduceCtorEq, aM, c1])
      (refine hQ _ _ _ (aC (by first | exact .inl rfl | exact .inr rfl) ?_); simp only [SS, TF78NamesB, Nat.reduceLT, Nat.reduceEqDiff, reduceCtorEq])
      obtain rfl : k = l.length := by omega
      rw [List.take_length, hlen, List.take_length] at hf
      simp [hf]
  · have c0 : ((l.length : Int) == (m.length : Int)) = false := by simp; omega
    (try simp only [aI, SS, TF78NamesB, aA, Nat.reduceLT, Nat.reduceEqDiff, reduceCtorEq, aM, c0])
    (refine hQ _ _ _ (aC (by first | exact .inl rfl | exact .inr rfl) ?_); simp only [SS, TF78NamesB, Nat.reduceLT, Nat.reduceEqDiff, reduceCtorEq])
    have : l ≠ m := fun h => hlen (by rw [h])
    simp [this]
end Go.Ev
