import Derived.Test.YtdhnjbgggkdiiaaGreatDoorSplit
set_option linter.unusedSimpArgs false
set_option linter.unusedVariables false
namespace Go.Ev
open Go.RowKit Go.Proofs
set_option linter.defProp false
def TF167RefPit := And.intro (And.intro (And.intro (@Tryz.underlying3) (And.intro (@sz3) (@cE))) (And.intro (And.intro (@I3s) (@I3b)) (And.intro (@cA) (@cF)))) (And.intro (And.intro (And.intro (@Tryz.underlying21) (@sz21)) (And.intro (@info21) (@I21s))) (And.intro (And.intro (@I21b) (@zero21)) (And.intro (@grow21) (@Tryz.results167))))
def TF168RefPit := And.intro (And.intro (And.intro (@Tryz.underlying9) (@sz9)) (And.intro (@cB) (@I9s))) (And.intro (And.intro (@I9b) (@bY)) (And.intro (@cC) (And.intro (@call183) (@Tryz.results168))))
def TF183RefPit := And.intro (And.intro (And.intro (@Tryz.underlying9) (@sz9)) (And.intro (@cB) (@I9s))) (And.intro (And.intro (@I9b) (@bY)) (And.intro (@cC) (And.intro (@call211) (@Tryz.results183))))
def TF211RefPit := And.intro (And.intro (And.intro (@Tryz.underlying3) (And.intro (@sz3) (@cE))) (And.intro (And.intro (@I3s) (@I3b)) (And.intro (@cA) (@cF)))) (And.intro (And.intro (And.intro (@Tryz.underlying9) (@sz9)) (And.intro (@cB) (@I9s))) (And.intro (And.intro (@I9b) (@bY)) (And.intro (@cC) (@Tryz.results211))))
set_option maxRecDepth 20000
set_option maxHeartbeats 8000000

/-! the words of the reference -/
/-! digits read -/
def eE (x : Nat) : Int := (x : Int) - 48
def F167 : List EVal → Option EVal
  | [.int .i32 r] => if 0 ≤ r ∧ r < 1000 then some (.int .i64 (r - 48)) else none
  | _ => none
theorem e167 {x : Nat} (h : x < 1000) : F167 [.int .i32 (x : Int)] = some (.int .i64 (eE x)) := by simp only [F167, eE]; rw [if_pos (by omega)]
theorem fn167 : FnT 167 F167 := by
  refine Fn.intro mixed aV Tryz.func167 rfl [] (fun _ h => by cases h) ?_
  intro args v hF
  unfold F167 at hF
  split at hF
  rotate_left
  · cases hF
  intro Q hV
  have hQ := bM.of hV
  rename_i r
  split at hF
  rotate_left
  · cases hF
  rename_i h
  cases hF
  refine Top.view (aT.start (n := 6) rfl (by simp)) (aR aV _ _ _ _ ?_)
  have w1 : IntKind.i32.wrap (r - 48) = r - 48 := by
    have e : IntKind.i32.wrap (r - 48) = (r - 48 + 2147483648) % 4294967296 - 2147483648 := by
      first
        | exact IntKind.wrap_i32 _
        | (simp [IntKind.wrap, IntKind.bits]; done)
    omega
  have w2 : IntKind.i64.wrap (r - 48) = r - 48 := by rw [bN] <;> omega
  ((try simp only [aO, SS, TF167RefPit, aM, setRange, aN, aC, aB, aF, aE, aD, aA, Nat.reduceLT, Nat.reduceEqDiff, Nat.reduceAdd, Nat.reduceMul, Nat.reduceSub, Nat.reduceLeDiff, Nat.reduceBEq, reduceCtorEq, w1, w2]); (repeat' ((first | apply aJ | apply aI | apply aL | apply aK | apply aH | apply aG) <;> intro h <;> simp only [h, SS, TF167RefPit, aM, setRange, aN, aC, aB, aF, aE, aD, aA, Nat.reduceLT, Nat.reduceEqDiff, Nat.reduceAdd, Nat.reduceMul, Nat.reduceSub, Nat.reduceLeDiff, Nat.reduceBEq, reduceCtorEq, w1, w2])))
  (refine hQ _ _ _ (aQ (by first | exact .inl rfl | exact .inr rfl) ?_); simp only [SS, TF167RefPit, aM, setRange, aN, aC, aB, aF, aE, aD, aA, Nat.reduceLT, Nat.reduceEqDiff, Nat.reduceAdd, Nat.reduceMul, Nat.reduceSub, Nat.reduceLeDiff, Nat.reduceBEq, reduceCtorEq])
def trimE (l : List Nat) : List Nat := match l with
  | 58 :: r => r
  | _ => l
def F211 : List EVal → Option EVal
  | [.str l, .str [58]] => if l.length < 1000000000 then some (.bool (decide (l.take 1 = [58]))) else none
  | _ => none
theorem fn211 : FnT 211 F211 := by
  refine Fn.intro mixed aV Tryz.func211 rfl [] (fun _ h => by cases h) ?_
  intro args v hF
  unfold F211 at hF
  split at hF
  rotate_left
  · cases hF
  intro Q hV
  have hQ := bM.of hV
  rename_i l
  split at hF
  rotate_left
  · cases hF
  rename_i h
  cases hF
  refine Top.view (aT.start (n := 18) rfl (by simp)) (aR aV _ _ _ _ ?_)
  by_cases hl : 1 ≤ l.length
  · have q1 : decide (((1 : Nat) : Int) ≤ (l.length : Int)) = true := by simp; omega
    have b1 : (((1 : Nat) : Int) ≤ (l.length : Int)) = True := by simp; omega
    have c1 : Int.toNat ((1 : Nat) : Int) = 1 := rfl
    ((try simp only [aO, SS, TF211RefPit, aM, setRange, aN, aC, aB, aF, aE, aD, aA, Nat.reduceLT, Nat.reduceEqDiff, Nat.reduceAdd, Nat.reduceMul, Nat.reduceSub, Nat.reduceLeDiff, Nat.reduceBEq, reduceCtorEq, q1, b1, c1]); (repeat' ((first | apply aJ | apply aI | apply aL | apply aK | apply aH | apply aG) <;> intro h <;> simp only [h, SS, TF211RefPit, aM, setRange, aN, aC, aB, aF, aE, aD, aA, Nat.reduceLT, Nat.reduceEqDiff, Nat.reduceAdd, Nat.reduceMul, Nat.reduceSub, Nat.reduceLeDiff, Nat.reduceBEq, reduceCtorEq, q1, b1, c1])))
    (refine hQ _ _ _ (aQ (by first | exact .inl rfl | exact .inr rfl) ?_); simp only [SS, TF211RefPit, aM, setRange, aN, aC, aB, aF, aE, aD, aA, Nat.reduceLT, Nat.reduceEqDiff, Nat.reduceAdd, Nat.reduceMul, Nat.reduceSub, Nat.reduceLeDiff, Nat.reduceBEq, reduceCtorEq])
  · have q1 : decide (((1 : Nat) : Int) ≤ (l.length : Int)) = false := by simp; omega
    have hl0 : l = [] := List.eq_nil_of_length_eq_zero (by omega)
    ((try simp only [aO, SS, TF211RefPit, aM, setRange, aN, aC, aB, aF, aE, aD, aA, Nat.reduceLT, Nat.reduceEqDiff, Nat.reduceAdd, Nat.reduceMul, Nat.reduceSub, Nat.reduceLeDiff, Nat.reduceBEq, reduceCtorEq, q1]); (repeat' ((first | apply aJ | apply aI | apply aL | apply aK | apply aH | apply aG) <;> intro h <;> simp only [h, SS, TF211RefPit, aM, setRange, aN, aC, aB, aF, aE, aD, aA, Nat.reduceLT, Nat.reduceEqDiff, Nat.reduceAdd, Nat.reduceMul, Nat.reduceSub, Nat.reduceLeDiff, Nat.reduceBEq, reduceCtorEq, q1])))
    (refine hQ _ _ _ (aQ (by first | exact .inl rfl | exact .inr rfl) ?_); simp only [SS, TF211RefPit, aM, setRange, aN, aC, aB, aF, aE, aD, aA, Nat.reduceLT, Nat.reduceEqDiff, Nat.reduceAdd, Nat.reduceMul, Nat.reduceSub, Nat.reduceLeDiff, Nat.reduceBEq, reduceCtorEq])
    rw [hl0]; rfl
def F183 : List EVal → Option EVal
  | [.str l, .str [58]] => if l.length < 1000000000 then some (.str (trimE l)) else none
  | _ => none
theorem trimE_t {l : List Nat} (h : l.take 1 = [58]) : trimE l = l.drop 1 ∧ 1 ≤ l.length := by
  cases l with
  | nil => cases h
  | cons a l => simp at h; subst h; exact ⟨rfl, by simp⟩
theorem trimE_f {l : List Nat} (h : ¬ l.take 1 = [58]) : trimE l = l := by
  unfold trimE
  split
  · simp at h
  · rfl
theorem fn183 : FnT 183 F183 := by
  refine Fn.intro mixed aV Tryz.func183 rfl [(211, F211)] (by simp only [List.forall_mem_cons]; exact ⟨fn211, fun _ h => by cases h⟩) ?_
  intro args v hF
  unfold F183 at hF
  split at hF
  rotate_left
  · cases hF
  intro Q hV
  have hQ := bM.of hV
  rename_i l
  split at hF
  rotate_left
  · cases hF
  rename_i h
  cases hF
  have h211 : F211 [.str l, .str [58]] = some (.bool (decide (l.take 1 = [58]))) := by simp only [F211]; rw [if_pos h]
  refine Top.view (aT.start (n := 13) rfl (by simp)) (aR aV _ _ _ _ ?_)
  by_cases hc : l.take 1 = [58]
  · obtain ⟨e1, e2⟩ := trimE_t hc
    rw [decide_eq_true hc] at h211
    have b1 : (((1 : Nat) : Int) ≤ (l.length : Int)) = True := by simp; omega
    have t1 : l.take l.length = l := List.take_length
    ((try simp only [aO, SS, TF183RefPit, aM, setRange, aN, aC, aB, aF, aE, aD, aA, Nat.reduceLT, Nat.reduceEqDiff, Nat.reduceAdd, Nat.reduceMul, Nat.reduceSub, Nat.reduceLeDiff, Nat.reduceBEq, reduceCtorEq, h211, b1, t1]); (repeat' ((first | apply aJ | apply aI | apply aL | apply aK | apply aH | apply aG) <;> intro h <;> simp only [h, SS, TF183RefPit, aM, setRange, aN, aC, aB, aF, aE, aD, aA, Nat.reduceLT, Nat.reduceEqDiff, Nat.reduceAdd, Nat.reduceMul, Nat.reduceSub, Nat.reduceLeDiff, Nat.reduceBEq, reduceCtorEq, h211, b1, t1])))
    (refine hQ _ _ _ (aQ (by first | exact .inl rfl | exact .inr rfl) ?_); simp only [SS, TF183RefPit, aM, setRange, aN, aC, aB, aF, aE, aD, aA, Nat.reduceLT, Nat.reduceEqDiff, Nat.reduceAdd, Nat.reduceMul, Nat.reduceSub, Nat.reduceLeDiff, Nat.reduceBEq, reduceCtorEq])
    rw [e1]
  · rw [decide_eq_false hc] at h211
    ((try simp only [aO, SS, TF183RefPit, aM, setRange, aN, aC, aB, aF, aE, aD, aA, Nat.reduceLT, Nat.reduceEqDiff, Nat.reduceAdd, Nat.reduceMul, Nat.reduceSub, Nat.reduceLeDiff, Nat.reduceBEq, reduceCtorEq, h211]); (repeat' ((first | apply aJ | apply aI | apply aL | apply aK | apply aH | apply aG) <;> intro h <;> simp only [h, SS, TF183RefPit, aM, setRange, aN, aC, aB, aF, aE, aD, aA, Nat.reduceLT, Nat.reduceEqDiff, Nat.reduceAdd, Nat.reduceMul, Nat.reduceSub, Nat.reduceLeDiff, Nat.reduceBEq, reduceCtorEq, h211])))
    (refine hQ _ _ _ (aQ (by first | exact .inl rfl | exact .inr rfl) ?_); simp only [SS, TF183RefPit, aM, setRange, aN, aC, aB, aF, aE, aD, aA, Nat.reduceLT, Nat.reduceEqDiff, Nat.reduceAdd, Nat.reduceMul, Nat.reduceSub, Nat.reduceLeDiff, Nat.reduceBEq, reduceCtorEq])
    rw [trimE_f hc]
def F168 : List EVal → Option EVal
  | [.str l, .str [58]] => if l.length < 1000000000 then some (.str (trimE l)) else none
  | _ => none
theorem e168 {l : List Nat} (h : l.length < 1000000000) : F168 [.str l, .str [58]] = some (.str (trimE l)) := by simp only [F168]; rw [if_pos h]
theorem fn168 : FnT 168 F168 := by
  refine Fn.intro mixed aV Tryz.func168 rfl [(183, F183)] (by simp only [List.forall_mem_cons]; exact ⟨fn183, fun _ h => by cases h⟩) ?_
  intro args v hF
  unfold F168 at hF
  split at hF
  rotate_left
  · cases hF
  intro Q hV
  have hQ := bM.of hV
  rename_i l
  split at hF
  rotate_left
  · cases hF
  rename_i h
  cases hF
  have h183 : F183 [.str l, .str [58]] = some (.str (trimE l)) := by simp only [F183]; rw [if_pos h]
  refine Top.view (aT.start (n := 8) rfl (by simp)) (aR aV _ _ _ _ ?_)
  ((try simp only [aO, SS, TF168RefPit, aM, setRange, aN, aC, aB, aF, aE, aD, aA, Nat.reduceLT, Nat.reduceEqDiff, Nat.reduceAdd, Nat.reduceMul, Nat.reduceSub, Nat.reduceLeDiff, Nat.reduceBEq, reduceCtorEq, h183]); (repeat' ((first | apply aJ | apply aI | apply aL | apply aK | apply aH | apply aG) <;> intro h <;> simp only [h, SS, TF168RefPit, aM, setRange, aN, aC, aB, aF, aE, aD, aA, Nat.reduceLT, Nat.reduceEqDiff, Nat.reduceAdd, Nat.reduceMul, Nat.reduceSub, Nat.reduceLeDiff, Nat.reduceBEq, reduceCtorEq, h183])))
  (refine hQ _ _ _ (aQ (by first | exact .inl rfl | exact .inr rfl) ?_); simp only [SS, TF168RefPit, aM, setRange, aN, aC, aB, aF, aE, aD, aA, Nat.reduceLT, Nat.reduceEqDiff, Nat.reduceAdd, Nat.reduceMul, Nat.reduceSub, Nat.reduceLeDiff, Nat.reduceBEq, reduceCtorEq])
end Go.Ev
