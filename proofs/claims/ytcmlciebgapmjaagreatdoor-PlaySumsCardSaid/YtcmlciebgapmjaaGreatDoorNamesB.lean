import Derived.Test.YtcmlciebgapmjaaGreatDoorNames
set_option linter.unusedSimpArgs false
set_option linter.unusedVariables false
namespace Go.Ev
open Go.RowKit Go.Proofs
set_option linter.defProp false
def TF25NamesB := And.intro (And.intro (And.intro (And.intro (@Tryz.underlying3) (@sz3)) (And.intro (@bT) (@I3s))) (And.intro (And.intro (@I3b) (@bS)) (And.intro (@bV) (@Tryz.underlying25)))) (And.intro (And.intro (And.intro (@dF) (@bZ)) (And.intro (@dG) (@dH))) (And.intro (And.intro (@bX) (@cA)) (And.intro (@call47) (And.intro (@call61) (@Tryz.results25)))))
def TF78NamesB := And.intro (And.intro (And.intro (@Tryz.underlying3) (And.intro (@sz3) (@bT))) (And.intro (And.intro (@I3s) (@I3b)) (And.intro (@bS) (@bV)))) (And.intro (And.intro (And.intro (@Tryz.underlying25) (@dF)) (And.intro (@bZ) (@dG))) (And.intro (And.intro (@dH) (@bX)) (And.intro (@cA) (@Tryz.results78))))
def TF94NamesB := And.intro (And.intro (And.intro (@Tryz.underlying21) (@sz21)) (And.intro (@info21) (@I21s))) (And.intro (And.intro (@I21b) (@zero21)) (And.intro (@grow21) (And.intro (@call133) (@Tryz.results94))))
def TF95NamesB := And.intro (And.intro (And.intro (@Tryz.underlying21) (@sz21)) (And.intro (@info21) (@I21s))) (And.intro (And.intro (@I21b) (@zero21)) (And.intro (@grow21) (@Tryz.results95)))
def TF96NamesB := And.intro (And.intro (And.intro (@Tryz.underlying5) (@sz5)) (And.intro (@info5) (@I5s))) (And.intro (And.intro (@I5b) (@zero5)) (And.intro (@grow5) (@Tryz.results96)))
def TF97NamesB := And.intro (And.intro (And.intro (@Tryz.underlying5) (@sz5)) (And.intro (@info5) (@I5s))) (And.intro (And.intro (@I5b) (@zero5)) (And.intro (@grow5) (@Tryz.results97)))
def TF133NamesB := And.intro (And.intro (And.intro (@Tryz.underlying21) (@sz21)) (And.intro (@info21) (@I21s))) (And.intro (And.intro (@I21b) (@zero21)) (And.intro (@grow21) (@Tryz.results133)))
set_option maxRecDepth 20000
set_option maxHeartbeats 2000000

def lowerB (r : Int) : Bool := decide (97 ≤ r) && decide (r ≤ 122)
def F133 : List EVal → Option EVal
  | [.int .i32 n] => some (.bool (lowerB n))
  | _ => none
theorem e133 {n : Int} : F133 [.int .i32 n] = some (.bool (lowerB n)) := rfl
theorem fn133 : FnT 133 F133 := by
  refine Fn.intro mixed bA Tryz.func133 rfl [] (fun _ h => by cases h) ?_
  intro args v hF
  unfold F133 at hF
  split at hF
  rotate_left
  · cases hF
  intro Q hV
  have hQ := bL.of hV
  rename_i n
  cases hF
  refine Top.view (aX.start (n := 9) rfl (by simp)) (aS bA _ _ _ _ ?_)
  ((try simp only [aO, SS, TF133NamesB, aM, setRange, aN, aC, aB, aF, aE, aD, aA, Nat.reduceLT, Nat.reduceEqDiff, Nat.reduceAdd, Nat.reduceMul, Nat.reduceSub, Nat.reduceLeDiff, Nat.reduceBEq, reduceCtorEq]); (repeat' ((first | apply aJ | apply aI | apply aL | apply aK | apply aH | apply aG) <;> intro h <;> simp only [h, SS, TF133NamesB, aM, setRange, aN, aC, aB, aF, aE, aD, aA, Nat.reduceLT, Nat.reduceEqDiff, Nat.reduceAdd, Nat.reduceMul, Nat.reduceSub, Nat.reduceLeDiff, Nat.reduceBEq, reduceCtorEq])))
  all_goals ((refine hQ _ _ _ (aR (by first | exact .inl rfl | exact .inr rfl) ?_); simp only [*, SS, TF133NamesB, aM, setRange, aN, aC, aB, aF, aE, aD, aA, Nat.reduceLT, Nat.reduceEqDiff, Nat.reduceAdd, Nat.reduceMul, Nat.reduceSub, Nat.reduceLeDiff, Nat.reduceBEq, reduceCtorEq, lowerB]))

def digitB (r : Int) : Bool := decide (48 ≤ r) && decide (r ≤ 57)
def F95 : List EVal → Option EVal
  | [.int .i32 n] => some (.bool (digitB n))
  | _ => none
theorem e95 {n : Int} : F95 [.int .i32 n] = some (.bool (digitB n)) := rfl
theorem fn95 : FnT 95 F95 := by
  refine Fn.intro mixed bA Tryz.func95 rfl [] (fun _ h => by cases h) ?_
  intro args v hF
  unfold F95 at hF
  split at hF
  rotate_left
  · cases hF
  intro Q hV
  have hQ := bL.of hV
  rename_i n
  cases hF
  refine Top.view (aX.start (n := 9) rfl (by simp)) (aS bA _ _ _ _ ?_)
  ((try simp only [aO, SS, TF95NamesB, aM, setRange, aN, aC, aB, aF, aE, aD, aA, Nat.reduceLT, Nat.reduceEqDiff, Nat.reduceAdd, Nat.reduceMul, Nat.reduceSub, Nat.reduceLeDiff, Nat.reduceBEq, reduceCtorEq]); (repeat' ((first | apply aJ | apply aI | apply aL | apply aK | apply aH | apply aG) <;> intro h <;> simp only [h, SS, TF95NamesB, aM, setRange, aN, aC, aB, aF, aE, aD, aA, Nat.reduceLT, Nat.reduceEqDiff, Nat.reduceAdd, Nat.reduceMul, Nat.reduceSub, Nat.reduceLeDiff, Nat.reduceBEq, reduceCtorEq])))
  all_goals ((refine hQ _ _ _ (aR (by first | exact .inl rfl | exact .inr rfl) ?_); simp only [*, SS, TF95NamesB, aM, setRange, aN, aC, aB, aF, aE, aD, aA, Nat.reduceLT, Nat.reduceEqDiff, Nat.reduceAdd, Nat.reduceMul, Nat.reduceSub, Nat.reduceLeDiff, Nat.reduceBEq, reduceCtorEq, digitB]))

def letterB (r : Int) : Bool := lowerB r || (decide (65 ≤ r) && decide (r ≤ 90))
def F94 : List EVal → Option EVal
  | [.int .i32 n] => some (.bool (letterB n))
  | _ => none
theorem e94 {n : Int} : F94 [.int .i32 n] = some (.bool (letterB n)) := rfl
theorem fn94 : FnT 94 F94 := by
  refine Fn.intro mixed bA Tryz.func94 rfl [(133, F133)] (by simp only [List.forall_mem_cons]; exact ⟨fn133, fun _ h => by cases h⟩) ?_
  intro args v hF
  unfold F94 at hF
  split at hF
  rotate_left
  · cases hF
  intro Q hV
  have hQ := bL.of hV
  rename_i n
  cases hF
  refine Top.view (aX.start (n := 13) rfl (by simp)) (aS bA _ _ _ _ ?_)
  ((try simp only [aO, SS, TF94NamesB, aM, setRange, aN, aC, aB, aF, aE, aD, aA, Nat.reduceLT, Nat.reduceEqDiff, Nat.reduceAdd, Nat.reduceMul, Nat.reduceSub, Nat.reduceLeDiff, Nat.reduceBEq, reduceCtorEq, e133]); (repeat' ((first | apply aJ | apply aI | apply aL | apply aK | apply aH | apply aG) <;> intro h <;> simp only [h, SS, TF94NamesB, aM, setRange, aN, aC, aB, aF, aE, aD, aA, Nat.reduceLT, Nat.reduceEqDiff, Nat.reduceAdd, Nat.reduceMul, Nat.reduceSub, Nat.reduceLeDiff, Nat.reduceBEq, reduceCtorEq, e133])))
  all_goals ((refine hQ _ _ _ (aR (by first | exact .inl rfl | exact .inr rfl) ?_); simp only [*, SS, TF94NamesB, aM, setRange, aN, aC, aB, aF, aE, aD, aA, Nat.reduceLT, Nat.reduceEqDiff, Nat.reduceAdd, Nat.reduceMul, Nat.reduceSub, Nat.reduceLeDiff, Nat.reduceBEq, reduceCtorEq, letterB]))

/-! the reference's letters -/
def letterU (c : Int) : Bool := (decide (65 ≤ c) && decide (c ≤ 90)) || (decide (97 ≤ c) && decide (c ≤ 122))
def F96 : List EVal → Option EVal
  | [.int .u8 n] => some (.bool (letterU n))
  | _ => none
theorem e96 {n : Int} : F96 [.int .u8 n] = some (.bool (letterU n)) := rfl
theorem fn96 : FnT 96 F96 := by
  refine Fn.intro mixed bA Tryz.func96 rfl [] (fun _ h => by cases h) ?_
  intro args v hF
  unfold F96 at hF
  split at hF
  rotate_left
  · cases hF
  intro Q hV
  have hQ := bL.of hV
  rename_i n
  cases hF
  refine Top.view (aX.start (n := 17) rfl (by simp)) (aS bA _ _ _ _ ?_)
  ((try simp only [aO, SS, TF96NamesB, aM, setRange, aN, aC, aB, aF, aE, aD, aA, Nat.reduceLT, Nat.reduceEqDiff, Nat.reduceAdd, Nat.reduceMul, Nat.reduceSub, Nat.reduceLeDiff, Nat.reduceBEq, reduceCtorEq]); (repeat' ((first | apply aJ | apply aI | apply aL | apply aK | apply aH | apply aG) <;> intro h <;> simp only [h, SS, TF96NamesB, aM, setRange, aN, aC, aB, aF, aE, aD, aA, Nat.reduceLT, Nat.reduceEqDiff, Nat.reduceAdd, Nat.reduceMul, Nat.reduceSub, Nat.reduceLeDiff, Nat.reduceBEq, reduceCtorEq])))
  all_goals ((refine hQ _ _ _ (aR (by first | exact .inl rfl | exact .inr rfl) ?_); simp only [*, SS, TF96NamesB, aM, setRange, aN, aC, aB, aF, aE, aD, aA, Nat.reduceLT, Nat.reduceEqDiff, Nat.reduceAdd, Nat.reduceMul, Nat.reduceSub, Nat.reduceLeDiff, Nat.reduceBEq, reduceCtorEq, letterU]))
  all_goals (simp at *; omega)

def F97 : List EVal → Option EVal
  | [.int .u8 n] => some (.bool (digitB n))
  | _ => none
theorem e97 {n : Int} : F97 [.int .u8 n] = some (.bool (digitB n)) := rfl
theorem fn97 : FnT 97 F97 := by
  refine Fn.intro mixed bA Tryz.func97 rfl [] (fun _ h => by cases h) ?_
  intro args v hF
  unfold F97 at hF
  split at hF
  rotate_left
  · cases hF
  intro Q hV
  have hQ := bL.of hV
  rename_i n
  cases hF
  refine Top.view (aX.start (n := 9) rfl (by simp)) (aS bA _ _ _ _ ?_)
  ((try simp only [aO, SS, TF97NamesB, aM, setRange, aN, aC, aB, aF, aE, aD, aA, Nat.reduceLT, Nat.reduceEqDiff, Nat.reduceAdd, Nat.reduceMul, Nat.reduceSub, Nat.reduceLeDiff, Nat.reduceBEq, reduceCtorEq]); (repeat' ((first | apply aJ | apply aI | apply aL | apply aK | apply aH | apply aG) <;> intro h <;> simp only [h, SS, TF97NamesB, aM, setRange, aN, aC, aB, aF, aE, aD, aA, Nat.reduceLT, Nat.reduceEqDiff, Nat.reduceAdd, Nat.reduceMul, Nat.reduceSub, Nat.reduceLeDiff, Nat.reduceBEq, reduceCtorEq])))
  all_goals ((refine hQ _ _ _ (aR (by first | exact .inl rfl | exact .inr rfl) ?_); simp only [*, SS, TF97NamesB, aM, setRange, aN, aC, aB, aF, aE, aD, aA, Nat.reduceLT, Nat.reduceEqDiff, Nat.reduceAdd, Nat.reduceMul, Nat.reduceSub, Nat.reduceLeDiff, Nat.reduceBEq, reduceCtorEq, digitB]))
  all_goals (simp at *; omega)

def F25 : List EVal → Option EVal
  | [.int .i64 a, .int .i64 b] => some (.int .i64 (cD [cR a 1 2147483398, cR b 0 256]))
  | _ => none
theorem e25 {a b : Int} : F25 [.int .i64 a, .int .i64 b] = some (.int .i64 (cD [cR a 1 2147483398, cR b 0 256])) := rfl
theorem fn25 : FnT 25 F25 := by
  refine Fn.intro mixed bA Tryz.func25 rfl [(61, F61), (47, F47)] (by simp only [List.forall_mem_cons]; exact ⟨fn61, fn47, fun _ h => by cases h⟩) ?_
  intro args v hF
  unfold F25 at hF
  split at hF
  rotate_left
  · cases hF
  intro Q hV
  have hQ := bL.of hV
  rename_i a b
  cases hF
  refine Top.view (aX.start (n := 11) rfl (by simp)) (aS bA _ _ _ _ ?_)
  ((try simp only [aO, SS, TF25NamesB, aM, setRange, aN, aC, aB, aF, aE, aD, aA, Nat.reduceLT, Nat.reduceEqDiff, Nat.reduceAdd, Nat.reduceMul, Nat.reduceSub, Nat.reduceLeDiff, Nat.reduceBEq, reduceCtorEq, e61', e47two]); (repeat' ((first | apply aJ | apply aI | apply aL | apply aK | apply aH | apply aG) <;> intro h <;> simp only [h, SS, TF25NamesB, aM, setRange, aN, aC, aB, aF, aE, aD, aA, Nat.reduceLT, Nat.reduceEqDiff, Nat.reduceAdd, Nat.reduceMul, Nat.reduceSub, Nat.reduceLeDiff, Nat.reduceBEq, reduceCtorEq, e61', e47two])))
  (refine hQ _ _ _ (aR (by first | exact .inl rfl | exact .inr rfl) ?_); simp only [SS, TF25NamesB, aM, setRange, aN, aC, aB, aF, aE, aD, aA, Nat.reduceLT, Nat.reduceEqDiff, Nat.reduceAdd, Nat.reduceMul, Nat.reduceSub, Nat.reduceLeDiff, Nat.reduceBEq, reduceCtorEq])

/-! lists of numbers, compared -/
def F78 : List EVal → Option EVal
  | [a, b] => match dK a, dK b with
    | some l, some m => some (.bool (decide (l = m)))
    | _, _ => none
  | _ => none
theorem e78 {l m : List Int} (h1 : l.length < 9223372036854775808) (h2 : m.length < 9223372036854775808) : F78 [.lsl (bJ l), .lsl (bJ m)] = some (.bool (decide (l = m))) := by
  simp only [F78, dInts_e h1, dInts_e h2]
theorem fn78 : FnT 78 F78 := by
  refine Fn.intro mixed bA Tryz.func78 rfl [] (fun _ h => by cases h) ?_
  intro args v hF
  unfold F78 at hF
  split at hF
  rotate_left
  · cases hF
  intro Q hV
  have hQ := bL.of hV
  rename_i a b
  split at hF
  rotate_left
  · cases hF
  rename_i l m ha hb
  cases hF
  obtain ⟨rfl, hl⟩ := dInts_inv ha
  obtain ⟨rfl, hm⟩ := dInts_inv hb
  clear ha hb
  refine Top.view (aX.start (n := 26) rfl (by simp)) (aS bA _ _ _ _ ?_)
  by_cases hlen : l.length = m.length
  · have c0 : ((l.length : Int) == (m.length : Int)) = true := by simp [hlen]
    ((try simp only [aO, SS, TF78NamesB, aM, setRange, aN, aC, aB, aF, aE, aD, aA, Nat.reduceLT, Nat.reduceEqDiff, Nat.reduceAdd, Nat.reduceMul, Nat.reduceSub, Nat.reduceLeDiff, Nat.reduceBEq, reduceCtorEq, aQ, c0]); (repeat' ((first | apply aJ | apply aI | apply aL | apply aK | apply aH | apply aG) <;> intro h <;> simp only [h, SS, TF78NamesB, aM, setRange, aN, aC, aB, aF, aE, aD, aA, Nat.reduceLT, Nat.reduceEqDiff, Nat.reduceAdd, Nat.reduceMul, Nat.reduceSub, Nat.reduceLeDiff, Nat.reduceBEq, reduceCtorEq, aQ, c0])))
    refine bH (Top.loop (I := fun s : { k : Nat // k ≤ l.length ∧ l.take k = m.take k } => (mkF 26 [(5, .int .i64 (s.1 : Nat)), (0, .lsl (bJ l)), (1, .lsl (bJ m))], H.start)) (μ := fun s => l.length - s.1) ⟨0, by simp⟩ (aX.sub (by simp [look])) ?_)
    rintro ⟨k, hk, hf⟩
    refine aS bA _ _ _ _ ?_
    by_cases hlt : k < l.length
    · obtain ⟨x, hx⟩ : ∃ x, l[k]? = some x := ⟨l[k], List.getElem?_eq_getElem hlt⟩
      obtain ⟨y, hy⟩ : ∃ y, m[k]? = some y := ⟨m[k], List.getElem?_eq_getElem (by omega)⟩
      have c1 : decide ((k : Int) < (l.length : Int)) = true := by simp; omega
      have c2 : IntKind.i64.wrap ((k : Int) + 1) = ((k + 1 : Nat) : Int) := by rw [bE] <;> omega
      ((try simp only [aO, SS, TF78NamesB, aM, setRange, aN, aC, aB, aF, aE, aD, aA, Nat.reduceLT, Nat.reduceEqDiff, Nat.reduceAdd, Nat.reduceMul, Nat.reduceSub, Nat.reduceLeDiff, Nat.reduceBEq, reduceCtorEq, aQ, aZ, c1, c2, hx, hy]); (repeat' ((first | apply aJ | apply aI | apply aL | apply aK | apply aH | apply aG) <;> intro h <;> simp only [h, SS, TF78NamesB, aM, setRange, aN, aC, aB, aF, aE, aD, aA, Nat.reduceLT, Nat.reduceEqDiff, Nat.reduceAdd, Nat.reduceMul, Nat.reduceSub, Nat.reduceLeDiff, Nat.reduceBEq, reduceCtorEq, aQ, aZ, c1, c2, hx, hy])))
      refine wp_of_draw (Top.draw mixed bA (by kernel_rfl) ?_)
      ((try simp only [aO, SS, TF78NamesB, aM, setRange, aN, aC, aB, aF, aE, aD, aA, Nat.reduceLT, Nat.reduceEqDiff, Nat.reduceAdd, Nat.reduceMul, Nat.reduceSub, Nat.reduceLeDiff, Nat.reduceBEq, reduceCtorEq, aQ, aZ, c1, c2, hx, hy]); (repeat' ((first | apply aJ | apply aI | apply aL | apply aK | apply aH | apply aG) <;> intro h <;> simp only [h, SS, TF78NamesB, aM, setRange, aN, aC, aB, aF, aE, aD, aA, Nat.reduceLT, Nat.reduceEqDiff, Nat.reduceAdd, Nat.reduceMul, Nat.reduceSub, Nat.reduceLeDiff, Nat.reduceBEq, reduceCtorEq, aQ, aZ, c1, c2, hx, hy])))
      refine ⟨by kernel_rfl, ?_⟩
      ((try simp only [aO, SS, TF78NamesB, aM, setRange, aN, aC, aB, aF, aE, aD, aA, Nat.reduceLT, Nat.reduceEqDiff, Nat.reduceAdd, Nat.reduceMul, Nat.reduceSub, Nat.reduceLeDiff, Nat.reduceBEq, reduceCtorEq, aQ, aZ, c1, c2, hx, hy]); (repeat' ((first | apply aJ | apply aI | apply aL | apply aK | apply aH | apply aG) <;> intro h <;> simp only [h, SS, TF78NamesB, aM, setRange, aN, aC, aB, aF, aE, aD, aA, Nat.reduceLT, Nat.reduceEqDiff, Nat.reduceAdd, Nat.reduceMul, Nat.reduceSub, Nat.reduceLeDiff, Nat.reduceBEq, reduceCtorEq, aQ, aZ, c1, c2, hx, hy])))
      · have h' : x ≠ y := by simpa using h
        (refine hQ _ _ _ (aR (by first | exact .inl rfl | exact .inr rfl) ?_); simp only [SS, TF78NamesB, aM, setRange, aN, aC, aB, aF, aE, aD, aA, Nat.reduceLT, Nat.reduceEqDiff, Nat.reduceAdd, Nat.reduceMul, Nat.reduceSub, Nat.reduceLeDiff, Nat.reduceBEq, reduceCtorEq])
        have : l ≠ m := fun e => h' (by rw [e, hy] at hx; exact (Option.some.inj hx).symm)
        simp [this]
      · have h' : x = y := by simpa using h
        refine ⟨⟨k + 1, hlt, by rw [List.take_add_one, List.take_add_one, hf, hx, hy, h']⟩, by simp; omega, aX.sub (by simp [look])⟩
    · have c1 : decide ((k : Int) < (l.length : Int)) = false := by simp; omega
      ((try simp only [aO, SS, TF78NamesB, aM, setRange, aN, aC, aB, aF, aE, aD, aA, Nat.reduceLT, Nat.reduceEqDiff, Nat.reduceAdd, Nat.reduceMul, Nat.reduceSub, Nat.reduceLeDiff, Nat.reduceBEq, reduceCtorEq, aQ, c1]); (repeat' ((first | apply aJ | apply aI | apply aL | apply aK | apply aH | apply aG) <;> intro h <;> simp only [h, SS, TF78NamesB, aM, setRange, aN, aC, aB, aF, aE, aD, aA, Nat.reduceLT, Nat.reduceEqDiff, Nat.reduceAdd, Nat.reduceMul, Nat.reduceSub, Nat.reduceLeDiff, Nat.reduceBEq, reduceCtorEq, aQ, c1])))
      (refine hQ _ _ _ (aR (by first | exact .inl rfl | exact .inr rfl) ?_); simp only [SS, TF78NamesB, aM, setRange, aN, aC, aB, aF, aE, aD, aA, Nat.reduceLT, Nat.reduceEqDiff, Nat.reduceAdd, Nat.reduceMul, Nat.reduceSub, Nat.reduceLeDiff, Nat.reduceBEq, reduceCtorEq])
      obtain rfl : k = l.length := by omega
      rw [List.take_length, hlen, List.take_length] at hf
      simp [hf]
  · have c0 : ((l.length : Int) == (m.length : Int)) = false := by simp; omega
    ((try simp only [aO, SS, TF78NamesB, aM, setRange, aN, aC, aB, aF, aE, aD, aA, Nat.reduceLT, Nat.reduceEqDiff, Nat.reduceAdd, Nat.reduceMul, Nat.reduceSub, Nat.reduceLeDiff, Nat.reduceBEq, reduceCtorEq, aQ, c0]); (repeat' ((first | apply aJ | apply aI | apply aL | apply aK | apply aH | apply aG) <;> intro h <;> simp only [h, SS, TF78NamesB, aM, setRange, aN, aC, aB, aF, aE, aD, aA, Nat.reduceLT, Nat.reduceEqDiff, Nat.reduceAdd, Nat.reduceMul, Nat.reduceSub, Nat.reduceLeDiff, Nat.reduceBEq, reduceCtorEq, aQ, c0])))
    (refine hQ _ _ _ (aR (by first | exact .inl rfl | exact .inr rfl) ?_); simp only [SS, TF78NamesB, aM, setRange, aN, aC, aB, aF, aE, aD, aA, Nat.reduceLT, Nat.reduceEqDiff, Nat.reduceAdd, Nat.reduceMul, Nat.reduceSub, Nat.reduceLeDiff, Nat.reduceBEq, reduceCtorEq])
    have : l ≠ m := fun h => hlen (by rw [h])
    simp [this]
end Go.Ev
