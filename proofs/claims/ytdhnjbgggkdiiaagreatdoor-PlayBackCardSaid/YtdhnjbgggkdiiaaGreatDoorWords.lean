import Derived.Test.YtdhnjbgggkdiiaaGreatDoorForm2
import Derived.Test.YtdhnjbgggkdiiaaGreatDoorNamesB
set_option linter.unusedSimpArgs false
set_option linter.unusedVariables false
namespace Go.Ev
open Go.RowKit Go.Proofs
set_option linter.defProp false
def bL := And.intro (And.intro (And.intro (@Tryz.underlying9) (And.intro (@sz9) (@cB))) (And.intro (And.intro (@I9s) (@I9b)) (And.intro (@bY) (@cC)))) (And.intro (And.intro (And.intro (@Tryz.underlying21) (@sz21)) (And.intro (@info21) (@I21s))) (And.intro (And.intro (@I21b) (@zero21)) (And.intro (@grow21) (@Tryz.results166))))
set_option maxRecDepth 20000
set_option maxHeartbeats 8000000

/-! what words are made of -/
theorem all_dropN {l : List Nat} {k x : Nat} {f : Nat → Bool} (h : l[k]? = some x) : (l.drop k).all f = (f x && (l.drop (k + 1)).all f) := by
  obtain ⟨hk, rfl⟩ := List.getElem?_eq_some_iff.1 h
  rw [List.drop_eq_getElem_cons hk]; rfl
def madeOf (f : Nat → Bool) (l : List Nat) : Bool := l.all f && decide (l ≠ [])
def eT (x : Nat) : Bool := digitB (x : Int)
def lowN (x : Nat) : Bool := lowerB (x : Int)
theorem digN_high {n : Nat} (h : 128 ≤ n) : eT n = false := by simp [eT, digitB]; omega
theorem lowN_high {n : Nat} (h : 128 ≤ n) : lowN n = false := by simp [lowN, lowerB]; omega
theorem e95n {x : Nat} : F95 [.int .i32 (x : Int)] = some (.bool (eT x)) := rfl
theorem e133n {x : Nat} : F133 [.int .i32 (x : Int)] = some (.bool (lowN x)) := rfl
def F166_117 : List EVal → Option EVal
  | [.str l, .func 117 []] => if aZ l = true ∧ l.length < 1000000000 then some (.bool (madeOf isP l)) else none
  | _ => none
theorem fn166_117 : FnT 166 F166_117 := by
  refine Fn.intro mixed aV Tryz.func166 rfl [(117, F117)] (by simp only [List.forall_mem_cons]; exact ⟨fn117, fun _ h => by cases h⟩) ?_
  intro args v hF
  unfold F166_117 at hF
  split at hF
  rotate_left
  · cases hF
  rename_i l
  split at hF
  rotate_left
  · cases hF
  rename_i hb
  obtain ⟨hby, hlen⟩ := hb
  cases hF
  intro Q hV
  have hQ := bM.of hV
  refine Top.view (aT.start (n := 18) rfl (by simp)) (aR aV _ _ _ _ ?_)
  ((try simp only [aO, SS, bL, aM, setRange, aN, aC, aB, aF, aE, aD, aA, Nat.reduceLT, Nat.reduceEqDiff, Nat.reduceAdd, Nat.reduceMul, Nat.reduceSub, Nat.reduceLeDiff, Nat.reduceBEq, reduceCtorEq]); (repeat' ((first | apply aJ | apply aI | apply aL | apply aK | apply aH | apply aG) <;> intro h <;> simp only [h, SS, bL, aM, setRange, aN, aC, aB, aF, aE, aD, aA, Nat.reduceLT, Nat.reduceEqDiff, Nat.reduceAdd, Nat.reduceMul, Nat.reduceSub, Nat.reduceLeDiff, Nat.reduceBEq, reduceCtorEq])))
  refine bR (Top.loop (I := fun s : { k : Nat // k ≤ l.length ∧ l.all isP = (l.drop k).all isP } => (mkF 18 [(8, .ptr 0 0), (1, .func 117 []), (0, .str l)], mkH 1 [(0, some (.iter l s.1))] 0 [])) (μ := fun s => l.length - s.1) ⟨0, by simp⟩ (aT.drop (by simp [look, below, aX]) (by simp [aP, bT, below, aX, bA]) (by simp [aP])) ?_)
  rintro ⟨k, hk, hf⟩
  refine aR aV _ _ _ _ ?_
  dsimp only
  by_cases hlt : k < l.length
  rotate_left
  · have hall : l.all isP = true := by rw [hf, List.drop_eq_nil_of_le (by omega)]; rfl
    ((try simp only [aO, SS, bL, aM, setRange, aN, aC, aB, aF, aE, aD, aA, Nat.reduceLT, Nat.reduceEqDiff, Nat.reduceAdd, Nat.reduceMul, Nat.reduceSub, Nat.reduceLeDiff, Nat.reduceBEq, reduceCtorEq, hlt]); (repeat' ((first | apply aJ | apply aI | apply aL | apply aK | apply aH | apply aG) <;> intro h <;> simp only [h, SS, bL, aM, setRange, aN, aC, aB, aF, aE, aD, aA, Nat.reduceLT, Nat.reduceEqDiff, Nat.reduceAdd, Nat.reduceMul, Nat.reduceSub, Nat.reduceLeDiff, Nat.reduceBEq, reduceCtorEq, hlt])))
    (refine hQ _ _ _ (aQ (by first | exact .inl rfl | exact .inr rfl) ?_); simp only [SS, bL, aM, setRange, aN, aC, aB, aF, aE, aD, aA, Nat.reduceLT, Nat.reduceEqDiff, Nat.reduceAdd, Nat.reduceMul, Nat.reduceSub, Nat.reduceLeDiff, Nat.reduceBEq, reduceCtorEq])
    simp only [madeOf, hall, Bool.true_and, ne_eq, decide_not]
  obtain ⟨x, hx⟩ : ∃ x, l[k]? = some x := ⟨l[k], List.getElem?_eq_getElem hlt⟩
  have hfd := all_dropN (f := isP) hx
  by_cases ha : x < 128
  rotate_left
  · have hp := isP_high (n := x) (by omega)
    obtain ⟨r, w, c4, hr⟩ := next_high hby hx ha
    have hp2 := isP_high hr
    ((try simp only [aO, SS, bL, aM, setRange, aN, aC, aB, aF, aE, aD, aA, Nat.reduceLT, Nat.reduceEqDiff, Nat.reduceAdd, Nat.reduceMul, Nat.reduceSub, Nat.reduceLeDiff, Nat.reduceBEq, reduceCtorEq, hlt, c4, call117, e117n, hp2]); (repeat' ((first | apply aJ | apply aI | apply aL | apply aK | apply aH | apply aG) <;> intro h <;> simp only [h, SS, bL, aM, setRange, aN, aC, aB, aF, aE, aD, aA, Nat.reduceLT, Nat.reduceEqDiff, Nat.reduceAdd, Nat.reduceMul, Nat.reduceSub, Nat.reduceLeDiff, Nat.reduceBEq, reduceCtorEq, hlt, c4, call117, e117n, hp2])))
    (refine hQ _ _ _ (aQ (by first | exact .inl rfl | exact .inr rfl) ?_); simp only [SS, bL, aM, setRange, aN, aC, aB, aF, aE, aD, aA, Nat.reduceLT, Nat.reduceEqDiff, Nat.reduceAdd, Nat.reduceMul, Nat.reduceSub, Nat.reduceLeDiff, Nat.reduceBEq, reduceCtorEq])
    simp only [madeOf, hf, hfd, hp, Bool.false_and]
  have c4 := next_ascii hx ha
  cases hp : isP x with
  | false =>
    ((try simp only [aO, SS, bL, aM, setRange, aN, aC, aB, aF, aE, aD, aA, Nat.reduceLT, Nat.reduceEqDiff, Nat.reduceAdd, Nat.reduceMul, Nat.reduceSub, Nat.reduceLeDiff, Nat.reduceBEq, reduceCtorEq, hlt, c4, call117, e117n, hp]); (repeat' ((first | apply aJ | apply aI | apply aL | apply aK | apply aH | apply aG) <;> intro h <;> simp only [h, SS, bL, aM, setRange, aN, aC, aB, aF, aE, aD, aA, Nat.reduceLT, Nat.reduceEqDiff, Nat.reduceAdd, Nat.reduceMul, Nat.reduceSub, Nat.reduceLeDiff, Nat.reduceBEq, reduceCtorEq, hlt, c4, call117, e117n, hp])))
    (refine hQ _ _ _ (aQ (by first | exact .inl rfl | exact .inr rfl) ?_); simp only [SS, bL, aM, setRange, aN, aC, aB, aF, aE, aD, aA, Nat.reduceLT, Nat.reduceEqDiff, Nat.reduceAdd, Nat.reduceMul, Nat.reduceSub, Nat.reduceLeDiff, Nat.reduceBEq, reduceCtorEq])
    simp only [madeOf, hf, hfd, hp, Bool.false_and]
  | true =>
    ((try simp only [aO, SS, bL, aM, setRange, aN, aC, aB, aF, aE, aD, aA, Nat.reduceLT, Nat.reduceEqDiff, Nat.reduceAdd, Nat.reduceMul, Nat.reduceSub, Nat.reduceLeDiff, Nat.reduceBEq, reduceCtorEq, hlt, c4, call117, e117n, hp]); (repeat' ((first | apply aJ | apply aI | apply aL | apply aK | apply aH | apply aG) <;> intro h <;> simp only [h, SS, bL, aM, setRange, aN, aC, aB, aF, aE, aD, aA, Nat.reduceLT, Nat.reduceEqDiff, Nat.reduceAdd, Nat.reduceMul, Nat.reduceSub, Nat.reduceLeDiff, Nat.reduceBEq, reduceCtorEq, hlt, c4, call117, e117n, hp])))
    exact ⟨⟨k + 1, hlt, by rw [hf, hfd, hp]; rfl⟩, by simp; omega, (aT.drop (by simp [look, below, aX]) (by simp [aP, bT, below, aX, bA]) (by simp [aP]))⟩
def F166_95 : List EVal → Option EVal
  | [.str l, .func 95 []] => if aZ l = true ∧ l.length < 1000000000 then some (.bool (madeOf eT l)) else none
  | _ => none
theorem fn166_95 : FnT 166 F166_95 := by
  refine Fn.intro mixed aV Tryz.func166 rfl [(95, F95)] (by simp only [List.forall_mem_cons]; exact ⟨fn95, fun _ h => by cases h⟩) ?_
  intro args v hF
  unfold F166_95 at hF
  split at hF
  rotate_left
  · cases hF
  rename_i l
  split at hF
  rotate_left
  · cases hF
  rename_i hb
  obtain ⟨hby, hlen⟩ := hb
  cases hF
  intro Q hV
  have hQ := bM.of hV
  refine Top.view (aT.start (n := 18) rfl (by simp)) (aR aV _ _ _ _ ?_)
  ((try simp only [aO, SS, bL, aM, setRange, aN, aC, aB, aF, aE, aD, aA, Nat.reduceLT, Nat.reduceEqDiff, Nat.reduceAdd, Nat.reduceMul, Nat.reduceSub, Nat.reduceLeDiff, Nat.reduceBEq, reduceCtorEq]); (repeat' ((first | apply aJ | apply aI | apply aL | apply aK | apply aH | apply aG) <;> intro h <;> simp only [h, SS, bL, aM, setRange, aN, aC, aB, aF, aE, aD, aA, Nat.reduceLT, Nat.reduceEqDiff, Nat.reduceAdd, Nat.reduceMul, Nat.reduceSub, Nat.reduceLeDiff, Nat.reduceBEq, reduceCtorEq])))
  refine bR (Top.loop (I := fun s : { k : Nat // k ≤ l.length ∧ l.all eT = (l.drop k).all eT } => (mkF 18 [(8, .ptr 0 0), (1, .func 95 []), (0, .str l)], mkH 1 [(0, some (.iter l s.1))] 0 [])) (μ := fun s => l.length - s.1) ⟨0, by simp⟩ (aT.drop (by simp [look, below, aX]) (by simp [aP, bT, below, aX, bA]) (by simp [aP])) ?_)
  rintro ⟨k, hk, hf⟩
  refine aR aV _ _ _ _ ?_
  dsimp only
  by_cases hlt : k < l.length
  rotate_left
  · have hall : l.all eT = true := by rw [hf, List.drop_eq_nil_of_le (by omega)]; rfl
    ((try simp only [aO, SS, bL, aM, setRange, aN, aC, aB, aF, aE, aD, aA, Nat.reduceLT, Nat.reduceEqDiff, Nat.reduceAdd, Nat.reduceMul, Nat.reduceSub, Nat.reduceLeDiff, Nat.reduceBEq, reduceCtorEq, hlt]); (repeat' ((first | apply aJ | apply aI | apply aL | apply aK | apply aH | apply aG) <;> intro h <;> simp only [h, SS, bL, aM, setRange, aN, aC, aB, aF, aE, aD, aA, Nat.reduceLT, Nat.reduceEqDiff, Nat.reduceAdd, Nat.reduceMul, Nat.reduceSub, Nat.reduceLeDiff, Nat.reduceBEq, reduceCtorEq, hlt])))
    (refine hQ _ _ _ (aQ (by first | exact .inl rfl | exact .inr rfl) ?_); simp only [SS, bL, aM, setRange, aN, aC, aB, aF, aE, aD, aA, Nat.reduceLT, Nat.reduceEqDiff, Nat.reduceAdd, Nat.reduceMul, Nat.reduceSub, Nat.reduceLeDiff, Nat.reduceBEq, reduceCtorEq])
    simp only [madeOf, hall, Bool.true_and, ne_eq, decide_not]
  obtain ⟨x, hx⟩ : ∃ x, l[k]? = some x := ⟨l[k], List.getElem?_eq_getElem hlt⟩
  have hfd := all_dropN (f := eT) hx
  by_cases ha : x < 128
  rotate_left
  · have hp := digN_high (n := x) (by omega)
    obtain ⟨r, w, c4, hr⟩ := next_high hby hx ha
    have hp2 := digN_high hr
    ((try simp only [aO, SS, bL, aM, setRange, aN, aC, aB, aF, aE, aD, aA, Nat.reduceLT, Nat.reduceEqDiff, Nat.reduceAdd, Nat.reduceMul, Nat.reduceSub, Nat.reduceLeDiff, Nat.reduceBEq, reduceCtorEq, hlt, c4, call95, e95n, hp2]); (repeat' ((first | apply aJ | apply aI | apply aL | apply aK | apply aH | apply aG) <;> intro h <;> simp only [h, SS, bL, aM, setRange, aN, aC, aB, aF, aE, aD, aA, Nat.reduceLT, Nat.reduceEqDiff, Nat.reduceAdd, Nat.reduceMul, Nat.reduceSub, Nat.reduceLeDiff, Nat.reduceBEq, reduceCtorEq, hlt, c4, call95, e95n, hp2])))
    (refine hQ _ _ _ (aQ (by first | exact .inl rfl | exact .inr rfl) ?_); simp only [SS, bL, aM, setRange, aN, aC, aB, aF, aE, aD, aA, Nat.reduceLT, Nat.reduceEqDiff, Nat.reduceAdd, Nat.reduceMul, Nat.reduceSub, Nat.reduceLeDiff, Nat.reduceBEq, reduceCtorEq])
    simp only [madeOf, hf, hfd, hp, Bool.false_and]
  have c4 := next_ascii hx ha
  cases hp : eT x with
  | false =>
    ((try simp only [aO, SS, bL, aM, setRange, aN, aC, aB, aF, aE, aD, aA, Nat.reduceLT, Nat.reduceEqDiff, Nat.reduceAdd, Nat.reduceMul, Nat.reduceSub, Nat.reduceLeDiff, Nat.reduceBEq, reduceCtorEq, hlt, c4, call95, e95n, hp]); (repeat' ((first | apply aJ | apply aI | apply aL | apply aK | apply aH | apply aG) <;> intro h <;> simp only [h, SS, bL, aM, setRange, aN, aC, aB, aF, aE, aD, aA, Nat.reduceLT, Nat.reduceEqDiff, Nat.reduceAdd, Nat.reduceMul, Nat.reduceSub, Nat.reduceLeDiff, Nat.reduceBEq, reduceCtorEq, hlt, c4, call95, e95n, hp])))
    (refine hQ _ _ _ (aQ (by first | exact .inl rfl | exact .inr rfl) ?_); simp only [SS, bL, aM, setRange, aN, aC, aB, aF, aE, aD, aA, Nat.reduceLT, Nat.reduceEqDiff, Nat.reduceAdd, Nat.reduceMul, Nat.reduceSub, Nat.reduceLeDiff, Nat.reduceBEq, reduceCtorEq])
    simp only [madeOf, hf, hfd, hp, Bool.false_and]
  | true =>
    ((try simp only [aO, SS, bL, aM, setRange, aN, aC, aB, aF, aE, aD, aA, Nat.reduceLT, Nat.reduceEqDiff, Nat.reduceAdd, Nat.reduceMul, Nat.reduceSub, Nat.reduceLeDiff, Nat.reduceBEq, reduceCtorEq, hlt, c4, call95, e95n, hp]); (repeat' ((first | apply aJ | apply aI | apply aL | apply aK | apply aH | apply aG) <;> intro h <;> simp only [h, SS, bL, aM, setRange, aN, aC, aB, aF, aE, aD, aA, Nat.reduceLT, Nat.reduceEqDiff, Nat.reduceAdd, Nat.reduceMul, Nat.reduceSub, Nat.reduceLeDiff, Nat.reduceBEq, reduceCtorEq, hlt, c4, call95, e95n, hp])))
    exact ⟨⟨k + 1, hlt, by rw [hf, hfd, hp]; rfl⟩, by simp; omega, (aT.drop (by simp [look, below, aX]) (by simp [aP, bT, below, aX, bA]) (by simp [aP]))⟩
def F166_133 : List EVal → Option EVal
  | [.str l, .func 133 []] => if aZ l = true ∧ l.length < 1000000000 then some (.bool (madeOf lowN l)) else none
  | _ => none
theorem fn166_133 : FnT 166 F166_133 := by
  refine Fn.intro mixed aV Tryz.func166 rfl [(133, F133)] (by simp only [List.forall_mem_cons]; exact ⟨fn133, fun _ h => by cases h⟩) ?_
  intro args v hF
  unfold F166_133 at hF
  split at hF
  rotate_left
  · cases hF
  rename_i l
  split at hF
  rotate_left
  · cases hF
  rename_i hb
  obtain ⟨hby, hlen⟩ := hb
  cases hF
  intro Q hV
  have hQ := bM.of hV
  refine Top.view (aT.start (n := 18) rfl (by simp)) (aR aV _ _ _ _ ?_)
  ((try simp only [aO, SS, bL, aM, setRange, aN, aC, aB, aF, aE, aD, aA, Nat.reduceLT, Nat.reduceEqDiff, Nat.reduceAdd, Nat.reduceMul, Nat.reduceSub, Nat.reduceLeDiff, Nat.reduceBEq, reduceCtorEq]); (repeat' ((first | apply aJ | apply aI | apply aL | apply aK | apply aH | apply aG) <;> intro h <;> simp only [h, SS, bL, aM, setRange, aN, aC, aB, aF, aE, aD, aA, Nat.reduceLT, Nat.reduceEqDiff, Nat.reduceAdd, Nat.reduceMul, Nat.reduceSub, Nat.reduceLeDiff, Nat.reduceBEq, reduceCtorEq])))
  refine bR (Top.loop (I := fun s : { k : Nat // k ≤ l.length ∧ l.all lowN = (l.drop k).all lowN } => (mkF 18 [(8, .ptr 0 0), (1, .func 133 []), (0, .str l)], mkH 1 [(0, some (.iter l s.1))] 0 [])) (μ := fun s => l.length - s.1) ⟨0, by simp⟩ (aT.drop (by simp [look, below, aX]) (by simp [aP, bT, below, aX, bA]) (by simp [aP])) ?_)
  rintro ⟨k, hk, hf⟩
  refine aR aV _ _ _ _ ?_
  dsimp only
  by_cases hlt : k < l.length
  rotate_left
  · have hall : l.all lowN = true := by rw [hf, List.drop_eq_nil_of_le (by omega)]; rfl
    ((try simp only [aO, SS, bL, aM, setRange, aN, aC, aB, aF, aE, aD, aA, Nat.reduceLT, Nat.reduceEqDiff, Nat.reduceAdd, Nat.reduceMul, Nat.reduceSub, Nat.reduceLeDiff, Nat.reduceBEq, reduceCtorEq, hlt]); (repeat' ((first | apply aJ | apply aI | apply aL | apply aK | apply aH | apply aG) <;> intro h <;> simp only [h, SS, bL, aM, setRange, aN, aC, aB, aF, aE, aD, aA, Nat.reduceLT, Nat.reduceEqDiff, Nat.reduceAdd, Nat.reduceMul, Nat.reduceSub, Nat.reduceLeDiff, Nat.reduceBEq, reduceCtorEq, hlt])))
    (refine hQ _ _ _ (aQ (by first | exact .inl rfl | exact .inr rfl) ?_); simp only [SS, bL, aM, setRange, aN, aC, aB, aF, aE, aD, aA, Nat.reduceLT, Nat.reduceEqDiff, Nat.reduceAdd, Nat.reduceMul, Nat.reduceSub, Nat.reduceLeDiff, Nat.reduceBEq, reduceCtorEq])
    simp only [madeOf, hall, Bool.true_and, ne_eq, decide_not]
  obtain ⟨x, hx⟩ : ∃ x, l[k]? = some x := ⟨l[k], List.getElem?_eq_getElem hlt⟩
  have hfd := all_dropN (f := lowN) hx
  by_cases ha : x < 128
  rotate_left
  · have hp := lowN_high (n := x) (by omega)
    obtain ⟨r, w, c4, hr⟩ := next_high hby hx ha
    have hp2 := lowN_high hr
    ((try simp only [aO, SS, bL, aM, setRange, aN, aC, aB, aF, aE, aD, aA, Nat.reduceLT, Nat.reduceEqDiff, Nat.reduceAdd, Nat.reduceMul, Nat.reduceSub, Nat.reduceLeDiff, Nat.reduceBEq, reduceCtorEq, hlt, c4, call133, e133n, hp2]); (repeat' ((first | apply aJ | apply aI | apply aL | apply aK | apply aH | apply aG) <;> intro h <;> simp only [h, SS, bL, aM, setRange, aN, aC, aB, aF, aE, aD, aA, Nat.reduceLT, Nat.reduceEqDiff, Nat.reduceAdd, Nat.reduceMul, Nat.reduceSub, Nat.reduceLeDiff, Nat.reduceBEq, reduceCtorEq, hlt, c4, call133, e133n, hp2])))
    (refine hQ _ _ _ (aQ (by first | exact .inl rfl | exact .inr rfl) ?_); simp only [SS, bL, aM, setRange, aN, aC, aB, aF, aE, aD, aA, Nat.reduceLT, Nat.reduceEqDiff, Nat.reduceAdd, Nat.reduceMul, Nat.reduceSub, Nat.reduceLeDiff, Nat.reduceBEq, reduceCtorEq])
    simp only [madeOf, hf, hfd, hp, Bool.false_and]
  have c4 := next_ascii hx ha
  cases hp : lowN x with
  | false =>
    ((try simp only [aO, SS, bL, aM, setRange, aN, aC, aB, aF, aE, aD, aA, Nat.reduceLT, Nat.reduceEqDiff, Nat.reduceAdd, Nat.reduceMul, Nat.reduceSub, Nat.reduceLeDiff, Nat.reduceBEq, reduceCtorEq, hlt, c4, call133, e133n, hp]); (repeat' ((first | apply aJ | apply aI | apply aL | apply aK | apply aH | apply aG) <;> intro h <;> simp only [h, SS, bL, aM, setRange, aN, aC, aB, aF, aE, aD, aA, Nat.reduceLT, Nat.reduceEqDiff, Nat.reduceAdd, Nat.reduceMul, Nat.reduceSub, Nat.reduceLeDiff, Nat.reduceBEq, reduceCtorEq, hlt, c4, call133, e133n, hp])))
    (refine hQ _ _ _ (aQ (by first | exact .inl rfl | exact .inr rfl) ?_); simp only [SS, bL, aM, setRange, aN, aC, aB, aF, aE, aD, aA, Nat.reduceLT, Nat.reduceEqDiff, Nat.reduceAdd, Nat.reduceMul, Nat.reduceSub, Nat.reduceLeDiff, Nat.reduceBEq, reduceCtorEq])
    simp only [madeOf, hf, hfd, hp, Bool.false_and]
  | true =>
    ((try simp only [aO, SS, bL, aM, setRange, aN, aC, aB, aF, aE, aD, aA, Nat.reduceLT, Nat.reduceEqDiff, Nat.reduceAdd, Nat.reduceMul, Nat.reduceSub, Nat.reduceLeDiff, Nat.reduceBEq, reduceCtorEq, hlt, c4, call133, e133n, hp]); (repeat' ((first | apply aJ | apply aI | apply aL | apply aK | apply aH | apply aG) <;> intro h <;> simp only [h, SS, bL, aM, setRange, aN, aC, aB, aF, aE, aD, aA, Nat.reduceLT, Nat.reduceEqDiff, Nat.reduceAdd, Nat.reduceMul, Nat.reduceSub, Nat.reduceLeDiff, Nat.reduceBEq, reduceCtorEq, hlt, c4, call133, e133n, hp])))
    exact ⟨⟨k + 1, hlt, by rw [hf, hfd, hp]; rfl⟩, by simp; omega, (aT.drop (by simp [look, below, aX]) (by simp [aP, bT, below, aX, bA]) (by simp [aP]))⟩
def F166 : List EVal → Option EVal := fun a => ((F166_117 a).or (F166_95 a)).or (F166_133 a)
theorem fn166 : FnT 166 F166 := by
  refine Fn.or fun a v h => ?_
  unfold F166 at h
  cases h1 : F166_117 a with
  | some u => rw [h1] at h; cases h; exact ⟨_, fn166_117, h1⟩
  | none =>
  rw [h1] at h
  cases h2 : F166_95 a with
  | some u => rw [h2] at h; cases h; exact ⟨_, fn166_95, h2⟩
  | none =>
  rw [h2] at h
  exact ⟨_, fn166_133, h⟩
theorem e166P {l : List Nat} (h : aZ l = true) (hl : l.length < 1000000000) : F166 [.str l, .func 117 []] = some (.bool (madeOf isP l)) := by
  simp only [F166, F166_117]; rw [if_pos ⟨h, hl⟩]; rfl
theorem e166D {l : List Nat} (h : aZ l = true) (hl : l.length < 1000000000) : F166 [.str l, .func 95 []] = some (.bool (madeOf eT l)) := by
  simp only [F166, F166_117, F166_95]; rw [if_pos ⟨h, hl⟩]; rfl
theorem e166L {l : List Nat} (h : aZ l = true) (hl : l.length < 1000000000) : F166 [.str l, .func 133 []] = some (.bool (madeOf lowN l)) := by
  simp only [F166, F166_117, F166_95, F166_133]; rw [if_pos ⟨h, hl⟩]; rfl
end Go.Ev
