import Derived.Test.YtdhnjbgggkdiiaaGreatDoorForm2
import Derived.Test.YtdhnjbgggkdiiaaGreatDoorNamesB
set_option linter.unusedSimpArgs false
set_option linter.unusedVariables false
namespace Go.Ev
open Go.RowKit Go.Proofs
set_option linter.defProp false
def TF166Words := And.intro (And.intro (And.intro (@Tryz.underlying9) (And.intro (@sz9) (@bI))) (And.intro (And.intro (@I9s) (@I9b)) (And.intro (@bH) (@bJ)))) (And.intro (And.intro (And.intro (@Tryz.underlying21) (@sz21)) (And.intro (@info21) (@I21s))) (And.intro (And.intro (@I21b) (@zero21)) (And.intro (@grow21) (@Tryz.results166))))
set_option maxRecDepth 20000
set_option maxHeartbeats 8000000

/-! what words are made of -/
theorem all_dropN {l : List Nat} {k x : Nat} {f : Nat → Bool} (h : l[k]? = some x) : (l.drop k).all f = (f x && (l.drop (k + 1)).all f) := by
  obtain ⟨hk, rfl⟩ := List.getElem?_eq_some_iff.1 h
  rw [List.drop_eq_getElem_cons hk]; rfl
def cS (f : Nat → Bool) (l : List Nat) : Bool := l.all f && decide (l ≠ [])
def dQ (x : Nat) : Bool := digitB (x : Int)
def eJ (x : Nat) : Bool := lowerB (x : Int)
theorem digN_high {n : Nat} (h : 128 ≤ n) : dQ n = false := by simp [dQ, digitB]; omega
theorem lowN_high {n : Nat} (h : 128 ≤ n) : eJ n = false := by simp [eJ, lowerB]; omega
theorem e95n {x : Nat} : F95 [.int .i32 (x : Int)] = some (.bool (dQ x)) := rfl
theorem e133n {x : Nat} : F133 [.int .i32 (x : Int)] = some (.bool (eJ x)) := rfl
def F166_117 : List EVal → Option EVal
  | [.str l, .func 117 []] => if aM l = true ∧ l.length < 1000000000 then some (.bool (cS isP l)) else none
  | _ => none
theorem fn166_117 : FnT 166 F166_117 := by
  refine Fn.intro mixed aI Tryz.func166 rfl [(117, F117)] (by simp only [List.forall_mem_cons]; exact ⟨fn117, fun _ h => by cases h⟩) ?_
  intro args v hF
  unfold F166_117 at hF
  split at hF
  rotate_left
  · cases hF
  rename_i l
  split at hF
  rotate_left
  · cases hF
  rename_i hb
  obtain ⟨hby, hlen⟩ := hb
  cases hF
  intro Q hV
  have hQ := aS.of hV
  refine Top.view (aH.start (n := 18) rfl (by simp)) (aD aI _ _ _ _ ?_)
  (try simp only [aG, SS, TF166Words, aA, Nat.reduceLT, Nat.reduceEqDiff, reduceCtorEq])
  refine aU (Top.loop (I := fun s : { k : Nat // k ≤ l.length ∧ l.all isP = (l.drop k).all isP } => (mkF 18 [(8, .ptr 0 0), (1, .func 117 []), (0, .str l)], mkH 1 [(0, some (.iter l s.1))] 0 [])) (μ := fun s => l.length - s.1) ⟨0, by simp⟩ (aH.drop (by simp [look, below, bV]) (by simp [aB, bG]) (by simp [aB])) ?_)
  rintro ⟨k, hk, hf⟩
  refine aD aI _ _ _ _ ?_
  dsimp only
  by_cases hlt : k < l.length
  rotate_left
  · have hall : l.all isP = true := by rw [hf, List.drop_eq_nil_of_le (by omega)]; rfl
    (try simp only [SS, aA, Nat.reduceLT, Nat.reduceEqDiff, reduceCtorEq, hlt])
    (refine hQ _ _ _ (aC (by first | exact .inl rfl | exact .inr rfl) ?_); simp only [SS, TF166Words, Nat.reduceLT, Nat.reduceEqDiff, reduceCtorEq])
    simp only [cS, hall, Bool.true_and, ne_eq, decide_not]
  obtain ⟨x, hx⟩ : ∃ x, l[k]? = some x := ⟨l[k], List.getElem?_eq_getElem hlt⟩
  have hfd := all_dropN (f := isP) hx
  by_cases ha : x < 128
  rotate_left
  · have hp := isP_high (n := x) (by omega)
    obtain ⟨r, w, c4, hr⟩ := next_high hby hx ha
    have hp2 := isP_high hr
    (try simp only [SS, aF, aA, Nat.reduceLT, Nat.reduceEqDiff, reduceCtorEq, hlt, c4, call117, e117n, hp2])
    (refine hQ _ _ _ (aC (by first | exact .inl rfl | exact .inr rfl) ?_); simp only [SS, TF166Words, Nat.reduceLT, Nat.reduceEqDiff, reduceCtorEq])
    simp only [cS, hf, hfd, hp, Bool.false_and]
  have c4 := next_ascii hx ha
  cases hp : isP x with
  | false =>
    (try simp only [SS, aF, aA, Nat.reduceLT, Nat.reduceEqDiff, reduceCtorEq, hlt, c4, call117, e117n, hp])
    (refine hQ _ _ _ (aC (by first | exact .inl rfl | exact .inr rfl) ?_); simp only [SS, TF166Words, Nat.reduceLT, Nat.reduceEqDiff, reduceCtorEq])
    simp only [cS, hf, hfd, hp, Bool.false_and]
  | true =>
    (try simp only [SS, aF, aA, Nat.reduceLT, Nat.reduceEqDiff, reduceCtorEq, hlt, c4, call117, e117n, hp])
    exact ⟨⟨k + 1, hlt, by rw [hf, hfd, hp]; rfl⟩, by simp; omega, (aH.drop (by simp [look, below, bV]) (by simp [aB, bG]) (by simp [aB]))⟩
def F166_95 : List EVal → Option EVal
  | [.str l, .func 95 []] => if aM l = true ∧ l.length < 1000000000 then some (.bool (cS dQ l)) else none
  | _ => none
theorem fn166_95 : FnT 166 F166_95 := by
  refine Fn.intro mixed aI Tryz.func166 rfl [(95, F95)] (by simp only [List.forall_mem_cons]; exact ⟨fn95, fun _ h => by cases h⟩) ?_
  intro args v hF
  unfold F166_95 at hF
  split at hF
  rotate_left
  · cases hF
  rename_i l
  split at hF
  rotate_left
  · cases hF
  rename_i hb
  obtain ⟨hby, hlen⟩ := hb
  cases hF
  intro Q hV
  have hQ := aS.of hV
  refine Top.view (aH.start (n := 18) rfl (by simp)) (aD aI _ _ _ _ ?_)
  (try simp only [aG, SS, TF166Words, aA, Nat.reduceLT, Nat.reduceEqDiff, reduceCtorEq])
  refine aU (Top.loop (I := fun s : { k : Nat // k ≤ l.length ∧ l.all dQ = (l.drop k).all dQ } => (mkF 18 [(8, .ptr 0 0), (1, .func 95 []), (0, .str l)], mkH 1 [(0, some (.iter l s.1))] 0 [])) (μ := fun s => l.length - s.1) ⟨0, by simp⟩ (aH.drop (by simp [look, below, bV]) (by simp [aB, bG]) (by simp [aB])) ?_)
  rintro ⟨k, hk, hf⟩
  refine aD aI _ _ _ _ ?_
  dsimp only
  by_cases hlt : k < l.length
  rotate_left
  · have hall : l.all dQ = true := by rw [hf, List.drop_eq_nil_of_le (by omega)]; rfl
    (try simp only [SS, aA, Nat.reduceLT, Nat.reduceEqDiff, reduceCtorEq, hlt])
    (refine hQ _ _ _ (aC (by first | exact .inl rfl | exact .inr rfl) ?_); simp only [SS, TF166Words, Nat.reduceLT, Nat.reduceEqDiff, reduceCtorEq])
    simp only [cS, hall, Bool.true_and, ne_eq, decide_not]
  obtain ⟨x, hx⟩ : ∃ x, l[k]? = some x := ⟨l[k], List.getElem?_eq_getElem hlt⟩
  have hfd := all_dropN (f := dQ) hx
  by_cases ha : x < 128
  rotate_left
  · have hp := digN_high (n := x) (by omega)
    obtain ⟨r, w, c4, hr⟩ := next_high hby hx ha
    have hp2 := digN_high hr
    (try simp only [SS, aF, aA, Nat.reduceLT, Nat.reduceEqDiff, reduceCtorEq, hlt, c4, call95, e95n, hp2])
    (refine hQ _ _ _ (aC (by first | exact .inl rfl | exact .inr rfl) ?_); simp only [SS, TF166Words, Nat.reduceLT, Nat.reduceEqDiff, reduceCtorEq])
    simp only [cS, hf, hfd, hp, Bool.false_and]
  have c4 := next_ascii hx ha
  cases hp : dQ x with
  | false =>
    (try simp only [SS, aF, aA, Nat.reduceLT, Nat.reduceEqDiff, reduceCtorEq, hlt, c4, call95, e95n, hp])
    (refine hQ _ _ _ (aC (by first | exact .inl rfl | exact .inr rfl) ?_); simp only [SS, TF166Words, Nat.reduceLT, Nat.reduceEqDiff, reduceCtorEq])
    simp only [cS, hf, hfd, hp, Bool.false_and]
  | true =>
    (try simp only [SS, aF, aA, Nat.reduceLT, Nat.reduceEqDiff, reduceCtorEq, hlt, c4, call95, e95n, hp])
    exact ⟨⟨k + 1, hlt, by rw [hf, hfd, hp]; rfl⟩, by simp; omega, (aH.drop (by simp [look, below, bV]) (by simp [aB, bG]) (by simp [aB]))⟩
def F166_133 : List EVal → Option EVal
  | [.str l, .func 133 []] => if aM l = true ∧ l.length < 1000000000 then some (.bool (cS eJ l)) else none
  | _ => none
theorem fn166_133 : FnT 166 F166_133 := by
  refine Fn.intro mixed aI Tryz.func166 rfl [(133, F133)] (by simp only [List.forall_mem_cons]; exact ⟨fn133, fun _ h => by cases h⟩) ?_
  intro args v hF
  unfold F166_133 at hF
  split at hF
  rotate_left
  · cases hF
  rename_i l
  split at hF
  rotate_left
  · cases hF
  rename_i hb
  obtain ⟨hby, hlen⟩ := hb
  cases hF
  intro Q hV
  have hQ := aS.of hV
  refine Top.view (aH.start (n := 18) rfl (by simp)) (aD aI _ _ _ _ ?_)
  (try simp only [aG, SS, TF166Words, aA, Nat.reduceLT, Nat.reduceEqDiff, reduceCtorEq])
  refine aU (Top.loop (I := fun s : { k : Nat // k ≤ l.length ∧ l.all eJ = (l.drop k).all eJ } => (mkF 18 [(8, .ptr 0 0), (1, .func 133 []), (0, .str l)], mkH 1 [(0, some (.iter l s.1))] 0 [])) (μ := fun s => l.length - s.1) ⟨0, by simp⟩ (aH.drop (by simp [look, below, bV]) (by simp [aB, bG]) (by simp [aB])) ?_)
  rintro ⟨k, hk, hf⟩
  refine aD aI _ _ _ _ ?_
  dsimp only
  by_cases hlt : k < l.length
  rotate_left
  · have hall : l.all eJ = true := by rw [hf, List.drop_eq_nil_of_le (by omega)]; rfl
    (try simp only [SS, aA, Nat.reduceLT, Nat.reduceEqDiff, reduceCtorEq, hlt])
    (refine hQ _ _ _ (aC (by first | exact .inl rfl | exact .inr rfl) ?_); simp only [SS, TF166Words, Nat.reduceLT, Nat.reduceEqDiff, reduceCtorEq])
    simp only [cS, hall, Bool.true_and, ne_eq, decide_not]
  obtain ⟨x, hx⟩ : ∃ x, l[k]? = some x := ⟨l[k], List.getElem?_eq_getElem hlt⟩
  have hfd := all_dropN (f := eJ) hx
  by_cases ha : x < 128
  rotate_left
  · have hp := lowN_high (n := x) (by omega)
    obtain ⟨r, w, c4, hr⟩ := next_high hby hx ha
    have hp2 := lowN_high hr
    (try simp only [SS, aF, aA, Nat.reduceLT, Nat.reduceEqDiff, reduceCtorEq, hlt, c4, call133, e133n, hp2])
    (refine hQ _ _ _ (aC (by first | exact .inl rfl | exact .inr rfl) ?_); simp only [SS, TF166Words, Nat.reduceLT, Nat.reduceEqDiff, reduceCtorEq])
    simp only [cS, hf, hfd, hp, Bool.false_and]
  have c4 := next_ascii hx ha
  cases hp : eJ x with
  | false =>
    (try simp only [SS, aF, aA, Nat.reduceLT, Nat.reduceEqDiff, reduceCtorEq, hlt, c4, call133, e133n, hp])
    (refine hQ _ _ _ (aC (by first | exact .inl rfl | exact .inr rfl) ?_); simp only [SS, TF166Words, Nat.reduceLT, Nat.reduceEqDiff, reduceCtorEq])
    simp only [cS, hf, hfd, hp, Bool.false_and]
  | true =>
    (try simp only [SS, aF, aA, Nat.reduceLT, Nat.reduceEqDiff, reduceCtorEq, hlt, c4, call133, e133n, hp])
    exact ⟨⟨k + 1, hlt, by rw [hf, hfd, hp]; rfl⟩, by simp; omega, (aH.drop (by simp [look, below, bV]) (by simp [aB, bG]) (by simp [aB]))⟩
def F166 : List EVal → Option EVal := fun a => ((F166_117 a).or (F166_95 a)).or (F166_133 a)
theorem fn166 : FnT 166 F166 := by
  refine Fn.or fun a v h => ?_
  unfold F166 at h
  cases h1 : F166_117 a with
  | some u => rw [h1] at h; cases h; exact ⟨_, fn166_117, h1⟩
  | none =>
  rw [h1] at h
  cases h2 : F166_95 a with
  | some u => rw [h2] at h; cases h; exact ⟨_, fn166_95, h2⟩
  | none =>
  rw [h2] at h
  exact ⟨_, fn166_133, h⟩
theorem e166P {l : List Nat} (h : aM l = true) (hl : l.length < 1000000000) : F166 [.str l, .func 117 []] = some (.bool (cS isP l)) := by
  simp only [F166, F166_117]; rw [if_pos ⟨h, hl⟩]; rfl
theorem e166D {l : List Nat} (h : aM l = true) (hl : l.length < 1000000000) : F166 [.str l, .func 95 []] = some (.bool (cS dQ l)) := by
  simp only [F166, F166_117, F166_95]; rw [if_pos ⟨h, hl⟩]; rfl
theorem e166L {l : List Nat} (h : aM l = true) (hl : l.length < 1000000000) : F166 [.str l, .func 133 []] = some (.bool (cS eJ l)) := by
  simp only [F166, F166_117, F166_95, F166_133]; rw [if_pos ⟨h, hl⟩]; rfl
end Go.Ev
