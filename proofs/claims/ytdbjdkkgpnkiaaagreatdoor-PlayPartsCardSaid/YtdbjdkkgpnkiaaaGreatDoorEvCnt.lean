import Derived.Test.YtdbjdkkgpnkiaaaGreatDoorEvData
set_option linter.unusedSimpArgs false
set_option linter.unusedVariables false
namespace Go.Ev
open Go.RowKit

/-! pitches, counted: bytes and numbers alone -/
/-- a letter of a pitch -/
def isP (c : Nat) : Bool := c == 66 || c == 67 || c == 83 || c == 70 || c == 88 || c == 72
/-- a pitch behind which none comes -/
def lastP (c : Nat) : Bool := c == 88 || c == 72
abbrev Cnt := Int × Int
def full (c : Cnt) : Bool := c.1 == 4 || c.2 == 3
def stepC (c : Cnt) (x : Nat) : Cnt :=
  if x = 66 then (c.1 + 1, c.2) else if x = 67 ∨ x = 83 then (c.1, c.2 + 1) else if x = 70 then (if c.2 < 2 then (c.1, c.2 + 1) else c) else c
def doneC (c : Cnt) (x : Nat) : Bool := full (stepC c x) || lastP x
/-- the count, and whether it is complete; or how far the pitch is that is too many -/
def cnt : Cnt → Bool → List Nat → (Cnt × Bool) ⊕ Nat
  | c, d, [] => .inl (c, d)
  | c, d, x :: l => if d || !isP x then .inr 0 else
    match cnt (stepC c x) (doneC c x) l with
    | .inl r => .inl r
    | .inr k => .inr (k + 1)

theorem cnt_append (c : Cnt) (d : Bool) (l m : List Nat) : cnt c d (l ++ m) = match cnt c d l with
    | .inl (c', d') => (match cnt c' d' m with | .inl r => .inl r | .inr k => .inr (l.length + k))
    | .inr k => .inr k := by
  induction l generalizing c d with
  | nil =>
    simp only [List.nil_append, cnt, List.length_nil, Nat.zero_add]
    cases cnt c d m <;> rfl
  | cons x l ih =>
    simp only [List.cons_append, cnt]
    by_cases h : (d || !isP x) = true
    · simp only [h, if_true]
    · simp only [Bool.eq_false_iff.2 h, Bool.false_eq_true, if_false]
      rw [ih]
      cases cnt (stepC c x) (doneC c x) l with
      | inr k => rfl
      | inl r =>
        obtain ⟨c', d'⟩ := r
        simp only
        cases cnt c' d' m with
        | inl r => rfl
        | inr k => simp only [List.length_cons]; congr 1; omega

/-- a count that holds -/
def okC (c : Cnt) (d : Bool) : Prop := 0 ≤ c.1 ∧ 0 ≤ c.2 ∧ c.1 ≤ 4 ∧ c.2 ≤ 3 ∧ (d = false → c.1 ≤ 3 ∧ c.2 ≤ 2)
theorem stepC_ok {c : Cnt} {x : Nat} (h : okC c false) : okC (stepC c x) (doneC c x) := by
  obtain ⟨h1, h2, h3, h4, h5⟩ := h
  obtain ⟨h5, h6⟩ := h5 rfl
  have : ∃ a b, c = (a, b) := ⟨_, _, rfl⟩
  obtain ⟨a, b, rfl⟩ := this
  unfold doneC okC full stepC
  simp only at *
  refine ⟨?_, ?_, ?_, ?_, ?_⟩
  · split <;> (try split) <;> (try split) <;> (try split) <;> simp only <;> omega
  · split <;> (try split) <;> (try split) <;> (try split) <;> simp only <;> omega
  · split <;> (try split) <;> (try split) <;> (try split) <;> simp only <;> omega
  · split <;> (try split) <;> (try split) <;> (try split) <;> simp only <;> omega
  · intro h
    simp only [Bool.or_eq_false_iff, beq_eq_false_iff_ne] at h
    revert h
    split <;> (try split) <;> (try split) <;> (try split) <;> simp only <;> omega
theorem stepC_same {c : Cnt} {x : Nat} : (stepC c x).1 ≤ c.1 + 1 ∧ (stepC c x).2 ≤ c.2 + 1 ∧ c.1 ≤ (stepC c x).1 ∧ c.2 ≤ (stepC c x).2 := by
  unfold stepC
  split <;> (try split) <;> (try split) <;> (try split) <;> (try simp only) <;> omega
theorem cnt_ok {c : Cnt} {d : Bool} {l : List Nat} {c' : Cnt} {d' : Bool} (h : okC c d) (hc : cnt c d l = .inl (c', d')) : okC c' d' := by
  induction l generalizing c d with
  | nil => simp only [cnt, Sum.inl.injEq, Prod.mk.injEq] at hc; obtain ⟨rfl, rfl⟩ := hc; exact h
  | cons x l ih =>
    simp only [cnt] at hc
    split at hc
    · cases hc
    · rename_i hd
      simp only [Bool.or_eq_true, Bool.not_eq_true', not_or, Bool.not_eq_true, Bool.not_eq_false] at hd
      obtain ⟨rfl, _⟩ := hd
      cases hr : cnt (stepC c x) (doneC c x) l with
      | inr k => rw [hr] at hc; cases hc
      | inl r =>
        rw [hr] at hc
        cases hc
        exact ih (stepC_ok h) hr
theorem cnt_fold {c : Cnt} {d : Bool} {l : List Nat} {c' : Cnt} {d' : Bool} (hc : cnt c d l = .inl (c', d')) : c' = l.foldl stepC c := by
  induction l generalizing c d with
  | nil => simp only [cnt, Sum.inl.injEq, Prod.mk.injEq] at hc; exact hc.1.symm
  | cons x l ih =>
    simp only [cnt] at hc
    split at hc
    · cases hc
    · cases hr : cnt (stepC c x) (doneC c x) l with
      | inr k => rw [hr] at hc; cases hc
      | inl r => rw [hr] at hc; cases hc; exact ih hr
/-- whether it is complete is told by the count and the last pitch -/
theorem cnt_done {c : Cnt} {d : Bool} {l : List Nat} {x : Nat} {c' : Cnt} {d' : Bool} (hc : cnt c d (l ++ [x]) = .inl (c', d')) : d' = (full c' || lastP x) := by
  rw [cnt_append] at hc
  cases hr : cnt c d l with
  | inr k => rw [hr] at hc; cases hc
  | inl r =>
    obtain ⟨c1, d1⟩ := r
    rw [hr] at hc
    simp only [cnt] at hc
    by_cases h : (d1 || !isP x) = true
    · simp only [h, if_true] at hc; cases hc
    · simp only [Bool.eq_false_iff.2 h, Bool.false_eq_true, if_false] at hc
      cases hc
      rfl
/-- the pitch that is too many -/
theorem cnt_err {c : Cnt} {d : Bool} {l : List Nat} {j : Nat} (hc : cnt c d l = .inr j) : ∃ x c' d', l[j]? = some x ∧ cnt c d (l.take j) = .inl (c', d') ∧ (d' = true ∨ isP x = false) := by
  induction l generalizing c d j with
  | nil => cases hc
  | cons x l ih =>
    simp only [cnt] at hc
    by_cases h : (d || !isP x) = true
    · simp only [h, if_true] at hc
      cases hc
      exact ⟨x, c, d, rfl, rfl, by simpa using h⟩
    · simp only [Bool.eq_false_iff.2 h, Bool.false_eq_true, if_false] at hc
      cases hr : cnt (stepC c x) (doneC c x) l with
      | inl r => rw [hr] at hc; cases hc
      | inr k =>
        rw [hr] at hc
        cases hc
        obtain ⟨y, c', d', h1, h2, h3⟩ := ih hr
        refine ⟨y, c', d', by simpa using h1, ?_, h3⟩
        simp only [List.take_succ_cons, cnt, Bool.eq_false_iff.2 h, Bool.false_eq_true, if_false, h2]
/-- a part of a count, and the rest -/
theorem cnt_split {c : Cnt} {d : Bool} {l : List Nat} {c' : Cnt} {d' : Bool} (k : Nat) (hc : cnt c d l = .inl (c', d')) : ∃ c1 d1, cnt c d (l.take k) = .inl (c1, d1) ∧ cnt c1 d1 (l.drop k) = .inl (c', d') := by
  have h := cnt_append c d (l.take k) (l.drop k)
  rw [List.take_append_drop, hc] at h
  cases hr : cnt c d (l.take k) with
  | inr j => rw [hr] at h; cases h
  | inl r =>
    obtain ⟨c1, d1⟩ := r
    rw [hr] at h
    simp only at h
    cases h2 : cnt c1 d1 (l.drop k) with
    | inr j => rw [h2] at h; cases h
    | inl r => rw [h2] at h; simp only [Sum.inl.injEq] at h; exact ⟨c1, d1, rfl, by rw [h2, ← h]⟩
theorem cnt_true {c : Cnt} {l : List Nat} {r : Cnt × Bool} (h : cnt c true l = .inl r) : l = [] := by
  cases l with
  | nil => rfl
  | cons x l => simp [cnt] at h
theorem full_done {c : Cnt} {d : Bool} (h : okC c d) (hf : 3 < c.1 ∨ 2 < c.2) : d = true := by
  cases d with
  | true => rfl
  | false => obtain ⟨_, _, _, _, h5⟩ := h; have := h5 rfl; omega
end Go.Ev
