import Derived.Test.YtdbjdkkgpnkiaaaGreatDoorEvDrawWp
set_option linter.unusedSimpArgs false
set_option linter.unusedVariables false
namespace Go.Ev
open Go.RowKit

/-! data and how it is told -/
def eInts (l : List Int) : List (List EVal) := l.map fun n => [.int .i64 n]
def dIntsL : List (List EVal) → Option (List Int)
  | [] => some []
  | [.int .i64 n] :: l => (dIntsL l).map (n :: ·)
  | _ => none
def dInts : EVal → Option (List Int)
  | .lsl els => if els.length < 1000000 then dIntsL els else none
  | _ => none
theorem dIntsL_inv : ∀ {els : List (List EVal)} {l : List Int}, dIntsL els = some l → els = eInts l
  | [], l, h => by simp only [dIntsL, Option.some.injEq] at h; subst h; rfl
  | x :: els, l, h => by
    unfold dIntsL at h
    split at h
    · rename_i heq; cases heq
    · rename_i n els' heq
      cases heq
      cases hd : dIntsL els with
      | none => rw [hd] at h; cases h
      | some l' => rw [hd] at h; cases h; rw [dIntsL_inv hd]; rfl
    · cases h
theorem eInts_length (l : List Int) : (eInts l).length = l.length := by simp [eInts]
theorem dInts_inv {v : EVal} {l : List Int} (h : dInts v = some l) : v = .lsl (eInts l) ∧ l.length < 1000000 := by
  unfold dInts at h
  split at h
  · split at h
    · rename_i hl
      have := dIntsL_inv h
      subst this
      exact ⟨rfl, by simpa [eInts_length] using hl⟩
    · cases h
  · cases h
theorem dIntsL_e (l : List Int) : dIntsL (eInts l) = some l := by
  induction l with
  | nil => rfl
  | cons a l ih => simp only [eInts, List.map_cons, dIntsL]; rw [show l.map (fun n => [EVal.int .i64 n]) = eInts l from rfl, ih]; rfl
theorem dInts_e {l : List Int} (h : l.length < 1000000) : dInts (.lsl (eInts l)) = some l := by
  simp only [dInts, eInts_length, h, if_true]
  exact dIntsL_e l
theorem eInts_get (l : List Int) (i : Nat) : (eInts l)[i]? = (l[i]?).map fun n => [.int .i64 n] := by simp [eInts]
theorem lensOK_eInts (l : List Int) : lensOK 1 (eInts l) = true := by simp [lensOK, eInts]

def firstL : List Int → Int
  | [] => 0
  | n :: l => if n ≠ 0 then n else firstL l

theorem firstL_drop {l : List Int} {k : Nat} {x : Int} (h : l[k]? = some x) : firstL (l.drop k) = if x ≠ 0 then x else firstL (l.drop (k + 1)) := by
  obtain ⟨hk, rfl⟩ := List.getElem?_eq_some_iff.1 h
  rw [List.drop_eq_getElem_cons hk]; rfl
theorem wrap_nat {n : Nat} (h : n < 9223372036854775808) : IntKind.i64.wrap (n : Int) = n := by
  rw [IntKind.wrap_i64]; omega
theorem wrap_id {n : Int} (h1 : -9223372036854775808 ≤ n) (h2 : n < 9223372036854775808) : IntKind.i64.wrap n = n := by
  rw [IntKind.wrap_i64]; omega
/-- a row of numbers -/
def eRow (l : List Int) : List EVal := l.map fun n => .int .i64 n
theorem eRow_length (l : List Int) : (eRow l).length = l.length := by simp [eRow]
theorem eRow_get {l : List Int} {i : Nat} (h : i < l.length) : (eRow l)[i]? = some (.int .i64 (l.getD i 0)) := by simp [eRow, h]
theorem eInts_flatten (l : List Int) : (eInts l).flatten = eRow l := by
  induction l with
  | nil => rfl
  | cons a l ih => rw [show eInts (a :: l) = [.int .i64 a] :: eInts l from rfl, List.flatten_cons, ih]; rfl
theorem flatL_eRow (l : List Int) : flatL (eRow l) = true := by
  induction l with
  | nil => rfl
  | cons a l ih => simpa [flatL, flat, eRow] using ih
theorem below_eRow (N : Nat) (l : List Int) : belowL N (eRow l) = true := by
  induction l with
  | nil => rfl
  | cons a l ih => simpa [belowL, below, eRow] using ih
theorem keepL_eRow (l : List Int) : keepL (eRow l) = some (eRow l) := by
  induction l with
  | nil => rfl
  | cons a l ih =>
    have : keepL (eRow (a :: l)) = (match keep1 (.int .i64 a), keepL (eRow l) with | some x, some y => some (x :: y) | _, _ => none) := rfl
    rw [this, ih]; rfl
theorem chunk_eRow (l : List Int) : chunk 1 l.length (eRow l) = eInts l := by
  induction l with
  | nil => rfl
  | cons a l ih =>
    have : chunk 1 (a :: l).length (eRow (a :: l)) = [.int .i64 a] :: chunk 1 l.length (eRow l) := rfl
    rw [this, ih]; rfl
theorem setRange_one {cs : List EVal} {i : Nat} {v : EVal} (h : i < cs.length) : setRange cs i [v] = cs.set i v := by
  unfold setRange
  rw [List.set_eq_take_append_cons_drop, if_pos h]
  simp
theorem setRange_eRow {l : List Int} {i : Nat} {x : Int} (h : i < l.length) : setRange (eRow l) i [.int .i64 x] = eRow (l.set i x) := by
  rw [setRange_one (by rw [eRow_length]; exact h)]
  simp [eRow, List.map_set]
end Go.Ev
