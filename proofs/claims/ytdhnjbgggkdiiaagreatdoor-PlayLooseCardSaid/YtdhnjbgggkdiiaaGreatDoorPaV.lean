import Derived.Test.YtdhnjbgggkdiiaaGreatDoorPlaysC
set_option linter.unusedSimpArgs false
set_option linter.unusedVariables false
namespace Go.Ev
open Go.RowKit Go.Proofs
set_option linter.defProp false
set_option maxRecDepth 20000
set_option maxHeartbeats 8000000

/-! what a text is read as -/
def paG : Nat → List Pl → List (List Nat) → List Pl × Nat × Int
  | _, acc, [] => (acc, 0, 0)
  | n, acc, [w] => if w = [] then (acc, 0, 0) else ([], n, 25)
  | n, acc, w :: v :: r => if 256 ≤ n then ([], n, 5) else if (parseT w).2.2 ≠ 0 then ([], n, (parseT w).2.2) else paG (n + 1) (acc ++ [(parseT w).1]) (v :: r)
def paT (s : List Nat) : List Pl × Nat × Int := paG 0 [] (cY 10 s)
/-- a list of plays under way, in a cell -/
def cellP (ps : List Pl) : List EVal := (ps.map ePl).flatten
def PL (lo : Nat) (v : EVal) (ps : List Pl) (N : Nat) (l : List (Nat × Option EObj)) : Prop :=
  (v = .nilslice ∧ ps = []) ∨ ∃ id, lo ≤ id ∧ id < N ∧ v = .slice id 0 ps.length (.slack 0) ∧ aB l id = some (.row (cellP ps) 24 0 0 true)
theorem PL_cons {lo : Nat} {v : EVal} {ps : List Pl} {N j : Nat} {l : List (Nat × Option EObj)} {x : Option EObj} (hj : j < lo) (h : PL lo v ps N l) : PL lo v ps N ((j, x) :: l) := by
  rcases h with h | ⟨id, h1, h2, h3, h4⟩
  · exact .inl h
  · exact .inr ⟨id, h1, h2, h3, by rw [aB.eq_2, if_neg (by omega)]; exact h4⟩
end Go.Ev
