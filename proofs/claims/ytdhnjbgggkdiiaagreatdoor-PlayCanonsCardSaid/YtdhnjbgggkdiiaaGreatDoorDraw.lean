import Derived.Test.YtdhnjbgggkdiiaaGreatDoorNamesB
set_option linter.unusedSimpArgs false
set_option linter.unusedVariables false
namespace Go.Ev
open Go.RowKit Go.Proofs
set_option linter.defProp false
set_option maxRecDepth 20000
set_option maxHeartbeats 4000000

/-! the draw of a permutation -/
def stepX (x : Int) : Int := (40692 * x) % 2147483399
def swapL (l : List Int) (i j : Nat) : List Int := (l.set i (l.getD j 0)).set j (l.getD i 0)
/-- from i down to 1 -/
def drawL : Nat → Int → List Int → List Int
  | 0, _, l => l
  | i + 1, x, l => drawL i (stepX x) (swapL l (i + 1) ((stepX x) % ((i : Int) + 2)).toNat)
def rangeI (n : Nat) : List Int := (List.range n).map fun k : Nat => (k : Int)
def drawn (key : Int) (n : Nat) : List Int := drawL (n - 1) key (rangeI n)

theorem eInts_snoc (l : List Int) (x : Int) : aS l ++ [[.int .i64 x]] = aS (l ++ [x]) := by simp [aS]
end Go.Ev
