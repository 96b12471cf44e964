import Derived.Test.YtdhnjbgggkdiiaaGreatDoorRef2
import Derived.Test.YtdhnjbgggkdiiaaGreatDoorSame
import Derived.Test.YtdhnjbgggkdiiaaGreatDoorDraw
import Derived.Test.YtdhnjbgggkdiiaaGreatDoorMoveOf
set_option linter.unusedSimpArgs false
set_option linter.unusedVariables false
namespace Go.Ev
open Go.RowKit Go.Proofs
set_option linter.defProp false
set_option maxRecDepth 20000
set_option maxHeartbeats 8000000

/-! a list of integers, copied -/
/-! the move of a runner -/
theorem mvE_short {m : Mv} (h : mvE m = 0) : m.b.length ≤ 9 := by
  apply Classical.byContradiction
  intro hb
  have h1 : touchE m.o m.b = 16 := by unfold touchE; rw [if_pos (.inl (by omega))]
  unfold mvE moveE at h
  simp only [h1, cH] at h
  repeat' split at h
  all_goals simp_all
end Go.Ev
