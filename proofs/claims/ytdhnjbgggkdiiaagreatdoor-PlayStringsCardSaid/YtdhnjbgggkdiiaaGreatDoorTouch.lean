import Derived.Test.YtdhnjbgggkdiiaaGreatDoorRef2
import Derived.Test.YtdhnjbgggkdiiaaGreatDoorDraw
set_option linter.unusedSimpArgs false
set_option linter.unusedVariables false
namespace Go.Ev
open Go.RowKit Go.Proofs
set_option linter.defProp false
set_option maxRecDepth 20000
set_option maxHeartbeats 8000000

/-! who touched the ball how often -/
def inNine (b : List Int) : Bool := b.all fun n => decide (1 ≤ n) && decide (n ≤ 9)
theorem touchOK_in : ∀ {b : List Int} {p : Option Int}, touchOK p b = true → inNine b = true
  | [], _, _ => rfl
  | x :: b, p, h => by
    simp only [touchOK, Bool.and_eq_true, withinB, decide_eq_true_eq] at h
    have h2 := touchOK_in h.2
    simp only [inNine, List.all_cons, Bool.and_eq_true, decide_eq_true_eq] at h2 ⊢
    exact ⟨h.1.1, h2⟩
theorem touch_in {o : Bool} {b : List Int} (h : touchE o b = 0) : inNine b = true := by
  unfold touchE at h
  split at h
  · cases h
  split at h
  · rename_i h2; exact touchOK_in h2
  · cases h
theorem mvE_in {m : Mv} (h : mvE m = 0) : inNine m.b = true := by
  apply touch_in (o := m.o)
  unfold mvE moveE at h
  simp only [dG] at h
  repeat' split at h
  all_goals simp_all
/-! the reference's -/
end Go.Ev
