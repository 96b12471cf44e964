import Derived.Test.YtdhnjbgggkdiiaaGreatDoorPrAll
import Derived.Test.YtdhnjbgggkdiiaaGreatDoorPaV
set_option linter.unusedSimpArgs false
set_option linter.unusedVariables false
namespace Go.Ev
open Go.RowKit Go.Proofs
set_option maxRecDepth 20000
set_option maxHeartbeats 8000000

/-! the text of valid plays, read again -/
theorem back1 {q : Pl} (h : dV q = 0) : parseT (plStr q) = (q, 0, 0) := back h
theorem samePl_iff {a b : Pl} : samePl a b = true ↔ a = b := by
  obtain ⟨p, e, l, m⟩ := a
  obtain ⟨p2, e2, l2, m2⟩ := b
  simp [samePl, sameP, sameL_iff]
theorem plStr_inj {a b : Pl} (h : dV a = 0) (h2 : dV b = 0) : (plStr a = plStr b) ↔ a = b := by
  constructor
  · intro hs
    have h3 := back1 h
    rw [hs, back1 h2] at h3
    exact (congrArg Prod.fst h3).symm
  · rintro rfl; rfl
end Go.Ev
