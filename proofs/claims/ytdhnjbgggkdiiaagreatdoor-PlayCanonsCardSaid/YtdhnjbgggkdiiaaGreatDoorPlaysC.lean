import Derived.Test.YtdhnjbgggkdiiaaGreatDoorBackV
import Derived.Test.YtdhnjbgggkdiiaaGreatDoorSame
import Derived.Test.YtdhnjbgggkdiiaaGreatDoorCopy2
set_option linter.unusedSimpArgs false
set_option linter.unusedVariables false
namespace Go.Ev
open Go.RowKit Go.Proofs
set_option maxRecDepth 20000
set_option maxHeartbeats 8000000

/-! what is read without an error is the string of the play that is read -/
end Go.Ev
namespace Go.Ev
open Go.RowKit Go.Proofs
set_option linter.defProp false
set_option maxRecDepth 20000
set_option maxHeartbeats 8000000

/-! lists of plays -/
def okPl (q : Pl) : Prop := q.m.length < 9223372036854775808 ∧ ∀ m ∈ q.m, dN m
end Go.Ev
namespace Go.Ev
open Go.RowKit Go.Proofs
set_option linter.defProp false
set_option maxRecDepth 20000
set_option maxHeartbeats 8000000

/-! the play of a line -/
end Go.Ev
namespace Go.Ev
open Go.RowKit Go.Proofs
set_option linter.defProp false
set_option maxRecDepth 20000
set_option maxHeartbeats 8000000

/-! the lines of a string, gone over -/
section
variable {c : Nat}
end
end Go.Ev
namespace Go.Ev
open Go.RowKit Go.Proofs
set_option linter.defProp false
set_option maxRecDepth 20000
set_option maxHeartbeats 8000000

/-! lists of plays: copied, compared, short -/
def samePl (a b : Pl) : Bool := sameP a.p a.e a.l a.m b.p b.e b.l b.m
theorem samePl_rfl (a : Pl) : samePl a a = true := by simp [samePl, sameP, sameL_iff.2 rfl]
theorem e34 {a b : Pl} (ha : okPl a) (hb : okPl b) : F34 [.agg [.str a.p, .str a.e, .bool a.l, .lsl (aK a.m)], .agg [.str b.p, .str b.e, .bool b.l, .lsl (aK b.m)]] = some (.bool (samePl a b)) := by
  simp only [F34, dMoves_e ha.1 ha.2, dMoves_e hb.1 hb.2]; rfl
end Go.Ev
