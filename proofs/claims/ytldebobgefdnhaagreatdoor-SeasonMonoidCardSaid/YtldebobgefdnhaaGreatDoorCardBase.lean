import Derived.Test.YtldebobgefdnhaaGreatDoorEvD
import Derived.Test.YtldebobgefdnhaaGreatDoorCards
import Derived.Test.YtldebobgefdnhaaGreatDoorTie
import Derived.Test.YtldebobgefdnhaaGreatDoorDBase
set_option linter.unusedSimpArgs false
set_option linter.unusedVariables false
namespace Go.Proofs.YtldebobgefdnhaaGreatDoor.base
open Go.ChangeShapes Go.WideShapes Go.ChangeAt Go.RowKit Go.Lib Go.Ev Go.Joins Go.Deep
theorem own : ownKnob Tryz.prog.godebug = none := by kernel_rfl
set_option maxRecDepth 100000 in
theorem yW : laidOutB Tryz.prog = true := by kernel_rfl
noncomputable def mV (os : Os) : World :=
 { World.holding Tryz.prog os ⟨#[], #[], []⟩ with heap := layH [(3, Rows.laid_math_bits_deBruijn32tab), (4, Rows.laid_math_bits_deBruijn64tab), (1, Rows.laid_internal_strconv_uint64pow10), (0, Rows.laid_dugout_season_kinds)] (World.holding Tryz.prog os ⟨#[], #[], []⟩).heap }
theorem gLaid {W : World} (hL : laidMet Tryz.prog Rows.seasonMonoidRow.laid W) : GRel W.heap.size W gT :=
 GRel.of_laid gKinds wT yX (fV (fV (fV hL)))
theorem u8_of {n : Int} (h : (Lit.int .u8 n).wf = true) : 0 ≤ n ∧ n < 256 := by
 simp only [Lit.wf, Bool.and_eq_true, decide_eq_true_eq] at h
 have a : IntKind.min .u8 = 0 := by decide
 have b : IntKind.max .u8 = 255 := by decide
 omega
theorem u8_ok {a b : Int} (h : Suits [.i .u8, .i .u8] [.int .u8 a, .int .u8 b]) : 0 ≤ a ∧ a < 256 := by
 cases h with | cons _ _ _ _ h hs => cases h with | i _ _ h => exact u8_of h
theorem u8_ok2 {a b : Int} (h : Suits [.i .u8, .i .u8] [.int .u8 a, .int .u8 b]) : 0 ≤ b ∧ b < 256 := by
 cases h with | cons _ _ _ _ h hs => cases hs with | cons _ _ _ _ h hs => cases h with | i _ _ h => exact u8_of h
end Go.Proofs.YtldebobgefdnhaaGreatDoor.base
