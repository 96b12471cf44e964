import Derived.Test.YtldebobgefdnhaaGreatDoorEvD
import Derived.Test.YtldebobgefdnhaaGreatDoorCards
import Derived.Test.YtldebobgefdnhaaGreatDoorTie
import Derived.Test.YtldebobgefdnhaaGreatDoorDBase
set_option linter.unusedSimpArgs false
set_option linter.unusedVariables false
namespace Go.Proofs.YtldebobgefdnhaaGreatDoor.base
open Go.ChangeShapes Go.WideShapes Go.ChangeAt Go.RowKit Go.Lib Go.Ev Go.Joins Go.Deep
theorem own : ownKnob Tryz.prog.godebug = none := by kernel_rfl
set_option maxRecDepth 100000 in
theorem tX : laidOutB Tryz.prog = true := by kernel_rfl
noncomputable def mO (os : Os) : World :=
 { World.holding Tryz.prog os ⟨#[], #[], []⟩ with heap := layH [(3, Rows.laid_math_bits_deBruijn32tab), (4, Rows.laid_math_bits_deBruijn64tab), (1, Rows.laid_internal_strconv_uint64pow10), (0, Rows.laid_dugout_season_kinds)] (World.holding Tryz.prog os ⟨#[], #[], []⟩).heap }
theorem gLaid {W : World} (hL : laidMet Tryz.prog Rows.seasonMonoidRow.laid W) : GRel W.heap.size W gT :=
 GRel.of_laid gKinds wO yP (fS (fS (fS hL)))
end Go.Proofs.YtldebobgefdnhaaGreatDoor.base
