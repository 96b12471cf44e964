import Derived.Test.YtembhfobljiaoaaGreatDoorEvD
import Derived.Test.YtembhfobljiaoaaGreatDoorCards
import Derived.Test.YtembhfobljiaoaaGreatDoorTie
import Derived.Test.YtembhfobljiaoaaGreatDoorDHand
set_option linter.unusedSimpArgs false
set_option linter.unusedVariables false
namespace Go.Proofs.YtembhfobljiaoaaGreatDoor.base
open Go.ChangeShapes Go.WideShapes Go.ChangeAt Go.RowKit Go.Lib Go.Ev Go.Joins Go.Deep
theorem own:ownKnob Tryz.prog.godebug=none:=by kernel_rfl
set_option maxRecDepth 100000 in
theorem laidOut:laidOutB Tryz.prog=true:=by kernel_rfl
noncomputable def qC (os:Os):World:=
 { World.holding Tryz.prog os ⟨#[],#[],[]⟩with heap:=layH [(3,Rows.laid_math_bits_deBruijn32tab),(4,Rows.laid_math_bits_deBruijn64tab),(1,Rows.laid_internal_strconv_uint64pow10),(2,Rows.laid_dugout_play_ways)] (World.holding Tryz.prog os ⟨#[],#[],[]⟩).heap }
theorem gLaid {W:World}(hL:laidMet Tryz.prog Rows.ruleForcesRow.laid W):GRel W.heap.size W gT:=
 GRel.of_laid gWays avR ak9 (iT (iT (iT hL)))
end Go.Proofs.YtembhfobljiaoaaGreatDoor.base
