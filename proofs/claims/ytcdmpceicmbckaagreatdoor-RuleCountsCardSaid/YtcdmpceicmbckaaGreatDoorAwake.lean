import Derived.Test.YtcdmpceicmbckaaGreatDoorEvD
import Derived.Test.YtcdmpceicmbckaaGreatDoorTypes
set_option linter.unusedSimpArgs false
set_option linter.unusedVariables false
namespace Go.Ev
open Go.RowKit Go.Proofs

/-! what a run looks into; the contract of awake (27) is not written yet -/
noncomputable def quietF : FuncId → Bool := fun f => Nat.beq f 100000
noncomputable def quiet : aY := quietK Tryz.prog gT 100 quietF
end Go.Ev
