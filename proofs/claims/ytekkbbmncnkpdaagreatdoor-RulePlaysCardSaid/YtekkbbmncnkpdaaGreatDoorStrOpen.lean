import Derived.Test.YtekkbbmncnkpdaaGreatDoorCardBase
import Derived.Test.YtekkbbmncnkpdaaGreatDoorDRun
set_option linter.unusedSimpArgs false
set_option linter.unusedVariables false
namespace Go.Proofs.YtekkbbmncnkpdaaGreatDoor.base
open Go.RowKit Go.Lib Go.Ev
theorem axI (s : ByteArray) : bR (s.data.toList.map UInt8.toNat) = true := by
 simp only [bR, List.all_eq_true, List.mem_map, decide_eq_true_eq]
 rintro x ⟨u, _, rfl⟩
 exact UInt8.toNat_lt u
theorem xJ : maxLen < 9223372036854775808 := by decide
end Go.Proofs.YtekkbbmncnkpdaaGreatDoor.base
