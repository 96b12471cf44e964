import Derived.Test.YtgjbmohchdmdkaaGreatDoorCardBase
import Derived.Test.YtgjbmohchdmdkaaGreatDoorDRun
set_option linter.unusedSimpArgs false
set_option linter.unusedVariables false
namespace Go.Proofs.YtgjbmohchdmdkaaGreatDoor.base
open Go.RowKit Go.Lib Go.Ev
theorem az2 (s:ByteArray):bW (s.data.toList.map UInt8.toNat)=true:=by
 simp only [bW,List.all_eq_true,List.mem_map,decide_eq_true_eq]
 rintro x ⟨u,_,rfl⟩
 exact UInt8.toNat_lt u
theorem aqF:maxLen<9223372036854775808:=by decide
end Go.Proofs.YtgjbmohchdmdkaaGreatDoor.base
