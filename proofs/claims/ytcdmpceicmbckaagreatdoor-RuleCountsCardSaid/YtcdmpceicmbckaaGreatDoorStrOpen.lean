import Derived.Test.YtcdmpceicmbckaaGreatDoorCardBase
import Derived.Test.YtcdmpceicmbckaaGreatDoorRunes
set_option linter.unusedSimpArgs false
set_option linter.unusedVariables false
namespace Go.Proofs.YtcdmpceicmbckaaGreatDoor.base
open Go.RowKit Go.Lib Go.Ev

theorem bytes_ok (s : ByteArray) : bytesB (s.data.toList.map UInt8.toNat) = true := by
  simp only [bytesB, List.all_eq_true, List.mem_map, decide_eq_true_eq]
  rintro x ⟨u, _, rfl⟩
  exact UInt8.toNat_lt u
theorem maxLen_lt : maxLen < 9223372036854775808 := by decide
end Go.Proofs.YtcdmpceicmbckaaGreatDoor.base
