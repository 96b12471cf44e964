import Derived.Test.YtcmlciebgapmjaaGreatDoorCardBase
import Derived.Test.YtcmlciebgapmjaaGreatDoorRunes
set_option linter.unusedSimpArgs false
set_option linter.unusedVariables false
namespace Go.Proofs.YtcmlciebgapmjaaGreatDoor.base
open Go.RowKit Go.Lib Go.Ev

theorem bytes_ok (s : ByteArray) : cY (s.data.toList.map UInt8.toNat) = true := by
  simp only [cY, List.all_eq_true, List.mem_map, decide_eq_true_eq]
  rintro x ⟨u, _, rfl⟩
  exact UInt8.toNat_lt u
end Go.Proofs.YtcmlciebgapmjaaGreatDoor.base
