import Derived.Test.YtcdmpceicmbckaaGreatDoorNames
set_option linter.unusedSimpArgs false
set_option linter.unusedVariables false
namespace Go.Ev
open Go.RowKit Go.Proofs
set_option maxRecDepth 20000
set_option maxHeartbeats 2000000

/-! runes -/
theorem decode_ge (s : ByteArray) (i : Nat) (h : 128 ≤ (s.get! i).toNat) : 128 ≤ (Utf8.decode s i).1 := by
  unfold Utf8.decode
  simp only [Nat.add_zero]
  rw [if_neg (by omega)]
  have h2 : 128 ≤ Utf8.runeError := by decide
  split
  · split
    · assumption
    · exact h2
  · split
    · split
      · rename_i h3
        simp only [Bool.and_eq_true, decide_eq_true_eq] at h3
        omega
      · exact h2
    · split
      · split
        · rename_i h3
          simp only [Bool.and_eq_true, decide_eq_true_eq] at h3
          omega
        · exact h2
      · exact h2

def bytesB (l : List Nat) : Bool := l.all fun c => decide (c < 256)

theorem next_ascii {l : List Nat} {k c : Nat} (h : l[k]? = some c) (hc : c < 128) : asciiNext l k = some (c, 1) := by
  unfold asciiNext; rw [h]; simp [hc]
theorem next_high {l : List Nat} {k c : Nat} (hb : bytesB l = true) (h : l[k]? = some c) (hc : ¬ c < 128) : ∃ r w, asciiNext l k = some (r, w) ∧ 128 ≤ r := by
  unfold asciiNext; rw [h]
  simp only [hc, if_false]
  refine ⟨_, _, rfl, decode_ge _ _ ?_⟩
  have hlt : c < 256 := by
    have := List.all_eq_true.1 hb c (List.mem_of_getElem? h)
    simpa using this
  have hk := (List.getElem?_eq_some_iff.1 h).1
  have : ((⟨(l.map UInt8.ofNat).toArray⟩ : ByteArray).get! k) = UInt8.ofNat c := by
    show ((l.map UInt8.ofNat).toArray)[k]! = _
    have hq : (l.map UInt8.ofNat)[k]? = some (UInt8.ofNat c) := by simp [h]
    simp [hq]
  rw [this]
  simp
  omega

end Go.Ev
