import Derived.Test.YtdhnjbgggkdiiaaGreatDoorCnt
import Derived.Test.YtdhnjbgggkdiiaaGreatDoorPrMove
set_option linter.unusedSimpArgs false
set_option linter.unusedVariables false
namespace Go.Ev
open Go.RowKit Go.Proofs
set_option maxRecDepth 20000
set_option maxHeartbeats 4000000

/-! contracts by running, of strings -/
def allStr (s : List Nat) : Option (List Out) → Bool
  | some l => l.all fun o => match o with | .val (.str c) _ => c == s | _ => false
  | none => false
theorem run_str {f : FuncId} {F : List EVal → Option EVal} {n : Nat} (H1 : ∀ a u, F a = some u → ∃ s, u = .str s ∧ allStr s (run Tryz.prog gT quiet n (.call f a H.start)) = true) : FnT f F := by
  intro B0 W0 G a u hF vs fro w hvs hfz hb hs
  obtain ⟨s, rfl, h⟩ := H1 a u hF
  have G1 : eO w.heap.size w gT := G.grow hb hs
  cases hr : run Tryz.prog gT quiet n (.call f a H.start) with
  | none => rw [hr] at h; cases h
  | some outs =>
    rw [hr] at h
    have hall : ∀ o ∈ outs, (match o with | .val (.str c) _ => c == s | _ => false) = true := List.all_eq_true.1 h
    refine (run_calls mixed aX hfz G1 (quietK_ok (W0 := ⟨w, fro⟩) mixed aX G1 100 quietF) hr hvs).mono ?_
    rintro e w' ⟨v, h', u, ρ, hm, rfl, hv, hR⟩
    have := hall _ hm
    split at this
    · rename_i heq
      cases heq
      simp only [beq_iff_eq] at this
      subst this
      have hv2 : ∀ ρ2, VRel ρ2 (.str _) u := fun ρ2 => by cases hv with | str _ x hx => exact .str _ x hx
      refine ⟨_, ρ.fro, rfl, hv2 _, hR.below, ?_⟩
      have hfro : (fun b => if b < w.heap.size then fro b else ρ.fro b) = ρ.fro := by
        funext b
        split
        · rename_i hb; exact (hR.fz0 b hb).symm
        · rfl
      rw [hfro]; exact hR.fz
    · cases this
def F142 : List EVal → Option EVal
  | [.int .i64 n] => if 0 ≤ n ∧ n ≤ 9 then some (.str [dig n]) else none
  | _ => none
theorem e142 {n : Int} (h : 0 ≤ n ∧ n ≤ 9) : F142 [.int .i64 n] = some (.str [dig n]) := by simp only [F142]; rw [if_pos h]
theorem runs142 : ((List.range 10).all fun k => allStr [k + 48] (run Tryz.prog gT quiet 200 (.call 142 [.int .i64 (k : Nat)] H.start))) = true := by kernel_rfl
theorem fn142 : FnT 142 F142 := by
  refine run_str (n := 200) fun a u hF => ?_
  unfold F142 at hF
  split at hF
  · rename_i n
    split at hF
    · rename_i h
      cases hF
      refine ⟨_, rfl, ?_⟩
      have := List.all_eq_true.1 runs142 n.toNat (by rw [List.mem_range]; omega)
      rwa [Int.toNat_of_nonneg h.1] at this
    · cases hF
  · cases hF
end Go.Ev
