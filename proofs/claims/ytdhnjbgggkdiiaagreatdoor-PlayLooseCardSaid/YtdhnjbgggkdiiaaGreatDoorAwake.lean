import Derived.Test.YtdhnjbgggkdiiaaGreatDoorEvC
import Derived.Test.YtdhnjbgggkdiiaaGreatDoorTypes
set_option linter.unusedSimpArgs false
set_option linter.unusedVariables false
namespace Go.Ev
open Go.RowKit Go.Proofs
set_option maxRecDepth 20000
set_option maxHeartbeats 4000000

/-! the examples -/
def allTrue : Option (List Out) → Bool
  | some l => l.all fun o => match o with | .val (.bool true) _ => true | _ => false
  | none => false
noncomputable def quietF : FuncId → Bool := fun f => Nat.beq f 167
noncomputable def quiet : bI := quietK Tryz.prog gT 100 quietF
set_option maxRecDepth 100000 in
theorem awake_runs : allTrue (run Tryz.prog gT quiet 3000 (.call 16 [] H.start)) = true := by kernel_rfl

def F16 : List EVal → Option EVal
  | [] => some (.bool true)
  | _ => none
theorem e16 : F16 [] = some (.bool true) := rfl
theorem fn16 : FnT 16 F16 := by
  intro B0 W0 G args v hF vs fro w hvs hfz hb hs
  unfold F16 at hF
  split at hF
  rotate_left
  · cases hF
  cases hF
  have G1 : dW w.heap.size w gT := G.grow hb hs
  have h := awake_runs
  cases hr : run Tryz.prog gT quiet 3000 (.call 16 [] H.start) with
  | none => rw [hr] at h; cases h
  | some outs =>
    rw [hr] at h
    have hall : ∀ o ∈ outs, (match o with | .val (.bool true) _ => true | _ => false) = true := List.all_eq_true.1 h
    refine (run_calls mixed aJ hfz G1 (quietK_ok (W0 := ⟨w, fro⟩) mixed aJ G1 100 quietF) hr hvs).mono ?_
    rintro e w' ⟨v, h', u, ρ, hm, rfl, hv, hR⟩
    have := hall _ hm
    split at this
    · rename_i heq
      cases heq
      cases hv
      refine ⟨_, ρ.fro, rfl, .bool true, hR.below, ?_⟩
      have hfro : (fun b => if b < w.heap.size then fro b else ρ.fro b) = ρ.fro := by
        funext b
        split
        · rename_i hb; exact (hR.fz0 b hb).symm
        · rfl
      rw [hfro]; exact hR.fz
    · cases this

end Go.Ev
