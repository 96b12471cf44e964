import Derived.Test.YtcdmpceicmbckaaGreatDoorAwkU
set_option linter.unusedSimpArgs false
set_option linter.unusedVariables false
namespace Go.Ev
open Go.RowKit Go.Proofs
set_option maxRecDepth 100000
set_option maxHeartbeats 4000000
theorem aw27_0 : aL Tryz.prog (.bool true) (run Tryz.prog gT (aM [(77, A77), (79, A79), (78, A78), (80, A80), (54, A54), (34, A34), (35, A35), (36, A36)]) 3000 (.call 27 [] H.start)) = true := by kernel_rfl
noncomputable def A27 : List EVal → Option EVal := tbl [([], .bool true)]
theorem an27 : FnT 27 A27 := Fn.tbl mixed aK [(77, A77), (79, A79), (78, A78), (80, A80), (54, A54), (34, A34), (35, A35), (36, A36)] (by simp only [List.forall_mem_cons]; exact ⟨an77, an79, an78, an80, an54, an34, an35, an36, fun _ h => by cases h⟩) (n := 3000) (by simp only [List.forall_mem_cons]; exact ⟨aw27_0, fun _ h => by cases h⟩)

def F27 : List EVal → Option EVal
  | [] => some (.bool true)
  | _ => none
theorem e27 : F27 [] = some (.bool true) := rfl
theorem fn27 : FnT 27 F27 := by
  intro B0 W0 G a v hF
  refine an27 B0 W0 G a v ?_
  unfold F27 at hF
  split at hF
  · exact hF
  · cases hF

end Go.Ev
