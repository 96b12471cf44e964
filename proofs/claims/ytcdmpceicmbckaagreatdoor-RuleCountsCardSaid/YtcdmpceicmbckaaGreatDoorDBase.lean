import Derived.Test.YtcdmpceicmbckaaGreatDoorEvD
import Derived.Test.YtcdmpceicmbckaaGreatDoorStA
set_option linter.unusedSimpArgs false
set_option linter.unusedVariables false
namespace Go.Ev
open Go.RowKit Go.Proofs
set_option maxRecDepth 100000
noncomputable section
/-! the settings of this seat's walks -/
def bW (f : Func) : Code := f.body.getD .skip
def gdS : Nat → Option (List V) := fun b => bif Nat.beq b 4 then ofEs waysL else none
theorem gdOK : GD gT gdS := by
  intro b cs h
  unfold gdS at h
  cases hb : Nat.beq b 4 with
  | false => rw [hb] at h; cases h
  | true =>
    rw [hb] at h
    obtain rfl := Nat.eq_of_beq_eq_true hb
    have := ofEs_c h
    rw [this]; rfl
def eqTab : List (Nat × List Nat) := [(22, [0, 0, 0]), (23, [0, 0]), (25, [0, 0, 0, 0, 0, 0, 0, 0, 0, 0, 0, 0, 1]), (26, [0, 0, 0, 0, 0, 0, 0, 0, 0, 0, 0, 0, 1]), (93, [0, 0, 0, 0, 0, 0, 0, 0]), (94, [0, 0, 0, 0, 0, 0, 0, 0])]
def eqS : TypeId → Option (List Nat) := fun t => bA eqTab t
theorem eqTab_ok : ∀ p ∈ eqTab, kindsT Tryz.prog p.1 = some p.2 := by
  unfold eqTab
  simp only [List.forall_mem_cons]
  exact ⟨by kernel_rfl, by kernel_rfl, by kernel_rfl, by kernel_rfl, by kernel_rfl, by kernel_rfl, fun _ h => by cases h⟩
theorem eqOK : EqT Tryz.prog eqS := fun t ks h => eqTab_ok _ (lookA_mem h)
def cfgS (l : List (Con Tryz.prog gT)) (lz : Nat → Bool) : Cfg V := ⟨Tryz.prog, gT, gdS, eqS, conD l, lz⟩
structure Pl where
  p : List Nat
  e : List Nat
  l : Bool
  m : List (Mv)

def rSt : Row St := Row.iso (Row.cons cI (Row.cons cI (Row.cons cI (Row.cons cI (Row.cons cI (Row.cons cI (Row.cons cI (Row.cons cI (Row.cons cI (Row.cons cI (Row.cons cI (Row.cons cI (Row.cons cB Row.nil))))))))))))) (fun x => ⟨x.1, x.2.1, x.2.2.1, x.2.2.2.1, x.2.2.2.2.1, x.2.2.2.2.2.1, x.2.2.2.2.2.2.1, x.2.2.2.2.2.2.2.1, x.2.2.2.2.2.2.2.2.1, x.2.2.2.2.2.2.2.2.2.1, x.2.2.2.2.2.2.2.2.2.2.1, x.2.2.2.2.2.2.2.2.2.2.2.1, x.2.2.2.2.2.2.2.2.2.2.2.2.1⟩) (fun y => (y.inn, y.half, y.outs, y.balls, y.strikes, y.b1, y.b2, y.b3, y.n0, y.n1, y.c0, y.c1, y.over, ())) (fun _ => rfl) (fun _ => rfl)
structure Hf where
  inn : Int
  side : Int
  frm : Int
  to : Int
  runs : Int
  turns : Int
  outs : Int
  left : Int

end
end Go.Ev
