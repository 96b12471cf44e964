import Derived.Test.YtldebobgefdnhaaGreatDoorEvD
import Derived.Test.YtldebobgefdnhaaGreatDoorBase
set_option linter.unusedSimpArgs false
set_option linter.unusedVariables false
namespace Go.Ev
open Go.RowKit Go.Proofs
set_option maxRecDepth 100000
noncomputable section
def xA (f : Func) : Code := f.body.getD .skip
def rInt : Row Int := Row.iso (Row.cons cI Row.nil) (fun x => x.1) (fun n => (n, ())) (fun _ => rfl) (fun _ => rfl)
def gdS : Nat → Option (List V) := fun b => bif Nat.beq b 0 then aqI yQ else none
theorem gdOK : GD gT gdS := by
 intro b cs h
 unfold gdS at h
 cases hb : Nat.beq b 0 with
 | false => rw [hb] at h; cases h
 | true =>
   rw [hb] at h
   obtain rfl := Nat.eq_of_beq_eq_true hb
   have := kU h
   rw [this]; rfl
def eqTab : List (Nat × List Nat) := [(23, [0, 0, 0, 0]), (24, [0, 0, 0, 0]), (26, [0, 0, 0, 0])]
def eqS : TypeId → Option (List Nat) := fun t => lookA eqTab t
theorem aq9 : ∀ p ∈ eqTab, vH Tryz.prog p.1 = some p.2 := by
 unfold eqTab
 simp only [List.forall_mem_cons]
 exact ⟨by kernel_rfl, by kernel_rfl, by kernel_rfl, fun _ h => by cases h⟩
theorem eqOK : EqT Tryz.prog eqS := fun t ks h => aq9 _ (bO h)
def cfgS (l : List (Con Tryz.prog gT)) (lz : Nat → Bool) : Cfg V := ⟨Tryz.prog, gT, gdS, eqS, conD l, lz, aqq l, aqR, aqR⟩
def sZ (f : FuncId) {fn : Func} (hfn : Tryz.prog.funcs[f]? = some fn) (l : List (Con Tryz.prog gT)) (lz : Nat → Bool) (p : ajA) (m : Nat) {α ρ L : Type} (A : Row α) (Q : Cod ρ) (S : α → Option ρ) {W : ρ → V} (w : Wk α ρ L W) (fuel : α → Nat) (hW : ∀ r, (W r).c = (Q.v r).c := by intro r; rfl) (hS : ∀ x, S x = w.S fuel x := by intro x; rfl)
  (hc : fn.body = some (xA fn) := by kernel_rfl)
  (q : ∀ n x, dFn (cfgS l lz) p m (xA fn) fn.results.toList n (A.v x) = (w.E x).m (dJ (cfgS l lz) p (xA fn) fn.results.toList n) w.u := by intro n x; kernel_rfl)
  (qJ : ∀ n x l', dJ (cfgS l lz) p (xA fn) fn.results.toList (n + 1) (w.u l') (w.st x l') = (w.J x l').m (dJ (cfgS l lz) p (xA fn) fn.results.toList n) w.u := by intro n x l; cases l <;> kernel_rfl)
  (hn : oJ (bJ (topW (cfgS l lz) p) (rfN 2) (xA fn)) = true := by kernel_rfl) (h1 : Nat.blt A.w 1000 = true := by kernel_rfl) (h2 : Nat.max fn.ntmps A.w = p.sz := by kernel_rfl) : Con Tryz.prog gT :=
 Con.of f A Q S (Fn.of mixed qW hfn hc l A Q S (cfgS l lz) p m rfl rfl gdOK eqOK rfl rfl rfl rfl hn (fun x => by rw [A.len]; exact ⟨by rwa [Nat.blt_eq] at h1, h2⟩) fun x r h => w.ok hW q qJ x r ((hS x).symm.trans h))
def pK : Row Bool := Row.iso (Row.cons cB Row.nil) (fun x => x.1) (fun n => (n, ())) (fun _ => rfl) (fun _ => rfl)
structure Sk where
 g : Int
 f : Int
 l : Int
 m : Int
 deriving DecidableEq
def rSk : Row Sk := Row.iso (Row.cons cI (Row.cons cI (Row.cons cI (Row.cons cI Row.nil)))) (fun x => ⟨x.1, x.2.1, x.2.2.1, x.2.2.2.1⟩) (fun y => (y.g, y.f, y.l, y.m, ())) (fun _ => rfl) (fun _ => rfl)
end
end Go.Ev
