import Derived.Test.YtahijjbkefmdpaaGreatDoorEvD
import Derived.Test.YtahijjbkefmdpaaGreatDoorBase
set_option linter.unusedSimpArgs false
set_option linter.unusedVariables false
namespace Go.Ev
open Go.RowKit Go.Proofs
set_option maxRecDepth 100000
noncomputable section
def yU (f : Func) : Code := f.body.getD .skip
noncomputable def uJ : Row Int := Row.iso (Row.cons cI Row.nil) (fun x => x.1) (fun n => (n, ())) (fun _ => rfl) (fun _ => rfl)
noncomputable def aC : Row (List Nat) := Row.iso (Row.cons cS Row.nil) (fun x => x.1) (fun n => (n, ())) (fun _ => rfl) (fun _ => rfl)
def gdS : Nat → Option (List V) := fun b => none
theorem gdOK : GD gT gdS := by
 intro b cs h
 unfold gdS at h
 cases h
def eqTab : List (Nat × List Nat) := [(31, [0, 2, 2, 2]), (32, [0, 2, 2, 2])]
def eqS : TypeId → Option (List Nat) := fun t => lookA eqTab t
theorem ajj : ∀ p ∈ eqTab, wQ Tryz.prog p.1 = some p.2 := by
 unfold eqTab
 simp only [List.forall_mem_cons]
 exact ⟨by kernel_rfl, by kernel_rfl, fun _ h => by cases h⟩
theorem eqOK : EqT Tryz.prog eqS := fun t ks h => ajj _ (bZ h)
def cfgS (l : List (Con Tryz.prog gT)) (lz : Nat → Bool) : Cfg V := ⟨Tryz.prog, gT, gdS, eqS, conD l, lz, ajz l, aj4, aj4⟩
def mC (f : FuncId) {fn : Func} (hfn : Tryz.prog.funcs[f]? = some fn) (l : List (Con Tryz.prog gT)) (lz : Nat → Bool) (p : axN) (m : Nat) {α ρ L : Type} (A : Row α) (Q : Cod ρ) (S : α → Option ρ) {W : ρ → V} (w : Wk α ρ L W) (fuel : α → Nat) (hW : ∀ r, (W r).c = (Q.v r).c := by intro r; rfl) (hS : ∀ x, S x = w.S fuel x := by intro x; rfl)
  (hc : fn.body = some (yU fn) := by kernel_rfl)
  (q : ∀ n x, dFn (cfgS l lz) p m (yU fn) fn.results.toList n (A.v x) = (w.E x).m (dJ (cfgS l lz) p (yU fn) fn.results.toList n) w.u := by intro n x; kernel_rfl)
  (qJ : ∀ n x l', dJ (cfgS l lz) p (yU fn) fn.results.toList (n + 1) (w.u l') (w.st x l') = (w.J x l').m (dJ (cfgS l lz) p (yU fn) fn.results.toList n) w.u := by intro n x l; cases l <;> kernel_rfl)
  (hn : pJ (bT (topW (cfgS l lz) p) (rfN 2) (yU fn)) = true := by kernel_rfl) (h1 : Nat.blt A.w 1000 = true := by kernel_rfl) (h2 : Nat.max fn.ntmps A.w = p.sz := by kernel_rfl) : Con Tryz.prog gT :=
 Con.of f A Q S (Fn.of mixed jU hfn hc l A Q S (cfgS l lz) p m rfl rfl gdOK eqOK rfl rfl rfl rfl hn (fun x => by rw [A.len]; exact ⟨by rwa [Nat.blt_eq] at h1, h2⟩) fun x r h => w.ok hW q qJ x r ((hS x).symm.trans h))
structure Lu where
 b0 : List Nat
 b1 : List Nat
 b2 : List Nat
 b3 : List Nat
 b4 : List Nat
 b5 : List Nat
 b6 : List Nat
 b7 : List Nat
 b8 : List Nat
 p0 : Int
 p1 : Int
 p2 : Int
 p3 : Int
 p4 : Int
 p5 : Int
 p6 : Int
 p7 : Int
 p8 : Int
noncomputable def rLu : Row Lu := Row.iso (Row.cons cS (Row.cons cS (Row.cons cS (Row.cons cS (Row.cons cS (Row.cons cS (Row.cons cS (Row.cons cS (Row.cons cS (Row.cons cI (Row.cons cI (Row.cons cI (Row.cons cI (Row.cons cI (Row.cons cI (Row.cons cI (Row.cons cI (Row.cons cI Row.nil)))))))))))))))))) (fun x => ⟨x.1, x.2.1, x.2.2.1, x.2.2.2.1, x.2.2.2.2.1, x.2.2.2.2.2.1, x.2.2.2.2.2.2.1, x.2.2.2.2.2.2.2.1, x.2.2.2.2.2.2.2.2.1, x.2.2.2.2.2.2.2.2.2.1, x.2.2.2.2.2.2.2.2.2.2.1, x.2.2.2.2.2.2.2.2.2.2.2.1, x.2.2.2.2.2.2.2.2.2.2.2.2.1, x.2.2.2.2.2.2.2.2.2.2.2.2.2.1, x.2.2.2.2.2.2.2.2.2.2.2.2.2.2.1, x.2.2.2.2.2.2.2.2.2.2.2.2.2.2.2.1, x.2.2.2.2.2.2.2.2.2.2.2.2.2.2.2.2.1, x.2.2.2.2.2.2.2.2.2.2.2.2.2.2.2.2.2.1⟩) (fun y => (y.b0, y.b1, y.b2, y.b3, y.b4, y.b5, y.b6, y.b7, y.b8, y.p0, y.p1, y.p2, y.p3, y.p4, y.p5, y.p6, y.p7, y.p8, ())) (fun _ => rfl) (fun _ => rfl)
structure Dv where
 i : Int
 p : List Nat
 c : List Nat
 n : List Nat
 deriving DecidableEq
noncomputable def rDv : Row Dv := Row.iso (Row.cons cI (Row.cons cS (Row.cons cS (Row.cons cS Row.nil)))) (fun x => ⟨x.1, x.2.1, x.2.2.1, x.2.2.2.1⟩) (fun y => (y.i, y.p, y.c, y.n, ())) (fun _ => rfl) (fun _ => rfl)
noncomputable def rU8 : Row Int := Row.iso (Row.cons cU8 Row.nil) (fun x => x.1) (fun n => (n, ())) (fun _ => rfl) (fun _ => rfl)
end
end Go.Ev
