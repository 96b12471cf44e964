import Derived.OpenShut
import Derived.Lib.SmallJoins
import Derived.ChangeMaps5
set_option linter.unusedSimpArgs false
set_option linter.unusedVariables false
namespace Go.Ev
open Go.ChangeShapes Go.WideShapes Go.Lib Go.Joins

/-! an array of two integers, read -/
section
variable {H : Type} {enc : TypeId × Value → H} {P : Program} {w : World} {base : Nat} {spare : Nat → Bool} {held : Bool}
theorem open_two {r : Reach} {b0 : Nat} {t e : TypeId} {q : IntKind} {v : Value} {d : DataW H} {p : List MemPlace} (hu : P.underlying t = some (.array 2 e)) (he : P.underlying e = some (.int q)) (hC : P.cellsOf t = 2) (hc : P.cellsOf e = 1)
    (hv : Value.okWide P w r b0 t v) (h : DataW.Trod enc P w base spare held t v d p) :
    ∃ n m : Int, v = .agg #[.int q n, .int q m] ∧ d = .agg [.lit (.int q n), .lit (.int q m)] ∧ p = [] ∧ (Lit.int q n).wf = true ∧ (Lit.int q m).wf = true := by
  simp only [Value.okWide, hu] at hv
  obtain ⟨cs, rfl, hs, _⟩ := hv
  obtain ⟨c0, c1, rfl⟩ := array2 (hs.trans hC)
  obtain ⟨fuel, hf⟩ := h
  cases fuel with
  | zero => simp [DataW.trod] at hf
  | succ k =>
    rw [DataW.trod_step] at hf
    unfold DataW.trodStep at hf
    simp only [hu, Value.cells] at hf
    rw [if_pos (by rw [hC]; rfl)] at hf
    simp only [Option.map_eq_some_iff] at hf
    obtain ⟨ys, hy, e1⟩ := hf
    rw [show List.range 2 = [0, 1] from rfl] at hy
    simp only [List.mapM_cons, List.mapM_nil, bind, Option.bind_eq_some_iff, pure, Option.some.injEq, hc] at hy
    obtain ⟨y0, h0, ys1, ⟨y1, h1, ys2, rfl, rfl⟩, rfl⟩ := hy
    obtain ⟨n, hn1, rfl, hn⟩ := DataW.trod_int he h0
    obtain ⟨m, hm1, rfl, hm⟩ := DataW.trod_int he h1
    obtain rfl : c0 = .int q n := by simpa using hn1
    obtain rfl : c1 = .int q m := by simpa using hm1
    simp only [Prod.mk.injEq] at e1
    exact ⟨n, m, rfl, by rw [← e1.1]; rfl, by rw [← e1.2]; rfl, hn, hm⟩
theorem shut_two {t e : TypeId} {q : IntKind} {n m : Int} (hu : P.underlying t = some (.array 2 e)) (he : P.underlying e = some (.int q)) (hC : P.cellsOf t = 2) (hc : P.cellsOf e = 1) (hn : (Lit.int q n).wf = true) (hm : (Lit.int q m).wf = true) :
    DataW.Trod enc P w base spare held t (.agg #[.int q n, .int q m]) (.agg [.lit (.int q n), .lit (.int q m)]) [] := by
  obtain ⟨n0, t0⟩ := shut_int (enc := enc) (w := w) (base := base) (spare := spare) (held := held) he hn
  obtain ⟨n1, t1⟩ := shut_int (enc := enc) (w := w) (base := base) (spare := spare) (held := held) he hm
  have t0 := DataW.trod_le (Nat.le_max_left n0 n1) t0
  have t1 := DataW.trod_le (Nat.le_max_right n0 n1) t1
  refine ⟨max n0 n1 + 1, ?_⟩
  rw [DataW.trod_step]
  unfold DataW.trodStep
  simp only [hu, Value.cells]
  rw [if_pos (by rw [hC]; rfl), show List.range 2 = [0, 1] from rfl]
  simp only [Value.cells] at t0 t1
  have e0 : ((#[Value.int q n, Value.int q m].toList.drop (0 * P.cellsOf e)).take (P.cellsOf e)) = [Value.int q n] := by rw [hc]; rfl
  have e1 : ((#[Value.int q n, Value.int q m].toList.drop (1 * P.cellsOf e)).take (P.cellsOf e)) = [Value.int q m] := by rw [hc]; rfl
  simp only [List.mapM_cons, List.mapM_nil, e0, e1, t0, t1]
  rfl
end
end Go.Ev
