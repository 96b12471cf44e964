import Derived.Test.YtcdmpceicmbckaaGreatDoorDBase
import Derived.Test.YtcdmpceicmbckaaGreatDoorCnt3
import Derived.Test.YtcdmpceicmbckaaGreatDoorStT
import Derived.Test.YtcdmpceicmbckaaGreatDoorStG
import Derived.Test.YtcdmpceicmbckaaGreatDoorAwk
set_option linter.unusedSimpArgs false
set_option linter.unusedVariables false
namespace Go.Ev
open Go.RowKit Go.Proofs
set_option maxRecDepth 100000
set_option maxHeartbeats 4000000
set_option linter.unusedVariables false
noncomputable section

theorem wrapI {n : Int} (h1 : -9223372036854775808 ≤ n) (h2 : n < 9223372036854775808) : IntKind.i64.wrap n = n := wrap_id h1 h2
theorem inR_t {i : Int} {n : Nat} (h1 : 0 ≤ i) (h2 : i < (n : Int)) : inR i n = true := by simp [inR]; omega
theorem getD_of {α : Type} {l : List α} {k : Nat} {x d : α} (h : l[k]? = some x) : l.getD k d = x := by rw [List.getD_eq_getElem?_getD, h]; rfl
/-! contracts that stand already -/
def A17 : Row (St × Unit) := Row.cons (Cod.agg rSt) Row.nil
def S17 (x : St × Unit) : Option Int := some (stE x.1)
theorem vSt_c (s : St) : V.cs (rSt.v s) = eSt s := by
  show V.cs [_, _, _, _, _, _, _, _, _, _, _, _, _] = _
  simp only [V.cs, cInt, cB, V.c]; rfl
def K17 : Con Tryz.prog gT := Con.of 17 A17 cI S17 (Fn.weak fn1017 fun a v h => by
  obtain ⟨⟨s, _⟩, r, rfl, hs, rfl⟩ := fOf_inv h
  cases hs
  have e : V.cs (A17.v (s, ())) = [.agg (eSt s)] := by
    show V.cs [V.agg (rSt.v s)] = _
    simp only [V.cs, V.c, vSt_c]
  rw [e, e1017]; simp only [cInt, V.c])
def A60b : Row (St × Unit × Unit) := Row.cons (Cod.agg rSt) (Row.cons (cFns [18, 61]) Row.nil)
def S60b (x : St × Unit × Unit) : Option Int := some (onE x.1)
def K60b : Con Tryz.prog gT := Con.of 60 A60b cI S60b (Fn.weak fn1060b fun a v h => by
  obtain ⟨⟨s, _⟩, r, rfl, hs, rfl⟩ := fOf_inv h
  cases hs
  have e : V.cs (A60b.v (s, (), ())) = [.agg (eSt s), .lsl [[.func 18 []], [.func 61 []]]] := by
    show V.cs [V.agg (rSt.v s), V.el [[.raw (.func 18 [])], [.raw (.func 61 [])]]] = _
    simp only [V.cs, V.css, V.c, vSt_c]
  rw [e, e1060b]; simp only [cInt, V.c])
def bZ : Row Unit := Row.nil
def Sw27 (_ : Unit) : Option Bool := some true
def Kw27 : Con Tryz.prog gT := Con.of 27 bZ cB Sw27 (Fn.weak fn27 fun a v h => by
  obtain ⟨_, r, rfl, hs, rfl⟩ := fOf_inv h
  cases hs
  have e : V.cs (bZ.v ()) = [] := by
    show V.cs [] = _
    rw [V.cs]
  rw [e, e27]; simp only [cB, V.c])
/-! the count, of both sides -/
abbrev CntR := (Int × Int × Unit) × Int × Int × Unit
def cA (b s : Int) (l : List Nat) : CntR :=
  if (0 ≤ b ∧ b ≤ 3) ∧ (0 ≤ s ∧ s ≤ 2) then (if l.length ≤ 24 then (match cnt (b, s) false l with
    | .inl (c', _) => ((c'.1, c'.2, ()), 0, 0, ())
    | .inr k => ((0, 0, ()), (k : Nat), 14, ())) else ((0, 0, ()), 0, 5, ())) else ((0, 0, ()), 0, 3, ())
def A83 : Row (List Nat × Int × Unit) := Row.cons cS (Row.cons cU8 Row.nil)
def S83 (x : List Nat × Int × Unit) : Option Bool := if x.1.length < 9223372036854775808 then some (hasC x.1 x.2.1) else none
def K83 : Con Tryz.prog gT := Con.of 83 A83 cB S83 (Fn.weak fn74 fun a v h => by
  obtain ⟨⟨l, c, _⟩, r, rfl, hs, rfl⟩ := fOf_inv h
  have e : V.cs (A83.v (l, c, ())) = [.str l, .int .u8 c] := by
    show V.cs [V.str l, V.int .u8 c] = _
    simp only [V.cs, V.c]
  rw [e]
  unfold S83 at hs
  split at hs
  · rename_i hl
    cases hs
    simp only [F74, if_pos hl, cB, V.c]
  · cases hs)
def A81 : Row (Int × Int × List Nat × Unit) := Row.cons cI (Row.cons cI (Row.cons cS Row.nil))
def cCntR : Cod CntR := Cod.tup (Row.cons (Cod.agg (Row.cons cI (Row.cons cI Row.nil))) (Row.cons cI (Row.cons cI Row.nil)))
def S81 (x : Int × Int × List Nat × Unit) : Option CntR := if bytesB x.2.2.1 = true then some (cA x.1 x.2.1 x.2.2.1) else none
def K81 : Con Tryz.prog gT := Con.of 81 A81 cCntR S81 (Fn.weak fn48 fun a v h => by
  obtain ⟨⟨b, s, l, _⟩, r, rfl, hs, rfl⟩ := fOf_inv h
  have e : V.cs (A81.v (b, s, l, ())) = [.int .i64 b, .int .i64 s, .str l] := by
    show V.cs [V.int .i64 b, V.int .i64 s, V.str l] = _
    simp only [V.cs, V.c]
  have e2 : ∀ r : CntR, (cCntR.v r).c = .tup [.agg [.int .i64 r.1.1, .int .i64 r.1.2.1], .int .i64 r.2.1, .int .i64 r.2.2.1] := fun r => by
    show (V.tup [V.agg [V.int .i64 r.1.1, V.int .i64 r.1.2.1], V.int .i64 r.2.1, V.int .i64 r.2.2.1]).c = _
    simp only [V.c, V.cs]
  rw [e, e2]
  unfold S81 at hs
  split at hs
  rotate_left
  · cases hs
  rename_i hb
  cases hs
  simp only [F48, if_pos hb, cA]
  split
  · split
    · simp only [cntE]
      cases cnt (b, s) false l with
      | inl q => rfl
      | inr k => rfl
    · rfl
  · rfl)

/-! dugoutref01.Count -/
def A29 : Row ((Int) × (Int) × (List Nat) × Unit) := (Row.cons cI (Row.cons cI (Row.cons cS Row.nil)))
def P29 : Plan := ⟨77, fun i => bif Nat.beq i 7 then some ⟨[0, 1, 2, 6, 9, 10], [0], 1, [], []⟩ else none, fun _ => none⟩
def C29 : Cfg V := cfgS [K83] (fun _ => false)
def J29 (n : Nat) : Jump V := dJ C29 P29 (bW Tryz.f29) Tryz.f29.results.toList n
def bB (l : List Nat) (x2 : Int) (x3 : Bool) (x4 : Int) (x5 : Int) : D := ⟨[(0, some (.int .i64 x2)), (1, some (.int .i64 x5)), (2, some (.str l)), (6, some (.ptr 0 0)), (9, some (.bool x3)), (10, some (.int .i64 x4))], 1, [(0, some (.row ⟨[.int .i64 (0 : Int), .int .i64 (0 : Int)], 23, false⟩))], 128, []⟩
theorem q29 (n : Nat) (b : Int) (s : Int) (l : List Nat) : dFn C29 P29 128 (bW Tryz.f29) Tryz.f29.results.toList n (A29.v (b, s, l, ())) = (cond (decide (b < (0 : Int))) (some (.tup [.agg [.int .i64 (0 : Int), .int .i64 (0 : Int)], .int .i64 (0 : Int), .int .i64 (3 : Int)])) (cond (decide ((3 : Int) < b)) (some (.tup [.agg [.int .i64 (0 : Int), .int .i64 (0 : Int)], .int .i64 (0 : Int), .int .i64 (3 : Int)])) (cond (decide (s < (0 : Int))) (some (.tup [.agg [.int .i64 (0 : Int), .int .i64 (0 : Int)], .int .i64 (0 : Int), .int .i64 (3 : Int)])) (cond (decide ((2 : Int) < s)) (some (.tup [.agg [.int .i64 (0 : Int), .int .i64 (0 : Int)], .int .i64 (0 : Int), .int .i64 (3 : Int)])) (cond (decide ((24 : Int) < ((l.length : Nat) : Int))) (some (.tup [.agg [.int .i64 (0 : Int), .int .i64 (0 : Int)], .int .i64 (0 : Int), .int .i64 (5 : Int)])) (J29 n 14 (bB l b false (0 : Int) s))))))) := by kernel_rfl
theorem q29_14 (n : Nat) (b : Int) (s : Int) (l : List Nat) (x2 : Int) (x3 : Bool) (x4 : Int) (x5 : Int) : J29 (n + 1) 14 (bB l x2 x3 x4 x5) = (cond (decide (x4 < ((l.length : Nat) : Int))) (cond (inR x4 l.length) (bH (S83 ([66, 67, 83, 70, 88, 72], ((l.getD x4.toNat 0 : Nat) : Int), ())) fun r7 => (cond (!r7) (some (.tup [.agg [.int .i64 (0 : Int), .int .i64 (0 : Int)], .int .i64 x4, .int .i64 (14 : Int)])) (cond x3 (some (.tup [.agg [.int .i64 (0 : Int), .int .i64 (0 : Int)], .int .i64 x4, .int .i64 (14 : Int)])) (cond (inR x4 l.length) (cond (((l.getD x4.toNat 0 : Nat) : Int) == (66 : Int)) (cond x3 (J29 n 14 (bB l (IntKind.i64.wrap (x2 + (1 : Int))) true (IntKind.i64.wrap (x4 + (1 : Int))) x5)) (cond ((IntKind.i64.wrap (x2 + (1 : Int))) == (4 : Int)) (J29 n 14 (bB l (IntKind.i64.wrap (x2 + (1 : Int))) true (IntKind.i64.wrap (x4 + (1 : Int))) x5)) (J29 n 14 (bB l (IntKind.i64.wrap (x2 + (1 : Int))) (x5 == (3 : Int)) (IntKind.i64.wrap (x4 + (1 : Int))) x5)))) (cond (((l.getD x4.toNat 0 : Nat) : Int) == (67 : Int)) (cond x3 (J29 n 14 (bB l x2 true (IntKind.i64.wrap (x4 + (1 : Int))) (IntKind.i64.wrap (x5 + (1 : Int))))) (cond (x2 == (4 : Int)) (J29 n 14 (bB l x2 true (IntKind.i64.wrap (x4 + (1 : Int))) (IntKind.i64.wrap (x5 + (1 : Int))))) (J29 n 14 (bB l x2 ((IntKind.i64.wrap (x5 + (1 : Int))) == (3 : Int)) (IntKind.i64.wrap (x4 + (1 : Int))) (IntKind.i64.wrap (x5 + (1 : Int))))))) (cond (((l.getD x4.toNat 0 : Nat) : Int) == (83 : Int)) (cond x3 (J29 n 14 (bB l x2 true (IntKind.i64.wrap (x4 + (1 : Int))) (IntKind.i64.wrap (x5 + (1 : Int))))) (cond (x2 == (4 : Int)) (J29 n 14 (bB l x2 true (IntKind.i64.wrap (x4 + (1 : Int))) (IntKind.i64.wrap (x5 + (1 : Int))))) (J29 n 14 (bB l x2 ((IntKind.i64.wrap (x5 + (1 : Int))) == (3 : Int)) (IntKind.i64.wrap (x4 + (1 : Int))) (IntKind.i64.wrap (x5 + (1 : Int))))))) (cond (((l.getD x4.toNat 0 : Nat) : Int) == (70 : Int)) (cond x3 (J29 n 14 (bB l x2 true (IntKind.i64.wrap (x4 + (1 : Int))) (bif (decide (x5 < (bif (decide ((2 : Int) < (IntKind.i64.wrap (x5 + (1 : Int))))) then (2 : Int) else (IntKind.i64.wrap (x5 + (1 : Int)))))) then (bif (decide ((2 : Int) < (IntKind.i64.wrap (x5 + (1 : Int))))) then (2 : Int) else (IntKind.i64.wrap (x5 + (1 : Int)))) else x5))) (cond (x2 == (4 : Int)) (J29 n 14 (bB l x2 true (IntKind.i64.wrap (x4 + (1 : Int))) (bif (decide (x5 < (bif (decide ((2 : Int) < (IntKind.i64.wrap (x5 + (1 : Int))))) then (2 : Int) else (IntKind.i64.wrap (x5 + (1 : Int)))))) then (bif (decide ((2 : Int) < (IntKind.i64.wrap (x5 + (1 : Int))))) then (2 : Int) else (IntKind.i64.wrap (x5 + (1 : Int)))) else x5))) (J29 n 14 (bB l x2 ((bif (decide (x5 < (bif (decide ((2 : Int) < (IntKind.i64.wrap (x5 + (1 : Int))))) then (2 : Int) else (IntKind.i64.wrap (x5 + (1 : Int)))))) then (bif (decide ((2 : Int) < (IntKind.i64.wrap (x5 + (1 : Int))))) then (2 : Int) else (IntKind.i64.wrap (x5 + (1 : Int)))) else x5) == (3 : Int)) (IntKind.i64.wrap (x4 + (1 : Int))) (bif (decide (x5 < (bif (decide ((2 : Int) < (IntKind.i64.wrap (x5 + (1 : Int))))) then (2 : Int) else (IntKind.i64.wrap (x5 + (1 : Int)))))) then (bif (decide ((2 : Int) < (IntKind.i64.wrap (x5 + (1 : Int))))) then (2 : Int) else (IntKind.i64.wrap (x5 + (1 : Int)))) else x5))))) (J29 n 14 (bB l x2 true (IntKind.i64.wrap (x4 + (1 : Int))) x5)))))) none)))) none) (some (.tup [.agg [.int .i64 x2, .int .i64 x5], .int .i64 (0 : Int), .int .i64 (0 : Int)]))) := by
  have h : J29 (n + 1) 14 (bB l x2 x3 x4 x5) = (cond (decide (x4 < ((l.length : Nat) : Int))) (cond (inR x4 l.length) (cond (A83.ok (A83.v ([66, 67, 83, 70, 88, 72], ((l.getD x4.toNat 0 : Nat) : Int), ()))) (bH (S83 (A83.dec (A83.v ([66, 67, 83, 70, 88, 72], ((l.getD x4.toNat 0 : Nat) : Int), ())))) fun r7 => (cond (!r7) (some (.tup [.agg [.int .i64 (0 : Int), .int .i64 (0 : Int)], .int .i64 x4, .int .i64 (14 : Int)])) (cond x3 (some (.tup [.agg [.int .i64 (0 : Int), .int .i64 (0 : Int)], .int .i64 x4, .int .i64 (14 : Int)])) (cond (inR x4 l.length) (cond (((l.getD x4.toNat 0 : Nat) : Int) == (66 : Int)) (cond x3 (J29 n 14 (bB l (IntKind.i64.wrap (x2 + (1 : Int))) true (IntKind.i64.wrap (x4 + (1 : Int))) x5)) (cond ((IntKind.i64.wrap (x2 + (1 : Int))) == (4 : Int)) (J29 n 14 (bB l (IntKind.i64.wrap (x2 + (1 : Int))) true (IntKind.i64.wrap (x4 + (1 : Int))) x5)) (J29 n 14 (bB l (IntKind.i64.wrap (x2 + (1 : Int))) (x5 == (3 : Int)) (IntKind.i64.wrap (x4 + (1 : Int))) x5)))) (cond (((l.getD x4.toNat 0 : Nat) : Int) == (67 : Int)) (cond x3 (J29 n 14 (bB l x2 true (IntKind.i64.wrap (x4 + (1 : Int))) (IntKind.i64.wrap (x5 + (1 : Int))))) (cond (x2 == (4 : Int)) (J29 n 14 (bB l x2 true (IntKind.i64.wrap (x4 + (1 : Int))) (IntKind.i64.wrap (x5 + (1 : Int))))) (J29 n 14 (bB l x2 ((IntKind.i64.wrap (x5 + (1 : Int))) == (3 : Int)) (IntKind.i64.wrap (x4 + (1 : Int))) (IntKind.i64.wrap (x5 + (1 : Int))))))) (cond (((l.getD x4.toNat 0 : Nat) : Int) == (83 : Int)) (cond x3 (J29 n 14 (bB l x2 true (IntKind.i64.wrap (x4 + (1 : Int))) (IntKind.i64.wrap (x5 + (1 : Int))))) (cond (x2 == (4 : Int)) (J29 n 14 (bB l x2 true (IntKind.i64.wrap (x4 + (1 : Int))) (IntKind.i64.wrap (x5 + (1 : Int))))) (J29 n 14 (bB l x2 ((IntKind.i64.wrap (x5 + (1 : Int))) == (3 : Int)) (IntKind.i64.wrap (x4 + (1 : Int))) (IntKind.i64.wrap (x5 + (1 : Int))))))) (cond (((l.getD x4.toNat 0 : Nat) : Int) == (70 : Int)) (cond x3 (J29 n 14 (bB l x2 true (IntKind.i64.wrap (x4 + (1 : Int))) (bif (decide (x5 < (bif (decide ((2 : Int) < (IntKind.i64.wrap (x5 + (1 : Int))))) then (2 : Int) else (IntKind.i64.wrap (x5 + (1 : Int)))))) then (bif (decide ((2 : Int) < (IntKind.i64.wrap (x5 + (1 : Int))))) then (2 : Int) else (IntKind.i64.wrap (x5 + (1 : Int)))) else x5))) (cond (x2 == (4 : Int)) (J29 n 14 (bB l x2 true (IntKind.i64.wrap (x4 + (1 : Int))) (bif (decide (x5 < (bif (decide ((2 : Int) < (IntKind.i64.wrap (x5 + (1 : Int))))) then (2 : Int) else (IntKind.i64.wrap (x5 + (1 : Int)))))) then (bif (decide ((2 : Int) < (IntKind.i64.wrap (x5 + (1 : Int))))) then (2 : Int) else (IntKind.i64.wrap (x5 + (1 : Int)))) else x5))) (J29 n 14 (bB l x2 ((bif (decide (x5 < (bif (decide ((2 : Int) < (IntKind.i64.wrap (x5 + (1 : Int))))) then (2 : Int) else (IntKind.i64.wrap (x5 + (1 : Int)))))) then (bif (decide ((2 : Int) < (IntKind.i64.wrap (x5 + (1 : Int))))) then (2 : Int) else (IntKind.i64.wrap (x5 + (1 : Int)))) else x5) == (3 : Int)) (IntKind.i64.wrap (x4 + (1 : Int))) (bif (decide (x5 < (bif (decide ((2 : Int) < (IntKind.i64.wrap (x5 + (1 : Int))))) then (2 : Int) else (IntKind.i64.wrap (x5 + (1 : Int)))))) then (bif (decide ((2 : Int) < (IntKind.i64.wrap (x5 + (1 : Int))))) then (2 : Int) else (IntKind.i64.wrap (x5 + (1 : Int)))) else x5))))) (J29 n 14 (bB l x2 true (IntKind.i64.wrap (x4 + (1 : Int))) x5)))))) none)))) none) none) (some (.tup [.agg [.int .i64 x2, .int .i64 x5], .int .i64 (0 : Int), .int .i64 (0 : Int)]))) := by kernel_rfl
  simpa only [Row.okv, Row.dv, cond_true] using h


def S29 (x : Int × Int × List Nat × Unit) : Option CntR := if x.2.2.1.length < 9223372036854775808 then some (cA x.1 x.2.1 x.2.2.1) else none
theorem hasP (x : Nat) : hasC [66, 67, 83, 70, 88, 72] (x : Int) = isP x := by
  simp only [hasC, List.any_cons, List.any_nil, isP, Bool.or_false]
  rw [Bool.eq_iff_iff]
  simp only [Bool.or_eq_true, beq_iff_eq]
  omega
def cntRes (r : (Cnt × Bool) ⊕ Nat) : V := match r with
  | .inl (c', _) => .tup [.agg [.int .i64 c'.1, .int .i64 c'.2], .int .i64 0, .int .i64 0]
  | .inr k => .tup [.agg [.int .i64 0, .int .i64 0], .int .i64 (k : Nat), .int .i64 14]
theorem j29 (b s : Int) (l : List Nat) (hl : l.length ≤ 24) (hin : (0 ≤ b ∧ b ≤ 3) ∧ (0 ≤ s ∧ s ≤ 2)) : ∀ n k x2 x5 x3, k ≤ l.length → l.length < n + k → cnt (b, s) false (l.take k) = .inl ((x2, x5), x3) →
    J29 n 14 (bB l x2 x3 (k : Int) x5) = some (cntRes (cnt (b, s) false l)) := by
  intro n
  induction n with
  | zero => intro k x2 x5 x3 h1 h2; omega
  | succ n ih =>
    intro k x2 x5 x3 h1 h2 hc
    rw [q29_14 n b s]
    have hok : okC (x2, x5) x3 := cnt_ok (c := (b, s)) (d := false) (by simp only [okC]; omega) hc
    by_cases hlt : k < l.length
    rotate_left
    · obtain rfl : k = l.length := by omega
      rw [List.take_length] at hc
      rw [hc]
      have c1 : decide ((l.length : Int) < ((l.length : Nat) : Int)) = false := by simp
      simp only [c1, cond_false, cntRes]
    obtain ⟨y, hy⟩ : ∃ y, l[k]? = some y := ⟨l[k], List.getElem?_eq_getElem hlt⟩
    have c1 : decide ((k : Int) < ((l.length : Nat) : Int)) = true := by simp; omega
    have c2 : inR (k : Int) l.length = true := inR_t (by omega) (by omega)
    have hS : S83 ([66, 67, 83, 70, 88, 72], ((y : Nat) : Int), ()) = some (isP y) := by
      unfold S83
      rw [if_pos (by simp)]
      rw [hasP]
    have w4 : IntKind.i64.wrap ((k : Int) + 1) = ((k + 1 : Nat) : Int) := by rw [wrapI] <;> omega
    simp only [c1, c2, cond_true, Int.toNat_natCast, getD_of hy, hS, obind_some]
    cases hp : isP y with
    | false =>
      rw [cnt_take_err hc hy (.inr hp)]
      simp only [Bool.not_false, cond_true, cntRes]
    | true =>
    cases x3 with
    | true =>
      rw [cnt_take_err hc hy (.inl rfl)]
      simp only [Bool.not_true, cond_false, cond_true, cntRes]
    | false =>
    have hstep := cnt_take_step hc hy hp
    have ih' := fun x2 x5 x3 h => ih (k + 1) x2 x5 x3 hlt (by omega) h
    obtain ⟨o1, o2, o3, o4, o5⟩ := hok
    have o5 := o5 rfl
    simp only at o1 o2 o3 o4 o5
    have w2 : IntKind.i64.wrap (x2 + 1) = x2 + 1 := by rw [wrapI] <;> omega
    have w5 : IntKind.i64.wrap (x5 + 1) = x5 + 1 := by rw [wrapI] <;> omega
    have n24 : (x2 == (4 : Int)) = false := by simp; omega
    have n53 : (x5 == (3 : Int)) = false := by simp; omega
    simp only [Bool.not_true, cond_false, w4, w2, w5, n24, n53]
    have q (m : Nat) : (((y : Nat) : Int) == ((m : Nat) : Int)) = decide (y = m) := by rw [Bool.eq_iff_iff]; simp; omega
    have q66 : (((y : Nat) : Int) == (66 : Int)) = decide (y = 66) := q 66
    have q67 : (((y : Nat) : Int) == (67 : Int)) = decide (y = 67) := q 67
    have q83 : (((y : Nat) : Int) == (83 : Int)) = decide (y = 83) := q 83
    have q70 : (((y : Nat) : Int) == (70 : Int)) = decide (y = 70) := q 70
    have q88 : (((y : Nat) : Int) == (88 : Int)) = decide (y = 88) := q 88
    have q72 : (((y : Nat) : Int) == (72 : Int)) = decide (y = 72) := q 72
    simp only [q66, q67, q83, q70]
    by_cases e66 : y = 66
    · subst e66
      simp only [decide_true, cond_true]
      have : bG (x2, x5) 66 = (x2 + 1, x5) := by simp [bG]
      rw [this] at hstep
      by_cases h4 : x2 + 1 = 4
      · have c3 : (x2 + 1 == (4 : Int)) = true := by simpa using h4
        simp only [c3, cond_true]
        exact ih' _ _ _ (by rw [hstep]; simp [doneC, full, bG, h4])
      · have c3 : (x2 + 1 == (4 : Int)) = false := by simpa using h4
        simp only [c3, cond_false]
        exact ih' _ _ _ (by rw [hstep]; simp [doneC, full, bG, h4, lastP]; omega)
    have d66 : decide (y = 66) = false := by simpa using e66
    simp only [d66, cond_false]
    by_cases e67 : y = 67
    · subst e67
      simp only [decide_true, cond_true]
      have : bG (x2, x5) 67 = (x2, x5 + 1) := by simp [bG]
      rw [this] at hstep
      exact ih' _ _ _ (by rw [hstep]; simp [doneC, full, bG, lastP]; omega)
    have d67 : decide (y = 67) = false := by simpa using e67
    simp only [d67, cond_false]
    by_cases e83 : y = 83
    · subst e83
      simp only [decide_true, cond_true]
      have : bG (x2, x5) 83 = (x2, x5 + 1) := by simp [bG]
      rw [this] at hstep
      exact ih' _ _ _ (by rw [hstep]; simp [doneC, full, bG, lastP]; omega)
    have d83 : decide (y = 83) = false := by simpa using e83
    simp only [d83, cond_false]
    by_cases e70 : y = 70
    · subst e70
      simp only [decide_true, cond_true]
      by_cases h5 : x5 < 2
      · have a1 : decide ((2 : Int) < x5 + 1) = false := by simp; omega
        have a2 : decide (x5 < x5 + 1) = true := by simp; omega
        simp only [a1, a2, cond_false, cond_true]
        have : bG (x2, x5) 70 = (x2, x5 + 1) := by simp [bG, h5]
        rw [this] at hstep
        exact ih' _ _ _ (by rw [hstep]; simp [doneC, full, bG, lastP, h5]; omega)
      · have a1 : decide ((2 : Int) < x5 + 1) = true := by simp; omega
        have a2 : decide (x5 < (2 : Int)) = false := by simp; omega
        simp only [a1, a2, cond_false, cond_true]
        have : bG (x2, x5) 70 = (x2, x5) := by simp [bG, h5]
        rw [this] at hstep
        have a3 : (x5 == (3 : Int)) = false := by simp; omega
        simp only [a3]
        exact ih' _ _ _ (by rw [hstep]; simp [doneC, full, bG, lastP, h5]; omega)
    have d70 : decide (y = 70) = false := by simpa using e70
    simp only [d70, cond_false]
    have : bG (x2, x5) y = (x2, x5) := by simp [bG, e66, e67, e83, e70]
    rw [this] at hstep
    exact ih' _ _ _ (by
      rw [hstep]
      have h8 : y = 88 ∨ y = 72 := by
        simp only [isP, Bool.or_eq_true, beq_iff_eq] at hp
        omega
      simp only [doneC, this, full]
      rcases h8 with rfl | rfl <;> simp [lastP])
theorem cntR_in {b s : Int} {l : List Nat} (h : (0 ≤ b ∧ b ≤ 3) ∧ (0 ≤ s ∧ s ≤ 2)) (hl : l.length ≤ 24) : cCntR.v (cA b s l) = cntRes (cnt (b, s) false l) := by
  unfold cA
  rw [if_pos h, if_pos hl]
  cases cnt (b, s) false l with
  | inl q => rfl
  | inr k => rfl
theorem h29 (x : Int × Int × List Nat × Unit) (r : CntR) (h : S29 x = some r) : ∃ n w, dFn C29 P29 128 (bW Tryz.f29) Tryz.f29.results.toList n (A29.v x) = some w ∧ w.c = (cCntR.v r).c := by
  obtain ⟨b, s, l, u⟩ := x
  obtain ⟨⟩ := u
  unfold S29 at h
  simp only at h
  split at h
  rotate_left
  · cases h
  rename_i hlen
  cases h
  refine ⟨26, cCntR.v (cA b s l), ?_, rfl⟩
  rw [q29]
  by_cases hin : (0 ≤ b ∧ b ≤ 3) ∧ (0 ≤ s ∧ s ≤ 2)
  · have a1 : decide (b < (0 : Int)) = false := by simp; omega
    have a2 : decide ((3 : Int) < b) = false := by simp; omega
    have a3 : decide (s < (0 : Int)) = false := by simp; omega
    have a4 : decide ((2 : Int) < s) = false := by simp; omega
    simp only [a1, a2, a3, a4, cond_false]
    by_cases hl : l.length ≤ 24
    · have a5 : decide ((24 : Int) < ((l.length : Nat) : Int)) = false := by simp; omega
      simp only [a5, cond_false]
      rw [cntR_in hin hl]
      exact j29 b s l hl hin 26 0 b s false (Nat.zero_le _) (by omega) (by simp [cnt])
    · have a5 : decide ((24 : Int) < ((l.length : Nat) : Int)) = true := by simp; omega
      simp only [a5, cond_true]
      unfold cA
      rw [if_pos hin, if_neg hl]; rfl
  · have e : cCntR.v (cA b s l) = .tup [.agg [.int .i64 0, .int .i64 0], .int .i64 0, .int .i64 3] := by
      unfold cA
      rw [if_neg hin]; rfl
    rw [e]
    by_cases k1 : b < 0
    · simp [k1]
    by_cases k2 : 3 < b
    · simp [k1, k2]
    by_cases k3 : s < 0
    · simp [k1, k2, k3]
    by_cases k4 : 2 < s
    · simp [k1, k2, k3, k4]
    · exact absurd ⟨⟨by omega, by omega⟩, by omega, by omega⟩ hin

def K29 : Con Tryz.prog gT := Con.of 29 A29 (Cod.tup (Row.cons (Cod.agg (Row.cons cI (Row.cons cI Row.nil))) (Row.cons cI (Row.cons cI Row.nil)))) S29 (Fn.of mixed aK Tryz.func29 (by kernel_rfl : Tryz.f29.body = some (bW Tryz.f29)) [K83] A29 (Cod.tup (Row.cons (Cod.agg (Row.cons cI (Row.cons cI Row.nil))) (Row.cons cI (Row.cons cI Row.nil)))) S29 C29 P29 128 rfl rfl gdOK eqOK rfl (by kernel_rfl) (fun x => ⟨of_decide_eq_true (by kernel_rfl), by kernel_rfl⟩) h29)

end
end Go.Ev
