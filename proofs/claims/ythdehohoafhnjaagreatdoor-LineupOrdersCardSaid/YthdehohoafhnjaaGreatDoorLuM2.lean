import Derived.Test.YthdehohoafhnjaaGreatDoorLuM1
set_option linter.unusedSimpArgs false
set_option linter.unusedVariables false
namespace Go.Ev
open Go.RowKit Go.Proofs
set_option maxRecDepth 100000
set_option maxHeartbeats 4000000
set_option linter.unusedSimpArgs false
noncomputable section
structure LuB (s : Lu) : Prop where
 y : bH s.b0 = true ∧ bH s.b1 = true ∧ bH s.b2 = true ∧ bH s.b3 = true ∧ bH s.b4 = true ∧ bH s.b5 = true ∧ bH s.b6 = true ∧ bH s.b7 = true ∧ bH s.b8 = true
 l : s.b0.length < 1000 ∧ s.b1.length < 1000 ∧ s.b2.length < 1000 ∧ s.b3.length < 1000 ∧ s.b4.length < 1000 ∧ s.b5.length < 1000 ∧ s.b6.length < 1000 ∧ s.b7.length < 1000 ∧ s.b8.length < 1000
def rg (p : Int) : Bool := decide (1 ≤ p) && decide (p ≤ 9)
theorem s29 (p : Int) : yJ (p, ()) = some (cond (rg p) 0 3) := by
 show (Tz29 p).d noE = _
 have h : Sz65 (p, 1, 9, ()) = some (rg p) := by
  show (Tz65 p 1 9).d noE = _
  simp only [Tz65, TS, rg]
  cases decide (1 ≤ p) <;> rfl
 simp only [Tz29, TS, h, aB]
 cases rg p <;> rfl
theorem inR0 {n : Nat} (h : 0 < n) : inR (0 : Int) n = true := by simp only [inR]; simp; omega
theorem s27 (a b : Int) : Sz27 ([a, b], ()) = some (cond (a == 0) b a) := by
 show (Tz27 [a, b]).d (aqq [a, b] (63 + 1 + 1 + 1)) = _
 simp only [Tz27, TS]
 rw [iV]
 simp only [oU, TS]
 rw [show (decide ((0 : Int) < (([a, b].length : Nat) : Int))) = true from rfl, inR0 (by simp), show [a, b].getD (0 : Int).toNat 0 = a from rfl]
 cases ha : (a == 0) with
 | false => simp only [cond_true, Bool.not_false, cond_false]
 | true =>
   simp only [cond_true, Bool.not_true, cond_false]
   rw [show w6 (0 + 1) = 1 from rfl, iV]
   simp only [oU, TS]
   rw [show (decide ((1 : Int) < (([a, b].length : Nat) : Int))) = true from rfl, show inR (1 : Int) [a, b].length = true from rfl, show [a, b].getD (1 : Int).toNat 0 = b from rfl]
   cases hb : (b == 0) with
   | false => simp only [cond_true, Bool.not_false]
   | true =>
     simp only [cond_true, Bool.not_true, cond_false]
     rw [show w6 (1 + 1) = 2 from rfl, iV]
     simp only [oU, TS]
     rw [show (decide ((2 : Int) < (([a, b].length : Nat) : Int))) = false from rfl, cond_false]
     rw [eq_of_beq hb]
theorem wG {α : Type} [DecidableEq α] {l : List α} {x y : α} {i1 : Decidable (y ∈ insK l x)} [Decidable (y ∈ l)] [Decidable (x = y)] : @decide (y ∈ insK l x) i1 = (decide (y ∈ l) || decide (x = y)) := by
 have key : y ∈ insK l x ↔ (y ∈ l ∨ x = y) := by
  unfold insK
  by_cases h : x ∈ l
  · rw [show decide (x ∈ l) = true by simpa using h, cond_true]
    exact ⟨.inl, fun q => q.elim id fun e => e ▸ h⟩
  · rw [show decide (x ∈ l) = false by simpa using h, cond_false, List.mem_append, List.mem_singleton]
    exact ⟨fun q => q.imp id Eq.symm, fun q => q.imp id Eq.symm⟩
 rw [show (@decide _ i1) = decide (y ∈ l ∨ x = y) from decide_eq_decide.2 key]
 exact Bool.decide_or _ _
theorem zV {α : Type} {y : α} {i : Decidable (y ∈ ([] : List α))} : @decide (y ∈ ([] : List α)) i = false := by simp
theorem rG {α : Type} {a b : Bool} {x y : α} : cond a x (cond b x y) = cond (a || b) x y := by cases a <;> rfl
theorem xK {α β : Type} {c : Bool} {a b : Option α} {k : α → Option β} : hN (cond c a b) k = cond c (hN a k) (hN b k) := by cases c <;> rfl
theorem rg_cond {p : Int} {X : Option Int} : cond (!((cond (rg p) (0 : Int) 3) == 0)) (some (cond (rg p) (0 : Int) 3)) X = cond (!rg p) (some 3) X := by cases rg p <;> rfl
theorem zG {p : Int} : (decide (p < 1) || decide (9 < p)) = !rg p := by
 unfold rg
 by_cases h1 : 1 ≤ p <;> by_cases h2 : p ≤ 9 <;> simp [h1, h2] <;> omega
theorem ibd {a b : Int} : (a == b) = decide (a = b) := by by_cases h : a = b <;> simp [h]
theorem rg_not2 {p : Int} {X : Bool} : (decide (p < 1) || (decide (9 < p) || X)) = (!rg p || X) := by rw [← Bool.or_assoc, zG]
def f8 {α : Type} (s : Lu) (e8 e9 : α) (x : α) : α :=
 cond (!nmB s.b0 || !nmB s.b1) e8 (cond (decide (s.b0 = s.b1)) e9 (cond (!nmB s.b2) e8 (cond (decide (s.b0 = s.b2) || decide (s.b1 = s.b2)) e9 (cond (!nmB s.b3) e8 (cond (decide (s.b0 = s.b3) || (decide (s.b1 = s.b3) || decide (s.b2 = s.b3))) e9 (cond (!nmB s.b4) e8 (cond (decide (s.b0 = s.b4) || (decide (s.b1 = s.b4) || (decide (s.b2 = s.b4) || decide (s.b3 = s.b4)))) e9 (cond (!nmB s.b5) e8 (cond (decide (s.b0 = s.b5) || (decide (s.b1 = s.b5) || (decide (s.b2 = s.b5) || (decide (s.b3 = s.b5) || decide (s.b4 = s.b5))))) e9 (cond (!nmB s.b6) e8 (cond (decide (s.b0 = s.b6) || (decide (s.b1 = s.b6) || (decide (s.b2 = s.b6) || (decide (s.b3 = s.b6) || (decide (s.b4 = s.b6) || decide (s.b5 = s.b6)))))) e9 (cond (!nmB s.b7) e8 (cond (decide (s.b0 = s.b7) || (decide (s.b1 = s.b7) || (decide (s.b2 = s.b7) || (decide (s.b3 = s.b7) || (decide (s.b4 = s.b7) || (decide (s.b5 = s.b7) || decide (s.b6 = s.b7))))))) e9 (cond (!nmB s.b8) e8 (cond (decide (s.b0 = s.b8) || (decide (s.b1 = s.b8) || (decide (s.b2 = s.b8) || (decide (s.b3 = s.b8) || (decide (s.b4 = s.b8) || (decide (s.b5 = s.b8) || (decide (s.b6 = s.b8) || decide (s.b7 = s.b8)))))))) e9 x)))))))))))))))
def ajy {α : Type} (s : Lu) (e3 e29 : α) (x : α) : α :=
 cond (!rg s.p0 || !rg s.p1) e3 (cond (decide (s.p0 = s.p1)) e29 (cond (!rg s.p2) e3 (cond (decide (s.p0 = s.p2) || decide (s.p1 = s.p2)) e29 (cond (!rg s.p3) e3 (cond (decide (s.p0 = s.p3) || (decide (s.p1 = s.p3) || decide (s.p2 = s.p3))) e29 (cond (!rg s.p4) e3 (cond (decide (s.p0 = s.p4) || (decide (s.p1 = s.p4) || (decide (s.p2 = s.p4) || decide (s.p3 = s.p4)))) e29 (cond (!rg s.p5) e3 (cond (decide (s.p0 = s.p5) || (decide (s.p1 = s.p5) || (decide (s.p2 = s.p5) || (decide (s.p3 = s.p5) || decide (s.p4 = s.p5))))) e29 (cond (!rg s.p6) e3 (cond (decide (s.p0 = s.p6) || (decide (s.p1 = s.p6) || (decide (s.p2 = s.p6) || (decide (s.p3 = s.p6) || (decide (s.p4 = s.p6) || decide (s.p5 = s.p6)))))) e29 (cond (!rg s.p7) e3 (cond (decide (s.p0 = s.p7) || (decide (s.p1 = s.p7) || (decide (s.p2 = s.p7) || (decide (s.p3 = s.p7) || (decide (s.p4 = s.p7) || (decide (s.p5 = s.p7) || decide (s.p6 = s.p7))))))) e29 (cond (!rg s.p8) e3 (cond (decide (s.p0 = s.p8) || (decide (s.p1 = s.p8) || (decide (s.p2 = s.p8) || (decide (s.p3 = s.p8) || (decide (s.p4 = s.p8) || (decide (s.p5 = s.p8) || (decide (s.p6 = s.p8) || decide (s.p7 = s.p8)))))))) e29 x)))))))))))))))
theorem s63 (s : Lu) (h : LuB s) : Sz63 (s, ()) = f8 s (some 8) (some 9) (some 0) := by
 obtain ⟨⟨y0, y1, y2, y3, y4, y5, y6, y7, y8⟩, _⟩ := h
 show (Tz63 s).d noE = _
 simp only [Tz63, TS, s77 _ y0, s77 _ y1, s77 _ y2, s77 _ y3, s77 _ y4, s77 _ y5, s77 _ y6, s77 _ y7, s77 _ y8, aB, wG, zV, Bool.false_or, Bool.or_assoc, cond_false, rG, f8]
theorem s64 (s : Lu) : Sz64 (s, ()) = ajy s (some 3) (some 29) (some 0) := by
 show (Tz64 s).d noE = _
 simp only [Tz64, TS, s29, aB, wG, zV, Bool.false_or, Bool.or_assoc, cond_false, rg_cond, rG, ajy]
theorem s7 (s : Lu) (h : LuB s) : Sz7 (s, ()) = f8 s (some 8) (some 9) (ajy s (some 3) (some 29) (some 0)) := by
 obtain ⟨_, l0, l1, l2, l3, l4, l5, l6, l7, l8⟩ := h
 show (Tz7 s).d noE = _
 simp only [Tz7, TS, s34 _ l0, s34 _ l1, s34 _ l2, s34 _ l3, s34 _ l4, s34 _ l5, s34 _ l6, s34 _ l7, s34 _ l8, aB, rG, zG, rg_not2, ibd, f8, ajy]
theorem s28 (s : Lu) (h : LuB s) : Sz28 (s, ()) = Sz7 (s, ()) := by
 rw [s7 s h]
 show (Tz28 s).d noE = _
 obtain ⟨v, hv⟩ : ∃ v, Sz64 (s, ()) = some v := by
  rw [s64]
  have : ∀ {c : Bool} {a b : Option Int}, (∃ v, a = some v) → (∃ v, b = some v) → ∃ v, cond c a b = some v := fun {c} _ _ h1 h2 => by cases c <;> assumption
  unfold ajy
  repeat' first | exact ⟨_, rfl⟩ | apply this
 simp only [Tz28, TS, hv, s63 s h, aB, s27, f8, xK]
 rw [← s64, hv]
 rfl
end
end Go.Ev
