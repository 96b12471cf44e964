import Derived.Test.YtahijjbkefmdpaaGreatDoorLuM1
set_option linter.unusedSimpArgs false
set_option linter.unusedVariables false
namespace Go.Ev
open Go.RowKit Go.Proofs
set_option maxRecDepth 100000
set_option maxHeartbeats 4000000
set_option linter.unusedSimpArgs false
noncomputable section
structure LuB (s : Lu) : Prop where
 y : aQ s.b0 = true ∧ aQ s.b1 = true ∧ aQ s.b2 = true ∧ aQ s.b3 = true ∧ aQ s.b4 = true ∧ aQ s.b5 = true ∧ aQ s.b6 = true ∧ aQ s.b7 = true ∧ aQ s.b8 = true
 l : True
def rg (p : Int) : Bool := decide (1 ≤ p) && decide (p ≤ 9)
theorem s29 (p : Int) : yY (p, ()) = some (cond (rg p) 0 3) := by
 show (Tz28 p).d noE = _
 have h : Sz63 (p, 1, 9, ()) = some (rg p) := by
  show (Tz63 p 1 9).d noE = _
  simp only [Tz63, TS, rg]
  cases decide (1 ≤ p) <;> rfl
 simp only [Tz28, TS, h, aE]
 cases rg p <;> rfl
theorem inR0 {n : Nat} (h : 0 < n) : inR (0 : Int) n = true := by simp only [inR]; simp; omega
theorem s27 (a b : Int) : Sz26 ([a, b], ()) = some (cond (a == 0) b a) := by
 show (Tz26 [a, b]).d (ajO [a, b] (63 + 1 + 1 + 1)) = _
 simp only [Tz26, TS]
 rw [jE]
 simp only [o5, TS]
 rw [show (decide ((0 : Int) < (([a, b].length : Nat) : Int))) = true from rfl, inR0 (by simp), show [a, b].getD (0 : Int).toNat 0 = a from rfl]
 cases ha : (a == 0) with
 | false => simp only [cond_true, Bool.not_false, cond_false]
 | true =>
   simp only [cond_true, Bool.not_true, cond_false]
   rw [show w6 (0 + 1) = 1 from rfl, jE]
   simp only [o5, TS]
   rw [show (decide ((1 : Int) < (([a, b].length : Nat) : Int))) = true from rfl, show inR (1 : Int) [a, b].length = true from rfl, show [a, b].getD (1 : Int).toNat 0 = b from rfl]
   cases hb : (b == 0) with
   | false => simp only [cond_true, Bool.not_false]
   | true =>
     simp only [cond_true, Bool.not_true, cond_false]
     rw [show w6 (1 + 1) = 2 from rfl, jE]
     simp only [o5, TS]
     rw [show (decide ((2 : Int) < (([a, b].length : Nat) : Int))) = false from rfl, cond_false]
     rw [eq_of_beq hb]
theorem wM {α : Type} [DecidableEq α] {l : List α} {x y : α} {i1 : Decidable (y ∈ insK l x)} [Decidable (y ∈ l)] [Decidable (x = y)] : @decide (y ∈ insK l x) i1 = (decide (y ∈ l) || decide (x = y)) := by
 have key : y ∈ insK l x ↔ (y ∈ l ∨ x = y) := by
  unfold insK
  by_cases h : x ∈ l
  · rw [show decide (x ∈ l) = true by simpa using h, cond_true]
    exact ⟨.inl, fun q => q.elim id fun e => e ▸ h⟩
  · rw [show decide (x ∈ l) = false by simpa using h, cond_false, List.mem_append, List.mem_singleton]
    exact ⟨fun q => q.imp id Eq.symm, fun q => q.imp id Eq.symm⟩
 rw [show (@decide _ i1) = decide (y ∈ l ∨ x = y) from decide_eq_decide.2 key]
 exact Bool.decide_or _ _
theorem aqC {α : Type} {y : α} {i : Decidable (y ∈ ([] : List α))} : @decide (y ∈ ([] : List α)) i = false := by simp
theorem vL {α : Type} {a b : Bool} {x y : α} : cond a x (cond b x y) = cond (a || b) x y := by cases a <;> rfl
theorem xT {α β : Type} {c : Bool} {a b : Option α} {k : α → Option β} : iL (cond c a b) k = cond c (iL a k) (iL b k) := by cases c <;> rfl
theorem rg_cond {p : Int} {X : Option Int} : cond (!((cond (rg p) (0 : Int) 3) == 0)) (some (cond (rg p) (0 : Int) 3)) X = cond (!rg p) (some 3) X := by cases rg p <;> rfl
theorem axR {p : Int} : (decide (p < 1) || decide (9 < p)) = !rg p := by
 unfold rg
 by_cases h1 : 1 ≤ p <;> by_cases h2 : p ≤ 9 <;> simp [h1, h2] <;> omega
theorem ibd {a b : Int} : (a == b) = decide (a = b) := by by_cases h : a = b <;> simp [h]
theorem rg_not2 {p : Int} {X : Bool} : (decide (p < 1) || (decide (9 < p) || X)) = (!rg p || X) := by rw [← Bool.or_assoc, axR]
def jX {α : Type} (s : Lu) (e8 e9 : α) (x : α) : α :=
 cond (!nmB s.b0 || !nmB s.b1) e8 (cond (decide (s.b0 = s.b1)) e9 (cond (!nmB s.b2) e8 (cond (decide (s.b0 = s.b2) || decide (s.b1 = s.b2)) e9 (cond (!nmB s.b3) e8 (cond (decide (s.b0 = s.b3) || (decide (s.b1 = s.b3) || decide (s.b2 = s.b3))) e9 (cond (!nmB s.b4) e8 (cond (decide (s.b0 = s.b4) || (decide (s.b1 = s.b4) || (decide (s.b2 = s.b4) || decide (s.b3 = s.b4)))) e9 (cond (!nmB s.b5) e8 (cond (decide (s.b0 = s.b5) || (decide (s.b1 = s.b5) || (decide (s.b2 = s.b5) || (decide (s.b3 = s.b5) || decide (s.b4 = s.b5))))) e9 (cond (!nmB s.b6) e8 (cond (decide (s.b0 = s.b6) || (decide (s.b1 = s.b6) || (decide (s.b2 = s.b6) || (decide (s.b3 = s.b6) || (decide (s.b4 = s.b6) || decide (s.b5 = s.b6)))))) e9 (cond (!nmB s.b7) e8 (cond (decide (s.b0 = s.b7) || (decide (s.b1 = s.b7) || (decide (s.b2 = s.b7) || (decide (s.b3 = s.b7) || (decide (s.b4 = s.b7) || (decide (s.b5 = s.b7) || decide (s.b6 = s.b7))))))) e9 (cond (!nmB s.b8) e8 (cond (decide (s.b0 = s.b8) || (decide (s.b1 = s.b8) || (decide (s.b2 = s.b8) || (decide (s.b3 = s.b8) || (decide (s.b4 = s.b8) || (decide (s.b5 = s.b8) || (decide (s.b6 = s.b8) || decide (s.b7 = s.b8)))))))) e9 x)))))))))))))))
def posT {α : Type} (s : Lu) (e3 e29 : α) (x : α) : α :=
 cond (!rg s.p0 || !rg s.p1) e3 (cond (decide (s.p0 = s.p1)) e29 (cond (!rg s.p2) e3 (cond (decide (s.p0 = s.p2) || decide (s.p1 = s.p2)) e29 (cond (!rg s.p3) e3 (cond (decide (s.p0 = s.p3) || (decide (s.p1 = s.p3) || decide (s.p2 = s.p3))) e29 (cond (!rg s.p4) e3 (cond (decide (s.p0 = s.p4) || (decide (s.p1 = s.p4) || (decide (s.p2 = s.p4) || decide (s.p3 = s.p4)))) e29 (cond (!rg s.p5) e3 (cond (decide (s.p0 = s.p5) || (decide (s.p1 = s.p5) || (decide (s.p2 = s.p5) || (decide (s.p3 = s.p5) || decide (s.p4 = s.p5))))) e29 (cond (!rg s.p6) e3 (cond (decide (s.p0 = s.p6) || (decide (s.p1 = s.p6) || (decide (s.p2 = s.p6) || (decide (s.p3 = s.p6) || (decide (s.p4 = s.p6) || decide (s.p5 = s.p6)))))) e29 (cond (!rg s.p7) e3 (cond (decide (s.p0 = s.p7) || (decide (s.p1 = s.p7) || (decide (s.p2 = s.p7) || (decide (s.p3 = s.p7) || (decide (s.p4 = s.p7) || (decide (s.p5 = s.p7) || decide (s.p6 = s.p7))))))) e29 (cond (!rg s.p8) e3 (cond (decide (s.p0 = s.p8) || (decide (s.p1 = s.p8) || (decide (s.p2 = s.p8) || (decide (s.p3 = s.p8) || (decide (s.p4 = s.p8) || (decide (s.p5 = s.p8) || (decide (s.p6 = s.p8) || decide (s.p7 = s.p8)))))))) e29 x)))))))))))))))
theorem s63 (s : Lu) (h : LuB s) : Sz61 (s, ()) = jX s (some 8) (some 9) (some 0) := by
 obtain ⟨⟨y0, y1, y2, y3, y4, y5, y6, y7, y8⟩, _⟩ := h
 show (Tz61 s).d noE = _
 simp only [Tz61, TS, s77 _ y0, s77 _ y1, s77 _ y2, s77 _ y3, s77 _ y4, s77 _ y5, s77 _ y6, s77 _ y7, s77 _ y8, aE, wM, aqC, Bool.false_or, Bool.or_assoc, cond_false, vL, jX]
theorem s64 (s : Lu) : Sz62 (s, ()) = posT s (some 3) (some 29) (some 0) := by
 show (Tz62 s).d noE = _
 simp only [Tz62, TS, s29, aE, wM, aqC, Bool.false_or, Bool.or_assoc, cond_false, rg_cond, vL, posT]
theorem s7 (s : Lu) (h : LuB s) : Sz5 (s, ()) = jX s (some 8) (some 9) (posT s (some 3) (some 29) (some 0)) := by
 show (Tz5 s).d noE = _
 simp only [Tz5, TS, s34, aE, vL, axR, rg_not2, ibd, jX, posT]
theorem s28 (s : Lu) (h : LuB s) : Sz27 (s, ()) = Sz5 (s, ()) := by
 rw [s7 s h]
 show (Tz27 s).d noE = _
 obtain ⟨v, hv⟩ : ∃ v, Sz62 (s, ()) = some v := by
  rw [s64]
  have : ∀ {c : Bool} {a b : Option Int}, (∃ v, a = some v) → (∃ v, b = some v) → ∃ v, cond c a b = some v := fun {c} _ _ h1 h2 => by cases c <;> assumption
  unfold posT
  repeat' first | exact ⟨_, rfl⟩ | apply this
 simp only [Tz27, TS, hv, s63 s h, aE, s27, jX, xT]
 rw [← s64, hv]
 rfl
end
end Go.Ev
