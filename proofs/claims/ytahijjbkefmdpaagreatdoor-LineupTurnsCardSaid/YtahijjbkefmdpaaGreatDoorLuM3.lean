import Derived.Test.YtahijjbkefmdpaaGreatDoorLuM2
set_option linter.unusedSimpArgs false
set_option linter.unusedVariables false
namespace Go.Ev
open Go.RowKit Go.Proofs
set_option maxRecDepth 100000
set_option maxHeartbeats 4000000
set_option linter.unusedSimpArgs false
noncomputable section
def bt (s : Lu) (i : Int) : List Nat := cond (i == 0) s.b0 (cond (i == 1) s.b1 (cond (i == 2) s.b2 (cond (i == 3) s.b3 (cond (i == 4) s.b4 (cond (i == 5) s.b5 (cond (i == 6) s.b6 (cond (i == 7) s.b7 (cond (i == 8) s.b8 ([])))))))))
def nx (t : Int) : Int := t.tmod 9 + 1
theorem nine {t : Int} (h : 1 ≤ t ∧ t ≤ 9) : t = 1 ∨ t = 2 ∨ t = 3 ∨ t = 4 ∨ t = 5 ∨ t = 6 ∨ t = 7 ∨ t = 8 ∨ t = 9 := by omega
theorem nine0 {t : Int} (h : 0 ≤ t ∧ t ≤ 8) : t = 0 ∨ t = 1 ∨ t = 2 ∨ t = 3 ∨ t = 4 ∨ t = 5 ∨ t = 6 ∨ t = 7 ∨ t = 8 := by omega
theorem s31 (s : Lu) {t : Int} (h : 1 ≤ t ∧ t ≤ 9) : Sz30 (s, t, ()) = some (bt s (t - 1)) := by
 rcases nine h with rfl | rfl | rfl | rfl | rfl | rfl | rfl | rfl | rfl <;> kernel_rfl
theorem s32 {t : Int} (h : 0 ≤ t ∧ t ≤ 9) : Sz31 (t, ()) = some (nx t) := by
 have : t = 0 ∨ t = 1 ∨ t = 2 ∨ t = 3 ∨ t = 4 ∨ t = 5 ∨ t = 6 ∨ t = 7 ∨ t = 8 ∨ t = 9 := by omega
 rcases this with rfl | rfl | rfl | rfl | rfl | rfl | rfl | rfl | rfl | rfl <;> rfl
theorem nx_in {t : Int} (h : 0 ≤ t ∧ t ≤ 9) : 1 ≤ nx t ∧ nx t ≤ 9 := by
 have : t = 0 ∨ t = 1 ∨ t = 2 ∨ t = 3 ∨ t = 4 ∨ t = 5 ∨ t = 6 ∨ t = 7 ∨ t = 8 ∨ t = 9 := by omega
 rcases this with rfl | rfl | rfl | rfl | rfl | rfl | rfl | rfl | rfl | rfl <;> decide
theorem s33 (s : Lu) (c : List Nat) : ∃ v, Sz32 (s, c, ()) = some v ∧ (0 ≤ v ∧ v ≤ 9) ∧ (v ≠ 0 → bt s (v - 1) = c) := by
 show ∃ v, (oN s c).d noE = some v ∧ _
 simp only [oN, TS]
 by_cases h0 : s.b0 = c
 · exact ⟨1, by simp only [h0, decide_true, cond_true], by omega, fun _ => h0⟩
 rw [show decide (s.b0 = c) = false by simpa using h0, cond_false]
 by_cases h1 : s.b1 = c
 · exact ⟨2, by simp only [h1, decide_true, cond_true], by omega, fun _ => h1⟩
 rw [show decide (s.b1 = c) = false by simpa using h1, cond_false]
 by_cases h2 : s.b2 = c
 · exact ⟨3, by simp only [h2, decide_true, cond_true], by omega, fun _ => h2⟩
 rw [show decide (s.b2 = c) = false by simpa using h2, cond_false]
 by_cases h3 : s.b3 = c
 · exact ⟨4, by simp only [h3, decide_true, cond_true], by omega, fun _ => h3⟩
 rw [show decide (s.b3 = c) = false by simpa using h3, cond_false]
 by_cases h4 : s.b4 = c
 · exact ⟨5, by simp only [h4, decide_true, cond_true], by omega, fun _ => h4⟩
 rw [show decide (s.b4 = c) = false by simpa using h4, cond_false]
 by_cases h5 : s.b5 = c
 · exact ⟨6, by simp only [h5, decide_true, cond_true], by omega, fun _ => h5⟩
 rw [show decide (s.b5 = c) = false by simpa using h5, cond_false]
 by_cases h6 : s.b6 = c
 · exact ⟨7, by simp only [h6, decide_true, cond_true], by omega, fun _ => h6⟩
 rw [show decide (s.b6 = c) = false by simpa using h6, cond_false]
 by_cases h7 : s.b7 = c
 · exact ⟨8, by simp only [h7, decide_true, cond_true], by omega, fun _ => h7⟩
 rw [show decide (s.b7 = c) = false by simpa using h7, cond_false]
 by_cases h8 : s.b8 = c
 · exact ⟨9, by simp only [h8, decide_true, cond_true], by omega, fun _ => h8⟩
 rw [show decide (s.b8 = c) = false by simpa using h8, cond_false]
 exact ⟨0, rfl, by omega, fun h => absurd rfl h⟩
theorem s36 (s : Lu) (c : List Nat) : Sz9 (s, c, ()) = Sz32 (s, c, ()) := rfl
def sl (s : Lu) (c : List Nat) : Int := (Sz32 (s, c, ())).getD 0
theorem s33' (s : Lu) (c : List Nat) : Sz32 (s, c, ()) = some (sl s c) := by
 obtain ⟨v, h, _⟩ := s33 s c
 unfold sl; rw [h]; rfl
theorem sl_in (s : Lu) (c : List Nat) : 0 ≤ sl s c ∧ sl s c ≤ 9 := by
 obtain ⟨v, h, h2, _⟩ := s33 s c
 unfold sl; rw [h]; exact h2
theorem c9 {a : Bool} {x : Option Int} (h : cond a (some 9) x = some 0) : a = false ∧ x = some 0 := by
 cases a
 · exact ⟨rfl, h⟩
 · simp at h
theorem c8 {a : Bool} {x : Option Int} (h : cond a (some 8) x = some 0) : a = false ∧ x = some 0 := by
 cases a
 · exact ⟨rfl, h⟩
 · simp at h
theorem sl_at {s : Lu} {X : Option Int} (h : jX s (some 8) (some 9) X = some 0) {p : Int} (hp : 1 ≤ p ∧ p ≤ 9) : sl s (bt s (p - 1)) = p := by
 unfold jX at h
 obtain ⟨_, h⟩ := c8 h
 obtain ⟨a1, h⟩ := c9 h
 obtain ⟨_, h⟩ := c8 h
 obtain ⟨a2, h⟩ := c9 h
 obtain ⟨_, h⟩ := c8 h
 obtain ⟨a3, h⟩ := c9 h
 obtain ⟨_, h⟩ := c8 h
 obtain ⟨a4, h⟩ := c9 h
 obtain ⟨_, h⟩ := c8 h
 obtain ⟨a5, h⟩ := c9 h
 obtain ⟨_, h⟩ := c8 h
 obtain ⟨a6, h⟩ := c9 h
 obtain ⟨_, h⟩ := c8 h
 obtain ⟨a7, h⟩ := c9 h
 obtain ⟨_, h⟩ := c8 h
 obtain ⟨a8, h⟩ := c9 h
 simp only [Bool.or_eq_false_iff] at a1 a2 a3 a4 a5 a6 a7 a8
 obtain ⟨d02, d12⟩ := a2
 obtain ⟨d03, d13, d23⟩ := a3
 obtain ⟨d04, d14, d24, d34⟩ := a4
 obtain ⟨d05, d15, d25, d35, d45⟩ := a5
 obtain ⟨d06, d16, d26, d36, d46, d56⟩ := a6
 obtain ⟨d07, d17, d27, d37, d47, d57, d67⟩ := a7
 obtain ⟨d08, d18, d28, d38, d48, d58, d68, d78⟩ := a8
 have d01 := a1
 unfold sl
 rcases nine hp with rfl | rfl | rfl | rfl | rfl | rfl | rfl | rfl | rfl
 · show ((oN s s.b0).d noE).getD 0 = _
   simp only [oN, TS, decide_true, cond_true, cond_false]; rfl
 · show ((oN s s.b1).d noE).getD 0 = _
   simp only [oN, TS, d01, decide_true, cond_true, cond_false]; rfl
 · show ((oN s s.b2).d noE).getD 0 = _
   simp only [oN, TS, d02, d12, decide_true, cond_true, cond_false]; rfl
 · show ((oN s s.b3).d noE).getD 0 = _
   simp only [oN, TS, d03, d13, d23, decide_true, cond_true, cond_false]; rfl
 · show ((oN s s.b4).d noE).getD 0 = _
   simp only [oN, TS, d04, d14, d24, d34, decide_true, cond_true, cond_false]; rfl
 · show ((oN s s.b5).d noE).getD 0 = _
   simp only [oN, TS, d05, d15, d25, d35, d45, decide_true, cond_true, cond_false]; rfl
 · show ((oN s s.b6).d noE).getD 0 = _
   simp only [oN, TS, d06, d16, d26, d36, d46, d56, decide_true, cond_true, cond_false]; rfl
 · show ((oN s s.b7).d noE).getD 0 = _
   simp only [oN, TS, d07, d17, d27, d37, d47, d57, d67, decide_true, cond_true, cond_false]; rfl
 · show ((oN s s.b8).d noE).getD 0 = _
   simp only [oN, TS, d08, d18, d28, d38, d48, d58, d68, d78, decide_true, cond_true, cond_false]; rfl
theorem s27_3 (a b c : Int) : Sz26 ([a, b, c], ()) = some (cond (a == 0) (cond (b == 0) c b) a) := by
 show (Tz26 [a, b, c]).d (ajO [a, b, c] (63 + 1 + 1 + 1 + 1)) = _
 simp only [Tz26, TS]
 rw [jE]
 simp only [o5, TS]
 rw [show (decide ((0 : Int) < (([a, b, c].length : Nat) : Int))) = true from rfl, inR0 (by simp), show [a, b, c].getD (0 : Int).toNat 0 = a from rfl]
 cases ha : (a == 0) with
 | false => simp only [cond_true, Bool.not_false, cond_false]
 | true =>
   simp only [cond_true, Bool.not_true, cond_false]
   rw [show w6 (0 + 1) = 1 from rfl, jE]
   simp only [o5, TS]
   rw [show (decide ((1 : Int) < (([a, b, c].length : Nat) : Int))) = true from rfl, show inR (1 : Int) [a, b, c].length = true from rfl, show [a, b, c].getD (1 : Int).toNat 0 = b from rfl]
   cases hb : (b == 0) with
   | false => simp only [cond_true, Bool.not_false, cond_false]
   | true =>
     simp only [cond_true, Bool.not_true, cond_false]
     rw [show w6 (1 + 1) = 2 from rfl, jE]
     simp only [o5, TS]
     rw [show (decide ((2 : Int) < (([a, b, c].length : Nat) : Int))) = true from rfl, show inR (2 : Int) [a, b, c].length = true from rfl, show [a, b, c].getD (2 : Int).toNat 0 = c from rfl]
     cases hc : (c == 0) with
     | false => simp only [cond_true, Bool.not_false]
     | true =>
       simp only [cond_true, Bool.not_true, cond_false]
       rw [show w6 (2 + 1) = 3 from rfl, jE]
       simp only [o5, TS]
       rw [show (decide ((3 : Int) < (([a, b, c].length : Nat) : Int))) = false from rfl, cond_false, eq_of_beq hc]
def u1 (s : Lu) : List (List Nat) → Bool
 | [] => true
 | c :: l => !(sl s c == 0) && u1 s l
theorem yB {s : Lu} {u : List (List Nat)} {k : Nat} {c : List Nat} (h : u[k]? = some c) : u1 s (u.drop k) = (!(sl s c == 0) && u1 s (u.drop (k + 1))) := by
 obtain ⟨hk, rfl⟩ := List.getElem?_eq_some_iff.1 h
 rw [List.drop_eq_getElem_cons hk]; rfl
theorem cm_p (s : Lu) (u : List (List Nat)) (hl : u.length < 1000) : ∀ j n k, k + j = u.length → ajN s u (n + j + 1) (.k8 (k : Int)) = some (cond (u1 s (u.drop k)) 0 10) := by
 intro j
 induction j with
 | zero =>
   intro n k hk
   rw [ajM]
   simp only [ajG, TS, vC (show ¬ k < u.length by omega), cond_false, List.drop_eq_nil_of_le (show u.length ≤ k by omega)]; rfl
 | succ j ih =>
   intro n k hk
   have hlt : k < u.length := by omega
   obtain ⟨x, hx⟩ := yV hlt
   rw [ajM]
   simp only [ajG, TS, oW hlt, mB hlt, cond_true, Int.toNat_natCast, q6 hx, s33', aE, w6s (show k < 9223372036854775807 by omega), yB hx]
   rw [show n + (j + 1) = n + j + 1 by omega, ih n (k + 1) (by omega)]
   cases (sl s x == 0) <;> rfl
def cm (s : Lu) (u : List (List Nat)) : Int := cond (decide (256 < ((u.length : Nat) : Int))) 5 (cond (u1 s u) 0 10)
theorem s30 (s : Lu) (u : List (List Nat)) (hl : u.length < 1000) : Sz29 (s, u, ()) = some (cm s u) := by
 show (Tz29 s u).d (ajN s u (u.length + 64)) = _
 simp only [Tz29, TS, cm]
 have := cm_p s u hl u.length 63 0 (by omega)
 rw [List.drop_zero, nc0] at this
 rw [fu, this]
 cases decide (256 < ((u.length : Nat) : Int)) <;> rfl
end
end Go.Ev
