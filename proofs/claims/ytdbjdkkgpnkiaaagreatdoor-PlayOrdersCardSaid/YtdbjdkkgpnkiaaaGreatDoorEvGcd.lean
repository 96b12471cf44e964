import Derived.Test.YtdbjdkkgpnkiaaaGreatDoorEvData
set_option linter.unusedSimpArgs false
set_option linter.unusedVariables false
namespace Go.Ev
open Go.RowKit

/-! divisors, ratios: numbers alone -/
/-- the last number of the remainders that is not 0, as Go's remainder goes -/
def tg (a b : Int) : Int := if h : b = 0 then a else tg b (a.tmod b)
termination_by b.natAbs
decreasing_by
  rw [Int.natAbs_tmod]
  exact Nat.mod_lt _ (by omega)

theorem tg_zero (a : Int) : tg a 0 = a := by rw [tg]; simp
theorem tg_step (a b : Int) (h : b ≠ 0) : tg a b = tg b (a.tmod b) := by rw [tg]; simp [h]

theorem tg_natAbs : ∀ (n : Nat) (a b : Int), b.natAbs ≤ n → (tg a b).natAbs = Nat.gcd a.natAbs b.natAbs
  | n, a, b, h => by
    by_cases hb : b = 0
    · subst hb; rw [tg_zero]; simp
    · rw [tg_step a b hb]
      cases n with
      | zero => omega
      | succ n =>
        have hlt : (a.tmod b).natAbs < b.natAbs := by rw [Int.natAbs_tmod]; exact Nat.mod_lt _ (by omega)
        rw [tg_natAbs n b (a.tmod b) (by omega), Int.natAbs_tmod, Nat.gcd_comm, ← Nat.gcd_rec, Nat.gcd_comm]
theorem tg_abs (a b : Int) : (tg a b).natAbs = Nat.gcd a.natAbs b.natAbs := tg_natAbs _ a b (Nat.le_refl _)
theorem tmod_small {a b m : Int} (hb : b ≠ 0) (h : -m ≤ b ∧ b ≤ m) : -m ≤ a.tmod b ∧ a.tmod b ≤ m := by
  have h1 := Int.natAbs_tmod a b
  have h2 : a.natAbs % b.natAbs < b.natAbs := Nat.mod_lt _ (by omega)
  omega
theorem tmod_lt {a b : Int} (hb : b ≠ 0) : (a.tmod b).natAbs < b.natAbs := by
  rw [Int.natAbs_tmod]; exact Nat.mod_lt _ (by omega)
theorem tg_bounds (a b : Int) (h0 : b ≠ 0) : (tg a b).natAbs ≤ b.natAbs ∧ tg a b ≠ 0 := by
  have h := tg_abs a b
  have h1 : Nat.gcd a.natAbs b.natAbs ≤ b.natAbs := Nat.gcd_le_right _ (by omega)
  have h2 : 0 < Nat.gcd a.natAbs b.natAbs := Nat.gcd_pos_of_pos_right _ (by omega)
  omega
theorem tg_nonneg : ∀ (n : Nat) (a b : Int), b.natAbs ≤ n → 0 ≤ a → 0 ≤ b → 0 ≤ tg a b
  | n, a, b, h, ha, hb => by
    by_cases h0 : b = 0
    · subst h0; rw [tg_zero]; exact ha
    · rw [tg_step a b h0]
      cases n with
      | zero => omega
      | succ n =>
        have hlt := tmod_lt (a := a) h0
        refine tg_nonneg n b (a.tmod b) (by omega) hb ?_
        rw [Int.tmod_eq_emod_of_nonneg ha]
        exact Int.emod_nonneg _ h0
/-- the greatest common divisor, of the numbers without their signs -/
def gcdI (a b : Int) : Int := (Nat.gcd a.natAbs b.natAbs : Nat)
theorem tg_pos {a b : Int} (ha : 0 ≤ a) (hb : 0 ≤ b) : tg a b = gcdI a b := by
  have h1 := tg_nonneg _ a b (Nat.le_refl _) ha hb
  have h2 := tg_abs a b
  unfold gcdI
  omega
/-- the divisor with the sign of b -/
def dv (a b : Int) : Int := if b < 0 then -(gcdI a b) else gcdI a b
theorem dv_ne (a b : Int) (h : b ≠ 0) : dv a b ≠ 0 := by
  have h2 : 0 < Nat.gcd a.natAbs b.natAbs := Nat.gcd_pos_of_pos_right _ (by omega)
  unfold dv gcdI
  split <;> omega
theorem dv_tg (a b : Int) (h : b ≠ 0) : (if decide (tg a b < 0) = decide (b < 0) then tg a b else -tg a b) = dv a b := by
  have h1 := tg_abs a b
  have h2 : 0 < Nat.gcd a.natAbs b.natAbs := Nat.gcd_pos_of_pos_right _ (by omega)
  unfold dv gcdI
  by_cases h3 : b < 0 <;> by_cases h4 : tg a b < 0 <;> simp [h3, h4] <;> omega
theorem tdiv_bounds (a g : Int) (m : Int) (ha : -m ≤ a ∧ a ≤ m) : -m ≤ a.tdiv g ∧ a.tdiv g ≤ m := by
  have h1 : (a.tdiv g).natAbs = a.natAbs / g.natAbs := Int.natAbs_tdiv a g
  have h2 : a.natAbs / g.natAbs ≤ a.natAbs := Nat.div_le_self _ _
  omega
/-- a quotient in lowest terms -/
def lowN (n d : Int) : Int := n.tdiv (dv n d)
def lowD (n d : Int) : Int := d.tdiv (dv n d)
theorem tdiv_one {n g : Int} (hn : n ≠ 0) (h : n.tdiv g = n) : g = 1 := by
  have h1 : (n.tdiv g).natAbs = n.natAbs / g.natAbs := Int.natAbs_tdiv n g
  rw [h] at h1
  have hg : g.natAbs = 1 := by
    rcases Nat.lt_or_ge g.natAbs 2 with h2 | h2
    · rcases Nat.eq_zero_or_pos g.natAbs with h3 | h3
      · rw [h3] at h1; simp at h1; omega
      · omega
    · have := Nat.div_lt_self (n := n.natAbs) (k := g.natAbs) (by omega) h2
      omega
  rcases Int.natAbs_eq g with h3 | h3
  · rw [hg] at h3; omega
  · rw [hg] at h3
    rw [h3] at h
    simp at h
    omega
/-- lowest terms are those whose divisor is 1 -/
theorem low_iff (n d : Int) (hd : 1 ≤ d) : (n = lowN n d ∧ d = lowD n d) ↔ gcdI n d = 1 := by
  have e : dv n d = gcdI n d := by unfold dv; rw [if_neg (by omega)]
  unfold lowN lowD
  rw [e]
  constructor
  · rintro ⟨_, h⟩
    exact tdiv_one (by omega) h.symm
  · intro h
    rw [h]; simp

def cmpI (x y : Int) : Int := if x < y then -1 else if y < x then 1 else 0
theorem cmpI_neg (x y : Int) : cmpI x y = -cmpI y x := by unfold cmpI; split <;> split <;> (try split) <;> omega
theorem cmpI_zero (x y : Int) : cmpI x y = 0 ↔ x = y := by unfold cmpI; split <;> (try split) <;> omega
theorem cmpI_lt (x y : Int) : cmpI x y = -1 ↔ x < y := by unfold cmpI; split <;> (try split) <;> omega
theorem cmpI_gt (x y : Int) : cmpI x y = 1 ↔ y < x := by unfold cmpI; split <;> (try split) <;> omega
theorem cmpI_cases (x y : Int) : cmpI x y = -1 ∨ cmpI x y = 0 ∨ cmpI x y = 1 := by unfold cmpI; split <;> (try split) <;> omega

/-- equal quotients in lowest terms are the same -/
theorem low_unique {a b c d : Int} (hb : 1 ≤ b) (hd : 1 ≤ d) (h1 : gcdI a b = 1) (h2 : gcdI c d = 1) (h : a * d = c * b) : a = c ∧ b = d := by
  have g1 : Nat.gcd a.natAbs b.natAbs = 1 := by unfold gcdI at h1; omega
  have g2 : Nat.gcd c.natAbs d.natAbs = 1 := by unfold gcdI at h2; omega
  have hm : a.natAbs * d.natAbs = c.natAbs * b.natAbs := by rw [← Int.natAbs_mul, ← Int.natAbs_mul, h]
  have d1 : b.natAbs ∣ d.natAbs := (Nat.Coprime.dvd_of_dvd_mul_left (k := b.natAbs) (m := a.natAbs) (by rw [Nat.coprime_comm]; exact g1) ⟨c.natAbs, by rw [hm, Nat.mul_comm]⟩)
  have d2 : d.natAbs ∣ b.natAbs := (Nat.Coprime.dvd_of_dvd_mul_left (k := d.natAbs) (m := c.natAbs) (by rw [Nat.coprime_comm]; exact g2) ⟨a.natAbs, by rw [← hm, Nat.mul_comm]⟩)
  have e := Nat.dvd_antisymm d1 d2
  have e' : b = d := by omega
  subst e'
  exact ⟨Int.eq_of_mul_eq_mul_right (by omega) h, rfl⟩

/-- a quotient of multiples -/
theorem low_scale {n d k : Int} (hd : 1 ≤ d) (hk : k ≠ 0) (h : gcdI n d = 1) : lowN (n * k) (d * k) = n ∧ lowD (n * k) (d * k) = d := by
  have g1 : Nat.gcd n.natAbs d.natAbs = 1 := by unfold gcdI at h; omega
  have g : gcdI (n * k) (d * k) = k.natAbs := by
    unfold gcdI
    rw [Int.natAbs_mul, Int.natAbs_mul, Nat.gcd_mul_right, g1, Nat.one_mul]
  have e : dv (n * k) (d * k) = k := by
    unfold dv
    rw [g]
    rcases Int.lt_or_gt_of_ne hk with hk | hk
    · rw [if_pos (by exact Int.mul_neg_of_pos_of_neg (by omega) hk)]; omega
    · rw [if_neg (by have := Int.mul_pos (show 0 < d by omega) hk; omega)]; omega
  unfold lowN lowD
  rw [e]
  exact ⟨Int.mul_tdiv_cancel _ hk, Int.mul_tdiv_cancel _ hk⟩
theorem lt_trans3 {a b c d e f : Int} (hb : 1 ≤ b) (hd : 1 ≤ d) (hf : 1 ≤ f) (h1 : a * d < c * b) (h2 : c * f < e * d) : a * f < e * b := by
  have h3 : a * d * f < c * b * f := Int.mul_lt_mul_of_pos_right h1 (by omega)
  have h4 : c * f * b < e * d * b := Int.mul_lt_mul_of_pos_right h2 (by omega)
  have h5 : c * b * f = c * f * b := by rw [Int.mul_assoc, Int.mul_assoc, Int.mul_comm b f]
  have h6 : a * f * d < e * b * d := by
    have e1 : a * d * f = a * f * d := by rw [Int.mul_assoc, Int.mul_assoc, Int.mul_comm d f]
    have e2 : e * d * b = e * b * d := by rw [Int.mul_assoc, Int.mul_assoc, Int.mul_comm d b]
    omega
  exact Int.lt_of_mul_lt_mul_right h6 (by omega)
theorem mul_small {x y m : Int} (h1 : -m ≤ x ∧ x ≤ m) (h2 : -m ≤ y ∧ y ≤ m) : -(m * m) ≤ x * y ∧ x * y ≤ m * m := by
  have h : (x * y).natAbs = x.natAbs * y.natAbs := Int.natAbs_mul x y
  have h2 : x.natAbs * y.natAbs ≤ m.toNat * m.toNat := Nat.mul_le_mul (by omega) (by omega)
  have h3 : ((m.toNat * m.toNat : Nat) : Int) = m * m := by rw [Int.natCast_mul, Int.toNat_of_nonneg (by omega)]
  omega
theorem cmp_trans {a b c d e f : Int} (hb : 1 ≤ b) (hd : 1 ≤ d) (hf : 1 ≤ f) (h : cmpI (a * d) (c * b) = cmpI (c * f) (e * d)) : cmpI (a * f) (e * b) = cmpI (a * d) (c * b) := by
  rcases cmpI_cases (a * d) (c * b) with h1 | h1 | h1
  · rw [h1] at h ⊢
    rw [cmpI_lt] at *
    exact lt_trans3 hb hd hf h1 ((cmpI_lt _ _).1 h.symm)
  · rw [h1] at h ⊢
    have h2 := (cmpI_zero _ _).1 h.symm
    rw [cmpI_zero] at *
    have e1 : a * f * d = e * b * d := by
      have q1 : a * f * d = a * d * f := by rw [Int.mul_assoc, Int.mul_assoc, Int.mul_comm d f]
      have q2 : c * b * f = c * f * b := by rw [Int.mul_assoc, Int.mul_assoc, Int.mul_comm b f]
      have q3 : e * d * b = e * b * d := by rw [Int.mul_assoc, Int.mul_assoc, Int.mul_comm d b]
      rw [q1, h1, q2, h2, q3]
    exact Int.eq_of_mul_eq_mul_right (by omega) e1
  · rw [h1] at h ⊢
    rw [cmpI_gt] at *
    exact lt_trans3 hf hd hb ((cmpI_gt _ _).1 h.symm) h1
theorem cmp_more {n d : Int} (hd : 1 ≤ d) : cmpI (n * d) ((n + d) * d) = -1 := by
  rw [cmpI_lt, Int.add_mul]
  have := Int.mul_pos (show 0 < d by omega) (show 0 < d by omega)
  omega
theorem gcd_more (n d : Int) : gcdI (n + d) d = gcdI n d := by
  unfold gcdI
  have h : Int.gcd (n + d) d = Int.gcd n d := by simp
  unfold Int.gcd at h
  rw [h]
/-- a ratio: in its ranges and in lowest terms -/
def ratioE (n d : Int) : Int := if (-999999999 ≤ n ∧ n ≤ 999999999) ∧ (1 ≤ d ∧ d ≤ 999999999) then (if gcdI n d = 1 then 0 else 1) else 3
theorem ratioE_zero {n d : Int} (h : ratioE n d = 0) : (-999999999 ≤ n ∧ n ≤ 999999999) ∧ (1 ≤ d ∧ d ≤ 999999999) ∧ gcdI n d = 1 := by
  unfold ratioE at h
  split at h
  · rename_i h1
    split at h
    · rename_i h2; exact ⟨h1.1, h1.2, h2⟩
    · cases h
  · cases h
theorem ratioE_ok {n d : Int} (h1 : -999999999 ≤ n ∧ n ≤ 999999999) (h2 : 1 ≤ d ∧ d ≤ 999999999) (h3 : gcdI n d = 1) : ratioE n d = 0 := by
  unfold ratioE; rw [if_pos ⟨h1, h2⟩, if_pos h3]
end Go.Ev
