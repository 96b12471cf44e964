import Derived.Test.YtcmlciebgapmjaaGreatDoorHelped
import Derived.Test.YtcmlciebgapmjaaGreatDoorCopy2
set_option linter.unusedSimpArgs false
set_option linter.unusedVariables false
namespace Go.Ev
open Go.RowKit Go.Proofs
set_option maxRecDepth 20000
set_option maxHeartbeats 8000000

/-! sums over the moves of a valid play -/
def dW (m : Mv) : Int := (m.b.length : Int)
theorem sumM_append (g : Mv → Int) (a b : List Mv) : bW g (a ++ b) = bW g a + bW g b := by
  induction a with
  | nil => simp [bW]
  | cons m a ih => simp only [List.cons_append, bW, ih]; omega
theorem sumM_take {g : Mv → Int} {l : List Mv} {k : Nat} {m : Mv} (h : l[k]? = some m) : bW g (l.take (k + 1)) = bW g (l.take k) + g m := by
  rw [List.take_add_one, h, sumM_append]; simp [bW]
theorem sumM_bound {g : Mv → Int} {lo hi : Int} : ∀ {l : List Mv}, (∀ m ∈ l, lo ≤ g m ∧ g m ≤ hi) → lo * (l.length : Int) ≤ bW g l ∧ bW g l ≤ hi * (l.length : Int)
  | [], _ => by simp [bW]
  | m :: l, h => by
    have h1 := h m List.mem_cons_self
    have h2 := sumM_bound (l := l) fun x hx => h x (List.mem_cons_of_mem _ hx)
    simp only [bW, List.length_cons, Int.natCast_add, Int.mul_add]
    simp only [Int.natCast_one, Int.mul_one] at *
    omega
theorem sumM_small {g : Mv → Int} {l : List Mv} {k : Nat} (hl : l.length ≤ 4) (h : ∀ m ∈ l, -100 ≤ g m ∧ g m ≤ 100) : -400 ≤ bW g (l.take k) ∧ bW g (l.take k) ≤ 400 := by
  have := sumM_bound (l := l.take k) fun m hm => h m (List.mem_of_mem_take hm)
  have h4 : ((l.take k).length : Int) ≤ 4 := by simp only [List.length_take]; omega
  omega
theorem potL_get {l : List Mv} {k : Nat} {m : Mv} (h : l[k]? = some m) (ho : m.o = true) : (dC l)[(dC (l.take k)).length]? = some (lastT m) ∧ (dC (l.take k)).length < (dC l).length := by
  obtain ⟨hk, rfl⟩ := List.getElem?_eq_some_iff.1 h
  have e : dC l = dC (l.take k) ++ (lastT l[k] :: dC (l.drop (k + 1))) := by
    have hap : ∀ a b : List Mv, dC (a ++ b) = dC a ++ dC b := fun a b => by simp [dC]
    have hc : ∀ r : List Mv, dC (l[k] :: r) = lastT l[k] :: dC r := fun r => by simp only [dC, List.filter_cons, isO, ho, if_true, List.map_cons]
    rw [← hc, ← hap, ← List.drop_eq_getElem_cons hk, List.take_append_drop]
  constructor
  · rw [e, List.getElem?_append_right (Nat.le_refl _)]; simp
  · rw [e]; simp
theorem mvGo_desc : ∀ {l : List Mv} {p : Option Int}, mvGo p l = 0 → l.Pairwise (fun a b => b.f < a.f) ∧ ∀ q, p = some q → ∀ m ∈ l, m.f < q
  | [], _, _ => ⟨.nil, fun _ _ _ h => by cases h⟩
  | m :: l, p, h => by
    simp only [mvGo] at h
    split at h
    · rename_i h1; exact absurd h h1
    · split at h
      · cases h
      · rename_i h2
        obtain ⟨h3, h4⟩ := mvGo_desc h
        have h5 := h4 m.f rfl
        refine ⟨.cons (fun x hx => h5 x hx) h3, ?_⟩
        rintro q rfl x hx
        simp at h2
        rcases List.mem_cons.1 hx with rfl | hx
        · omega
        · have := h5 x hx; omega
theorem find_own {l : List Mv} {k : Nat} {m : Mv} (h : movesE l = 0) (hk : l[k]? = some m) : l.find? (fun x => x.f == m.f) = some m := by
  refine find_hit hk (fun x hx => ?_) (by simp)
  unfold movesE at h
  split at h
  · cases h
  have hp := (mvGo_desc h).1
  rw [List.pairwise_iff_getElem] at hp
  obtain ⟨hkl, rfl⟩ := List.getElem?_eq_some_iff.1 hk
  obtain ⟨j, hj, rfl⟩ := List.mem_take_iff_getElem.1 hx
  have := hp j k (by omega) hkl (by omega)
  simp; omega
theorem oneTo_sorted (k : Nat) : (oneTo k).Pairwise (· < ·) := by
  unfold oneTo
  rw [List.pairwise_map]
  exact (List.pairwise_lt_range).imp fun h => by omega
theorem helpL_sorted (b : List Int) (k : Nat) : (cZ b k).Pairwise (· < ·) := (oneTo_sorted k).filter _
theorem helpL_any {b : List Int} {x : Int} (hx : b.any (· == x) = true) (h1 : 1 ≤ x) (h9 : x ≤ 9) (hl : x ≠ b.getLastD 0) : (cZ b 9).any (· == x) = true := by
  rw [List.any_eq_true]
  refine ⟨x, ?_, by simp⟩
  unfold cZ
  rw [List.mem_filter]
  refine ⟨?_, by simp only [helpB, hx, Bool.and_true]; simpa using hl⟩
  unfold oneTo
  rw [List.mem_map]
  exact ⟨(x - 1).toNat, by simp; omega, by omega⟩
theorem helpL_in {b : List Int} {k : Nat} {y : Int} (h : y ∈ cZ b k) : b.any (· == y) = true ∧ y ≠ b.getLastD 0 := by
  unfold cZ at h
  rw [List.mem_filter] at h
  have := h.2
  simp only [helpB, Bool.and_eq_true, bne_iff_ne, ne_eq] at this
  exact ⟨this.2, this.1⟩
theorem helpL_last (b : List Int) (k : Nat) : (cZ b k).any (· == b.getLastD 0) = false := by
  rw [List.any_eq_false]
  intro x hx
  have := (helpL_in hx).2
  simpa using this
/-- a list of nine counts, of which none is larger than the sum -/
def dV : List Int → Int
  | [] => 0
  | a :: l => a + dV l
theorem sumI_append (a b : List Int) : dV (a ++ b) = dV a + dV b := by
  induction a with
  | nil => simp [dV]
  | cons x a ih => simp only [List.cons_append, dV, ih]; omega
theorem sumI_take {l : List Int} {k : Nat} {x : Int} (h : l[k]? = some x) : dV (l.take (k + 1)) = dV (l.take k) + x := by
  rw [List.take_add_one, h, sumI_append]; simp [dV]
theorem sumI_nonneg : ∀ {l : List Int}, (∀ x ∈ l, 0 ≤ x) → 0 ≤ dV l
  | [], _ => by simp [dV]
  | a :: l, h => by
    have h1 := h a List.mem_cons_self
    have h2 := sumI_nonneg (l := l) fun x hx => h x (List.mem_cons_of_mem _ hx)
    simp only [dV]; omega
theorem sumI_split {l : List Int} {k : Nat} : dV l = dV (l.take k) + dV (l.drop k) := by rw [← sumI_append, List.take_append_drop]
theorem sumI_take_le {l : List Int} {k : Nat} (h : ∀ x ∈ l, 0 ≤ x) : 0 ≤ dV (l.take k) ∧ dV (l.take k) ≤ dV l := by
  have h1 := sumI_nonneg (l := l.take k) fun x hx => h x (List.mem_of_mem_take hx)
  have h2 := sumI_nonneg (l := l.drop k) fun x hx => h x (List.mem_of_mem_drop hx)
  have := sumI_split (l := l) (k := k)
  omega
def cntOK (c : List Int) (s : Int) : Prop := c.length = 9 ∧ (∀ x ∈ c, 0 ≤ x) ∧ dV c = s
theorem incAt_ok {c : List Int} {s n : Int} (h : cntOK c s) (hs : s < 1000000) (h1 : 1 ≤ n) (h9 : n ≤ 9) : cntOK (incAt c n) (s + 1) := by
  obtain ⟨a, b, d⟩ := h
  have hj : (n - 1).toNat < c.length := by omega
  generalize hjj : (n - 1).toNat = j at hj
  have hx : c[j]? = some c[j] := List.getElem?_eq_getElem hj
  have hb := b c[j] (List.getElem_mem hj)
  have hle : c[j] ≤ s := by
    have t1 := sumI_take hx
    have t2 := sumI_take_le (k := j) b
    have t3 := sumI_take_le (k := j + 1) b
    omega
  have hw : IntKind.i64.wrap (c.getD j 0 + 1) = c[j] + 1 := by
    rw [List.getD_eq_getElem?_getD, hx, Option.getD_some, bE] <;> omega
  have he : incAt c n = c.take j ++ (c[j] + 1) :: c.drop (j + 1) := by
    unfold incAt
    rw [hjj, hw, List.set_eq_take_append_cons_drop, if_pos hj]
  refine ⟨by rw [incAt_len]; exact a, fun x hx' => ?_, ?_⟩
  · rw [he] at hx'
    rcases List.mem_append.1 hx' with h' | h'
    · exact b x (List.mem_of_mem_take h')
    · rcases List.mem_cons.1 h' with rfl | h'
      · omega
      · exact b x (List.mem_of_mem_drop h')
  · rw [he, sumI_append]
    have e1 : dV c = dV (c.take j) + (c[j] + dV (c.drop (j + 1))) := by
      have := sumI_split (l := c) (k := j)
      rw [List.drop_eq_getElem_cons hj] at this
      exact this
    simp only [dV]; omega
theorem tchB_ok : ∀ (b : List Int) {c : List Int} {s : Int}, cntOK c s → inNine b = true → s + (b.length : Int) < 1000000 → cntOK (tchB c b) (s + (b.length : Int))
  | [], c, s, h, _, _ => by simpa [tchB] using h
  | x :: b, c, s, h, hb, hs => by
    simp only [inNine, List.all_cons, Bool.and_eq_true, decide_eq_true_eq] at hb
    simp only [List.length_cons, Int.natCast_add, Int.natCast_one] at hs ⊢
    have h1 := incAt_ok h (by omega) hb.1.1 hb.1.2
    have h2 := tchB_ok b h1 hb.2 (by omega)
    have e : s + 1 + (b.length : Int) = s + ((b.length : Int) + 1) := by omega
    rw [e] at h2
    exact h2
theorem tchL_ok : ∀ (l : List Mv) {c : List Int} {s : Int}, cntOK c s → (∀ m ∈ l, inNine m.b = true) → s + bW dW l < 1000000 → cntOK (dT c l) (s + bW dW l)
  | [], c, s, h, _, _ => by simpa [dT, bW] using h
  | m :: l, c, s, h, hl, hs => by
    have h0 : 0 ≤ bW dW l := by
      have : ∀ l : List Mv, 0 ≤ bW dW l := fun l => by
        induction l with
        | nil => simp [bW]
        | cons a l ih => simp only [bW, dW]; omega
      exact this l
    have hm : bW dW (m :: l) = (m.b.length : Int) + bW dW l := rfl
    rw [hm] at hs ⊢
    have h1 := tchB_ok m.b h (hl m List.mem_cons_self) (by omega)
    have h2 := tchL_ok l h1 (fun x hx => hl x (List.mem_cons_of_mem _ hx)) (by omega)
    have e : s + (m.b.length : Int) + bW dW l = s + ((m.b.length : Int) + bW dW l) := by omega
    rw [e] at h2
    exact h2
theorem nine0_ok : cntOK dA 0 := ⟨rfl, by simp [dA], rfl⟩
theorem valid_copy {p e : List Nat} {l : List Mv} (h : playE p e l = 0) : copyOK l = true := by
  obtain ⟨h4, hm⟩ := movesE_zero (playE_zero h).2.2
  simp only [copyOK, Bool.and_eq_true, decide_eq_true_eq, List.all_eq_true]
  exact ⟨by omega, fun m hx => by have := mvE_short (hm m hx); omega⟩
end Go.Ev
