import Derived.Test.YtekkbbmncnkpdaaGreatDoorDQP
set_option linter.unusedSimpArgs false
set_option linter.unusedVariables false
namespace Go.Ev
open Go.RowKit Go.Proofs
set_option maxRecDepth 100000
set_option maxHeartbeats 8000000
set_option linter.unusedSimpArgs false
noncomputable section
def lfP (hr : Bool) (p f : Int) : List Int := bif !(p == 0) && !(hr && (p == 4)) then [f] else []
def lfR (a : Int) (c : Bool) (p f : Int) : List Int := bif (p == a) && (decide (a < 4) || !c) then [f] else []
def bqb (hr : Bool) (p0 p1 p2 p3 : Int) : List Int := lfP hr p3 3 ++ (lfP hr p2 2 ++ (lfP hr p1 1 ++ lfP hr p0 0))
def lfRa (a : Int) (c : Bool) (p0 p1 p2 p3 : Int) : List Int := lfR a c p3 3 ++ (lfR a c p2 2 ++ (lfR a c p1 1 ++ lfR a c p0 0))
def lfRs (c : Bool) (p0 p1 p2 p3 : Int) : List Int := lfRa 4 c p0 p1 p2 p3 ++ (lfRa 3 c p0 p1 p2 p3 ++ (lfRa 2 c p0 p1 p2 p3 ++ lfRa 1 c p0 p1 p2 p3))
def chkL (p0 p1 p2 p3 : Int) (c : Bool) : Bool := av6 p0 p1 p2 p3 || ((bqb c p0 p1 p2 p3 == lfRs c p0 p1 p2 p3) && ((p0 == 4) || ((p1 == 4) || ((p2 == 4) || ((p3 == 4) || (bqb (!c) p0 p1 p2 p3 == bqb c p0 p1 p2 p3))))))
theorem ay1 : ([0, 1, 2, 3, 4].all fun p0 => [0, 1, 2, 3, 4].all fun p1 => [0, 1, 2, 3, 4].all fun p2 => [0, 1, 2, 3, 4].all fun p3 => [true, false].all fun c => chkL p0 p1 p2 p3 c) = true := by kernel_rfl
section
variable {s : St} {t : Pl}
theorem st93 {tn : Tn} (hs : tn.s_half = 0 ∨ tn.s_half = 1) (n : Nat) (hr : Bool) (p0 p1 p2 p3 : Int) (l : List Int) (hl : l.length ≤ 20) {i p : Int} (hi : (i = 0 ∧ p = p3) ∨ (i = 1 ∧ p = p2) ∨ (i = 2 ∧ p = p1) ∨ (i = 3 ∧ p = p0)) :
  ajV tn (n + 1) (.k8 hr p0 p1 p2 p3 i l) = ajV tn n (.k8 hr p0 p1 p2 p3 (IntKind.i64.wrap (i + 1)) (l ++ (lfP hr p (3 - i)).map (slotI tn.s_half tn.s_n0 tn.s_n1 tn.s_b1 tn.s_b2 tn.s_b3))) := by
 have c3 : Nat.ble (8 * (l.length + 1)) 1000000 = true := by rw [Nat.ble_eq]; omega
 have q : ∀ i : Int, (i = 0 ∨ i = 1 ∨ i = 2 ∨ i = 3) → mL (tn, i, ()) = some (slotI tn.s_half tn.s_n0 tn.s_n1 tn.s_b1 tn.s_b2 tn.s_b3 i) := fun i hi => s91 hs hi
 have q0 := q 0 (by simp)
 have q1 := q 1 (by simp)
 have q2 := q 2 (by simp)
 have q3 := q 3 (by simp)
 have w0 : IntKind.i64.wrap (3 - 0) = 3 := by decide
 have w1 : IntKind.i64.wrap (3 - 1) = 2 := by decide
 have w2 : IntKind.i64.wrap (3 - 2) = 1 := by decide
 have w3 : IntKind.i64.wrap (3 - 3) = 0 := by decide
 rcases hi with ⟨rfl, rfl⟩ | ⟨rfl, rfl⟩ | ⟨rfl, rfl⟩ | ⟨rfl, rfl⟩
 · simp only [wG, ajE, TS, w6, List.length_map, w0, q3, obind_some, c3, cond_true, lfP]
   cases hr <;> cases (p == 0) <;> cases (p == 4) <;> simp
 · simp only [wG, ajE, TS, w6, List.length_map, w1, q2, obind_some, c3, cond_true, lfP]
   cases hr <;> cases (p == 0) <;> cases (p == 4) <;> simp
 · simp only [wG, ajE, TS, w6, List.length_map, w2, q1, obind_some, c3, cond_true, lfP]
   cases hr <;> cases (p == 0) <;> cases (p == 4) <;> simp
 · simp only [wG, ajE, TS, w6, List.length_map, w3, q0, obind_some, c3, cond_true, lfP]
   cases hr <;> cases (p == 0) <;> cases (p == 4) <;> simp
theorem lp93 {tn : Tn} (hs : tn.s_half = 0 ∨ tn.s_half = 1) (n : Nat) (hr : Bool) (p0 p1 p2 p3 : Int) : ajV tn (n + 5) (.k8 hr p0 p1 p2 p3 0 []) = some ((bqb hr p0 p1 p2 p3).map (slotI tn.s_half tn.s_n0 tn.s_n1 tn.s_b1 tn.s_b2 tn.s_b3)) := by
 have w1 : IntKind.i64.wrap (0 + 1) = 1 := by decide
 have w2 : IntKind.i64.wrap (1 + 1) = 2 := by decide
 have w3 : IntKind.i64.wrap (2 + 1) = 3 := by decide
 have w4 : IntKind.i64.wrap (3 + 1) = 4 := by decide
 have ln : ∀ (p f : Int), (lfP hr p f).length ≤ 1 := by
  intro p f
  unfold lfP
  cases (!(p == 0) && !(hr && (p == 4))) <;> simp
 have l3 := ln p3 3
 have l2 := ln p2 2
 have l1 := ln p1 1
 rw [show n + 5 = (n + 4) + 1 from rfl, st93 hs _ hr p0 p1 p2 p3 [] (by simp) (.inl ⟨rfl, rfl⟩), w1]
 rw [show n + 4 = (n + 3) + 1 from rfl, st93 hs _ hr p0 p1 p2 p3 _ (by simp; omega) (.inr (.inl ⟨rfl, rfl⟩)), w2]
 rw [show n + 3 = (n + 2) + 1 from rfl, st93 hs _ hr p0 p1 p2 p3 _ (by simp; omega) (.inr (.inr (.inl ⟨rfl, rfl⟩))), w3]
 rw [show n + 2 = (n + 1) + 1 from rfl, st93 hs _ hr p0 p1 p2 p3 _ (by simp; omega) (.inr (.inr (.inr ⟨rfl, rfl⟩))), w4]
 have u : ∀ x, ajV tn (n + 1) (.k8 hr p0 p1 p2 p3 4 x) = some x := fun _ => rfl
 rw [u]
 simp [bqb]
theorem st40 (h : aB t.m = 0) (hs : s.half = 0 ∨ s.half = 1) (n : Nat) (l : List Int) (a : Int) (hl : l.length ≤ 20) {f : Int} (hf : f = 0 ∨ f = 1 ∨ f = 2 ∨ f = 3) :
  hG s t (n + 1) (.k16 f l a) = hG s t n (.k16 (IntKind.i64.wrap (f - 1)) (l ++ (lfR a (cntsB s t) (pl s t f) f).map (sl s)) a) := by
 have c3 : Nat.ble (8 * (l.length + 1)) 1000000 = true := by rw [Nat.ble_eq]; omega
 have q1 : ayh (s, t, f, ()) = some (pl s t f) := s98 h hf
 have q2 : bqw (s, f, ()) = some (sl s f) := s97 hs hf
 have c1 : decide ((0 : Int) ≤ f) = true := by simp; omega
 generalize hN : n = N
 simp only [Ez40J_s, ayb, TS, w6, List.length_map, c1, c3, q1, q2, s96 h, obind_some, cond_true, lfR]
 cases (pl s t f == a) <;> cases decide (a < 4) <;> cases cntsB s t <;> simp
end
end
end Go.Ev
