import Derived.Test.YtahijjbkefmdpaaGreatDoorLuT1
set_option linter.unusedSimpArgs false
set_option linter.unusedVariables false
namespace Go.Ev
open Go.RowKit Go.Proofs
set_option maxRecDepth 100000
set_option maxHeartbeats 4000000
set_option linter.unusedSimpArgs false
noncomputable section
theorem aqM {s : Lu} {t T i : Int} {u : List Int} {A B : List (List Nat)} {f : Lz3 → Option Bool} {Q1 Q2 : Int} (h1 : 0 ≤ Q1 ∧ Q1 ≤ 8) (h2 : 0 ≤ Q2 ∧ Q2 ≤ 8) (e1 : (u.getD i.toNat 0).tmod 9 = Q1) (e2 : (w6 ((w6 (T - 1)) + i)).tmod 9 = Q2) :
  (vX s t u (.k14 T i A B)).d f = cond (decide (i < ((u.length : Nat) : Int))) (cond (inR i u.length) (cond (Nat.ble (16 * (((A.map aC.v)).length + 1)) 1000000) (cond (Nat.ble (16 * (((B.map aC.v)).length + 1)) 1000000) (f (.k14 T (w6 (i + 1)) (A ++ [bt s Q1]) (B ++ [bt s Q2]))) none) none) none) (f (.k25 T A B)) := by
 simp only [vX, TS, e1, e2]
 rcases nine0 h1 with rfl | rfl | rfl | rfl | rfl | rfl | rfl | rfl | rfl <;> rcases nine0 h2 with rfl | rfl | rfl | rfl | rfl | rfl | rfl | rfl | rfl <;> rfl
theorem aqL {s : Lu} {t a b i p : Int} {u : List Int} {c d e : List Nat} {A : List (List Nat)} {f : Lz3 → Option Bool} {Q : Int} (hQ : 0 ≤ Q ∧ Q ≤ 8) (e1 : (w6 (p + i)).tmod 9 = Q) :
  (vX s t u (.k62 a b c d e p A i)).d f = cond (decide (i < 5)) (cond (Nat.ble (16 * (((A.map aC.v)).length + 1)) 1000000) (f (.k62 a b c d e p (A ++ [bt s Q]) (w6 (i + 1)))) none) (f (.k71 a b c d e A)) := by
 simp only [vX, TS, e1]
 rcases nine0 hQ with rfl | rfl | rfl | rfl | rfl | rfl | rfl | rfl | rfl <;> rfl
def nmE (s : Lu) (x : Int) : List Nat := bn s x.toNat
theorem aqx {n : Nat} (h : n < 1000) : Nat.ble (16 * (n + 1)) 1000000 = true := by rw [Nat.ble_eq]; omega
theorem oH {n : Nat} (h : n < 1000) : Nat.ble (16 * n) 1000000 = true := by rw [Nat.ble_eq]; omega
theorem names_j {s : Lu} {t : Int} {u : List Int} (hu : ∀ x ∈ u, 0 ≤ x) (hl : u.length ≤ 256) (b : Nat) (hb : b < 9) : ∀ j n k A B, k + j = u.length → A.length = k → B.length = k →
  ajS s t u (n + j + 1) (.k14 (pn b) ((k : Nat) : Int) A B) = ajS s t u n (.k25 (pn b) (A ++ (u.drop k).map (nmE s)) (B ++ (List.range j).map fun i => bn s (b + k + i))) := by
 intro j
 induction j with
 | zero =>
   intro n k A B hk hA hB
   rw [f8, aqM (Q1 := 0) (Q2 := (b + k : Nat) % 9) (by omega) (by omega) (by rw [Int.toNat_natCast, List.getD_eq_getElem?_getD, List.getElem?_eq_none (by omega)]; rfl) (by
    have hp : pn b = (b : Int) + 1 := by unfold pn; omega
    rw [hp, w6i (n := (b : Int) + 1 - 1) (by omega), w6i (by omega), Int.tmod_eq_emod_of_nonneg (by omega)]; omega), vC (show ¬ k < u.length by omega), cond_false]
   rw [List.drop_eq_nil_of_le (by omega)]
   simp
 | succ j ih =>
   intro n k A B hk hA hB
   have hlt : k < u.length := by omega
   obtain ⟨x, hx⟩ := yV hlt
   have hx0 : 0 ≤ x := hu x (List.mem_of_getElem? hx)
   have hp : pn b = (b : Int) + 1 := by unfold pn; omega
   rw [f8, aqM (Q1 := ((x.toNat % 9 : Nat) : Int)) (Q2 := (((b + k) % 9 : Nat) : Int)) (by omega) (by omega) (by
    rw [Int.toNat_natCast, q6 hx, Int.tmod_eq_emod_of_nonneg hx0]; omega) (by
    rw [hp, w6i (n := (b : Int) + 1 - 1) (by omega), w6i (by omega), Int.tmod_eq_emod_of_nonneg (by omega)]; omega), oW hlt, mB hlt, List.length_map, List.length_map, aqx (by omega), aqx (by omega), w6s (show k < 9223372036854775807 by omega)]
   simp only [cond_true]
   rw [show n + (j + 1) = n + j + 1 by omega, ih n (k + 1) _ _ (by omega) (by simp [hA]) (by simp [hB])]
   obtain ⟨hk', rfl⟩ := List.getElem?_eq_some_iff.1 hx
   rw [List.drop_eq_getElem_cons hk', List.map_cons, List.append_assoc, List.append_assoc, List.range_succ_eq_map, List.map_cons, List.map_map]
   have e1 : ∀ i, bn s (b + (k + 1) + i) = ((fun i => bn s (b + k + i)) ∘ Nat.succ) i := fun i => by show _ = bn s (b + k + (i + 1)); rw [show b + (k + 1) + i = b + k + (i + 1) by omega]
   rw [show (fun i => bn s (b + (k + 1) + i)) = ((fun i => bn s (b + k + i)) ∘ Nat.succ) from funext e1]
   rfl
theorem all_j {s : Lu} {t a b : Int} {u : List Int} {x y z : List Nat} (c : Nat) : ∀ j n k (A : List (List Nat)), k + j = 5 → A.length + j < 900 → ajS s t u (n + j + 1) (.k62 a b x y z (pn c) A ((k : Nat) : Int)) = ajS s t u n (.k71 a b x y z (A ++ (List.range j).map fun i => bn s (c + 1 + k + i))) := by
 intro j
 induction j with
 | zero =>
   intro n k A hk hA
   rw [f8, aqL (Q := (((c + 1 + k) % 9 : Nat) : Int)) (by omega) (by
    have := oP c
    rw [w6i (by omega), Int.tmod_eq_emod_of_nonneg (by omega)]; unfold pn; omega), show decide (((k : Nat) : Int) < 5) = false by simp; omega]
   simp
 | succ j ih =>
   intro n k A hk hA
   rw [f8, aqL (Q := (((c + 1 + k) % 9 : Nat) : Int)) (by omega) (by
    have := oP c
    rw [w6i (by omega), Int.tmod_eq_emod_of_nonneg (by omega)]; unfold pn; omega), show decide (((k : Nat) : Int) < 5) = true by simp; omega, List.length_map, aqx (by omega), w6s (show k < 9223372036854775807 by omega)]
   simp only [cond_true]
   rw [show n + (j + 1) = n + j + 1 by omega, ih n (k + 1) _ (by omega) (by simp; omega), List.append_assoc, List.range_succ_eq_map, List.map_cons, List.map_map]
   have e1 : ∀ i, bn s (c + 1 + (k + 1) + i) = ((fun i => bn s (c + 1 + k + i)) ∘ Nat.succ) i := fun i => by show _ = bn s (c + 1 + k + (i + 1)); rw [show c + 1 + (k + 1) + i = c + 1 + k + (i + 1) by omega]
   rw [show (fun i => bn s (c + 1 + (k + 1) + i)) = ((fun i => bn s (c + 1 + k + i)) ∘ Nat.succ) from funext e1]
   rfl
theorem sameW_j (l : List (List Nat)) (hl : l.length < 1000) : ∀ j n k, k + j = l.length → Ez8J l l (n + j + 1) (.k8 (k : Int)) = some true := by
 intro j
 induction j with
 | zero =>
   intro n k hk
   rw [axe]
   simp only [Tz8J, TS, vC (show ¬ k < l.length by omega), cond_false]
 | succ j ih =>
   intro n k hk
   have hlt : k < l.length := by omega
   rw [axe]
   simp only [Tz8J, TS, oW hlt, mB hlt, cond_true, decide_true, Bool.not_true, cond_false, w6s (show k < 9223372036854775807 by omega)]
   rw [show n + (j + 1) = n + j + 1 by omega, ih n (k + 1) (by omega)]
theorem sameW (l : List (List Nat)) (hl : l.length < 1000) : Sz8 (l, l, ()) = some true := by
 show (Tz8 l l).d (Ez8J l l (l.length + l.length + 64)) = _
 simp only [Tz8, TS, beq_self_eq_true, Bool.not_true, cond_false]
 have := sameW_j l hl l.length (l.length + 63) 0 (by omega)
 rw [nc0] at this
 rw [show l.length + l.length + 64 = l.length + 63 + l.length + 1 by omega]; exact this
theorem first_bad (P : Nat → Prop) : ∀ n, (∀ i, i < n → P i) ∨ ∃ d, d < n ∧ (∀ i, i < d → P i) ∧ ¬ P d
 | 0 => .inl fun i h => absurd h (Nat.not_lt_zero i)
 | n + 1 => by
   rcases first_bad P n with h | ⟨d, h1, h2, h3⟩
   · by_cases hp : P n
     · refine .inl fun i hi => ?_
       rcases Nat.lt_succ_iff_lt_or_eq.1 hi with h4 | rfl
       · exact h i h4
       · exact hp
     · exact .inr ⟨n, by omega, h, hp⟩
   · exact .inr ⟨d, by omega, h2, h3⟩
theorem aqI {w n : Nat} {f : Nat → List V} : (eP (.fl w n f)).length = n := by
 show ((List.range n).map _).length = n
 rw [List.length_map, List.length_range]
theorem xZ {l : List (List Nat)} : (eP ((Cod.list [] aC).v l)).length = l.length := by
 show ((List.range l.length).map _).length = l.length
 rw [List.length_map, List.length_range]
theorem nQ {l r : List (List Nat)} {i : Nat} (h : i < l.length) : (l ++ r).getD i [] = l.getD i [] := by
 rw [List.getD_eq_getElem?_getD, List.getD_eq_getElem?_getD, List.getElem?_append_left h]
theorem nP {l r : List (List Nat)} {i : Nat} : (l ++ r).getD (l.length + i) [] = r.getD i [] := by
 rw [List.getD_eq_getElem?_getD, List.getD_eq_getElem?_getD, List.getElem?_append_right (by omega), show l.length + i - l.length = i by omega]
theorem mP {n i : Nat} {f : Nat → List Nat} (h : i < n) : ((List.range n).map f).getD i [] = f i := by
 rw [List.getD_eq_getElem?_getD, List.getElem?_map, List.getElem?_range h]; rfl
end
end Go.Ev
