import Derived.Test.YtdhnjbgggkdiiaaGreatDoorNamesB
import Derived.Test.YtdhnjbgggkdiiaaGreatDoorRunes
import Derived.Test.YtdhnjbgggkdiiaaGreatDoorDraw
import Derived.Test.YtdhnjbgggkdiiaaGreatDoorAwake
import Derived.Test.YtdhnjbgggkdiiaaGreatDoorCanB
set_option linter.unusedSimpArgs false
set_option linter.unusedVariables false
namespace Go.Ev
open Go.RowKit Go.Proofs
set_option linter.defProp false
set_option maxRecDepth 20000
set_option maxHeartbeats 4000000

end Go.Ev
namespace Go.Ev
open Go.RowKit Go.Proofs
set_option linter.defProp false
set_option maxRecDepth 20000
set_option maxHeartbeats 4000000

/-! the list and its error -/
end Go.Ev
namespace Go.Ev
open Go.RowKit Go.Proofs
set_option linter.defProp false
set_option maxRecDepth 20000
set_option maxHeartbeats 4000000

/-! the program's draw -/
end Go.Ev
namespace Go.Ev
open Go.RowKit Go.Proofs
set_option linter.defProp false
set_option maxRecDepth 20000
set_option maxHeartbeats 4000000

theorem drawL_length : ∀ (i : Nat) (x : Int) (l : List Int), (drawL i x l).length = l.length
  | 0, _, _ => rfl
  | i + 1, x, l => by rw [drawL, drawL_length i]; simp [swapL]
theorem drawn_length (key : Int) (n : Nat) : (drawn key n).length = n := by rw [drawn, drawL_length, rangeI_length]
def F4 : List EVal → Option EVal
  | [.str l, .int .i64 _, .int .i64 _] => if aU l = true then some (.bool true) else none
  | _ => none
end Go.Ev
namespace Go.Ev
open Go.RowKit Go.Proofs
set_option maxRecDepth 20000
set_option maxHeartbeats 4000000

/-! sorting moves: a permutation, descending -/
theorem mAt_get {d : List Mv} {i : Nat} (h : i < d.length) : mAt d i = d[i] := by simp [mAt, h]
theorem swapM_perm {d : List Mv} {i j : Nat} (h1 : i < d.length) (h2 : j < d.length) : (swapM d i j).Perm d := by
  unfold swapM
  rw [mAt_get h1, mAt_get h2]
  exact List.set_set_perm h1 h2
theorem sinkM_perm : ∀ (j : Nat) (d : List Mv), j < d.length → (sinkM d j).Perm d
  | 0, _, _ => .refl _
  | j + 1, d, h => by
    unfold sinkM
    split
    · exact (sinkM_perm j _ (by rw [swapM_len]; omega)).trans (swapM_perm h (by omega))
    · exact .refl _
theorem sortN_perm : ∀ (n i : Nat) (d : List Mv), i + n ≤ d.length → (sortN n i d).Perm d
  | 0, _, _, _ => .refl _
  | n + 1, i, d, h => by
    unfold sortN
    exact (sortN_perm n (i + 1) _ (by rw [sinkM_len]; omega)).trans (sinkM_perm i d (by omega))
theorem sortM_perm (d : List Mv) : (sortM d).Perm d := by
  unfold sortM
  by_cases hd : d.length = 0
  · rw [hd]; exact .refl _
  · exact sortN_perm _ _ _ (by omega)
def DescBut (d : List Mv) (j n : Nat) : Prop := (∀ i, i + 1 < n → i + 1 ≠ j → (mAt d (i + 1)).f ≤ (mAt d i).f) ∧ (1 ≤ j → j + 1 < n → (mAt d (j + 1)).f ≤ (mAt d (j - 1)).f)
def DescTo (d : List Mv) (n : Nat) : Prop := ∀ i, i + 1 < n → (mAt d (i + 1)).f ≤ (mAt d i).f
theorem mAt_swap {d : List Mv} {i j k : Nat} (h1 : i < d.length) (h2 : j < d.length) : mAt (swapM d i j) k = if k = j then mAt d i else if k = i then mAt d j else mAt d k := by
  unfold swapM mAt
  simp only [List.getD_eq_getElem?_getD, List.getElem?_set, List.length_set]
  by_cases h : k = j
  · subst h; simp [h2]
  · have h' : ¬ j = k := fun e => h e.symm
    rw [if_neg h', if_neg h]
    by_cases h3 : k = i
    · subst h3; simp [h1]
    · have h3' : ¬ i = k := fun e => h3 e.symm
      rw [if_neg h3', if_neg h3]
theorem sinkM_desc : ∀ (j n : Nat) (d : List Mv), j < d.length → n ≤ d.length → j < n → DescBut d j n → DescTo (sinkM d j) n
  | 0, n, d, _, _, _, h => fun i hi => h.1 i hi (by omega)
  | j + 1, n, d, hj, hn, hjn, h => by
    unfold sinkM
    split
    · rename_i hlt
      refine sinkM_desc j n _ (by rw [swapM_len]; omega) (by rw [swapM_len]; omega) (by omega) ⟨fun i hi hij => ?_, fun h1 hk => ?_⟩
      · rw [mAt_swap hj (by omega), mAt_swap hj (by omega)]
        by_cases e1 : i = j
        · subst e1
          rw [if_neg (by omega), if_pos rfl, if_pos rfl]; omega
        · rw [if_neg hij, if_neg (show i + 1 ≠ j + 1 by omega), if_neg e1]
          by_cases e2 : i = j + 1
          · subst e2
            rw [if_pos rfl]
            exact h.2 (by omega) hi
          · rw [if_neg e2]; exact h.1 i hi (by omega)
      · rw [mAt_swap hj (by omega), mAt_swap hj (by omega)]
        rw [if_neg (by omega), if_pos rfl, if_neg (by omega), if_neg (by omega)]
        have := h.1 (j - 1) (by omega) (by omega)
        rwa [show j - 1 + 1 = j by omega] at this
    · rename_i hge
      intro i hi
      by_cases e : i + 1 = j + 1
      · have : i = j := by omega
        subst this; omega
      · exact h.1 i hi e
theorem sortN_desc : ∀ (m i : Nat) (d : List Mv), i + m ≤ d.length → DescTo d i → DescTo (sortN m i d) (i + m)
  | 0, _, _, _, h => h
  | m + 1, i, d, hl, h => by
    unfold sortN
    rw [show i + (m + 1) = i + 1 + m by omega]
    refine sortN_desc m (i + 1) _ (by rw [sinkM_len]; omega) ?_
    exact sinkM_desc i (i + 1) d (by omega) (by omega) (by omega) ⟨fun k hk hki => h k (by omega), fun _ h2 => absurd h2 (by omega)⟩
theorem desc_pair : ∀ {d : List Mv}, DescTo d d.length → d.Pairwise (fun a b => b.f ≤ a.f)
  | [], _ => .nil
  | [a], _ => by simp
  | a :: b :: l, h => by
    have h1 : DescTo (b :: l) (b :: l).length := fun i hi => h (i + 1) (by simp at hi ⊢; omega)
    have ih := desc_pair h1
    have h0 : b.f ≤ a.f := h 0 (by simp)
    refine List.Pairwise.cons (fun x hx => ?_) ih
    rcases List.mem_cons.1 hx with rfl | hx
    · exact h0
    · have := List.rel_of_pairwise_cons ih hx
      omega
theorem sortM_desc (d : List Mv) : (sortM d).Pairwise (fun a b => b.f ≤ a.f) := by
  apply desc_pair
  unfold sortM
  by_cases hd : d.length = 0
  · intro i hi; rw [hd, sortN] at hi; omega
  · have := sortN_desc (d.length - 1) 1 d (by omega) (fun i hi => by omega)
    rw [show 1 + (d.length - 1) = d.length by omega] at this
    rwa [sortN_len]
/-- a list of moves whose places descend is its own order -/
theorem desc_eq {a b : List Mv} (hp : a.Perm b) (ha : a.Pairwise (fun x y => y.f ≤ x.f)) (hb : b.Pairwise (fun x y => y.f < x.f)) : a = b := by
  refine List.Perm.eq_of_pairwise (le := fun x y => y.f ≤ x.f) ?_ ha (hb.imp fun h => by omega) hp
  intro x y hx hy h1 h2
  have hx' : x ∈ b := hp.mem_iff.1 hx
  have e : x.f = y.f := by omega
  obtain ⟨i, hi, rfl⟩ := List.mem_iff_getElem.1 hx'
  obtain ⟨j, hj, rfl⟩ := List.mem_iff_getElem.1 hy
  rcases Nat.lt_trichotomy i j with h | h | h
  · have := List.pairwise_iff_getElem.1 hb i j hi hj h; omega
  · subst h; rfl
  · have := List.pairwise_iff_getElem.1 hb j i hj hi h; omega
/-- moves whose order is tidied: those who stay are gone, the others as they were -/
theorem tidy_eq {L Y b : List Mv} {g : Mv → Mv} (hp : L.Perm (b.map g ++ Y)) (hY : ∀ m ∈ Y, stayM m = true) (hb : ∀ m ∈ b, stayM (g m) = false ∧ compM (g m) = m) (hd : b.Pairwise (fun x y => y.f < x.f)) : tidyM L = b := by
  have h1 : ((sortM L).filter keepM).Perm (b.map g) := by
    have h2 := ((sortM_perm L).trans hp).filter keepM
    rw [List.filter_append] at h2
    have e1 : Y.filter keepM = [] := List.filter_eq_nil_iff.2 fun m hm => by simp [keepM, hY m hm]
    have e2 : (b.map g).filter keepM = b.map g := List.filter_eq_self.2 fun m hm => by
      obtain ⟨x, hx, rfl⟩ := List.mem_map.1 hm
      simp [keepM, (hb x hx).1]
    rwa [e1, e2, List.append_nil] at h2
  have h3 : (((sortM L).filter keepM).map compM).Perm b := by
    have h4 := h1.map compM
    rw [List.map_map] at h4
    have e : b.map (compM ∘ g) = b := by
      conv => rhs; rw [← List.map_id b]
      exact List.map_congr_left fun m hm => (hb m hm).2
    rwa [e] at h4
  refine desc_eq h3 ?_ hd
  unfold tidyM
  rw [List.pairwise_map]
  exact ((sortM_desc L).filter keepM).imp fun h => h
end Go.Ev
