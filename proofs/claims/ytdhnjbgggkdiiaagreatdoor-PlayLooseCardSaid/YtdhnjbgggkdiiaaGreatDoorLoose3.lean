import Derived.Test.YtdhnjbgggkdiiaaGreatDoorEvC
import Derived.Test.YtdhnjbgggkdiiaaGreatDoorPaV
import Derived.Test.YtdhnjbgggkdiiaaGreatDoorPrAll
import Derived.Test.YtdhnjbgggkdiiaaGreatDoorBackL
import Derived.Test.YtdhnjbgggkdiiaaGreatDoorAwake
import Derived.Test.YtdhnjbgggkdiiaaGreatDoorLoose2
import Derived.Test.YtdhnjbgggkdiiaaGreatDoorMoveOf
set_option linter.unusedSimpArgs false
set_option linter.unusedVariables false
namespace Go.Ev
open Go.RowKit Go.Proofs
set_option linter.defProp false
set_option maxRecDepth 20000
set_option maxHeartbeats 8000000

/-! the program's reading of a text -/
section
variable {P : Program} {g : G} {K : bI}
end
structure AMem (lp : EObj) (acc : List Pl) (v : EVal) (N : Nat) (l : List (Nat × Option EObj)) : Prop where
  hN : N ≤ 7 + 2 * acc.length
  hN2 : 7 ≤ N
  pl : PL 7 v acc N l
  l6 : aB l 6 = some lp
  l5 : aB l 5 = some (.deferred false)
  l3 : aB l 3 = some (.row [v] 54 0 0 false)
  l2 : aB l 2 = some (.row [.int .i64 0] 30 0 0 false)
  l1 : aB l 1 = some (.row [.int .i64 0] 3 0 0 false)
  l0 : aB l 0 = some (.row [.nilslice] 54 0 0 false)
structure AInv (lp : EObj) (S : List Nat) (i : Nat) (T : List Nat) (acc : List Pl) (v : EVal) (N : Nat) (l : List (Nat × Option EObj)) : Prop where
  rd : paT S = paG i acc (cY 10 T)
  byt : aU T = true
  len : acc.length = i
  ok : ∀ q ∈ acc, okPl q
  hi : i ≤ 256
  mem : AMem lp acc v N l
  l4 : aB l 4 = some (.row [.str T] 9 0 0 false)
theorem AMem.box {lp : EObj} {acc : List Pl} {v : EVal} {N : Nat} {l : List (Nat × Option EObj)} {o : Option EObj} (h : AMem lp acc v N l) : AMem lp acc v N ((4, o) :: l) := by
  obtain ⟨a, b, c, l6, l5, l3, l2, l1, l0⟩ := h
  refine ⟨a, b, PL_cons (by omega) c, ?_, ?_, ?_, ?_, ?_, ?_⟩ <;> simp [aB, *]
end Go.Ev
namespace Go.Ev
open Go.RowKit Go.Proofs
set_option linter.defProp false
set_option maxRecDepth 20000
set_option maxHeartbeats 8000000

/-! the program's text of plays -/
theorem e30 {q : Pl} (hb : plB q = true) (hq : okPl q) : F30 [.agg [.str q.p, .str q.e, .bool q.l, .lsl (aG q.m)]] = some (.tup [.str (printR q.p q.e q.l q.m), .int .i64 (dV q)]) := by
  simp only [plB, Bool.and_eq_true] at hb
  simp only [F30, cB hq.1 hq.2, Option.map_some]; rw [if_pos hb]; rfl
section
variable {K : bI} {n m b : Nat} {l : List (Nat × Option EObj)} {kk : List (Nat × Option (Nat × TypeId))} {k : EVal → H → Prop}
theorem Bld.grow {bs : List Nat} {o o2 : Option EObj} (h : Bld b bs n l) : Bld b bs (n + 1) ((n, o) :: (n, o2) :: l) := by
  obtain ⟨hb, h | h⟩ := h
  · exact ⟨by omega, .inl ⟨h.1, by rw [aB.eq_2, if_neg (by omega), aB.eq_2, if_neg (by omega)]; exact h.2⟩⟩
  · obtain ⟨j, hj, hjb, h1, h2⟩ := h
    exact ⟨by omega, .inr ⟨j, by omega, hjb, by rw [aB.eq_2, if_neg (by omega), aB.eq_2, if_neg (by omega)]; exact h1, by rw [aB.eq_2, if_neg (by omega), aB.eq_2, if_neg (by omega)]; exact h2⟩⟩
end
end Go.Ev
namespace Go.Ev
open Go.RowKit Go.Proofs
set_option linter.defProp false
set_option maxRecDepth 20000
set_option maxHeartbeats 8000000

theorem e30z {q : Pl} (hb : plB q = true) (hq : okPl q) (h : dV q = 0) : F30 [.agg [.str q.p, .str q.e, .bool q.l, .lsl (aG q.m)]] = some (.tup [.str (plStr q), .int .i64 0]) := by
  have h1 := e30 hb hq
  rw [h] at h1
  rw [h1]
  unfold printR
  rw [if_pos (show playE q.p q.e q.m = 0 from h)]; rfl
theorem valid_copy {q : Pl} (h : dV q = 0) : copyOK q.m = true := by
  obtain ⟨h4, h5⟩ := movesE_zero (playE_zero h).2.2
  simp only [copyOK, Bool.and_eq_true, decide_eq_true_eq, List.all_eq_true]
  exact ⟨by omega, fun m hm => by have := mvE_short (h5 m hm); omega⟩
end Go.Ev
namespace Go.Ev
open Go.RowKit Go.Proofs
set_option maxRecDepth 20000
set_option maxHeartbeats 4000000

/-! the draw is a permutation; the loose play -/
theorem swapL_perm {l : List Int} {i j : Nat} (h1 : i < l.length) (h2 : j < l.length) : (swapL l i j).Perm l := by
  have e1 : l.getD j 0 = l[j] := by simp [h2]
  have e2 : l.getD i 0 = l[i] := by simp [h1]
  unfold swapL
  rw [e1, e2]
  exact List.set_set_perm h1 h2
theorem drawL_perm : ∀ (i : Nat) (x : Int) (l : List Int), i < l.length ∨ i = 0 → (drawL i x l).Perm l
  | 0, _, _, _ => .refl _
  | i + 1, x, l, h => by
    unfold drawL
    have hl : i + 1 < l.length := by omega
    have hj : ((stepX x) % ((i : Int) + 2)).toNat < l.length := by
      have := Int.emod_lt_of_pos (stepX x) (show (0 : Int) < (i : Int) + 2 by omega)
      have := Int.emod_nonneg (stepX x) (show (i : Int) + 2 ≠ 0 by omega)
      omega
    have hs : (swapL l (i + 1) ((stepX x) % ((i : Int) + 2)).toNat).length = l.length := by simp [swapL]
    exact (drawL_perm i _ _ (.inl (by rw [hs]; omega))).trans (swapL_perm hl hj)
theorem drawn_perm (key : Int) (n : Nat) : (drawn key n).Perm (rangeI n) := by
  unfold drawn
  exact drawL_perm _ _ _ (by rw [rangeI_length]; omega)
theorem drawn_mem {key x : Int} {n : Nat} (h : x ∈ drawn key n) : ∃ j : Nat, j < n ∧ x = (j : Int) := by
  have := (drawn_perm key n).mem_iff.1 h
  unfold rangeI at this
  obtain ⟨j, hj, rfl⟩ := List.mem_map.1 this
  exact ⟨j, by simpa using hj, rfl⟩
def looseX (l : List Mv) (D : List Int) : List Mv := D.map fun i => dblM (mAt l i.toNat)
theorem looseX_perm (l : List Mv) (key : Int) : (looseX l (drawn key l.length)).Perm (l.map dblM) := by
  have h := (drawn_perm key l.length).map fun i => dblM (mAt l i.toNat)
  have e : (rangeI l.length).map (fun i => dblM (mAt l i.toNat)) = l.map dblM := by
    unfold rangeI
    rw [List.map_map]
    apply List.ext_getElem
    · simp
    · intro k h1 h2
      simp only [List.length_map, List.length_range] at h1
      simp [mAt, h1]
  rw [e] at h
  exact h
theorem dbl_ok (m : Mv) (h : mvE m = 0) : (stayM (dblM m) = false ∧ compM (dblM m) = m) ∧ (dblM m).f = m.f ∧ (dblM m).b.length ≤ 36 := by
  refine ⟨keep_dbl h, rfl, ?_⟩
  have := mvE_short h
  show (dblI m.b).length ≤ 36
  rw [dblI_len]; omega
def looseP (q : Pl) (key : Int) : Pl := ⟨q.p, q.e, q.l, looseX q.m (drawn key q.m.length) ++ stL q.m⟩
theorem loose_can {q : Pl} {key : Int} (hv : dV q = 0) : bU (looseP q key) = (canQ q, 0) :=
  canT_loose hv dbl_ok (.inr rfl) ((looseX_perm q.m key).append_right _)
theorem loose_len {q : Pl} {key : Int} (hv : dV q = 0) : (looseP q key).m.length ≤ 5 ∧ ∀ m ∈ (looseP q key).m, m.b.length ≤ 36 := by
  have hz := playE_zero hv
  have hm := movesE_zero hz.2.2
  refine ⟨?_, fun m h => ?_⟩
  · show (looseX q.m (drawn key q.m.length) ++ stL q.m).length ≤ 5
    have h1 := stL_len q.m
    have h2 := (looseX_perm q.m key).length_eq
    rw [List.length_map] at h2
    rw [List.length_append]; omega
  · rcases List.mem_append.1 h with h | h
    · have := (looseX_perm q.m key).mem_iff.1 h
      obtain ⟨x, hx, rfl⟩ := List.mem_map.1 this
      exact (dbl_ok x (hm.2 x hx)).2.2
    · simp [(stL_is h).2.1]
theorem loose_ok {q : Pl} {key : Int} (hv : dV q = 0) : okPl (looseP q key) ∧ copyOK (looseP q key).m = true := by
  obtain ⟨h1, h2⟩ := loose_len (key := key) hv
  refine ⟨⟨by omega, fun m hm => by have := h2 m hm; show m.b.length < _; omega⟩, ?_⟩
  simp only [copyOK, Bool.and_eq_true, decide_eq_true_eq, List.all_eq_true]
  exact ⟨by omega, fun m hm => by have := h2 m hm; omega⟩
theorem loose_eq {q : Pl} {key : Int} (hv : dV q = 0) : equalE (looseP q key) q = .tup [.bool true, .int .i64 0] := by
  unfold equalE bothE
  rw [loose_can hv, canT_valid hv, samePl_rfl]; rfl
theorem both_eq {q o : Pl} (hv : dV q = 0) (ho : dV o = 0) : equalE q o = .tup [.bool (samePl (canQ q) (canQ o)), .int .i64 0] := by
  unfold equalE bothE
  rw [canT_valid hv, canT_valid ho]
  show EVal.tup [.bool (decide ((0 : Int) = 0) && samePl (canQ q) (canQ o)), .int .i64 0] = _
  simp
theorem any_pos {g : Mv → Int} {p : Mv → Bool} (h0 : ∀ m, 0 ≤ g m) (h1 : ∀ m, p m = true → 1 ≤ g m) : ∀ {l : List Mv}, l.any p = true → 0 < dU g l
  | [], h => by simp at h
  | m :: l, h => by
    have hs : 0 ≤ dU g l := by
      clear h
      induction l with
      | nil => exact Int.le_refl _
      | cons a l ih => have := h0 a; rw [show dU g (a :: l) = g a + dU g l from rfl]; omega
    rw [show dU g (m :: l) = g m + dU g l from rfl]
    rw [List.any_cons, Bool.or_eq_true] at h
    rcases h with h | h
    · have := h1 m h; omega
    · have := any_pos h0 h1 h; have := h0 m; omega
end Go.Ev
