import Derived.Test.YtdhnjbgggkdiiaaGreatDoorCan1
set_option linter.unusedSimpArgs false
set_option linter.unusedVariables false
namespace Go.Ev
open Go.RowKit Go.Proofs
set_option linter.defProp false
def TF152Can2 := And.intro (And.intro (And.intro (@Tryz.underlying3) (And.intro (@sz3) (@bK))) (And.intro (And.intro (@I3s) (@I3b)) (And.intro (@bJ) (@bL)))) (And.intro (And.intro (And.intro (@Tryz.underlying25) (@dI)) (And.intro (@bQ) (@dJ))) (And.intro (And.intro (@dK) (@bP)) (And.intro (@bR) (@Tryz.results152))))
set_option maxRecDepth 20000
set_option maxHeartbeats 8000000

/-! touches without neighbours that are the same, in place -/
def comp : List Int → List Int
  | [] => []
  | [a] => [a]
  | a :: b :: r => if a = b then comp (b :: r) else a :: comp (b :: r)
theorem comp_cons {c : Int} : ∀ {y : List Int}, y ≠ [] → comp (c :: y) = if c = y.headD 0 then comp y else c :: comp y
  | [], h => absurd rfl h
  | _ :: _, _ => rfl
theorem comp_snoc {a x : Int} : ∀ l : List Int, comp ((l ++ [a]) ++ [x]) = comp (l ++ [a]) ++ (if a = x then [] else [x])
  | [] => by
    show (if a = x then [x] else [a, x]) = [a] ++ (if a = x then [] else [x])
    split
    · rename_i h; rw [h]; rfl
    · rfl
  | c :: l => by
    have ih := comp_snoc (a := a) (x := x) l
    have h1 : (l ++ [a]) ++ [x] ≠ [] := by simp
    have h2 : l ++ [a] ≠ [] := by simp
    have hh : ((l ++ [a]) ++ [x]).headD 0 = (l ++ [a]).headD 0 := by cases l <;> rfl
    rw [List.cons_append, List.cons_append, comp_cons h1, comp_cons h2, hh, ih]
    split <;> rfl
theorem comp_step {b : List Int} {m : Nat} (h1 : 1 ≤ m) (h2 : m < b.length) : comp (b.take (m + 1)) = comp (b.take m) ++ (if at0 b (m - 1) = at0 b m then [] else [at0 b m]) := by
  have e1 : b.take (m + 1) = b.take m ++ [at0 b m] := by
    rw [List.take_add_one, List.getElem?_eq_getElem h2]; simp [at0, h2]
  have e2 : b.take m = b.take (m - 1) ++ [at0 b (m - 1)] := by
    conv => lhs; rw [show m = m - 1 + 1 by omega, List.take_add_one, List.getElem?_eq_getElem (show m - 1 < b.length by omega)]
    simp [at0, show m - 1 < b.length by omega]
  rw [e1, e2, comp_snoc]
theorem comp_len : ∀ l : List Int, (comp l).length ≤ l.length
  | [] => Nat.le_refl _
  | [_] => Nat.le_refl _
  | a :: b :: r => by
    have ih := comp_len (b :: r)
    unfold comp
    split
    · simp only [List.length_cons] at ih ⊢; omega
    · simp only [List.length_cons] at ih ⊢; omega
def padC (b : List Int) : List Int := comp b ++ List.replicate (b.length - (comp b).length) 0
theorem padC_len (b : List Int) : (padC b).length = b.length := by have := comp_len b; simp [padC]; omega
theorem HV.look {P : Program} {n m : Nat} {l l2 : List (Nat × Option EObj)} {k : List (Nat × Option (Nat × TypeId))} (hb : ∀ p ∈ l2, p.1 < 16000) (hl : ∀ i, i < 16000 → aB l2 i = aB l i) : HV P (mkH n l m k) (mkH n l2 m k) := by
  intro B0 W0 ρ w R
  have hget : ∀ id o, (mkH n l2 m k).get id = some o → (mkH n l m k).get id = some o := by
    intro id o hg
    have hid : id < 16000 := hb _ (T.ofG_mem hg)
    rw [mkH_get hid] at hg ⊢
    rw [← hl id hid]; exact hg
  exact ⟨R.below, R.base, R.dom, R.lo, fun a b o1 o2 b' C C' g1 g2 => R.inj a b o1 o2 b' C C' (hget _ _ g1) (hget _ _ g2), fun id o hg => R.objs id o (hget _ _ hg), R.fz, fun b' pre hb' id C o hg => R.free b' pre hb' id C o (hget _ _ hg), R.fz0, R.mdom, R.toks, R.tnew, R.tinj⟩
theorem repl_eRow (n : Nat) : bS [EVal.int .i64 0] n = dF (List.replicate n 0) := by
  induction n with
  | zero => rfl
  | succ n ih => show _ :: bS _ n = _; rw [ih]; rfl
theorem allOne_eRow (l : List Int) : allOne (dF l) = true := by
  induction l with
  | nil => rfl
  | cons a l ih => simpa [allOne, EVal.one, dF] using ih
theorem setRange_tail {D Z : List Int} {i : Nat} (h : i + Z.length = D.length) : setRange (dF D) i (dF Z) = dF (D.take i ++ Z) := by
  unfold setRange
  rw [eRow_length, h, List.drop_eq_nil_of_le (by rw [eRow_length]; omega), List.append_nil]
  simp [dF]
section
variable {K : bI} {N m id : Nat} {l : List (Nat × Option EObj)} {kk : List (Nat × Option (Nat × TypeId))}
theorem ct152 {b : List Int} (hb0 : b ≠ []) (hlen : b.length ≤ 1000) (hid : id < 16000) (hl : aB l id = some (.row (dF b) 3 0 0 true)) (hbd : ∀ p ∈ l, p.1 < 16000) :
    cE Tryz.prog gT K 152 [.slice id 0 b.length (.slack 0)] (mkH N l m kk) fun v h => v = .slice id 0 (comp b).length (.slack 0) ∧ h = mkH N ((id, some (.row (dF (padC b)) 3 0 0 true)) :: l) m kk := by
  refine cE.out (cE.intro Tryz.func152 rfl ?_)
  refine Top.view (aF.start (n := 61) rfl (by simp)) (aD aJ _ _ _ _ ?_)
  have fin : ∀ l', aB l' id = some (.row (dF (padC b)) 3 0 0 true) → (∀ j, j ≠ id → aB l' j = aB l j) →
      ∃ h2, HV Tryz.prog (mkH N l' m kk) h2 ∧ EVal.slice id 0 (comp b).length (.slack 0) = .slice id 0 (comp b).length (.slack 0) ∧ h2 = mkH N ((id, some (.row (dF (padC b)) 3 0 0 true)) :: l) m kk := by
    intro l' h1 h2
    refine ⟨_, HV.look ?_ ?_, rfl, rfl⟩
    · intro p hp
      rcases List.mem_cons.1 hp with rfl | hp
      · exact hid
      · exact hbd p hp
    · intro j _
      rw [aB.eq_2]
      split
      · rename_i h; subst h; exact h1.symm
      · rename_i h; exact (h2 j fun e => h e.symm).symm
  have same : comp b = b → padC b = b := fun h => by simp [padC, h]
  have hpos : 0 < b.length := List.length_pos_iff.2 hb0
  by_cases h2 : b.length < 2
  · have q1 : decide ((b.length : Int) < 2) = true := by simp; omega
    have hc : comp b = b := by
      match b, hpos, h2 with
      | [_], _, _ => rfl
      | _ :: _ :: _, _, h2 => simp at h2; omega
    (try simp only [aI, SS, TF152Can2, aA, Nat.reduceLT, Nat.reduceEqDiff, reduceCtorEq, q1])
    refine cK (es := [.slice id 0 b.length (.slack 0)]) (.inl rfl) rfl (by simp only [SS, TF152Can2, Nat.reduceLT, Nat.reduceEqDiff, reduceCtorEq]) ?_
    have := fin l (by rw [same hc]; exact hl) (fun _ _ => rfl)
    rw [hc] at this ⊢
    exact this
  have q1 : decide ((b.length : Int) < 2) = false := by simp; omega
  (try simp only [aI, SS, TF152Can2, aA, Nat.reduceLT, Nat.reduceEqDiff, reduceCtorEq, q1])
  refine aT (Top.loop (I := fun s : { k : Nat // 1 ≤ k ∧ k ≤ b.length ∧ comp (b.take k) = b.take k } => (mkF 61 [(3, .int .i64 (s.1 : Nat)), (0, .slice id 0 b.length (.slack 0))], mkH N l m kk)) (μ := fun s => b.length - s.1) ⟨1, by omega, by omega, by match b, hpos with | [_], _ => rfl | _ :: _ :: _, _ => rfl⟩ (aF.sub (by simp [look])) ?_)
  rintro ⟨k, hk1, hk, hck⟩
  refine aD aJ _ _ _ _ ?_
  by_cases hlt : k < b.length
  rotate_left
  · obtain rfl : k = b.length := by omega
    rw [List.take_length] at hck
    have q2 : decide ((b.length : Int) < (b.length : Int)) = false := by simp
    (try simp only [SS, TF152Can2, aA, Nat.reduceLT, Nat.reduceEqDiff, reduceCtorEq, q2])
    refine cK (es := [.slice id 0 b.length (.slack 0)]) (.inl rfl) rfl (by simp only [SS, TF152Can2, Nat.reduceLT, Nat.reduceEqDiff, reduceCtorEq]) ?_
    have := fin l (by rw [same hck]; exact hl) (fun _ _ => rfl)
    rw [hck] at this ⊢
    exact this
  have hst := comp_step hk1 hlt
  have q2 : decide ((k : Int) < (b.length : Int)) = true := by simp; omega
  have w1 : IntKind.i64.wrap ((k : Int) - 1) = ((k - 1 : Nat) : Int) := by rw [aP] <;> omega
  have w2 : IntKind.i64.wrap ((k : Int) + 1) = ((k + 1 : Nat) : Int) := by rw [aP] <;> omega
  have b2 : ((k : Int) < (b.length : Int)) = True := by simp; omega
  have b3 : (((k - 1 : Nat) : Int) < (b.length : Int)) = True := by simp only [eq_iff_iff, iff_true]; omega
  have g1 := eRow_get (l := b) (i := k) hlt
  have g2 := eRow_get (l := b) (i := k - 1) (by omega)
  have c3 : k + 1 ≤ b.length := by omega
  have c4 : k - 1 + 1 ≤ b.length := by omega
  (try simp only [SS, TF152Can2, aA, Nat.reduceLT, Nat.reduceEqDiff, reduceCtorEq, q2])
  refine bA (Top.draw mixed aJ (by kernel_rfl) ?_)
  (try simp only [SS, TF152Can2, Nat.reduceLT, Nat.reduceEqDiff, reduceCtorEq, w1, b2, b3, hid, hl, g1, g2])
  refine ⟨by kernel_rfl, ?_⟩
  cases y : (b.getD k 0 == b.getD (k - 1) 0) with
  | false =>
    (try simp only [SS, aA, Nat.reduceLT, Nat.reduceEqDiff, reduceCtorEq, w2])
    have hne : ¬ at0 b (k - 1) = at0 b k := by
      have : ¬ b.getD k 0 = b.getD (k - 1) 0 := by simpa using y
      exact fun e => this e.symm
    refine ⟨⟨k + 1, by omega, hlt, ?_⟩, by simp; omega, aF.sub (by simp [look])⟩
    rw [hst, if_neg hne, hck, List.take_add_one, List.getElem?_eq_getElem hlt]
    simp [at0, hlt]
  | true =>
  have heq : at0 b (k - 1) = at0 b k := by
    have : b.getD k 0 = b.getD (k - 1) 0 := by simpa using y
    exact this.symm
  rw [if_pos heq, List.append_nil] at hst
  have k0 : (k = 0) = False := by simp only [eq_iff_iff, iff_false]; omega
  have kl : (k < b.length) = True := by simp only [eq_iff_iff, iff_true]; omega
  have kb : ((k : Int) ≤ (b.length : Int)) = True := by simp only [eq_iff_iff, iff_true]; omega
  (try simp only [SS, TF152Can2, aA, bG, Nat.reduceLT, Nat.reduceEqDiff, reduceCtorEq, k0, kl, kb])
  refine aT (Top.loop (I := fun s : { x : Nat × Nat × List Int × List (Nat × Option EObj) // 1 ≤ x.1 ∧ x.1 ≤ b.length - k ∧ x.2.1 ≤ k + x.1 - 1 ∧ x.2.2.1.length = b.length ∧ x.2.2.1.take x.2.1 = comp (b.take (k + x.1)) ∧ (∀ j, k + x.1 - 1 ≤ j → at0 x.2.2.1 j = at0 b j) ∧ aB x.2.2.2 id = some (.row (dF x.2.2.1) 3 0 0 true) ∧ ∀ j, j ≠ id → aB x.2.2.2 j = aB l j } => (mkF 61 [(5, .int .i64 (s.1.1 : Nat)), (4, .slice id k (b.length - k) (.slack k)), (3, .int .i64 (s.1.2.1 : Nat)), (0, .slice id 0 b.length (.slack 0))], mkH N s.1.2.2.2 m kk)) (μ := fun s => b.length - k - s.1.1) ⟨(1, k, b, l), by simp, by show 1 ≤ b.length - k; omega, by simp, rfl, by show b.take k = comp (b.take (k + 1)); rw [hst, hck], fun _ _ => rfl, hl, fun _ _ => rfl⟩ (aF.sub (by simp [look])) ?_)
  rintro ⟨⟨j, i, D, l'⟩, hj1, hj, hi, hD, hT, hS, hl', ho⟩
  dsimp only at hj1 hj hi hD hT hS hl' ho
  refine aD aJ _ _ _ _ ?_
  dsimp only
  by_cases hjl : j < b.length - k
  rotate_left
  · -- the end
    obtain rfl : j = b.length - k := by omega
    rw [show k + (b.length - k) = b.length by omega, List.take_length] at hT
    have hil : i = (comp b).length := by rw [← hT, List.length_take]; omega
    have q3 : decide (((b.length - k : Nat) : Int) < ((b.length - k : Nat) : Int)) = false := by simp
    have i1 : (i = 0 ∨ i < b.length) = True := by simp only [eq_iff_iff, iff_true]; omega
    have i2 : ((i : Int) ≤ (b.length : Int)) = True := by simp only [eq_iff_iff, iff_true]; omega
    have i3 : (b.length - i = 0) = False := by simp only [eq_iff_iff, iff_false]; omega
    have r1 := repl_eRow (b.length - i)
    have r2 := allOne_eRow (List.replicate (b.length - i) 0)
    have r3 : (i + (b.length - i) ≤ b.length) = True := by simp only [eq_iff_iff, iff_true]; omega
    have r4 := setRange_tail (D := D) (Z := List.replicate (b.length - i) 0) (i := i) (by simp; omega)
    rw [hT] at r4
    (try simp only [SS, TF152Can2, aA, bG, Nat.reduceLT, Nat.reduceEqDiff, reduceCtorEq, q3, i1, i2, hid, hl', eClear, i3, r1, r2, r3, r4, eRow_length, List.length_replicate, hD])
    refine cK (es := [.slice id 0 (i - 0) (.slack 0)]) (.inl rfl) rfl (by simp only [SS, TF152Can2, Nat.reduceLT, Nat.reduceEqDiff, reduceCtorEq]) ?_
    rw [Nat.sub_zero, hil]
    refine fin _ ?_ ?_
    · rw [aB.eq_2, if_pos rfl]; rfl
    · intro j hj
      rw [aB.eq_2, if_neg (fun e => hj e.symm)]; exact ho j hj
  have hst2 := comp_step (b := b) (m := k + j) (by omega) (by omega)
  have q3 : decide ((j : Int) < ((b.length - k : Nat) : Int)) = true := by simp; omega
  have w3 : IntKind.i64.wrap ((j : Int) - 1) = ((j - 1 : Nat) : Int) := by rw [aP] <;> omega
  have w4 : IntKind.i64.wrap ((j : Int) + 1) = ((j + 1 : Nat) : Int) := by rw [aP] <;> omega
  have w5 : IntKind.i64.wrap ((i : Int) + 1) = ((i + 1 : Nat) : Int) := by rw [aP] <;> omega
  have b4 : ((j : Int) < ((b.length - k : Nat) : Int)) = True := by simp only [eq_iff_iff, iff_true]; omega
  have b5 : (((j - 1 : Nat) : Int) < ((b.length - k : Nat) : Int)) = True := by simp only [eq_iff_iff, iff_true]; omega
  have b6 : ((i : Int) < (b.length : Int)) = True := by simp only [eq_iff_iff, iff_true]; omega
  have g3 := eRow_get (l := D) (i := k + j) (by omega)
  have g4 := eRow_get (l := D) (i := k + (j - 1)) (by omega)
  have e3 : D.getD (k + j) 0 = at0 b (k + j) := hS (k + j) (by omega)
  have e4 : D.getD (k + (j - 1)) 0 = at0 b (k + j - 1) := by rw [show k + (j - 1) = k + j - 1 by omega]; exact hS _ (by omega)
  rw [e3] at g3
  rw [e4] at g4
  have s1 := setRange_eRow (l := D) (i := i) (x := at0 b (k + j)) (by omega)
  have c6 : i + 1 ≤ D.length := by omega
  (try simp only [SS, TF152Can2, aA, Nat.reduceLT, Nat.reduceEqDiff, reduceCtorEq, q3])
  refine bA (Top.draw mixed aJ (by kernel_rfl) ?_)
  (try simp only [SS, TF152Can2, Nat.reduceLT, Nat.reduceEqDiff, reduceCtorEq, w3, b4, b5, hid, hl', g3, g4])
  refine ⟨by kernel_rfl, ?_⟩
  cases y2 : (at0 b (k + j) == at0 b (k + j - 1)) with
  | true =>
    have heq2 : at0 b (k + j - 1) = at0 b (k + j) := by simpa using Eq.symm (by simpa using y2)
    rw [if_pos heq2, List.append_nil] at hst2
    (try simp only [SS, aA, Nat.reduceLT, Nat.reduceEqDiff, reduceCtorEq, w4])
    exact ⟨⟨(j + 1, i, D, l'), by show 1 ≤ j + 1; omega, by show j + 1 ≤ b.length - k; omega, by show i ≤ k + (j + 1) - 1; omega, hD, by show D.take i = comp (b.take (k + j + 1)); rw [hst2, hT], fun x hx => hS x (by have : k + (j + 1) - 1 ≤ x := hx; omega), hl', ho⟩, by simp; omega, aF.sub (by simp [look])⟩
  | false =>
    have hne2 : ¬ at0 b (k + j - 1) = at0 b (k + j) := by
      have : ¬ at0 b (k + j) = at0 b (k + j - 1) := by simpa using y2
      exact fun e => this e.symm
    rw [if_neg hne2] at hst2
    (try simp only [SS, TF152Can2, aA, Nat.reduceLT, Nat.reduceEqDiff, reduceCtorEq, w4, w5, b4, b6, hid, hl', g3, s1, c6, eRow_length])
    refine ⟨⟨(j + 1, i + 1, D.set i (at0 b (k + j)), _), by show 1 ≤ j + 1; omega, by show j + 1 ≤ b.length - k; omega, by show i + 1 ≤ k + (j + 1) - 1; omega, by simpa using hD, ?_, ?_, by rw [aB.eq_2, if_pos rfl], ?_⟩, by simp; omega, aF.sub (by simp [look])⟩
    · show (D.set i (at0 b (k + j))).take (i + 1) = comp (b.take (k + j + 1))
      rw [hst2, ← hT, List.take_add_one, List.getElem?_set_self (by omega), List.take_set_of_le (Nat.le_refl i)]; rfl
    · intro x hx
      have hx' : k + (j + 1) - 1 ≤ x := hx
      show at0 (D.set i _) x = _
      rw [← hS x (by omega)]
      unfold at0
      simp only [List.getD_eq_getElem?_getD, List.getElem?_set]
      rw [if_neg (by omega)]
    · intro x hx
      rw [aB.eq_2, if_neg (fun e => hx e.symm)]; exact ho x hx
end
end Go.Ev
