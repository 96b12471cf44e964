import Derived.Test.YtdhnjbgggkdiiaaGreatDoorCut
set_option linter.unusedSimpArgs false
set_option linter.unusedVariables false
namespace Go.Ev
open Go.RowKit Go.Proofs
set_option linter.defProp false
def TF36Split := And.intro (And.intro (And.intro (And.intro (@Tryz.underlying3) (And.intro (@sz3) (@cE))) (And.intro (And.intro (@I3s) (@I3b)) (And.intro (@cA) (@cF)))) (And.intro (And.intro (@Tryz.underlying5) (And.intro (@sz5) (@eF))) (And.intro (And.intro (@I5s) (@I5b)) (And.intro (@dY) (@eG))))) (And.intro (And.intro (And.intro (@Tryz.underlying9) (And.intro (@sz9) (@cB))) (And.intro (And.intro (@I9s) (@I9b)) (And.intro (@bY) (@cC)))) (And.intro (And.intro (And.intro (@Tryz.underlying56) (@sz56)) (And.intro (@info56) (@I56s))) (And.intro (And.intro (@I56b) (@zero56)) (And.intro (@grow56) (@Tryz.results36)))))
set_option maxRecDepth 20000
set_option maxHeartbeats 8000000

/-! the parts of a string between a byte -/
def bI (c : Nat) : List Nat → List (List Nat)
  | [] => [[]]
  | b :: l => if b = c then [] :: bI c l else match bI c l with
    | w :: r => (b :: w) :: r
    | [] => [[b]]
theorem splitC_word {c : Nat} : ∀ {w : List Nat}, (∀ x ∈ w, x ≠ c) → bI c w = [w]
  | [], _ => rfl
  | b :: w, h => by
    have ih := splitC_word (w := w) fun x hx => h x (List.mem_cons_of_mem _ hx)
    simp only [bI, if_neg (h b List.mem_cons_self), ih]
theorem splitC_cut {c : Nat} {r : List Nat} : ∀ {w : List Nat}, (∀ x ∈ w, x ≠ c) → bI c (w ++ c :: r) = w :: bI c r
  | [], _ => by simp [bI]
  | b :: w, h => by
    have ih := splitC_cut (r := r) (w := w) fun x hx => h x (List.mem_cons_of_mem _ hx)
    simp only [List.cons_append, bI, if_neg (h b List.mem_cons_self), ih]
theorem splitC_ne {c : Nat} (l : List Nat) : bI c l ≠ [] := by
  cases l with
  | nil => simp [bI]
  | cons b l =>
    simp only [bI]
    split
    · simp
    · split <;> simp
def partL (l : List Nat) (f k : Nat) : List Nat := (l.take k).drop f
theorem partL_no {l : List Nat} {f k c : Nat} (h : ∀ j, f ≤ j → j < k → l[j]? ≠ some c) : ∀ x ∈ partL l f k, x ≠ c := by
  intro x hx hxc
  subst hxc
  obtain ⟨i, hi, e⟩ := List.getElem_of_mem hx
  simp only [partL, List.length_drop, List.length_take] at hi
  have : l[f + i]? = some x := by
    rw [← e]
    simp only [partL, List.getElem_drop, List.getElem_take]
    exact List.getElem?_eq_getElem (by omega)
  exact h (f + i) (by omega) (by omega) this
theorem drop_part {l : List Nat} {f k : Nat} (h : f ≤ k) : l.drop f = partL l f k ++ l.drop k := by
  unfold partL
  conv => lhs; rw [← List.take_append_drop k l]
  by_cases hk : k ≤ l.length
  · rw [List.drop_append_of_le_length (by simp; omega)]
  · have e1 : l.drop k = [] := List.drop_eq_nil_of_le (by omega)
    have e2 : l.take k = l := List.take_of_length_le (by omega)
    rw [e1, e2]; simp
def F36 : List EVal → Option EVal
  | [.str l, .int .u8 c] => if (0 ≤ c ∧ c < 256) ∧ l.length ≤ 5000 then some (.lsl (dX (bI c.toNat l))) else none
  | _ => none
theorem e36 {l : List Nat} {c : Nat} (hc : c < 256) (h : l.length ≤ 5000) : F36 [.str l, .int .u8 (c : Int)] = some (.lsl (dX (bI c l))) := by
  simp only [F36]; rw [if_pos ⟨⟨by omega, by omega⟩, h⟩, Int.toNat_natCast]
theorem fn36 : FnT 36 F36 := by
  refine Fn.intro mixed aV Tryz.func36 rfl [] (fun _ h => by cases h) ?_
  intro args v hF
  unfold F36 at hF
  split at hF
  rotate_left
  · cases hF
  intro Q hV
  have hQ := bM.of hV
  rename_i l c
  split at hF
  rotate_left
  · cases hF
  rename_i hc
  obtain ⟨⟨c0, c256⟩, hlen⟩ := hc
  cases hF
  obtain ⟨c, rfl⟩ : ∃ n : Nat, c = (n : Int) := ⟨c.toNat, by omega⟩
  rw [Int.toNat_natCast] at hQ hV
  refine Top.view (aT.start (n := 35) rfl (by simp)) (aR aV _ _ _ _ ?_)
  ((try simp only [aO, SS, TF36Split, aM, setRange, aN, aC, aB, aF, aE, aD, aA, Nat.reduceLT, Nat.reduceEqDiff, Nat.reduceAdd, Nat.reduceMul, Nat.reduceSub, Nat.reduceLeDiff, Nat.reduceBEq, reduceCtorEq]); (repeat' ((first | apply aJ | apply aI | apply aL | apply aK | apply aH | apply aG) <;> intro h <;> simp only [h, SS, TF36Split, aM, setRange, aN, aC, aB, aF, aE, aD, aA, Nat.reduceLT, Nat.reduceEqDiff, Nat.reduceAdd, Nat.reduceMul, Nat.reduceSub, Nat.reduceLeDiff, Nat.reduceBEq, reduceCtorEq])))
  refine bR (Top.loop (I := fun s : { x : Nat × Nat × List (List Nat) // x.2.2.length ≤ x.1 ∧ x.1 ≤ l.length + 1 ∧ ((x.1 ≤ l.length ∧ x.2.1 ≤ x.1 ∧ bI c l = x.2.2 ++ bI c (l.drop x.2.1) ∧ ∀ j, x.2.1 ≤ j → j < x.1 → l[j]? ≠ some c) ∨ (x.1 = l.length + 1 ∧ bI c l = x.2.2)) } => (mkF 35 [(7, .int .i64 (s.1.1 : Nat)), (6, .int .i64 (s.1.2.1 : Nat)), (5, .gsl 0 (dX s.1.2.2)), (0, .str l), (1, .int .u8 (c : Nat))], mkH 0 [] 1 [(0, some (s.1.2.2.length, 9))])) (μ := fun s => l.length + 1 - s.1.1) ⟨(0, 0, []), by simp, by simp, .inl ⟨by simp, by simp, by simp, by intro j h1 h2; omega⟩⟩ (aT.trans (aT.grow 5 9 (by omega) (by omega) (by simp [look])) (aT.sub (by simp [look, dX]))) ?_)
  rintro ⟨⟨k, f, done⟩, hd, hk, hs⟩
  dsimp only at hd hk hs
  refine aR aV _ _ _ _ ?_
  dsimp only
  by_cases hkl : k ≤ l.length
  rotate_left
  · obtain ⟨_, hs⟩ := hs.resolve_left (fun h => hkl h.1)
    have q1 : decide ((k : Int) ≤ (l.length : Int)) = false := by simp; omega
    ((try simp only [aO, SS, TF36Split, aM, setRange, aN, aC, aB, aF, aE, aD, aA, Nat.reduceLT, Nat.reduceEqDiff, Nat.reduceAdd, Nat.reduceMul, Nat.reduceSub, Nat.reduceLeDiff, Nat.reduceBEq, reduceCtorEq, q1]); (repeat' ((first | apply aJ | apply aI | apply aL | apply aK | apply aH | apply aG) <;> intro h <;> simp only [h, SS, TF36Split, aM, setRange, aN, aC, aB, aF, aE, aD, aA, Nat.reduceLT, Nat.reduceEqDiff, Nat.reduceAdd, Nat.reduceMul, Nat.reduceSub, Nat.reduceLeDiff, Nat.reduceBEq, reduceCtorEq, q1])))
    (refine hQ _ _ _ (aQ (by first | exact .inl rfl | exact .inr rfl) ?_); simp only [SS, TF36Split, aM, setRange, aN, aC, aB, aF, aE, aD, aA, Nat.reduceLT, Nat.reduceEqDiff, Nat.reduceAdd, Nat.reduceMul, Nat.reduceSub, Nat.reduceLeDiff, Nat.reduceBEq, reduceCtorEq])
    rw [hs]
  obtain ⟨_, hf, hs2, hno⟩ := hs.resolve_right (fun h => by omega)
  have q1 : decide ((k : Int) ≤ (l.length : Int)) = true := by simp; omega
  have q2 : IntKind.i64.wrap ((k : Int) + 1) = ((k + 1 : Nat) : Int) := by rw [bN] <;> omega
  have hpn := partL_no hno
  have hdp := drop_part (l := l) hf
  have b1 : ((k : Int) ≤ (l.length : Int)) = True := by simp; omega
  have b2 : ((f : Int) ≤ (k : Int)) = True := by simp; omega
  have b3 : (l.take k).drop f = partL l f k := rfl
  have q3 : 16 * (done.length + 1) ≤ 1000000 := by omega
  have hes : dX done ++ [[.str (partL l f k)]] = dX (done ++ [partL l f k]) := by simp [dX]
  have hlo := lensOK_eStrs done
  by_cases hke : k = l.length
  · subst hke
    have q4 : ((l.length : Int) == (l.length : Int)) = true := by simp
    have hlast : bI c l = done ++ [partL l f l.length] := by
      rw [hs2, hdp, List.drop_length, List.append_nil, splitC_word hpn]
    ((try simp only [aO, SS, TF36Split, aM, setRange, aN, aC, aB, aF, aE, aD, aA, Nat.reduceLT, Nat.reduceEqDiff, Nat.reduceAdd, Nat.reduceMul, Nat.reduceSub, Nat.reduceLeDiff, Nat.reduceBEq, reduceCtorEq, q1, q4, q2, b1, b2, b3, q3, hes, hlo, eStrs_length]); (repeat' ((first | apply aJ | apply aI | apply aL | apply aK | apply aH | apply aG) <;> intro h <;> simp only [h, SS, TF36Split, aM, setRange, aN, aC, aB, aF, aE, aD, aA, Nat.reduceLT, Nat.reduceEqDiff, Nat.reduceAdd, Nat.reduceMul, Nat.reduceSub, Nat.reduceLeDiff, Nat.reduceBEq, reduceCtorEq, q1, q4, q2, b1, b2, b3, q3, hes, hlo, eStrs_length])))
    exact ⟨⟨(l.length + 1, l.length + 1, done ++ [partL l f l.length]), by show (done ++ [partL l f l.length]).length ≤ l.length + 1; simp; omega, by show l.length + 1 ≤ l.length + 1; omega, .inr ⟨rfl, hlast⟩⟩, by simp, aT.drop (by simp [look, below]) (by simp [aP]) (by simp [aP])⟩
  obtain ⟨x, hx⟩ : ∃ x, l[k]? = some x := ⟨l[k], List.getElem?_eq_getElem (by omega)⟩
  have q4 : ((k : Int) == (l.length : Int)) = false := by rw [beq_eq_false_iff_ne]; omega
  have qc : ((x : Int) == (c : Int)) = (x == c) := by rw [Bool.eq_iff_iff, beq_iff_eq, beq_iff_eq]; omega
  cases hxc : (x == c) with
  | true =>
    have hxe : x = c := by simpa using hxc
    subst hxe
    have hcut : bI x l = done ++ [partL l f k] ++ bI x (l.drop (k + 1)) := by
      obtain ⟨hk2, hxk⟩ := List.getElem?_eq_some_iff.1 hx
      rw [hs2, hdp, List.drop_eq_getElem_cons hk2, hxk, splitC_cut hpn]; simp
    ((try simp only [aO, SS, TF36Split, aM, setRange, aN, aC, aB, aF, aE, aD, aA, Nat.reduceLT, Nat.reduceEqDiff, Nat.reduceAdd, Nat.reduceMul, Nat.reduceSub, Nat.reduceLeDiff, Nat.reduceBEq, reduceCtorEq, q1, q4, q2, hx, hxc, b1, b2, b3, q3, hes, hlo, eStrs_length]); (repeat' ((first | apply aJ | apply aI | apply aL | apply aK | apply aH | apply aG) <;> intro h <;> simp only [h, SS, TF36Split, aM, setRange, aN, aC, aB, aF, aE, aD, aA, Nat.reduceLT, Nat.reduceEqDiff, Nat.reduceAdd, Nat.reduceMul, Nat.reduceSub, Nat.reduceLeDiff, Nat.reduceBEq, reduceCtorEq, q1, q4, q2, hx, hxc, b1, b2, b3, q3, hes, hlo, eStrs_length])))
    exact ⟨⟨(k + 1, k + 1, done ++ [partL l f k]), by show (done ++ [partL l f k]).length ≤ k + 1; simp; omega, by show k + 1 ≤ l.length + 1; omega, .inl ⟨by show k + 1 ≤ l.length; omega, by show k + 1 ≤ k + 1; omega, hcut, by intro j h1 h2; exact absurd h2 (by have : k + 1 ≤ j := h1; show ¬ j < k + 1; omega)⟩⟩, by simp; omega, aT.drop (by simp [look, below]) (by simp [aP]) (by simp [aP])⟩
  | false =>
    have hxe : x ≠ c := by simpa using hxc
    ((try simp only [aO, SS, TF36Split, aM, setRange, aN, aC, aB, aF, aE, aD, aA, Nat.reduceLT, Nat.reduceEqDiff, Nat.reduceAdd, Nat.reduceMul, Nat.reduceSub, Nat.reduceLeDiff, Nat.reduceBEq, reduceCtorEq, q1, q4, q2, hx, qc, hxc]); (repeat' ((first | apply aJ | apply aI | apply aL | apply aK | apply aH | apply aG) <;> intro h <;> simp only [h, SS, TF36Split, aM, setRange, aN, aC, aB, aF, aE, aD, aA, Nat.reduceLT, Nat.reduceEqDiff, Nat.reduceAdd, Nat.reduceMul, Nat.reduceSub, Nat.reduceLeDiff, Nat.reduceBEq, reduceCtorEq, q1, q4, q2, hx, qc, hxc])))
    refine ⟨⟨(k + 1, f, done), by show done.length ≤ k + 1; omega, by show k + 1 ≤ l.length + 1; omega, .inl ⟨by show k + 1 ≤ l.length; omega, by show f ≤ k + 1; omega, hs2, ?_⟩⟩, by simp; omega, (aT.sub (by simp [look]))⟩
    intro j h1 h2
    by_cases hjk : j = k
    · subst hjk; rw [hx]; intro h; exact hxe (Option.some.inj h)
    · exact hno j h1 (by have : j < k + 1 := h2; omega)
end Go.Ev
