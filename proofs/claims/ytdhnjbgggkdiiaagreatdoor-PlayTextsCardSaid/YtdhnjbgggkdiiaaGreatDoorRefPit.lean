import Derived.Test.YtdhnjbgggkdiiaaGreatDoorCut
set_option linter.unusedSimpArgs false
set_option linter.unusedVariables false
namespace Go.Ev
open Go.RowKit Go.Proofs
set_option linter.defProp false
def TF36Split := And.intro (And.intro (And.intro (And.intro (@Tryz.underlying3) (And.intro (@sz3) (@bN))) (And.intro (And.intro (@I3s) (@I3b)) (And.intro (@bL) (@bO)))) (And.intro (And.intro (@Tryz.underlying5) (And.intro (@sz5) (@dK))) (And.intro (And.intro (@I5s) (@I5b)) (And.intro (@dG) (@dL))))) (And.intro (And.intro (And.intro (@Tryz.underlying9) (And.intro (@sz9) (@bI))) (And.intro (And.intro (@I9s) (@I9b)) (And.intro (@bH) (@bJ)))) (And.intro (And.intro (And.intro (@Tryz.underlying56) (@sz56)) (And.intro (@info56) (@I56s))) (And.intro (And.intro (@I56b) (@zero56)) (And.intro (@grow56) (@Tryz.results36)))))
set_option maxRecDepth 20000
set_option maxHeartbeats 8000000

/-! the parts of a string between a byte -/
def aT (c : Nat) : List Nat → List (List Nat)
  | [] => [[]]
  | b :: l => if b = c then [] :: aT c l else match aT c l with
    | w :: r => (b :: w) :: r
    | [] => [[b]]
theorem splitC_word {c : Nat} : ∀ {w : List Nat}, (∀ x ∈ w, x ≠ c) → aT c w = [w]
  | [], _ => rfl
  | b :: w, h => by
    have ih := splitC_word (w := w) fun x hx => h x (List.mem_cons_of_mem _ hx)
    simp only [aT, if_neg (h b List.mem_cons_self), ih]
theorem splitC_cut {c : Nat} {r : List Nat} : ∀ {w : List Nat}, (∀ x ∈ w, x ≠ c) → aT c (w ++ c :: r) = w :: aT c r
  | [], _ => by simp [aT]
  | b :: w, h => by
    have ih := splitC_cut (r := r) (w := w) fun x hx => h x (List.mem_cons_of_mem _ hx)
    simp only [List.cons_append, aT, if_neg (h b List.mem_cons_self), ih]
theorem splitC_ne {c : Nat} (l : List Nat) : aT c l ≠ [] := by
  cases l with
  | nil => simp [aT]
  | cons b l =>
    simp only [aT]
    split
    · simp
    · split <;> simp
def partL (l : List Nat) (f k : Nat) : List Nat := (l.take k).drop f
theorem partL_no {l : List Nat} {f k c : Nat} (h : ∀ j, f ≤ j → j < k → l[j]? ≠ some c) : ∀ x ∈ partL l f k, x ≠ c := by
  intro x hx hxc
  subst hxc
  obtain ⟨i, hi, e⟩ := List.getElem_of_mem hx
  simp only [partL, List.length_drop, List.length_take] at hi
  have : l[f + i]? = some x := by
    rw [← e]
    simp only [partL, List.getElem_drop, List.getElem_take]
    exact List.getElem?_eq_getElem (by omega)
  exact h (f + i) (by omega) (by omega) this
theorem drop_part {l : List Nat} {f k : Nat} (h : f ≤ k) : l.drop f = partL l f k ++ l.drop k := by
  unfold partL
  conv => lhs; rw [← List.take_append_drop k l]
  by_cases hk : k ≤ l.length
  · rw [List.drop_append_of_le_length (by simp; omega)]
  · have e1 : l.drop k = [] := List.drop_eq_nil_of_le (by omega)
    have e2 : l.take k = l := List.take_of_length_le (by omega)
    rw [e1, e2]; simp
def F36 : List EVal → Option EVal
  | [.str l, .int .u8 c] => if (0 ≤ c ∧ c < 256) ∧ l.length ≤ 5000 then some (.lsl (cZ (aT c.toNat l))) else none
  | _ => none
theorem e36 {l : List Nat} {c : Nat} (hc : c < 256) (h : l.length ≤ 5000) : F36 [.str l, .int .u8 (c : Int)] = some (.lsl (cZ (aT c l))) := by
  simp only [F36]; rw [if_pos ⟨⟨by omega, by omega⟩, h⟩, Int.toNat_natCast]
theorem fn36 : FnT 36 F36 := by
  refine Fn.intro mixed aI Tryz.func36 rfl [] (fun _ h => by cases h) ?_
  intro args v hF
  unfold F36 at hF
  split at hF
  rotate_left
  · cases hF
  intro Q hV
  have hQ := aS.of hV
  rename_i l c
  split at hF
  rotate_left
  · cases hF
  rename_i hc
  obtain ⟨⟨c0, c256⟩, hlen⟩ := hc
  cases hF
  obtain ⟨c, rfl⟩ : ∃ n : Nat, c = (n : Int) := ⟨c.toNat, by omega⟩
  rw [Int.toNat_natCast] at hQ hV
  refine Top.view (aH.start (n := 35) rfl (by simp)) (aD aI _ _ _ _ ?_)
  (try simp only [aG, SS, aA, Nat.reduceLT])
  refine aU (Top.loop (I := fun s : { x : Nat × Nat × List (List Nat) // x.2.2.length ≤ x.1 ∧ x.1 ≤ l.length + 1 ∧ ((x.1 ≤ l.length ∧ x.2.1 ≤ x.1 ∧ aT c l = x.2.2 ++ aT c (l.drop x.2.1) ∧ ∀ j, x.2.1 ≤ j → j < x.1 → l[j]? ≠ some c) ∨ (x.1 = l.length + 1 ∧ aT c l = x.2.2)) } => (mkF 35 [(7, .int .i64 (s.1.1 : Nat)), (6, .int .i64 (s.1.2.1 : Nat)), (5, .gsl 0 (cZ s.1.2.2)), (0, .str l), (1, .int .u8 (c : Nat))], mkH 0 [] 1 [(0, some (s.1.2.2.length, 9))])) (μ := fun s => l.length + 1 - s.1.1) ⟨(0, 0, []), by simp, by simp, .inl ⟨by simp, by simp, by simp, by intro j h1 h2; omega⟩⟩ (aH.trans (aH.grow 5 9 (by omega) (by omega) (by simp [look])) (aH.sub (by simp [look, cZ]))) ?_)
  rintro ⟨⟨k, f, done⟩, hd, hk, hs⟩
  dsimp only at hd hk hs
  refine aD aI _ _ _ _ ?_
  dsimp only
  by_cases hkl : k ≤ l.length
  rotate_left
  · obtain ⟨_, hs⟩ := hs.resolve_left (fun h => hkl h.1)
    have q1 : decide ((k : Int) ≤ (l.length : Int)) = false := by simp; omega
    (try simp only [SS, TF36Split, aA, Nat.reduceLT, Nat.reduceEqDiff, reduceCtorEq, q1])
    (refine hQ _ _ _ (aC (by first | exact .inl rfl | exact .inr rfl) ?_); simp only [SS, TF36Split, Nat.reduceLT, Nat.reduceEqDiff, reduceCtorEq])
    rw [hs]
  obtain ⟨_, hf, hs2, hno⟩ := hs.resolve_right (fun h => by omega)
  have q1 : decide ((k : Int) ≤ (l.length : Int)) = true := by simp; omega
  have q2 : IntKind.i64.wrap ((k : Int) + 1) = ((k + 1 : Nat) : Int) := by rw [aR] <;> omega
  have hpn := partL_no hno
  have hdp := drop_part (l := l) hf
  have b1 : ((k : Int) ≤ (l.length : Int)) = True := by simp; omega
  have b2 : ((f : Int) ≤ (k : Int)) = True := by simp; omega
  have b3 : (l.take k).drop f = partL l f k := rfl
  have q3 : 16 * (done.length + 1) ≤ 1000000 := by omega
  have hes : cZ done ++ [[.str (partL l f k)]] = cZ (done ++ [partL l f k]) := by simp [cZ]
  have hlo := lensOK_eStrs done
  by_cases hke : k = l.length
  · subst hke
    have q4 : ((l.length : Int) == (l.length : Int)) = true := by simp
    have hlast : aT c l = done ++ [partL l f l.length] := by
      rw [hs2, hdp, List.drop_length, List.append_nil, splitC_word hpn]
    (try simp only [SS, TF36Split, setRange, bQ, aA, aQ, aE, Nat.reduceLT, Nat.reduceEqDiff, Nat.reduceLeDiff, reduceCtorEq, q2, b1, b2, b3, q3, hes, hlo, aY])
    exact ⟨⟨(l.length + 1, l.length + 1, done ++ [partL l f l.length]), by show (done ++ [partL l f l.length]).length ≤ l.length + 1; simp; omega, by show l.length + 1 ≤ l.length + 1; omega, .inr ⟨rfl, hlast⟩⟩, by simp, aH.drop (by simp [look, below]) (by simp [aB]) (by simp [aB])⟩
  obtain ⟨x, hx⟩ : ∃ x, l[k]? = some x := ⟨l[k], List.getElem?_eq_getElem (by omega)⟩
  have q4 : ((k : Int) == (l.length : Int)) = false := by rw [beq_eq_false_iff_ne]; omega
  have qc : ((x : Int) == (c : Int)) = (x == c) := by rw [Bool.eq_iff_iff, beq_iff_eq, beq_iff_eq]; omega
  cases hxc : (x == c) with
  | true =>
    have hxe : x = c := by simpa using hxc
    subst hxe
    have hcut : aT x l = done ++ [partL l f k] ++ aT x (l.drop (k + 1)) := by
      obtain ⟨hk2, hxk⟩ := List.getElem?_eq_some_iff.1 hx
      rw [hs2, hdp, List.drop_eq_getElem_cons hk2, hxk, splitC_cut hpn]; simp
    (try simp only [SS, TF36Split, setRange, bQ, aA, aQ, aE, Nat.reduceLT, Nat.reduceEqDiff, Nat.reduceLeDiff, reduceCtorEq, q4, q2, hx, b1, b2, b3, q3, hes, hlo, aY])
    exact ⟨⟨(k + 1, k + 1, done ++ [partL l f k]), by show (done ++ [partL l f k]).length ≤ k + 1; simp; omega, by show k + 1 ≤ l.length + 1; omega, .inl ⟨by show k + 1 ≤ l.length; omega, by show k + 1 ≤ k + 1; omega, hcut, by intro j h1 h2; exact absurd h2 (by have : k + 1 ≤ j := h1; show ¬ j < k + 1; omega)⟩⟩, by simp; omega, aH.drop (by simp [look, below]) (by simp [aB]) (by simp [aB])⟩
  | false =>
    have hxe : x ≠ c := by simpa using hxc
    (try simp only [SS, TF36Split, aA, Nat.reduceLT, Nat.reduceEqDiff, reduceCtorEq, q1, q4, q2, hx, qc, hxc])
    refine ⟨⟨(k + 1, f, done), by show done.length ≤ k + 1; omega, by show k + 1 ≤ l.length + 1; omega, .inl ⟨by show k + 1 ≤ l.length; omega, by show f ≤ k + 1; omega, hs2, ?_⟩⟩, by simp; omega, (aH.sub (by simp [look]))⟩
    intro j h1 h2
    by_cases hjk : j = k
    · subst hjk; rw [hx]; intro h; exact hxe (Option.some.inj h)
    · exact hno j h1 (by have : j < k + 1 := h2; omega)
end Go.Ev
namespace Go.Ev
open Go.RowKit Go.Proofs
set_option linter.defProp false
def TF101RefPit := And.intro (And.intro (And.intro (And.intro (@Tryz.underlying3) (@sz3)) (And.intro (@bN) (And.intro (@I3s) (@I3b)))) (And.intro (And.intro (@bL) (And.intro (@bO) (@Tryz.underlying5))) (And.intro (@sz5) (And.intro (@dK) (@I5s))))) (And.intro (And.intro (And.intro (@I5b) (And.intro (@dG) (@dL))) (And.intro (@Tryz.underlying9) (And.intro (@sz9) (@bI)))) (And.intro (And.intro (@I9s) (And.intro (@I9b) (@bH))) (And.intro (@bJ) (And.intro (@call74) (@Tryz.results101)))))
def TF167RefPit := And.intro (And.intro (And.intro (@Tryz.underlying3) (And.intro (@sz3) (@bN))) (And.intro (And.intro (@I3s) (@I3b)) (And.intro (@bL) (@bO)))) (And.intro (And.intro (And.intro (@Tryz.underlying21) (@sz21)) (And.intro (@info21) (@I21s))) (And.intro (And.intro (@I21b) (@zero21)) (And.intro (@grow21) (@Tryz.results167))))
def TF168RefPit := And.intro (And.intro (And.intro (@Tryz.underlying9) (@sz9)) (And.intro (@bI) (@I9s))) (And.intro (And.intro (@I9b) (@bH)) (And.intro (@bJ) (And.intro (@call183) (@Tryz.results168))))
def TF183RefPit := And.intro (And.intro (And.intro (@Tryz.underlying9) (@sz9)) (And.intro (@bI) (@I9s))) (And.intro (And.intro (@I9b) (@bH)) (And.intro (@bJ) (And.intro (@call211) (@Tryz.results183))))
def TF211RefPit := And.intro (And.intro (And.intro (@Tryz.underlying3) (And.intro (@sz3) (@bN))) (And.intro (And.intro (@I3s) (@I3b)) (And.intro (@bL) (@bO)))) (And.intro (And.intro (And.intro (@Tryz.underlying9) (@sz9)) (And.intro (@bI) (@I9s))) (And.intro (And.intro (@I9b) (@bH)) (And.intro (@bJ) (@Tryz.results211))))
set_option maxRecDepth 20000
set_option maxHeartbeats 8000000

/-! the words of the reference -/
def F101 : List EVal → Option EVal
  | [.str l] => if l.length < 1000000000 then some (.bool (pitW l)) else none
  | _ => none
theorem e101 {l : List Nat} (h : l.length < 1000000000) : F101 [.str l] = some (.bool (pitW l)) := by simp only [F101]; rw [if_pos h]
theorem fn101 : FnT 101 F101 := by
  refine Fn.intro mixed aI Tryz.func101 rfl [(74, F74)] (by simp only [List.forall_mem_cons]; exact ⟨fn74, fun _ h => by cases h⟩) ?_
  intro args v hF
  unfold F101 at hF
  split at hF
  rotate_left
  · cases hF
  intro Q hV
  have hQ := aS.of hV
  rename_i l
  split at hF
  rotate_left
  · cases hF
  rename_i hlen
  cases hF
  have u45 : UInt8.toNat 45 = 45 := rfl
  refine Top.view (aH.start (n := 19) rfl (by simp)) (aD aI _ _ _ _ ?_)
  cases hc : decide (l = [45]) with
  | true =>
    (try simp only [aG, SS, aA, Nat.reduceLT, Nat.reduceEqDiff, reduceCtorEq, u45, hc])
    (refine hQ _ _ _ (aC (by first | exact .inl rfl | exact .inr rfl) ?_); simp only [SS, TF101RefPit, Nat.reduceLT, Nat.reduceEqDiff, reduceCtorEq])
    simp only [pitW, hc, Bool.true_or]
  | false =>
  have hE : pitW l = cS isP l := by simp only [pitW, hc, Bool.false_or]
  rw [hE] at hQ
  (try simp only [aG, SS, aA, Nat.reduceLT, Nat.reduceEqDiff, reduceCtorEq, u45, hc])
  refine aU (Top.loop (I := fun s : { k : Nat // k ≤ l.length ∧ l.all isP = (l.drop k).all isP } => (mkF 19 [(3, .int .i64 (s.1 : Nat)), (0, .str l)], H.start)) (μ := fun s => l.length - s.1) ⟨0, by simp, rfl⟩ (aH.sub (by simp [look])) ?_)
  rintro ⟨k, hk, hf⟩
  refine aD aI _ _ _ _ ?_
  dsimp only
  by_cases hlt : k < l.length
  rotate_left
  · have hall : l.all isP = true := by rw [hf, List.drop_eq_nil_of_le (by omega)]; rfl
    have q1 : decide ((k : Int) < (l.length : Int)) = false := by simp; omega
    (try simp only [SS, TF101RefPit, aA, Nat.reduceLT, Nat.reduceEqDiff, reduceCtorEq, q1])
    (refine hQ _ _ _ (aC (by first | exact .inl rfl | exact .inr rfl) ?_); simp only [SS, TF101RefPit, Nat.reduceLT, Nat.reduceEqDiff, reduceCtorEq])
    simp only [cS, hall, Bool.true_and, ne_eq, decide_not]
  obtain ⟨x, hx⟩ : ∃ x, l[k]? = some x := ⟨l[k], List.getElem?_eq_getElem hlt⟩
  have hfd := all_dropN (f := isP) hx
  have q1 : decide ((k : Int) < (l.length : Int)) = true := by simp; omega
  have q2 : IntKind.i64.wrap ((k : Int) + 1) = ((k + 1 : Nat) : Int) := by rw [aR] <;> omega
  cases hp : isP x with
  | false =>
    (try simp only [SS, TF101RefPit, aF, aA, Nat.reduceLT, Nat.reduceEqDiff, reduceCtorEq, q1, hx, e74P, hp])
    (refine hQ _ _ _ (aC (by first | exact .inl rfl | exact .inr rfl) ?_); simp only [SS, TF101RefPit, Nat.reduceLT, Nat.reduceEqDiff, reduceCtorEq])
    simp only [cS, hf, hfd, hp, Bool.false_and]
  | true =>
    (try simp only [SS, TF101RefPit, aF, aA, Nat.reduceLT, Nat.reduceEqDiff, reduceCtorEq, q1, q2, hx, e74P, hp])
    exact ⟨⟨k + 1, hlt, by rw [hf, hfd, hp]; rfl⟩, by simp; omega, aH.sub (by simp [look])⟩
/-! digits read -/
def bT (x : Nat) : Int := (x : Int) - 48
def F167 : List EVal → Option EVal
  | [.int .i32 r] => if 0 ≤ r ∧ r < 1000 then some (.int .i64 (r - 48)) else none
  | _ => none
theorem e167 {x : Nat} (h : x < 1000) : F167 [.int .i32 (x : Int)] = some (.int .i64 (bT x)) := by simp only [F167, bT]; rw [if_pos (by omega)]
theorem fn167 : FnT 167 F167 := by
  refine Fn.intro mixed aI Tryz.func167 rfl [] (fun _ h => by cases h) ?_
  intro args v hF
  unfold F167 at hF
  split at hF
  rotate_left
  · cases hF
  intro Q hV
  have hQ := aS.of hV
  rename_i r
  split at hF
  rotate_left
  · cases hF
  rename_i h
  cases hF
  refine Top.view (aH.start (n := 6) rfl (by simp)) (aD aI _ _ _ _ ?_)
  have w1 : IntKind.i32.wrap (r - 48) = r - 48 := by
    have e : IntKind.i32.wrap (r - 48) = (r - 48 + 2147483648) % 4294967296 - 2147483648 := by
      first
        | exact IntKind.wrap_i32 _
        | (simp [IntKind.wrap, IntKind.bits]; done)
    omega
  have w2 : IntKind.i64.wrap (r - 48) = r - 48 := by rw [aR] <;> omega
  (try simp only [aG, SS, TF167RefPit, aA, aL, Nat.reduceLT, Nat.reduceEqDiff, reduceCtorEq, w1, w2])
  (refine hQ _ _ _ (aC (by first | exact .inl rfl | exact .inr rfl) ?_); simp only [SS, TF167RefPit, Nat.reduceLT, Nat.reduceEqDiff, reduceCtorEq])
def trimE (l : List Nat) : List Nat := match l with
  | 58 :: r => r
  | _ => l
def F211 : List EVal → Option EVal
  | [.str l, .str [58]] => if l.length < 1000000000 then some (.bool (decide (l.take 1 = [58]))) else none
  | _ => none
theorem fn211 : FnT 211 F211 := by
  refine Fn.intro mixed aI Tryz.func211 rfl [] (fun _ h => by cases h) ?_
  intro args v hF
  unfold F211 at hF
  split at hF
  rotate_left
  · cases hF
  intro Q hV
  have hQ := aS.of hV
  rename_i l
  split at hF
  rotate_left
  · cases hF
  rename_i h
  cases hF
  refine Top.view (aH.start (n := 18) rfl (by simp)) (aD aI _ _ _ _ ?_)
  by_cases hl : 1 ≤ l.length
  · have q1 : decide (((1 : Nat) : Int) ≤ (l.length : Int)) = true := by simp; omega
    have b1 : (((1 : Nat) : Int) ≤ (l.length : Int)) = True := by simp; omega
    have c1 : Int.toNat ((1 : Nat) : Int) = 1 := rfl
    (try simp only [aG, SS, TF211RefPit, aA, aQ, Nat.reduceLT, Nat.reduceEqDiff, reduceCtorEq, b1, c1])
    (refine hQ _ _ _ (aC (by first | exact .inl rfl | exact .inr rfl) ?_); simp only [SS, TF211RefPit, Nat.reduceLT, Nat.reduceEqDiff, reduceCtorEq])
  · have q1 : decide (((1 : Nat) : Int) ≤ (l.length : Int)) = false := by simp; omega
    have hl0 : l = [] := List.eq_nil_of_length_eq_zero (by omega)
    (try simp only [aG, SS, TF211RefPit, aA, Nat.reduceLT, Nat.reduceEqDiff, reduceCtorEq, q1])
    (refine hQ _ _ _ (aC (by first | exact .inl rfl | exact .inr rfl) ?_); simp only [SS, TF211RefPit, Nat.reduceLT, Nat.reduceEqDiff, reduceCtorEq])
    rw [hl0]; rfl
def F183 : List EVal → Option EVal
  | [.str l, .str [58]] => if l.length < 1000000000 then some (.str (trimE l)) else none
  | _ => none
theorem trimE_t {l : List Nat} (h : l.take 1 = [58]) : trimE l = l.drop 1 ∧ 1 ≤ l.length := by
  cases l with
  | nil => cases h
  | cons a l => simp at h; subst h; exact ⟨rfl, by simp⟩
theorem trimE_f {l : List Nat} (h : ¬ l.take 1 = [58]) : trimE l = l := by
  unfold trimE
  split
  · simp at h
  · rfl
theorem fn183 : FnT 183 F183 := by
  refine Fn.intro mixed aI Tryz.func183 rfl [(211, F211)] (by simp only [List.forall_mem_cons]; exact ⟨fn211, fun _ h => by cases h⟩) ?_
  intro args v hF
  unfold F183 at hF
  split at hF
  rotate_left
  · cases hF
  intro Q hV
  have hQ := aS.of hV
  rename_i l
  split at hF
  rotate_left
  · cases hF
  rename_i h
  cases hF
  have h211 : F211 [.str l, .str [58]] = some (.bool (decide (l.take 1 = [58]))) := by simp only [F211]; rw [if_pos h]
  refine Top.view (aH.start (n := 13) rfl (by simp)) (aD aI _ _ _ _ ?_)
  by_cases hc : l.take 1 = [58]
  · obtain ⟨e1, e2⟩ := trimE_t hc
    rw [decide_eq_true hc] at h211
    have b1 : (((1 : Nat) : Int) ≤ (l.length : Int)) = True := by simp; omega
    have t1 : l.take l.length = l := List.take_length
    (try simp only [aG, SS, TF183RefPit, aF, aA, aQ, Nat.reduceLT, Nat.reduceEqDiff, reduceCtorEq, h211, b1, t1])
    (refine hQ _ _ _ (aC (by first | exact .inl rfl | exact .inr rfl) ?_); simp only [SS, TF183RefPit, Nat.reduceLT, Nat.reduceEqDiff, reduceCtorEq])
    rw [e1]
  · rw [decide_eq_false hc] at h211
    (try simp only [aG, SS, TF183RefPit, aF, aA, Nat.reduceLT, Nat.reduceEqDiff, reduceCtorEq, h211])
    (refine hQ _ _ _ (aC (by first | exact .inl rfl | exact .inr rfl) ?_); simp only [SS, TF183RefPit, Nat.reduceLT, Nat.reduceEqDiff, reduceCtorEq])
    rw [trimE_f hc]
def F168 : List EVal → Option EVal
  | [.str l, .str [58]] => if l.length < 1000000000 then some (.str (trimE l)) else none
  | _ => none
theorem e168 {l : List Nat} (h : l.length < 1000000000) : F168 [.str l, .str [58]] = some (.str (trimE l)) := by simp only [F168]; rw [if_pos h]
theorem fn168 : FnT 168 F168 := by
  refine Fn.intro mixed aI Tryz.func168 rfl [(183, F183)] (by simp only [List.forall_mem_cons]; exact ⟨fn183, fun _ h => by cases h⟩) ?_
  intro args v hF
  unfold F168 at hF
  split at hF
  rotate_left
  · cases hF
  intro Q hV
  have hQ := aS.of hV
  rename_i l
  split at hF
  rotate_left
  · cases hF
  rename_i h
  cases hF
  have h183 : F183 [.str l, .str [58]] = some (.str (trimE l)) := by simp only [F183]; rw [if_pos h]
  refine Top.view (aH.start (n := 8) rfl (by simp)) (aD aI _ _ _ _ ?_)
  (try simp only [aG, SS, TF168RefPit, aF, aA, Nat.reduceLT, Nat.reduceEqDiff, reduceCtorEq, h183])
  (refine hQ _ _ _ (aC (by first | exact .inl rfl | exact .inr rfl) ?_); simp only [SS, TF168RefPit, Nat.reduceLT, Nat.reduceEqDiff, reduceCtorEq])
end Go.Ev
