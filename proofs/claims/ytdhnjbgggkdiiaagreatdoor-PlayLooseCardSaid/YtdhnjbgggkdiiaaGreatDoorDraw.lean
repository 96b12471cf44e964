import Derived.Test.YtdhnjbgggkdiiaaGreatDoorNamesB
set_option linter.unusedSimpArgs false
set_option linter.unusedVariables false
namespace Go.Ev
open Go.RowKit Go.Proofs
set_option linter.defProp false
def TF26Draw := And.intro (And.intro (And.intro (@Tryz.underlying3) (And.intro (@sz3) (@bK))) (And.intro (And.intro (@I3s) (@I3b)) (And.intro (@bJ) (@bL)))) (And.intro (And.intro (And.intro (@Tryz.underlying25) (@dI)) (And.intro (@bQ) (@dJ))) (And.intro (And.intro (@dK) (@bP)) (And.intro (@bR) (@Tryz.results26))))
set_option maxRecDepth 20000
set_option maxHeartbeats 4000000

/-! the draw of a permutation -/
def stepX (x : Int) : Int := (40692 * x) % 2147483399
def swapL (l : List Int) (i j : Nat) : List Int := (l.set i (l.getD j 0)).set j (l.getD i 0)
/-- from i down to 1 -/
def drawL : Nat → Int → List Int → List Int
  | 0, _, l => l
  | i + 1, x, l => drawL i (stepX x) (swapL l (i + 1) ((stepX x) % ((i : Int) + 2)).toNat)
def rangeI (n : Nat) : List Int := (List.range n).map fun k : Nat => (k : Int)
def drawn (key : Int) (n : Nat) : List Int := drawL (n - 1) key (rangeI n)

theorem eInts_snoc (l : List Int) (x : Int) : aS l ++ [[.int .i64 x]] = aS (l ++ [x]) := by simp [aS]
theorem rangeI_succ (n : Nat) : rangeI (n + 1) = rangeI n ++ [(n : Int)] := by simp [rangeI, List.range_succ]
theorem rangeI_length (n : Nat) : (rangeI n).length = n := by simp [rangeI]
def F26 : List EVal → Option EVal
  | [.int .i64 key, .int .i64 n] => if 1 ≤ key ∧ key ≤ 2147483398 ∧ 0 ≤ n ∧ n ≤ 256 then some (.lsl (aS (drawn key n.toNat))) else none
  | _ => none

theorem fn26 : FnT 26 F26 := by
  refine Fn.intro mixed aJ Tryz.func26 rfl [] (fun _ h => by cases h) ?_
  intro args v hF
  unfold F26 at hF
  split at hF
  rotate_left
  · cases hF
  intro Q hV
  have hQ := aW.of hV
  rename_i key n
  split at hF
  rotate_left
  · cases hF
  rename_i hr
  obtain ⟨hk1, hk2, hn1, hn2⟩ := hr
  cases hF
  obtain ⟨N, rfl⟩ : ∃ N : Nat, n = (N : Int) := ⟨n.toNat, by omega⟩
  simp only [Int.toNat_natCast] at hQ
  refine Top.view (aF.start (n := 48) rfl (by simp)) (aD aJ _ _ _ _ ?_)
  (try simp only [aI, SS, aA, Nat.reduceLT])
  refine aT (Top.loop (I := fun s : { k : Nat // k ≤ N } => (mkF 48 [(6, .int .i64 (s.1 : Nat)), (5, .gsl 0 (aS (rangeI s.1))), (0, .int .i64 key), (1, .int .i64 (N : Int))], mkH 0 [] 1 [(0, some (s.1, 3))])) (μ := fun s => N - s.1) ⟨0, by omega⟩ (aF.trans (aF.grow 5 3 (by omega) (by omega) (by simp [look])) (aF.sub (by simp [look, rangeI, aS]))) ?_)
  rintro ⟨k, hk⟩
  refine aD aJ _ _ _ _ ?_
  by_cases hlt : k < N
  · have c1 : decide ((k : Int) < (N : Int)) = true := by simp; omega
    have c2 : IntKind.i64.wrap ((k : Int) + 1) = ((k + 1 : Nat) : Int) := by rw [aP] <;> omega
    have c3 : 8 * (k + 1) ≤ 1000000 := by omega
    (try simp only [SS, TF26Draw, setRange, bS, aA, aE, Nat.reduceLT, Nat.reduceEqDiff, Nat.reduceLeDiff, reduceCtorEq, c1, c2, c3, aM, rangeI_length, lensOK_eInts, eInts_snoc])
    refine ⟨⟨k + 1, hlt⟩, by simp; omega, ?_⟩
    rw [show rangeI (k + 1) = rangeI k ++ [(k : Int)] from rangeI_succ k]
    exact (aF.drop (by simp [look, below]) (by simp [aB, aR]) (by simp [aB]))
  obtain rfl : k = N := by omega
  have c1 : decide ((k : Int) < (k : Int)) = false := by simp
  have c2 : IntKind.i64.wrap ((k : Int) - 1) = (k : Int) - 1 := by rw [aP] <;> omega
  (try simp only [SS, aA, Nat.reduceLT, Nat.reduceEqDiff, reduceCtorEq, c1, c2])
  by_cases hsmall : k ≤ 1
  · have hd : drawn key k = rangeI k := by
      have : k - 1 = 0 := by omega
      rw [drawn, this]; rfl
    refine aT (Top.loop (I := fun _ : Unit => (mkF 48 [(8, .int .i64 ((k : Int) - 1)), (5, .gsl 0 (aS (rangeI k)))], mkH 0 [] 1 [(0, some (k, 3))])) (μ := fun _ => 0) () (aF.drop (by simp [look, below]) (by simp [aB, aR]) (by simp [aB])) ?_)
    intro _
    refine aD aJ _ _ _ _ ?_
    have c3 : decide ((1 : Int) ≤ (k : Int) - 1) = false := by simp; omega
    (try simp only [SS, aA, Nat.reduceLT, Nat.reduceEqDiff, c3])
    (refine hQ _ _ _ (aC (by first | exact .inl rfl | exact .inr rfl) ?_); simp only [SS, TF26Draw, Nat.reduceLT, Nat.reduceEqDiff])
    rw [hd]
  refine aT (Top.view (f2 := mkF 48 [(8, .int .i64 ((k : Int) - 1)), (7, .int .i64 key), (5, .gsl 0 (aS (rangeI k)))]) (h2 := mkH 0 [] 1 [(0, some (k, 3))]) (aF.drop (by simp [look, below]) (by simp [aB, aR]) (by simp [aB])) ?_)
  have v0 : aF none Tryz.prog (mkF 48 [(8, .int .i64 ((k : Int) - 1)), (7, .int .i64 key), (5, .gsl 0 (aS (rangeI k)))]) (mkH 0 [] 1 [(0, some (k, 3))])
      (mkF 48 [(8, .int .i64 ((k - 1 : Nat) : Int)), (7, .int .i64 key), (5, .slice 0 0 k (.slack 0))]) (mkH 1 [(0, some (.row (dF (rangeI k)) 3 0 0 true))] 0 []) := by
    have a := aF.own (P := Tryz.prog) (s := 48) (m := 1) (n := 0) (l := []) (fl := [(8, .int .i64 ((k : Int) - 1)), (7, .int .i64 key), (5, .gsl 0 (aS (rangeI k)))]) (k := [(0, some (k, 3))]) (els := aS (rangeI k)) (e := 3)
      (fl2 := [(8, .int .i64 ((k : Int) - 1)), (7, .int .i64 key)]) 5 0 (by omega) (by omega) (by omega) (by
        intro h
        have h2 := congrArg List.length h
        rw [aM, rangeI_length] at h2
        simp at h2; omega) (by simp [look]) (by rw [aM, rangeI_length]; simp [aB]) bK (by rw [I3s]; exact lensOK_eInts _) (by rw [eInts_flatten]; exact flatL_eRow _) (by simp [look, flat])
    rw [aM, rangeI_length, eInts_flatten] at a
    have h3 : ((k - 1 : Nat) : Int) = (k : Int) - 1 := by omega
    rw [h3]
    exact a.trans (aF.drop (by simp [look, below]) (by simp [aB, aR, below_eRow]) (by simp [aB]))
  have st : k - 1 < k ∧ (0 ≤ key ∧ key < 2147483399) ∧ (rangeI k).length = k ∧ drawL (k - 1) key (rangeI k) = drawn key k := ⟨by omega, by omega, rangeI_length k, rfl⟩
  refine Top.loop (I := fun s : { p : Nat × Int × List Int // p.1 < k ∧ (0 ≤ p.2.1 ∧ p.2.1 < 2147483399) ∧ p.2.2.length = k ∧ drawL p.1 p.2.1 p.2.2 = drawn key k } => (mkF 48 [(8, .int .i64 (s.1.1 : Nat)), (7, .int .i64 s.1.2.1), (5, .slice 0 0 k (.slack 0))], mkH 1 [(0, some (.row (dF s.1.2.2) 3 0 0 true))] 0 [])) (μ := fun s => s.1.1)
    ⟨(k - 1, key, rangeI k), st⟩ v0 ?_
  rintro ⟨⟨i, x, l⟩, hi, hx, hl, hd⟩
  simp only at hi hx hl hd
  refine aD aJ _ _ _ _ ?_
  by_cases h1 : 1 ≤ i
  · obtain ⟨j, hj⟩ : ∃ j : Nat, stepX x % ((i : Int) + 1) = j := ⟨(stepX x % ((i : Int) + 1)).toNat, by have := Int.emod_nonneg (stepX x) (show (i : Int) + 1 ≠ 0 by omega); omega⟩
    have hjlt : j ≤ i := by have := Int.emod_lt_of_pos (stepX x) (show (0 : Int) < (i : Int) + 1 by omega); omega
    have b1 : decide ((1 : Int) ≤ (i : Int)) = true := by simp; omega
    have b2 : IntKind.i64.wrap (40692 * x) = 40692 * x := by rw [aP] <;> omega
    have hs : 0 ≤ stepX x ∧ stepX x < 2147483399 := by unfold stepX; omega
    have b3 : Int.tmod (40692 * x) 2147483399 = stepX x := Int.tmod_eq_emod_of_nonneg (by omega)
    have b4 : IntKind.i64.wrap ((i : Int) + 1) = (i : Int) + 1 := by rw [aP] <;> omega
    have b5 : Int.tmod (stepX x) ((i : Int) + 1) = (j : Int) := by rw [Int.tmod_eq_emod_of_nonneg hs.1, hj]
    have b6 : ((i : Int) + 1 = 0) = False := by simp; omega
    have b7 : IntKind.i64.wrap ((i : Int) - 1) = ((i - 1 : Nat) : Int) := by rw [aP] <;> omega
    have b8 : ((2147483399 : Int) = 0) = False := by simp
    have b9 : ((i : Int) < (k : Int)) = True := by simp; omega
    have b10 : ((j : Int) < (k : Int)) = True := by simp; omega
    have g1 := eRow_get (l := l) (i := i) (by omega)
    have g2 := eRow_get (l := l) (i := j) (by omega)
    have s1 := setRange_eRow (l := l) (i := i) (x := l.getD j 0) (by omega)
    have s2 : setRange (dF (l.set i (l.getD j 0))) j [.int .i64 (l.getD i 0)] = dF (swapL l i j) := setRange_eRow (by simp; omega)
    have c3 : i + 1 ≤ l.length := by omega
    have c4 : j + 1 ≤ l.length := by omega
    (try simp only [SS, aA, Nat.reduceLT, Nat.reduceEqDiff, b1, b2, b3, b4, b5, b6, b8])
    refine bA (Top.draw mixed aJ (by kernel_rfl) ?_)
    (try simp only [SS, TF26Draw, aA, Nat.reduceLT, Nat.reduceEqDiff, reduceCtorEq, b9, b10, g1, g2, s1, s2, eRow_length, List.length_set, c3, c4])
    refine ⟨by kernel_rfl, ?_⟩
    (try simp only [b7])
    refine ⟨⟨(i - 1, stepX x, swapL l i j), ⟨show i - 1 < k by omega, hs, by simp [swapL, hl], ?_⟩⟩, show i - 1 < i by omega, (aF.drop (by simp [look, below]) (by simp [aB, aR, below_eRow]) (by simp [aB]))⟩
    obtain ⟨i', rfl⟩ : ∃ i', i = i' + 1 := ⟨i - 1, by omega⟩
    rw [← hd]
    have e : stepX x % ((i' : Int) + 2) = j := by rw [← hj]; congr 1
    show drawL i' (stepX x) _ = drawL i' (stepX x) (swapL l (i' + 1) ((stepX x) % ((i' : Int) + 2)).toNat)
    rw [e]; rfl
  · have b1 : decide ((1 : Int) ≤ (i : Int)) = false := by simp; omega
    (try simp only [SS, aA, Nat.reduceLT, Nat.reduceEqDiff, b1])
    obtain rfl : i = 0 := by omega
    refine hV _ _ _ ?_
    refine ⟨_, _, aF.freeze (sz := 1) (fl2 := []) (len := k) (cap := .slack 0) (cells := dF l) (e := 3) (lo := 0) (hi := 0) (sl := true) 4 0 (by omega) (by omega) (by simp [look]) (by simp [aB]) rfl (keepL_eRow l) (by rw [eRow_length, hl]; simp) (by simp), aC (.inl rfl) ?_⟩
    subst hl
    rw [chunk_eRow]
    have e : drawL 0 x l = l := rfl
    rw [Int.toNat_natCast, ← hd, e]
    simp only [SS, TF26Draw, Nat.reduceLT]

end Go.Ev
