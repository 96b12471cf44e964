import Derived.Test.YtdhnjbgggkdiiaaGreatDoorCan9
set_option linter.unusedSimpArgs false
set_option linter.unusedVariables false
namespace Go.Ev
open Go.RowKit Go.Proofs
set_option linter.defProp false
def TF114CanA := And.intro (And.intro (And.intro (And.intro (And.intro (@Tryz.underlying3) (@sz3)) (And.intro (@bI) (And.intro (@I3s) (@I3b)))) (And.intro (And.intro (@bH) (And.intro (@bJ) (@Tryz.underlying4))) (And.intro (@sz4) (And.intro (@cO) (@I4s))))) (And.intro (And.intro (And.intro (@I4b) (@cN)) (And.intro (@cP) (And.intro (@Tryz.underlying9) (@sz9)))) (And.intro (And.intro (@bW) (And.intro (@I9s) (@I9b))) (And.intro (@bV) (And.intro (@bX) (@Tryz.underlying22)))))) (And.intro (And.intro (And.intro (And.intro (@sz22) (@info22)) (And.intro (@I22s) (And.intro (@I22b) (@cX)))) (And.intro (And.intro (@grow22) (And.intro (@Tryz.underlying25) (@dB))) (And.intro (@bQ) (And.intro (@dD) (@dE))))) (And.intro (And.intro (And.intro (@bN) (@bR)) (And.intro (@Tryz.underlying27) (And.intro (@dG) (@cT)))) (And.intro (And.intro (@cD) (And.intro (@dI) (@dJ))) (And.intro (@cC) (And.intro (@cE) (@Tryz.results114))))))
set_option maxRecDepth 20000
set_option maxHeartbeats 8000000

/-! the reference: Sorted -/
theorem cellM_f {d : List Mv} {i : Nat} (h : i < d.length) : (aR d)[i * 5 + 0]? = some (.int .i64 (mAt d i).f) := by
  have h1 := cellM_at h
  have h2 : (((aR d).drop (i * 5)).take 5)[0]? = some (.int .i64 (mAt d i).f) := by rw [h1]; rfl
  rwa [List.getElem?_take_of_lt (by omega), List.getElem?_drop] at h2
def F114 : List EVal → Option EVal
  | [ms] => (bL ms).bind fun l => if l.length ≤ 9 then some (.lsl (aK (sortM l))) else none
  | _ => none
theorem fn114 : FnT 114 F114 := by
  refine Fn.intro mixed aI Tryz.func114 rfl [] (fun _ h => by cases h) ?_
  intro args v hF
  unfold F114 at hF
  split at hF
  rotate_left
  · cases hF
  intro Q hV
  have hQ := aW.of hV
  rename_i ms
  cases ha : bL ms with
  | none => rw [ha] at hF; cases hF
  | some l =>
  rw [ha] at hF
  simp only [Option.bind_some] at hF
  split at hF
  rotate_left
  · cases hF
  rename_i h9
  cases hF
  obtain ⟨rfl, hlen, hok⟩ := dMoves_inv ha
  clear ha
  refine Top.view (aF.start (n := 51) rfl (by simp)) (aD aI _ _ _ _ ?_)
  by_cases h0 : l = []
  · subst h0
    have b0 : lensOK 5 (aK []) = true := rfl
    have b1 : (aK []).flatten = [] := rfl
    have b2 : (aK []).length = 0 := rfl
    have b3 : allOne [] = true := rfl
    have b4 : decide ((1 : Int) < 0) = false := by decide
    (try simp only [aH, SS, TF114CanA, setRange, bK, aA, aE, Nat.reduceLT, Nat.reduceEqDiff, Nat.reduceAdd, Nat.reduceMul, Nat.reduceLeDiff, reduceCtorEq, b0, b1, b2, b3])
    refine aQ (Top.loop (I := fun _ : Unit => (mkF 51 [(4, .int .i64 1), (3, .slice 0 0 0 (.exact 0))], mkH 1 [(0, some (.row [] 27 0 0 false))] 0 [])) (μ := fun _ => 0) () (aF.drop (by simp [look, below]) (by simp [aB, bC, bM]) (by simp [aB])) ?_)
    intro _
    refine aD aI _ _ _ _ ?_
    (try simp only [SS, TF114CanA, aA, Nat.reduceLT, Nat.reduceEqDiff, b4])
    exact hV _ _ _ ⟨_, _, aF.freeze (sz := 5) (fl2 := []) (len := 0) (cap := .exact 0) (cells := []) (cells' := []) (e := 27) (lo := 0) (hi := 0) (sl := false) 2 0 (by omega) (by omega) (by simp [look]) (by simp [aB]) rfl rfl rfl (by simp), aC (.inl rfl) (by simp only [SS, TF114CanA, Nat.reduceLT]; rfl)⟩
  have b0 : lensOK 5 (aK l) = true := lensOK_eMoves l
  have b1 : (aK l).flatten = aR l := rfl
  have b2 : (l.length ≤ 0) = False := by
    have := List.length_pos_iff.2 h0
    simp only [eq_iff_iff, iff_false]; omega
  have b3 : decide (64 * l.length ≤ 1000000) = true := by simp; omega
  (try simp only [aH, SS, TF114CanA, setRange, bK, aA, aE, Nat.reduceLT, Nat.reduceEqDiff, Nat.reduceAdd, Nat.reduceMul, Nat.reduceLeDiff, reduceCtorEq, aL, b0, b1, b2, b3])
  refine aQ (Top.loop (I := fun s : { s : List Mv × Nat // s.1.length = l.length ∧ 1 ≤ s.2 ∧ s.2 ≤ 10 ∧ sortN (l.length - s.2) s.2 s.1 = sortM l } => (mkF 51 [(4, .int .i64 (s.1.2 : Nat)), (3, .slice 1 0 l.length (.slack 0))], mkH 2 [(1, some (.row (aR s.1.1) 27 0 0 true))] 0 [])) (μ := fun s => 10 - s.1.2) ⟨(l, 1), rfl, by simp, by simp, rfl⟩ (aF.drop (by simp [look, below]) (by simp [aB, below_cellM]) (by simp [aB])) ?_)
  rintro ⟨⟨d, i⟩, hd, hi1, hi10, hs⟩
  dsimp only at hd hi1 hi10 hs
  refine aD aI _ _ _ _ ?_
  dsimp only
  by_cases hlt : i < l.length
  rotate_left
  · have q1 : decide ((i : Int) < (l.length : Int)) = false := by simp; omega
    rw [show l.length - i = 0 by omega] at hs
    have hs : d = sortM l := hs
    (try simp only [SS, TF114CanA, aA, Nat.reduceLT, Nat.reduceEqDiff, q1])
    refine hV _ _ _ ⟨_, _, aF.freeze (sz := 5) (fl2 := []) (len := l.length) (cap := .slack 0) (cells := aR d) (e := 27) (lo := 0) (hi := 0) (sl := true) 2 1 (by omega) (by omega) (by simp [look]) (by simp [aB]) rfl (keepL_cellM _) (by rw [cellM_length, hd]) (by simp), aC (.inl rfl) ?_⟩
    rw [← hd, chunk_cellM, hs]
    simp only [SS, TF114CanA, Nat.reduceLT]
  have q1 : decide ((i : Int) < (l.length : Int)) = true := by simp; omega
  rw [show l.length - i = (l.length - (i + 1)) + 1 by omega, sortN] at hs
  (try simp only [SS, TF114CanA, aA, Nat.reduceLT, Nat.reduceEqDiff, q1])
  refine aQ (Top.loop (I := fun s : { s : List Mv × Nat // s.1.length = l.length ∧ s.2 ≤ i ∧ sortN (l.length - (i + 1)) (i + 1) (sinkM s.1 s.2) = sortM l } => (mkF 51 [(5, .int .i64 (s.1.2 : Nat)), (4, .int .i64 (i : Nat)), (3, .slice 1 0 l.length (.slack 0))], mkH 2 [(1, some (.row (aR s.1.1) 27 0 0 true))] 0 [])) (μ := fun s => s.1.2) ⟨(d, i), hd, Nat.le_refl i, hs⟩ (aF.drop (by simp [look, below]) (by simp [aB, below_cellM]) (by simp [aB])) ?_)
  rintro ⟨⟨d2, j⟩, hd2, hji, hs2⟩
  dsimp only at hd2 hji hs2
  refine aD aI _ _ _ _ ?_
  dsimp only
  have q2 : IntKind.i64.wrap ((i : Int) + 1) = ((i + 1 : Nat) : Int) := by rw [aP] <;> omega
  cases j with
  | zero =>
    have b0 : decide ((0 : Int) < 0) = false := by decide
    (try simp only [SS])
    refine aU (Top.draw mixed aI (by kernel_rfl) ?_)
    (try simp only [SS, aA, Nat.reduceLT, Nat.reduceEqDiff, reduceCtorEq, b0])
    refine ⟨by kernel_rfl, ?_⟩
    (try simp only [q2])
    exact ⟨⟨(d2, i + 1), hd2, by show 1 ≤ i + 1; omega, by show i + 1 ≤ 10; omega, hs2⟩, by show 10 - (i + 1) < 10 - i; omega, aF.drop (by simp [look, below]) (by simp [aB, below_cellM]) (by simp [aB])⟩
  | succ j =>
  have b0 : decide ((0 : Int) < ((j + 1 : Nat) : Int)) = true := by rw [decide_eq_true_iff]; omega
  have b1 : IntKind.i64.wrap (((j + 1 : Nat) : Int) - 1) = (j : Int) := by rw [aP] <;> omega
  have b2 : (((j + 1 : Nat) : Int) < (l.length : Int)) = True := by simp only [eq_iff_iff, iff_true]; omega
  have b3 : ((j : Int) < (l.length : Int)) = True := by simp only [eq_iff_iff, iff_true]; omega
  have g1 := cellM_at (d := d2) (j := j + 1) (by omega)
  have g2 := cellM_at (d := d2) (j := j) (by omega)
  have s1 := setRange_cellM (d := d2) (j := j + 1) (m := mAt d2 j) (by omega)
  have s2 : setRange (aR (d2.set (j + 1) (mAt d2 j))) (j * 5) _ = aR (swapM d2 (j + 1) j) := setRange_cellM (m := mAt d2 (j + 1)) (by simp; omega)
  have c3 : ((j + 1) * 5 + 5 ≤ d2.length * 5) = True := by simp only [eq_iff_iff, iff_true]; omega
  have c4 : (j * 5 + 5 ≤ d2.length * 5) = True := by simp only [eq_iff_iff, iff_true]; omega
  unfold sinkM at hs2
  have f1 := cellM_f (d := d2) (i := j + 1) (by omega)
  have f2 := cellM_f (d := d2) (i := j) (by omega)
  (try simp only [SS])
  refine aU (Top.draw mixed aI (by kernel_rfl) ?_)
  cases hcmp : decide ((mAt d2 j).f < (mAt d2 (j + 1)).f) with
  | false =>
    rw [if_neg (by simpa using hcmp)] at hs2
    (try simp only [SS, TF114CanA, aA, Nat.reduceLT, Nat.reduceEqDiff, reduceCtorEq, b0, b1, b2, b3, f1, f2, hcmp])
    refine ⟨by kernel_rfl, ?_⟩
    (try simp only [q2])
    exact ⟨⟨(d2, i + 1), hd2, by show 1 ≤ i + 1; omega, by show i + 1 ≤ 10; omega, hs2⟩, by show 10 - (i + 1) < 10 - i; omega, aF.drop (by simp [look, below]) (by simp [aB, below_cellM]) (by simp [aB])⟩
  | true =>
    rw [if_pos (by simpa using hcmp)] at hs2
    (try simp only [SS, TF114CanA, Nat.reduceLT, Nat.reduceEqDiff, reduceCtorEq, b0, b1, b2, b3, f1, f2, hcmp])
    refine ⟨by kernel_rfl, ?_⟩
    (try simp only [aH, SS, TF114CanA, aG, setRange, bK, aA, aO, bG, bA, aV, aE, Nat.reduceLT, Nat.reduceEqDiff, Nat.reduceAdd, Nat.reduceMul, Nat.reduceSub, Nat.reduceLeDiff, Nat.reduceBEq, reduceCtorEq])
    refine aU (Top.draw mixed aI (by kernel_rfl) ?_)
    (try simp only [SS, TF114CanA, aA, Nat.reduceLT, Nat.reduceEqDiff, Nat.reduceAdd, b1, b2, b3, g1, g2, s1, s2, cellM_length, List.length_set, c3, c4])
    refine ⟨by kernel_rfl, ?_⟩
    (try simp only [aH, SS, TF114CanA, aG, setRange, bK, aA, aO, bG, bA, aV, aE, Nat.reduceLT, Nat.reduceEqDiff, Nat.reduceAdd, Nat.reduceMul, Nat.reduceSub, Nat.reduceLeDiff, Nat.reduceBEq, reduceCtorEq, b1])
    exact ⟨⟨(swapM d2 (j + 1) j, j), by show (swapM d2 (j + 1) j).length = l.length; rw [swapM_len]; exact hd2, by show j ≤ i; omega, hs2⟩, by show j < j + 1; omega, aF.drop (by simp [look, below]) (by simp [aB, below_cellM]) (by simp [aB])⟩
theorem e114 {l : List Mv} (h9 : l.length ≤ 9) (hok : ∀ m ∈ l, dN m) : F114 [.lsl (aK l)] = some (.lsl (aK (sortM l))) := by
  simp only [F114, dMoves_e (show l.length < 9223372036854775808 by omega) hok, Option.bind_some]; rw [if_pos h9]
end Go.Ev
