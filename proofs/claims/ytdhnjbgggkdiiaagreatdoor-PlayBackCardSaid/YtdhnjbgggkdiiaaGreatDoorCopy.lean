import Derived.Test.YtdhnjbgggkdiiaaGreatDoorEvC
import Derived.Test.YtdhnjbgggkdiiaaGreatDoorRef2
set_option linter.unusedSimpArgs false
set_option linter.unusedVariables false
namespace Go.Ev
open Go.RowKit Go.Proofs
set_option linter.defProp false
def TF22Copy := And.intro (And.intro (And.intro (And.intro (And.intro (@Tryz.underlying3) (@sz3)) (And.intro (@cE) (And.intro (@I3s) (@I3b)))) (And.intro (And.intro (@cA) (And.intro (@cF) (@Tryz.underlying4))) (And.intro (@sz4) (And.intro (@eA) (@I4s))))) (And.intro (And.intro (And.intro (@I4b) (@dW)) (And.intro (@eB) (And.intro (@Tryz.underlying9) (@sz9)))) (And.intro (And.intro (@cB) (And.intro (@I9s) (@I9b))) (And.intro (@bY) (And.intro (@cC) (@Tryz.underlying22)))))) (And.intro (And.intro (And.intro (And.intro (@sz22) (@info22)) (And.intro (@I22s) (And.intro (@I22b) (@zero22)))) (And.intro (And.intro (@grow22) (And.intro (@Tryz.underlying25) (@eO))) (And.intro (@dE) (And.intro (@eQ) (@eR))))) (And.intro (And.intro (And.intro (@dC) (@dF)) (And.intro (@Tryz.underlying27) (And.intro (@eS) (@eH)))) (And.intro (And.intro (@dL) (And.intro (@eU) (@eV))) (And.intro (@dH) (And.intro (@dM) (@Tryz.results22))))))
set_option maxRecDepth 20000
set_option maxHeartbeats 4000000

/-! copies -/
def copyOK (l : List Mv) : Bool := decide (l.length ≤ 300) && l.all fun m => decide (m.b.length ≤ 1000)
def F22 : List EVal → Option EVal
  | [a] => (dS a).bind fun l => if copyOK l = true then some (.lsl (bG l)) else none
  | _ => none
theorem fn22 : FnT 22 F22 := by
  refine Fn.intro mixed aV Tryz.func22 rfl [] (fun _ h => by cases h) ?_
  intro args v hF
  unfold F22 at hF
  split at hF
  rotate_left
  · cases hF
  intro Q hV
  have hQ := bM.of hV
  rename_i a
  cases ha : dS a with
  | none => rw [ha] at hF; cases hF
  | some l =>
  rw [ha] at hF
  simp only [Option.bind_some] at hF
  split at hF
  rotate_left
  · cases hF
  rename_i hc
  cases hF
  obtain ⟨rfl, hlen, hok⟩ := dMoves_inv ha
  clear ha
  simp only [copyOK, Bool.and_eq_true, decide_eq_true_eq, List.all_eq_true] at hc
  obtain ⟨h300, hb1000⟩ := hc
  refine Top.view (aT.start (n := 26) rfl (by simp)) (aR aV _ _ _ _ ?_)
  ((try simp only [aO, SS, TF22Copy, aM, setRange, aN, aC, aB, aF, aE, aD, aA, Nat.reduceLT, Nat.reduceEqDiff, Nat.reduceAdd, Nat.reduceMul, Nat.reduceSub, Nat.reduceLeDiff, Nat.reduceBEq, reduceCtorEq]); (repeat' ((first | apply aJ | apply aI | apply aL | apply aK | apply aH | apply aG) <;> intro h <;> simp only [h, SS, TF22Copy, aM, setRange, aN, aC, aB, aF, aE, aD, aA, Nat.reduceLT, Nat.reduceEqDiff, Nat.reduceAdd, Nat.reduceMul, Nat.reduceSub, Nat.reduceLeDiff, Nat.reduceBEq, reduceCtorEq])))
  refine bR (Top.loop (I := fun s : { k : Nat // k ≤ l.length } => (mkF 26 [(4, .int .i64 (s.1 : Nat)), (3, .gsl 0 (bG (l.take s.1))), (0, .lsl (bG l))], mkH 0 [] 1 [(0, some ((l.take s.1).length, 27))])) (μ := fun s => l.length - s.1) ⟨0, by omega⟩ (aT.trans (aT.grow 3 27 (by omega) (by omega) (by simp [look])) (aT.sub (by simp [look, bG]))) ?_)
  rintro ⟨k, hk⟩
  have htl : (l.take k).length = k := by rw [List.length_take]; omega
  simp only [htl]
  by_cases hlt : k < l.length
  rotate_left
  · refine aR aV _ _ _ _ ?_
    obtain rfl : k = l.length := by omega
    have q1 : decide ((l.length : Int) < (l.length : Int)) = false := by simp
    rw [List.take_length]
    ((try simp only [aO, SS, TF22Copy, aM, setRange, aN, aC, aB, aF, aE, aD, aA, Nat.reduceLT, Nat.reduceEqDiff, Nat.reduceAdd, Nat.reduceMul, Nat.reduceSub, Nat.reduceLeDiff, Nat.reduceBEq, reduceCtorEq, bC, q1]); (repeat' ((first | apply aJ | apply aI | apply aL | apply aK | apply aH | apply aG) <;> intro h <;> simp only [h, SS, TF22Copy, aM, setRange, aN, aC, aB, aF, aE, aD, aA, Nat.reduceLT, Nat.reduceEqDiff, Nat.reduceAdd, Nat.reduceMul, Nat.reduceSub, Nat.reduceLeDiff, Nat.reduceBEq, reduceCtorEq, bC, q1])))
    (refine hQ _ _ _ (aQ (by first | exact .inl rfl | exact .inr rfl) ?_); simp only [SS, TF22Copy, aM, setRange, aN, aC, aB, aF, aE, aD, aA, Nat.reduceLT, Nat.reduceEqDiff, Nat.reduceAdd, Nat.reduceMul, Nat.reduceSub, Nat.reduceLeDiff, Nat.reduceBEq, reduceCtorEq])
  obtain ⟨m, hx⟩ : ∃ m, l[k]? = some m := ⟨l[k], List.getElem?_eq_getElem hlt⟩
  have hmb := hb1000 m (List.mem_of_getElem? hx)
  have q1 : decide ((k : Int) < (l.length : Int)) = true := by simp; omega
  have q2 : IntKind.i64.wrap ((k : Int) + 1) = ((k + 1 : Nat) : Int) := by rw [bN] <;> omega
  have q3 : 64 * (k + 1) ≤ 1000000 := by omega
  have htk : l.take (k + 1) = l.take k ++ [m] := by rw [List.take_add_one, hx]; rfl
  have fin : ∀ f h, aT none Tryz.prog f h (mkF 26 [(4, .int .i64 ((k + 1 : Nat) : Int)), (3, .gsl 0 (bG (l.take k ++ [m]))), (0, .lsl (bG l))]) (mkH 0 [] 1 [(0, some (k + 1, 27))]) → ∃ s' : { k : Nat // k ≤ l.length }, (fun s : { k : Nat // k ≤ l.length } => l.length - s.1) s' < l.length - k ∧ aT none Tryz.prog f h (mkF 26 [(4, .int .i64 (s'.1 : Nat)), (3, .gsl 0 (bG (l.take s'.1))), (0, .lsl (bG l))]) (mkH 0 [] 1 [(0, some ((l.take s'.1).length, 27))]) := by
    intro f h v
    refine ⟨⟨k + 1, hlt⟩, by simp; omega, ?_⟩
    have e : (l.take (k + 1)).length = k + 1 := by rw [List.length_take]; omega
    simp only [e]
    rw [htk]
    exact v
  apply Top.cut aV
  · intro R hR
    ((try simp only [aO, SS, TF22Copy, aM, setRange, aN, aC, aB, aF, aE, aD, aA, Nat.reduceLT, Nat.reduceEqDiff, Nat.reduceAdd, Nat.reduceMul, Nat.reduceSub, Nat.reduceLeDiff, Nat.reduceBEq, reduceCtorEq, bC, q1]); (repeat' ((first | apply aJ | apply aI | apply aL | apply aK | apply aH | apply aG) <;> intro h <;> simp only [h, SS, TF22Copy, aM, setRange, aN, aC, aB, aF, aE, aD, aA, Nat.reduceLT, Nat.reduceEqDiff, Nat.reduceAdd, Nat.reduceMul, Nat.reduceSub, Nat.reduceLeDiff, Nat.reduceBEq, reduceCtorEq, bC, q1])))
    exact hR
  · exact aT.refl
  apply Top.cutT (f1 := mkF 26 [(4, .int .i64 (k : Nat)), (3, .gsl 0 (bG (l.take k ++ [m]))), (0, .lsl (bG l))]) (h1 := mkH 0 [] 1 [(0, some (k + 1, 27))])
  · intro R hR
    apply Top.block
    apply Top.cut aV
    · intro R2 hR2
      ((try simp only [aO, SS, TF22Copy, aM, setRange, aN, aC, aB, aF, aE, aD, aA, Nat.reduceLT, Nat.reduceEqDiff, Nat.reduceAdd, Nat.reduceMul, Nat.reduceSub, Nat.reduceLeDiff, Nat.reduceBEq, reduceCtorEq, eMoves_get, cR, hx]); (repeat' ((first | apply aJ | apply aI | apply aL | apply aK | apply aH | apply aG) <;> intro h <;> simp only [h, SS, TF22Copy, aM, setRange, aN, aC, aB, aF, aE, aD, aA, Nat.reduceLT, Nat.reduceEqDiff, Nat.reduceAdd, Nat.reduceMul, Nat.reduceSub, Nat.reduceLeDiff, Nat.reduceBEq, reduceCtorEq, eMoves_get, cR, hx])))
      exact hR2
    · exact aT.refl
    by_cases hb0 : m.b.length = 0
    · have hb : m.b = [] := List.eq_nil_of_length_eq_zero hb0
      have hi : cM m.b = [] := by rw [hb]; rfl
      have zl : dU 1 ([] : List (List EVal)) = true := rfl
      have hL : dD 1 0 ([] : List EVal) = [] := rfl
      apply Top.cut aV
      · intro R2 hR2
        ((try simp only [aO, SS, TF22Copy, aM, setRange, aN, aC, aB, aF, aE, aD, aA, Nat.reduceLT, Nat.reduceEqDiff, Nat.reduceAdd, Nat.reduceMul, Nat.reduceSub, Nat.reduceLeDiff, Nat.reduceBEq, reduceCtorEq, hi, zl]); (repeat' ((first | apply aJ | apply aI | apply aL | apply aK | apply aH | apply aG) <;> intro h <;> simp only [h, SS, TF22Copy, aM, setRange, aN, aC, aB, aF, aE, aD, aA, Nat.reduceLT, Nat.reduceEqDiff, Nat.reduceAdd, Nat.reduceMul, Nat.reduceSub, Nat.reduceLeDiff, Nat.reduceBEq, reduceCtorEq, hi, zl])))
        exact hR2
      · exact aT.fz (sz := 1) (len := 0) (cells := []) (cells' := []) (e := 3) (lo := 0) (hi := 0) (sl := false) 1 (by omega) (by simp [aP, hi]) (rfl) (rfl)
          (fl2 := [(4, .int .i64 (k : Nat)), (3, .gsl 0 (bG (l.take k))), (5, .ptr 0 0), (0, .lsl (bG l))])
          (l2 := [(0, some (.row [.int .i64 m.f, .int .i64 m.t, .bool m.o, .str m.h, .lsl (cM m.b)] 27 0 0 false))]) (k2 := [(0, some (k, 27))])
          (by simp [look, fzR]) (by
            simp only [List.forall_mem_cons]
            refine ⟨⟨by omega, by omega, _, rfl, .inr ⟨_, _, 27, 0, 0, false, by simp [aP]; rfl, rfl, ?_⟩⟩, fun _ h => by cases h⟩
            simp [fzL, fzR, capOK, hL, hi]) (by simp [aP])
      refine Top.unview (aR aV _ _ _ _ ?_)
      ((try simp only [aO, SS, TF22Copy, aM, setRange, aN, aC, aB, aF, aE, aD, aA, Nat.reduceLT, Nat.reduceEqDiff, Nat.reduceAdd, Nat.reduceMul, Nat.reduceSub, Nat.reduceLeDiff, Nat.reduceBEq, reduceCtorEq, q3, bC, htl, lensOK_eMoves, eMoves_snoc]); (repeat' ((first | apply aJ | apply aI | apply aL | apply aK | apply aH | apply aG) <;> intro h <;> simp only [h, SS, TF22Copy, aM, setRange, aN, aC, aB, aF, aE, aD, aA, Nat.reduceLT, Nat.reduceEqDiff, Nat.reduceAdd, Nat.reduceMul, Nat.reduceSub, Nat.reduceLeDiff, Nat.reduceBEq, reduceCtorEq, q3, bC, htl, lensOK_eMoves, eMoves_snoc])))
      exact ⟨_, _, (aT.drop (by simp [look, below, aX]) (by simp [aP, bT, below, aX, bA]) (by simp [aP])), hR⟩
    · have q4 : (m.b.length ≤ 0) = False := by simp only [eq_iff_iff, iff_false]; omega
      have q5 : 8 * m.b.length ≤ 1000000 := by omega
      have hL : dD 1 m.b.length (eRow m.b) = cM m.b := chunk_eRow _
      apply Top.cut aV
      · intro R2 hR2
        ((try simp only [aO, SS, TF22Copy, aM, setRange, aN, aC, aB, aF, aE, aD, aA, Nat.reduceLT, Nat.reduceEqDiff, Nat.reduceAdd, Nat.reduceMul, Nat.reduceSub, Nat.reduceLeDiff, Nat.reduceBEq, reduceCtorEq, lensOK_eInts, aU, eInts_flatten, eRow_length, q4, q5]); (repeat' ((first | apply aJ | apply aI | apply aL | apply aK | apply aH | apply aG) <;> intro h <;> simp only [h, SS, TF22Copy, aM, setRange, aN, aC, aB, aF, aE, aD, aA, Nat.reduceLT, Nat.reduceEqDiff, Nat.reduceAdd, Nat.reduceMul, Nat.reduceSub, Nat.reduceLeDiff, Nat.reduceBEq, reduceCtorEq, lensOK_eInts, aU, eInts_flatten, eRow_length, q4, q5])))
        exact hR2
      · exact aT.fz (sz := 1) (len := m.b.length) (cells := eRow m.b) (cells' := eRow m.b) (e := 3) (lo := 0) (hi := 0) (sl := true) 2 (by omega) (by simp [aP]) (keepL_eRow _) (by simp [eRow_length])
          (fl2 := [(4, .int .i64 (k : Nat)), (3, .gsl 0 (bG (l.take k))), (5, .ptr 0 0), (0, .lsl (bG l))])
          (l2 := [(0, some (.row [.int .i64 m.f, .int .i64 m.t, .bool m.o, .str m.h, .lsl (cM m.b)] 27 0 0 false))]) (k2 := [(0, some (k, 27))])
          (by simp [look, fzR]) (by
            simp only [List.forall_mem_cons]
            refine ⟨⟨by omega, by omega, _, rfl, .inr ⟨_, _, 27, 0, 0, false, by simp [aP]; rfl, rfl, ?_⟩⟩, fun _ h => by cases h⟩
            simp [fzL, fzR, capOK, hL]) (by simp [aP])
      refine Top.unview (aR aV _ _ _ _ ?_)
      ((try simp only [aO, SS, TF22Copy, aM, setRange, aN, aC, aB, aF, aE, aD, aA, Nat.reduceLT, Nat.reduceEqDiff, Nat.reduceAdd, Nat.reduceMul, Nat.reduceSub, Nat.reduceLeDiff, Nat.reduceBEq, reduceCtorEq, q3, bC, htl, lensOK_eMoves, eMoves_snoc]); (repeat' ((first | apply aJ | apply aI | apply aL | apply aK | apply aH | apply aG) <;> intro h <;> simp only [h, SS, TF22Copy, aM, setRange, aN, aC, aB, aF, aE, aD, aA, Nat.reduceLT, Nat.reduceEqDiff, Nat.reduceAdd, Nat.reduceMul, Nat.reduceSub, Nat.reduceLeDiff, Nat.reduceBEq, reduceCtorEq, q3, bC, htl, lensOK_eMoves, eMoves_snoc])))
      exact ⟨_, _, (aT.drop (by simp [look, below, aX]) (by simp [aP, bT, below, aX, bA]) (by simp [aP])), hR⟩
  · exact aT.refl
  refine aR aV _ _ _ _ ?_
  ((try simp only [aO, SS, TF22Copy, aM, setRange, aN, aC, aB, aF, aE, aD, aA, Nat.reduceLT, Nat.reduceEqDiff, Nat.reduceAdd, Nat.reduceMul, Nat.reduceSub, Nat.reduceLeDiff, Nat.reduceBEq, reduceCtorEq, q2]); (repeat' ((first | apply aJ | apply aI | apply aL | apply aK | apply aH | apply aG) <;> intro h <;> simp only [h, SS, TF22Copy, aM, setRange, aN, aC, aB, aF, aE, aD, aA, Nat.reduceLT, Nat.reduceEqDiff, Nat.reduceAdd, Nat.reduceMul, Nat.reduceSub, Nat.reduceLeDiff, Nat.reduceBEq, reduceCtorEq, q2])))
  exact fin _ _ (aT.drop (by simp [look, below, aX]) (by simp [aP, bT, below, aX, bA]) (by simp [aP]))
end Go.Ev
