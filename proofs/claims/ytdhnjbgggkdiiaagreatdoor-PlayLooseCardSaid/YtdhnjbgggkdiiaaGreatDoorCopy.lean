import Derived.Test.YtdhnjbgggkdiiaaGreatDoorEvC
import Derived.Test.YtdhnjbgggkdiiaaGreatDoorRef2
set_option linter.unusedSimpArgs false
set_option linter.unusedVariables false
namespace Go.Ev
open Go.RowKit Go.Proofs
set_option linter.defProp false
def TF22Copy := And.intro (And.intro (And.intro (And.intro (And.intro (@Tryz.underlying3) (@sz3)) (And.intro (@bK) (And.intro (@I3s) (@I3b)))) (And.intro (And.intro (@bJ) (And.intro (@bL) (@Tryz.underlying4))) (And.intro (@sz4) (And.intro (@cT) (@I4s))))) (And.intro (And.intro (And.intro (@I4b) (@cS)) (And.intro (@cU) (And.intro (@Tryz.underlying9) (@sz9)))) (And.intro (And.intro (@bZ) (And.intro (@I9s) (@I9b))) (And.intro (@bX) (And.intro (@cA) (@Tryz.underlying22)))))) (And.intro (And.intro (And.intro (And.intro (@dX) (@cZ)) (And.intro (@dY) (And.intro (@dZ) (@cX)))) (And.intro (And.intro (@dA) (And.intro (@Tryz.underlying25) (@dI))) (And.intro (@bQ) (And.intro (@dJ) (@dK))))) (And.intro (And.intro (And.intro (@bP) (@bR)) (And.intro (@Tryz.underlying27) (And.intro (@dN) (@cV)))) (And.intro (And.intro (@cF) (And.intro (@dO) (@dP))) (And.intro (@cC) (And.intro (@cG) (@Tryz.results22))))))
set_option maxRecDepth 20000
set_option maxHeartbeats 4000000

/-! copies -/
def copyOK (l : List Mv) : Bool := decide (l.length ≤ 300) && l.all fun m => decide (m.b.length ≤ 1000)
def F22 : List EVal → Option EVal
  | [a] => (bH a).bind fun l => if copyOK l = true then some (.lsl (aG l)) else none
  | _ => none
theorem fn22 : FnT 22 F22 := by
  refine Fn.intro mixed aJ Tryz.func22 rfl [] (fun _ h => by cases h) ?_
  intro args v hF
  unfold F22 at hF
  split at hF
  rotate_left
  · cases hF
  intro Q hV
  have hQ := aW.of hV
  rename_i a
  cases ha : bH a with
  | none => rw [ha] at hF; cases hF
  | some l =>
  rw [ha] at hF
  simp only [Option.bind_some] at hF
  split at hF
  rotate_left
  · cases hF
  rename_i hc
  cases hF
  obtain ⟨rfl, hlen, hok⟩ := bE ha
  clear ha
  simp only [copyOK, Bool.and_eq_true, decide_eq_true_eq, List.all_eq_true] at hc
  obtain ⟨h300, hb1000⟩ := hc
  refine Top.view (aF.start (n := 26) rfl (by simp)) (aD aJ _ _ _ _ ?_)
  (try simp only [aI, SS, aA, Nat.reduceLT])
  refine aT (Top.loop (I := fun s : { k : Nat // k ≤ l.length } => (mkF 26 [(4, .int .i64 (s.1 : Nat)), (3, .gsl 0 (aG (l.take s.1))), (0, .lsl (aG l))], mkH 0 [] 1 [(0, some ((l.take s.1).length, 27))])) (μ := fun s => l.length - s.1) ⟨0, by omega⟩ (aF.trans (aF.grow 3 27 (by omega) (by omega) (by simp [look])) (aF.sub (by simp [look, aG]))) ?_)
  rintro ⟨k, hk⟩
  have htl : (l.take k).length = k := by rw [List.length_take]; omega
  simp only [htl]
  by_cases hlt : k < l.length
  rotate_left
  · refine aD aJ _ _ _ _ ?_
    obtain rfl : k = l.length := by omega
    have q1 : decide ((l.length : Int) < (l.length : Int)) = false := by simp
    rw [List.take_length]
    (try simp only [SS, TF22Copy, aA, Nat.reduceLT, Nat.reduceEqDiff, reduceCtorEq, aL, q1])
    (refine hQ _ _ _ (aC (by first | exact .inl rfl | exact .inr rfl) ?_); simp only [SS, TF22Copy, Nat.reduceLT, Nat.reduceEqDiff, reduceCtorEq])
  obtain ⟨m, hx⟩ : ∃ m, l[k]? = some m := ⟨l[k], List.getElem?_eq_getElem hlt⟩
  have hmb := hb1000 m (List.mem_of_getElem? hx)
  have q1 : decide ((k : Int) < (l.length : Int)) = true := by simp; omega
  have q2 : IntKind.i64.wrap ((k : Int) + 1) = ((k + 1 : Nat) : Int) := by rw [aP] <;> omega
  have q3 : 64 * (k + 1) ≤ 1000000 := by omega
  have htk : l.take (k + 1) = l.take k ++ [m] := by rw [List.take_add_one, hx]; rfl
  have fin : ∀ f h, aF none Tryz.prog f h (mkF 26 [(4, .int .i64 ((k + 1 : Nat) : Int)), (3, .gsl 0 (aG (l.take k ++ [m]))), (0, .lsl (aG l))]) (mkH 0 [] 1 [(0, some (k + 1, 27))]) → ∃ s' : { k : Nat // k ≤ l.length }, (fun s : { k : Nat // k ≤ l.length } => l.length - s.1) s' < l.length - k ∧ aF none Tryz.prog f h (mkF 26 [(4, .int .i64 (s'.1 : Nat)), (3, .gsl 0 (aG (l.take s'.1))), (0, .lsl (aG l))]) (mkH 0 [] 1 [(0, some ((l.take s'.1).length, 27))]) := by
    intro f h v
    refine ⟨⟨k + 1, hlt⟩, by simp; omega, ?_⟩
    have e : (l.take (k + 1)).length = k + 1 := by rw [List.length_take]; omega
    simp only [e]
    rw [htk]
    exact v
  apply Top.cut aJ
  · intro R hR
    (try simp only [SS, TF22Copy, aA, Nat.reduceLT, Nat.reduceEqDiff, reduceCtorEq, aL, q1])
    exact hR
  · exact aF.refl
  apply Top.cutT (f1 := mkF 26 [(4, .int .i64 (k : Nat)), (3, .gsl 0 (aG (l.take k ++ [m]))), (0, .lsl (aG l))]) (h1 := mkH 0 [] 1 [(0, some (k + 1, 27))])
  · intro R hR
    apply Top.block
    apply Top.cut aJ
    · intro R2 hR2
      (try simp only [SS, TF22Copy, setRange, aA, Nat.reduceLT, Nat.reduceEqDiff, Nat.reduceAdd, reduceCtorEq, aZ, bT, hx])
      exact hR2
    · exact aF.refl
    by_cases hb0 : m.b.length = 0
    · have hb : m.b = [] := List.eq_nil_of_length_eq_zero hb0
      have hi : aS m.b = [] := by rw [hb]; rfl
      have zl : lensOK 1 ([] : List (List EVal)) = true := rfl
      have hL : cJ 1 0 ([] : List EVal) = [] := rfl
      apply Top.cut aJ
      · intro R2 hR2
        (try simp only [SS, TF22Copy, setRange, bS, aA, aE, Nat.reduceLT, Nat.reduceEqDiff, Nat.reduceAdd, Nat.reduceMul, Nat.reduceLeDiff, reduceCtorEq, hi, zl])
        exact hR2
      · exact aF.fz (sz := 1) (len := 0) (cells := []) (cells' := []) (e := 3) (lo := 0) (hi := 0) (sl := false) 1 (by omega) (by simp [aB]) (rfl) (rfl)
          (fl2 := [(4, .int .i64 (k : Nat)), (3, .gsl 0 (aG (l.take k))), (5, .ptr 0 0), (0, .lsl (aG l))])
          (l2 := [(0, some (.row [.int .i64 m.f, .int .i64 m.t, .bool m.o, .str m.h, .lsl (aS m.b)] 27 0 0 false))]) (k2 := [(0, some (k, 27))])
          (by simp [look, fzR]) (by
            simp only [List.forall_mem_cons]
            refine ⟨⟨by omega, by omega, _, rfl, .inr ⟨_, _, 27, 0, 0, false, by simp [aB]; rfl, rfl, ?_⟩⟩, fun _ h => by cases h⟩
            simp [fzL, fzR, capOK, hL, hi]) (by simp [aB])
      refine Top.unview (aD aJ _ _ _ _ ?_)
      (try simp only [SS, TF22Copy, setRange, bS, aA, aE, Nat.reduceLT, Nat.reduceEqDiff, Nat.reduceAdd, Nat.reduceMul, Nat.reduceLeDiff, reduceCtorEq, q3, aL, htl, lensOK_eMoves, eMoves_snoc])
      exact ⟨_, _, (aF.drop (by simp [look, below]) (by simp [aB, aR]) (by simp [aB])), hR⟩
    · have q4 : (m.b.length ≤ 0) = False := by simp only [eq_iff_iff, iff_false]; omega
      have q5 : 8 * m.b.length ≤ 1000000 := by omega
      have hL : cJ 1 m.b.length (dF m.b) = aS m.b := chunk_eRow _
      apply Top.cut aJ
      · intro R2 hR2
        (try simp only [SS, TF22Copy, setRange, bS, aA, aE, Nat.reduceLT, Nat.reduceEqDiff, Nat.reduceAdd, Nat.reduceLeDiff, reduceCtorEq, lensOK_eInts, aM, eInts_flatten, eRow_length, q4, q5])
        exact hR2
      · exact aF.fz (sz := 1) (len := m.b.length) (cells := dF m.b) (cells' := dF m.b) (e := 3) (lo := 0) (hi := 0) (sl := true) 2 (by omega) (by simp [aB]) (keepL_eRow _) (by simp [eRow_length])
          (fl2 := [(4, .int .i64 (k : Nat)), (3, .gsl 0 (aG (l.take k))), (5, .ptr 0 0), (0, .lsl (aG l))])
          (l2 := [(0, some (.row [.int .i64 m.f, .int .i64 m.t, .bool m.o, .str m.h, .lsl (aS m.b)] 27 0 0 false))]) (k2 := [(0, some (k, 27))])
          (by simp [look, fzR]) (by
            simp only [List.forall_mem_cons]
            refine ⟨⟨by omega, by omega, _, rfl, .inr ⟨_, _, 27, 0, 0, false, by simp [aB]; rfl, rfl, ?_⟩⟩, fun _ h => by cases h⟩
            simp [fzL, fzR, capOK, hL]) (by simp [aB])
      refine Top.unview (aD aJ _ _ _ _ ?_)
      (try simp only [SS, TF22Copy, setRange, bS, aA, aE, Nat.reduceLT, Nat.reduceEqDiff, Nat.reduceAdd, Nat.reduceMul, Nat.reduceLeDiff, reduceCtorEq, q3, aL, htl, lensOK_eMoves, eMoves_snoc])
      exact ⟨_, _, (aF.drop (by simp [look, below]) (by simp [aB, aR]) (by simp [aB])), hR⟩
  · exact aF.refl
  refine aD aJ _ _ _ _ ?_
  (try simp only [SS, aA, Nat.reduceLT, Nat.reduceEqDiff, reduceCtorEq, q2])
  exact fin _ _ (aF.drop (by simp [look, below]) (by simp [aB, aR]) (by simp [aB]))
end Go.Ev
