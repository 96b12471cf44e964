import Derived.Test.YtdhnjbgggkdiiaaGreatDoorRef1
set_option linter.unusedSimpArgs false
set_option linter.unusedVariables false
namespace Go.Ev
open Go.RowKit Go.Proofs
set_option linter.defProp false
def TF121Ref2 := And.intro (And.intro (And.intro (And.intro (And.intro (@Tryz.underlying3) (@sz3)) (And.intro (@bI) (@I3s))) (And.intro (And.intro (@I3b) (@bH)) (And.intro (@bJ) (And.intro (@Tryz.underlying4) (@sz4))))) (And.intro (And.intro (And.intro (@cO) (@I4s)) (And.intro (@I4b) (@cN))) (And.intro (And.intro (@cP) (@Tryz.underlying9)) (And.intro (@sz9) (And.intro (@bW) (@I9s)))))) (And.intro (And.intro (And.intro (And.intro (@I9b) (@bV)) (And.intro (@bX) (@Tryz.underlying25))) (And.intro (And.intro (@dB) (@bQ)) (And.intro (@dD) (And.intro (@dE) (@bN))))) (And.intro (And.intro (And.intro (@bR) (@Tryz.underlying27)) (And.intro (@dG) (And.intro (@cT) (@cD)))) (And.intro (And.intro (@dI) (@dJ)) (And.intro (@cC) (And.intro (@cE) (@Tryz.results121))))))
def TF122Ref2 := And.intro (And.intro (And.intro (And.intro (And.intro (@Tryz.underlying3) (@sz3)) (And.intro (@bI) (@I3s))) (And.intro (And.intro (@I3b) (@bH)) (And.intro (@bJ) (And.intro (@Tryz.underlying4) (@sz4))))) (And.intro (And.intro (And.intro (@cO) (@I4s)) (And.intro (@I4b) (@cN))) (And.intro (And.intro (@cP) (@Tryz.underlying9)) (And.intro (@sz9) (And.intro (@bW) (@I9s)))))) (And.intro (And.intro (And.intro (And.intro (@I9b) (@bV)) (And.intro (@bX) (@Tryz.underlying25))) (And.intro (And.intro (@dB) (@bQ)) (And.intro (@dD) (And.intro (@dE) (@bN))))) (And.intro (And.intro (And.intro (@bR) (@Tryz.underlying27)) (And.intro (@dG) (And.intro (@cT) (@cD)))) (And.intro (And.intro (@dI) (@dJ)) (And.intro (@cC) (And.intro (@cE) (@Tryz.results122))))))
set_option maxRecDepth 20000
set_option maxHeartbeats 4000000

/-! outs and runs, filtered -/
def isO (m : Mv) : Bool := m.o
def isR (m : Mv) : Bool := !m.o && (m.t == 4)
theorem lensOK_eMoves (l : List Mv) : lensOK 5 (aK l) = true := by simp [lensOK, aK, cV]
theorem eMoves_snoc (l : List Mv) (m : Mv) : aK l ++ [[.int .i64 m.f, .int .i64 m.t, .bool m.o, .str m.h, .lsl (aS m.b)]] = aK (l ++ [m]) := by simp [aK, cV]
def F121 : List EVal → Option EVal
  | [.agg [.int .i64 _, .int .i64 _, .bool o, .str _, .lsl _]] => some (.bool o)
  | _ => none
theorem e121 {f t : Int} {o : Bool} {h : List Nat} {b : List (List EVal)} : F121 [.agg [.int .i64 f, .int .i64 t, .bool o, .str h, .lsl b]] = some (.bool o) := rfl
theorem fn121 : FnT 121 F121 := by
  refine Fn.intro mixed aI Tryz.func121 rfl [] (fun _ h => by cases h) ?_
  intro args v hF
  unfold F121 at hF
  split at hF
  rotate_left
  · cases hF
  intro Q hV
  have hQ := aW.of hV
  rename_i o h b
  cases hF
  refine Top.view (aF.start (n := 5) rfl (by simp)) (aD aI _ _ _ _ ?_)
  (try simp only [aH, SS, TF121Ref2, aA, Nat.reduceLT, Nat.reduceEqDiff, reduceCtorEq])
  (refine hQ _ _ _ (aC (by first | exact .inl rfl | exact .inr rfl) ?_); simp only [SS, TF121Ref2, Nat.reduceLT, Nat.reduceEqDiff, reduceCtorEq])
def F122 : List EVal → Option EVal
  | [.agg [.int .i64 _, .int .i64 t, .bool o, .str _, .lsl _]] => some (.bool (!o && (t == 4)))
  | _ => none
theorem e122 {f t : Int} {o : Bool} {h : List Nat} {b : List (List EVal)} : F122 [.agg [.int .i64 f, .int .i64 t, .bool o, .str h, .lsl b]] = some (.bool (!o && (t == 4))) := rfl
theorem fn122 : FnT 122 F122 := by
  refine Fn.intro mixed aI Tryz.func122 rfl [] (fun _ h => by cases h) ?_
  intro args v hF
  unfold F122 at hF
  split at hF
  rotate_left
  · cases hF
  intro Q hV
  have hQ := aW.of hV
  rename_i t o h b
  cases hF
  refine Top.view (aF.start (n := 11) rfl (by simp)) (aD aI _ _ _ _ ?_)
  cases o with
  | true =>
    (try simp only [aH, SS, TF122Ref2, aA, Nat.reduceLT, Nat.reduceEqDiff, reduceCtorEq])
    (refine hQ _ _ _ (aC (by first | exact .inl rfl | exact .inr rfl) ?_); simp only [SS, TF122Ref2, Nat.reduceLT, Nat.reduceEqDiff, reduceCtorEq])
  | false =>
    (try simp only [aH, SS, TF122Ref2, aA, Nat.reduceLT, Nat.reduceEqDiff, reduceCtorEq])
    (refine hQ _ _ _ (aC (by first | exact .inl rfl | exact .inr rfl) ?_); simp only [SS, TF122Ref2, Nat.reduceLT, Nat.reduceEqDiff, reduceCtorEq])
theorem playE_zero {p e : List Nat} {l : List Mv} (h : playE p e l = 0) : pitchE p = 0 ∧ eventE e = 0 ∧ movesE l = 0 := by
  simp only [playE, cF] at h
  by_cases h1 : pitchE p = 0 <;> by_cases h2 : eventE e = 0 <;> by_cases h3 : movesE l = 0 <;> simp [h1, h2, h3] at h ⊢
theorem mvGo_zero : ∀ {l : List Mv} {p : Option Int}, mvGo p l = 0 → ∀ m ∈ l, mvE m = 0
  | [], _, _, _, hm => by cases hm
  | m :: l, p, h, x, hx => by
    simp only [mvGo] at h
    split at h
    · rename_i h1; exact absurd h h1
    · rename_i h1
      split at h
      · cases h
      · rcases List.mem_cons.1 hx with rfl | hx
        · simpa using h1
        · exact mvGo_zero h x hx
theorem movesE_zero {l : List Mv} (h : movesE l = 0) : l.length ≤ 4 ∧ ∀ m ∈ l, mvE m = 0 := by
  unfold movesE at h
  split at h
  · cases h
  · exact ⟨by omega, mvGo_zero h⟩
theorem mvE_base {m : Mv} (h : mvE m = 0) : baseMv m = true := by
  unfold mvE moveE at h
  simp only [cF] at h
  unfold baseMv
  by_cases hf : 0 ≤ m.f ∧ m.f ≤ 3
  · by_cases ht : 1 ≤ m.t ∧ m.t ≤ 4
    · simp; omega
    · rw [rangeE_in hf, rangeE_out ht] at h; simp at h
  · rw [rangeE_out hf] at h; simp at h
theorem e18 {p e : List Nat} {late : Bool} {l : List Mv} (hb : aT p = true ∧ aT e = true) (hlen : l.length < 9223372036854775808) (hok : ∀ m ∈ l, dN m) : F18 [.agg [.str p, .str e, .bool late, .lsl (aK l)]] = some (.int .i64 (playE p e l)) := by
  simp only [F18]; rw [if_pos hb, dMoves_e hlen hok]; rfl
end Go.Ev
