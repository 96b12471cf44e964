import Derived.Test.YtdhnjbgggkdiiaaGreatDoorForm6
set_option linter.unusedSimpArgs false
set_option linter.unusedVariables false
namespace Go.Ev
open Go.RowKit Go.Proofs
set_option linter.defProp false
def TF17Ref1 := And.intro (And.intro (And.intro (And.intro (And.intro (@Tryz.underlying3) (And.intro (@sz3) (@bI))) (And.intro (@I3s) (And.intro (@I3b) (@bH)))) (And.intro (And.intro (@bJ) (And.intro (@Tryz.underlying4) (@sz4))) (And.intro (And.intro (@cO) (@I4s)) (And.intro (@I4b) (@cN))))) (And.intro (And.intro (And.intro (@cP) (And.intro (@Tryz.underlying9) (@sz9))) (And.intro (@bW) (And.intro (@I9s) (@I9b)))) (And.intro (And.intro (@bV) (And.intro (@bX) (@Tryz.underlying22))) (And.intro (And.intro (@sz22) (@info22)) (And.intro (@I22s) (@I22b)))))) (And.intro (And.intro (And.intro (And.intro (@cX) (And.intro (@grow22) (@Tryz.underlying24))) (And.intro (@sz24) (And.intro (@fok24) (@info24)))) (And.intro (And.intro (@I24s) (And.intro (@I24b) (@zero24))) (And.intro (And.intro (@grow24) (@Tryz.underlying25)) (And.intro (@dB) (@bQ))))) (And.intro (And.intro (And.intro (@dD) (And.intro (@dE) (@bN))) (And.intro (@bR) (And.intro (@Tryz.underlying27) (@dG)))) (And.intro (And.intro (@cT) (And.intro (@cD) (@dI))) (And.intro (And.intro (@dJ) (@cC)) (And.intro (@cE) (@Tryz.results17))))))
set_option maxRecDepth 20000
set_option maxHeartbeats 4000000

/-! short plays -/
def shortMv (m : Mv) : Bool := decide (m.h.length ≤ 20) && decide (m.b.length ≤ 40)
def shortB (p e : List Nat) (l : List Mv) : Bool := decide (p.length ≤ 26) && decide (e.length ≤ 20) && decide (l.length ≤ 6) && l.all shortMv
theorem all_drop {l : List Mv} {k : Nat} {m : Mv} {f : Mv → Bool} (h : l[k]? = some m) : (l.drop k).all f = (f m && (l.drop (k + 1)).all f) := by
  obtain ⟨hk, rfl⟩ := List.getElem?_eq_some_iff.1 h
  rw [List.drop_eq_getElem_cons hk]; rfl
def F17 : List EVal → Option EVal
  | [.agg [.str p, .str e, .bool _, ms]] => (bL ms).map fun l => .bool (shortB p e l)
  | _ => none
theorem fn17 : FnT 17 F17 := by
  refine Fn.intro mixed aI Tryz.func17 rfl [] (fun _ h => by cases h) ?_
  intro args v hF
  unfold F17 at hF
  split at hF
  rotate_left
  · cases hF
  intro Q hV
  have hQ := aW.of hV
  rename_i p e late ms
  cases ha : bL ms with
  | none => rw [ha] at hF; cases hF
  | some l =>
  rw [ha] at hF
  cases hF
  obtain ⟨rfl, hlen, hok⟩ := dMoves_inv ha
  clear ha
  dsimp only at hQ hV
  refine Top.view (aF.start (n := 45) rfl (by simp)) (aD aI _ _ _ _ ?_)
  by_cases h1 : p.length ≤ 26
  rotate_left
  · have c1 : decide ((26 : Int) < (p.length : Int)) = true := by simp; omega
    (try simp only [aH, SS, TF17Ref1, aA, Nat.reduceLT, Nat.reduceEqDiff, reduceCtorEq, c1])
    (refine hQ _ _ _ (aC (by first | exact .inl rfl | exact .inr rfl) ?_); simp only [SS, TF17Ref1, Nat.reduceLT, Nat.reduceEqDiff, reduceCtorEq])
    simp [shortB, h1]
  have c1 : decide ((26 : Int) < (p.length : Int)) = false := by simp; omega
  by_cases h2 : e.length ≤ 20
  rotate_left
  · have c2 : decide ((20 : Int) < (e.length : Int)) = true := by simp; omega
    (try simp only [aH, SS, TF17Ref1, aA, Nat.reduceLT, Nat.reduceEqDiff, reduceCtorEq, c1, c2])
    (refine hQ _ _ _ (aC (by first | exact .inl rfl | exact .inr rfl) ?_); simp only [SS, TF17Ref1, Nat.reduceLT, Nat.reduceEqDiff, reduceCtorEq])
    simp [shortB, h2]
  have c2 : decide ((20 : Int) < (e.length : Int)) = false := by simp; omega
  by_cases h3 : l.length ≤ 6
  rotate_left
  · have c3 : decide ((6 : Int) < (l.length : Int)) = true := by simp; omega
    (try simp only [aH, SS, TF17Ref1, aA, Nat.reduceLT, Nat.reduceEqDiff, reduceCtorEq, c1, c2, aL, c3])
    (refine hQ _ _ _ (aC (by first | exact .inl rfl | exact .inr rfl) ?_); simp only [SS, TF17Ref1, Nat.reduceLT, Nat.reduceEqDiff, reduceCtorEq])
    simp [shortB, h3]
  have c3 : decide ((6 : Int) < (l.length : Int)) = false := by simp; omega
  have hE : shortB p e l = l.all shortMv := by simp [shortB, h1, h2, h3]
  rw [hE] at hQ
  clear hE
  (try simp only [aH, SS, TF17Ref1, aA, Nat.reduceLT, Nat.reduceEqDiff, reduceCtorEq, c1, c2, aL, c3])
  refine aQ (Top.loop (I := fun s : { k : Nat // k ≤ l.length ∧ l.all shortMv = (l.drop k).all shortMv } => (mkF 45 [(3, .int .i64 (s.1 : Nat)), (1, .ptr 0 0)], mkH 1 [(0, some (.row [.str p, .str e, .bool late, .lsl (aK l)] 24 0 0 false))] 0 [])) (μ := fun s => l.length - s.1) ⟨0, by simp, rfl⟩ (aF.drop (by simp [look, below]) (by simp [aB, bC, below, bM]) (by simp [aB])) ?_)
  rintro ⟨k, hk, hf⟩
  refine aD aI _ _ _ _ ?_
  by_cases hlt : k < l.length
  rotate_left
  · have q1 : decide ((k : Int) < (l.length : Int)) = false := by simp; omega
    (try simp only [SS, TF17Ref1, aA, Nat.reduceLT, Nat.reduceEqDiff, reduceCtorEq, aL, q1])
    (refine hQ _ _ _ (aC (by first | exact .inl rfl | exact .inr rfl) ?_); simp only [SS, TF17Ref1, Nat.reduceLT, Nat.reduceEqDiff])
    have : l.drop k = [] := List.drop_eq_nil_of_le (by omega)
    rw [hf, this]; rfl
  obtain ⟨m, hx⟩ : ∃ m, l[k]? = some m := ⟨l[k], List.getElem?_eq_getElem hlt⟩
  have hfd := all_drop (f := shortMv) hx
  have q1 : decide ((k : Int) < (l.length : Int)) = true := by simp; omega
  have q2 : IntKind.i64.wrap ((k : Int) + 1) = ((k + 1 : Nat) : Int) := by rw [aP] <;> omega
  by_cases h4 : m.h.length ≤ 20
  rotate_left
  · have q3 : decide ((20 : Int) < (m.h.length : Int)) = true := by simp; omega
    (try simp only [SS, TF17Ref1, aA, Nat.reduceLT, Nat.reduceEqDiff, Nat.reduceAdd, reduceCtorEq, aL, q1, bD, bS, hx, q3])
    (refine hQ _ _ _ (aC (by first | exact .inl rfl | exact .inr rfl) ?_); simp only [SS, TF17Ref1, Nat.reduceLT, Nat.reduceEqDiff])
    rw [hf, hfd]; simp [shortMv, h4]
  have q3 : decide ((20 : Int) < (m.h.length : Int)) = false := by simp; omega
  by_cases h5 : m.b.length ≤ 40
  rotate_left
  · have q4 : decide ((40 : Int) < (m.b.length : Int)) = true := by simp; omega
    (try simp only [SS, TF17Ref1, aA, Nat.reduceLT, Nat.reduceEqDiff, Nat.reduceAdd, reduceCtorEq, aL, q1, bD, bS, hx, q3, aM, q4])
    (refine hQ _ _ _ (aC (by first | exact .inl rfl | exact .inr rfl) ?_); simp only [SS, TF17Ref1, Nat.reduceLT, Nat.reduceEqDiff])
    rw [hf, hfd]; simp [shortMv, h5]
  have q4 : decide ((40 : Int) < (m.b.length : Int)) = false := by simp; omega
  (try simp only [SS, TF17Ref1, aA, Nat.reduceLT, Nat.reduceEqDiff, Nat.reduceAdd, reduceCtorEq, aL, q1, q2, bD, bS, hx, q3, aM, q4])
  exact ⟨⟨k + 1, hlt, by rw [hf, hfd]; simp [shortMv, h4, h5]⟩, by simp; omega, (aF.drop (by simp [look, below]) (by simp [aB, bC, below, bM]) (by simp [aB]))⟩

/-! what is counted in a play -/
/-- the bases of a move are those of one -/
def baseMv (m : Mv) : Bool := decide (0 ≤ m.f) && decide (m.f ≤ 3) && decide (1 ≤ m.t) && decide (m.t ≤ 4)
end Go.Ev
