import Derived.Test.YtdhnjbgggkdiiaaGreatDoorForm6
set_option linter.unusedSimpArgs false
set_option linter.unusedVariables false
namespace Go.Ev
open Go.RowKit Go.Proofs
set_option linter.defProp false
def TF17Ref1 := And.intro (And.intro (And.intro (And.intro (And.intro (@Tryz.underlying3) (And.intro (@sz3) (@bN))) (And.intro (@I3s) (And.intro (@I3b) (@bL)))) (And.intro (And.intro (@bO) (And.intro (@Tryz.underlying4) (@sz4))) (And.intro (And.intro (@dC) (@I4s)) (And.intro (@I4b) (@cY))))) (And.intro (And.intro (And.intro (@dD) (And.intro (@Tryz.underlying9) (@sz9))) (And.intro (@bI) (And.intro (@I9s) (@I9b)))) (And.intro (And.intro (@bH) (And.intro (@bJ) (@Tryz.underlying22))) (And.intro (And.intro (@eN) (@dO)) (And.intro (@eO) (@eP)))))) (And.intro (And.intro (And.intro (And.intro (@dH) (And.intro (@dP) (@Tryz.underlying24))) (And.intro (@sz24) (And.intro (@fok24) (@info24)))) (And.intro (And.intro (@I24s) (And.intro (@I24b) (@zero24))) (And.intro (And.intro (@grow24) (@Tryz.underlying25)) (And.intro (@eB) (@cE))))) (And.intro (And.intro (And.intro (@eC) (And.intro (@eD) (@cC))) (And.intro (@cF) (And.intro (@Tryz.underlying27) (@eE)))) (And.intro (And.intro (@dF) (And.intro (@cJ) (@eF))) (And.intro (And.intro (@eG) (@cH)) (And.intro (@cK) (@Tryz.results17))))))
set_option maxRecDepth 20000
set_option maxHeartbeats 4000000

/-! short plays -/
def shortMv (m : Mv) : Bool := decide (m.h.length ≤ 20) && decide (m.b.length ≤ 40)
def shortB (p e : List Nat) (l : List Mv) : Bool := decide (p.length ≤ 26) && decide (e.length ≤ 20) && decide (l.length ≤ 6) && l.all shortMv
theorem all_drop {l : List Mv} {k : Nat} {m : Mv} {f : Mv → Bool} (h : l[k]? = some m) : (l.drop k).all f = (f m && (l.drop (k + 1)).all f) := by
  obtain ⟨hk, rfl⟩ := List.getElem?_eq_some_iff.1 h
  rw [List.drop_eq_getElem_cons hk]; rfl
def F17 : List EVal → Option EVal
  | [.agg [.str p, .str e, .bool _, ms]] => (dI ms).map fun l => .bool (shortB p e l)
  | _ => none
theorem fn17 : FnT 17 F17 := by
  refine Fn.intro mixed aI Tryz.func17 rfl [] (fun _ h => by cases h) ?_
  intro args v hF
  unfold F17 at hF
  split at hF
  rotate_left
  · cases hF
  intro Q hV
  have hQ := aS.of hV
  rename_i p e late ms
  cases ha : dI ms with
  | none => rw [ha] at hF; cases hF
  | some l =>
  rw [ha] at hF
  cases hF
  obtain ⟨rfl, hlen, hok⟩ := dMoves_inv ha
  clear ha
  dsimp only at hQ hV
  refine Top.view (aH.start (n := 45) rfl (by simp)) (aD aI _ _ _ _ ?_)
  by_cases h1 : p.length ≤ 26
  rotate_left
  · have c1 : decide ((26 : Int) < (p.length : Int)) = true := by simp; omega
    (try simp only [aG, SS, TF17Ref1, aA, Nat.reduceLT, Nat.reduceEqDiff, reduceCtorEq, c1])
    (refine hQ _ _ _ (aC (by first | exact .inl rfl | exact .inr rfl) ?_); simp only [SS, TF17Ref1, Nat.reduceLT, Nat.reduceEqDiff, reduceCtorEq])
    simp [shortB, h1]
  have c1 : decide ((26 : Int) < (p.length : Int)) = false := by simp; omega
  by_cases h2 : e.length ≤ 20
  rotate_left
  · have c2 : decide ((20 : Int) < (e.length : Int)) = true := by simp; omega
    (try simp only [aG, SS, TF17Ref1, aA, Nat.reduceLT, Nat.reduceEqDiff, reduceCtorEq, c1, c2])
    (refine hQ _ _ _ (aC (by first | exact .inl rfl | exact .inr rfl) ?_); simp only [SS, TF17Ref1, Nat.reduceLT, Nat.reduceEqDiff, reduceCtorEq])
    simp [shortB, h2]
  have c2 : decide ((20 : Int) < (e.length : Int)) = false := by simp; omega
  by_cases h3 : l.length ≤ 6
  rotate_left
  · have c3 : decide ((6 : Int) < (l.length : Int)) = true := by simp; omega
    (try simp only [aG, SS, TF17Ref1, aA, Nat.reduceLT, Nat.reduceEqDiff, reduceCtorEq, c1, c2, aV, c3])
    (refine hQ _ _ _ (aC (by first | exact .inl rfl | exact .inr rfl) ?_); simp only [SS, TF17Ref1, Nat.reduceLT, Nat.reduceEqDiff, reduceCtorEq])
    simp [shortB, h3]
  have c3 : decide ((6 : Int) < (l.length : Int)) = false := by simp; omega
  have hE : shortB p e l = l.all shortMv := by simp [shortB, h1, h2, h3]
  rw [hE] at hQ
  clear hE
  (try simp only [aG, SS, TF17Ref1, aA, Nat.reduceLT, Nat.reduceEqDiff, reduceCtorEq, c1, c2, aV, c3])
  refine aU (Top.loop (I := fun s : { k : Nat // k ≤ l.length ∧ l.all shortMv = (l.drop k).all shortMv } => (mkF 45 [(3, .int .i64 (s.1 : Nat)), (1, .ptr 0 0)], mkH 1 [(0, some (.row [.str p, .str e, .bool late, .lsl (aZ l)] 24 0 0 false))] 0 [])) (μ := fun s => l.length - s.1) ⟨0, by simp, rfl⟩ (aH.drop (by simp [look, below]) (by simp [aB, bG, below, bV]) (by simp [aB])) ?_)
  rintro ⟨k, hk, hf⟩
  refine aD aI _ _ _ _ ?_
  by_cases hlt : k < l.length
  rotate_left
  · have q1 : decide ((k : Int) < (l.length : Int)) = false := by simp; omega
    (try simp only [SS, TF17Ref1, aA, Nat.reduceLT, Nat.reduceEqDiff, reduceCtorEq, aV, q1])
    (refine hQ _ _ _ (aC (by first | exact .inl rfl | exact .inr rfl) ?_); simp only [SS, TF17Ref1, Nat.reduceLT, Nat.reduceEqDiff])
    have : l.drop k = [] := List.drop_eq_nil_of_le (by omega)
    rw [hf, this]; rfl
  obtain ⟨m, hx⟩ : ∃ m, l[k]? = some m := ⟨l[k], List.getElem?_eq_getElem hlt⟩
  have hfd := all_drop (f := shortMv) hx
  have q1 : decide ((k : Int) < (l.length : Int)) = true := by simp; omega
  have q2 : IntKind.i64.wrap ((k : Int) + 1) = ((k + 1 : Nat) : Int) := by rw [aR] <;> omega
  by_cases h4 : m.h.length ≤ 20
  rotate_left
  · have q3 : decide ((20 : Int) < (m.h.length : Int)) = true := by simp; omega
    (try simp only [SS, TF17Ref1, aA, Nat.reduceLT, Nat.reduceEqDiff, Nat.reduceAdd, reduceCtorEq, aV, q1, eMoves_get, eMove_q, hx, q3])
    (refine hQ _ _ _ (aC (by first | exact .inl rfl | exact .inr rfl) ?_); simp only [SS, TF17Ref1, Nat.reduceLT, Nat.reduceEqDiff])
    rw [hf, hfd]; simp [shortMv, h4]
  have q3 : decide ((20 : Int) < (m.h.length : Int)) = false := by simp; omega
  by_cases h5 : m.b.length ≤ 40
  rotate_left
  · have q4 : decide ((40 : Int) < (m.b.length : Int)) = true := by simp; omega
    (try simp only [SS, TF17Ref1, aA, Nat.reduceLT, Nat.reduceEqDiff, Nat.reduceAdd, reduceCtorEq, aV, q1, eMoves_get, eMove_q, hx, q3, aP, q4])
    (refine hQ _ _ _ (aC (by first | exact .inl rfl | exact .inr rfl) ?_); simp only [SS, TF17Ref1, Nat.reduceLT, Nat.reduceEqDiff])
    rw [hf, hfd]; simp [shortMv, h5]
  have q4 : decide ((40 : Int) < (m.b.length : Int)) = false := by simp; omega
  (try simp only [SS, TF17Ref1, aA, Nat.reduceLT, Nat.reduceEqDiff, Nat.reduceAdd, reduceCtorEq, aV, q1, q2, eMoves_get, eMove_q, hx, q3, aP, q4])
  exact ⟨⟨k + 1, hlt, by rw [hf, hfd]; simp [shortMv, h4, h5]⟩, by simp; omega, (aH.drop (by simp [look, below]) (by simp [aB, bG, below, bV]) (by simp [aB]))⟩

/-! what is counted in a play -/
/-- the bases of a move are those of one -/
def baseMv (m : Mv) : Bool := decide (0 ≤ m.f) && decide (m.f ≤ 3) && decide (1 ≤ m.t) && decide (m.t ≤ 4)
end Go.Ev
namespace Go.Ev
open Go.RowKit Go.Proofs
set_option linter.defProp false
set_option maxRecDepth 20000
set_option maxHeartbeats 4000000

/-! outs and runs, filtered -/
theorem lensOK_eMoves (l : List Mv) : dN 5 (aZ l) = true := by simp [dN, aZ, dR]
theorem eMoves_snoc (l : List Mv) (m : Mv) : aZ l ++ [[.int .i64 m.f, .int .i64 m.t, .bool m.o, .str m.h, .lsl (bU m.b)]] = aZ (l ++ [m]) := by simp [aZ, dR]
theorem playE_zero {p e : List Nat} {l : List Mv} (h : playE p e l = 0) : pitchE p = 0 ∧ eventE e = 0 ∧ movesE l = 0 := by
  simp only [playE, cV] at h
  by_cases h1 : pitchE p = 0 <;> by_cases h2 : eventE e = 0 <;> by_cases h3 : movesE l = 0 <;> simp [h1, h2, h3] at h ⊢
theorem mvGo_zero : ∀ {l : List Mv} {p : Option Int}, mvGo p l = 0 → ∀ m ∈ l, mvE m = 0
  | [], _, _, _, hm => by cases hm
  | m :: l, p, h, x, hx => by
    simp only [mvGo] at h
    split at h
    · rename_i h1; exact absurd h h1
    · rename_i h1
      split at h
      · cases h
      · rcases List.mem_cons.1 hx with rfl | hx
        · simpa using h1
        · exact mvGo_zero h x hx
theorem movesE_zero {l : List Mv} (h : movesE l = 0) : l.length ≤ 4 ∧ ∀ m ∈ l, mvE m = 0 := by
  unfold movesE at h
  split at h
  · cases h
  · exact ⟨by omega, mvGo_zero h⟩
theorem mvE_base {m : Mv} (h : mvE m = 0) : baseMv m = true := by
  unfold mvE moveE at h
  simp only [cV] at h
  unfold baseMv
  by_cases hf : 0 ≤ m.f ∧ m.f ≤ 3
  · by_cases ht : 1 ≤ m.t ∧ m.t ≤ 4
    · simp; omega
    · rw [rangeE_in hf, rangeE_out ht] at h; simp at h
  · rw [rangeE_out hf] at h; simp at h
theorem e18 {p e : List Nat} {late : Bool} {l : List Mv} (hb : aM p = true ∧ aM e = true) (hlen : l.length < 9223372036854775808) (hok : ∀ m ∈ l, eI m) : F18 [.agg [.str p, .str e, .bool late, .lsl (aZ l)]] = some (.int .i64 (playE p e l)) := by
  simp only [F18]; rw [if_pos hb, dMoves_e hlen hok]; rfl
end Go.Ev
