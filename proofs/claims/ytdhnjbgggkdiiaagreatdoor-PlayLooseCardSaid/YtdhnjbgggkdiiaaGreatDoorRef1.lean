import Derived.Test.YtdhnjbgggkdiiaaGreatDoorForm6
set_option linter.unusedSimpArgs false
set_option linter.unusedVariables false
namespace Go.Ev
open Go.RowKit Go.Proofs
set_option linter.defProp false
def TF53Ref1 := And.intro (And.intro (And.intro (And.intro (And.intro (@Tryz.underlying3) (And.intro (@sz3) (@bK))) (And.intro (@I3s) (And.intro (@I3b) (@bJ)))) (And.intro (And.intro (@bL) (And.intro (@Tryz.underlying4) (@sz4))) (And.intro (And.intro (@cT) (@I4s)) (And.intro (@I4b) (@cS))))) (And.intro (And.intro (And.intro (@cU) (And.intro (@Tryz.underlying9) (@sz9))) (And.intro (@bZ) (And.intro (@I9s) (@I9b)))) (And.intro (And.intro (@bX) (And.intro (@cA) (@Tryz.underlying22))) (And.intro (And.intro (@dX) (@cZ)) (And.intro (@dY) (@dZ)))))) (And.intro (And.intro (And.intro (And.intro (@cX) (And.intro (@dA) (@Tryz.underlying24))) (And.intro (@sz24) (And.intro (@fok24) (@info24)))) (And.intro (And.intro (@I24s) (And.intro (@I24b) (@zero24))) (And.intro (And.intro (@grow24) (@Tryz.underlying25)) (And.intro (@dI) (@bQ))))) (And.intro (And.intro (And.intro (@dJ) (And.intro (@dK) (@bP))) (And.intro (@bR) (And.intro (@Tryz.underlying27) (@dN)))) (And.intro (And.intro (@cV) (And.intro (@cF) (@dO))) (And.intro (And.intro (@dP) (@cC)) (And.intro (@cG) (@Tryz.results53))))))
def TF54Ref1 := And.intro (And.intro (And.intro (And.intro (And.intro (@Tryz.underlying3) (And.intro (@sz3) (@bK))) (And.intro (@I3s) (And.intro (@I3b) (@bJ)))) (And.intro (And.intro (@bL) (And.intro (@Tryz.underlying4) (@sz4))) (And.intro (And.intro (@cT) (@I4s)) (And.intro (@I4b) (@cS))))) (And.intro (And.intro (And.intro (@cU) (And.intro (@Tryz.underlying9) (@sz9))) (And.intro (@bZ) (And.intro (@I9s) (@I9b)))) (And.intro (And.intro (@bX) (And.intro (@cA) (@Tryz.underlying22))) (And.intro (And.intro (@dX) (@cZ)) (And.intro (@dY) (@dZ)))))) (And.intro (And.intro (And.intro (And.intro (@cX) (And.intro (@dA) (@Tryz.underlying24))) (And.intro (@sz24) (And.intro (@fok24) (@info24)))) (And.intro (And.intro (@I24s) (And.intro (@I24b) (@zero24))) (And.intro (And.intro (@grow24) (@Tryz.underlying25)) (And.intro (@dI) (@bQ))))) (And.intro (And.intro (And.intro (@dJ) (And.intro (@dK) (@bP))) (And.intro (@bR) (And.intro (@Tryz.underlying27) (@dN)))) (And.intro (And.intro (@cV) (And.intro (@cF) (@dO))) (And.intro (And.intro (@dP) (@cC)) (And.intro (@cG) (@Tryz.results54))))))
set_option maxRecDepth 20000
set_option maxHeartbeats 4000000

/-! short plays -/
/-! what is counted in a play -/
def dU (g : Mv → Int) : List Mv → Int
  | [] => 0
  | m :: l => g m + dU g l
theorem sumM_drop {g : Mv → Int} {l : List Mv} {k : Nat} {m : Mv} (h : l[k]? = some m) : dU g (l.drop k) = g m + dU g (l.drop (k + 1)) := by
  obtain ⟨hk, rfl⟩ := List.getElem?_eq_some_iff.1 h
  rw [List.drop_eq_getElem_cons hk]; rfl
def outM (m : Mv) : Int := if m.o = true then 1 else 0
def runM (m : Mv) : Int := if m.o = false ∧ m.t = 4 then 1 else 0
def F53 : List EVal → Option EVal
  | [.agg [.str _, .str _, .bool _, ms]] => (bH ms).bind fun l => if l.length ≤ 1000 then some (.int .i64 (dU outM l)) else none
  | _ => none
theorem fn53 : FnT 53 F53 := by
  refine Fn.intro mixed aJ Tryz.func53 rfl [] (fun _ h => by cases h) ?_
  intro args v hF
  unfold F53 at hF
  split at hF
  rotate_left
  · cases hF
  intro Q hV
  have hQ := aW.of hV
  rename_i p e late ms
  cases ha : bH ms with
  | none => rw [ha] at hF; cases hF
  | some l =>
  rw [ha] at hF
  simp only [Option.bind_some] at hF
  split at hF
  rotate_left
  · cases hF
  rename_i hc
  cases hF
  obtain ⟨rfl, hlen, hok⟩ := bE ha
  clear ha
  refine Top.view (aF.start (n := 21) rfl (by simp)) (aD aJ _ _ _ _ ?_)
  (try simp only [aI, SS, aA, Nat.reduceLT])
  refine aT (Top.loop (I := fun s : { p : Nat × Int // p.1 ≤ l.length ∧ -4 * (p.1 : Int) ≤ p.2 ∧ p.2 ≤ 4 * (p.1 : Int) ∧ dU outM l = p.2 + dU outM (l.drop p.1) } => (mkF 21 [(4, .int .i64 (s.1.1 : Nat)), (3, .int .i64 s.1.2), (1, .ptr 0 0)], mkH 1 [(0, some (.row [.str p, .str e, .bool late, .lsl (aG l)] 24 0 0 false))] 0 [])) (μ := fun s => l.length - s.1.1) ⟨(0, 0), by simp, by simp, by simp, by simp⟩ (aF.drop (by simp [look, below]) (by simp [aB, aR, below, aX]) (by simp [aB])) ?_)
  rintro ⟨⟨k, a⟩, hk, ha1, ha2, hf⟩
  simp only at hk ha1 ha2 hf
  refine aD aJ _ _ _ _ ?_
  by_cases hlt : k < l.length
  rotate_left
  · have q1 : decide ((k : Int) < (l.length : Int)) = false := by simp; omega
    (try simp only [SS, TF53Ref1, aA, Nat.reduceLT, Nat.reduceEqDiff, reduceCtorEq, aL, q1])
    (refine hQ _ _ _ (aC (by first | exact .inl rfl | exact .inr rfl) ?_); simp only [SS, TF53Ref1, Nat.reduceLT, Nat.reduceEqDiff])
    have : l.drop k = [] := List.drop_eq_nil_of_le (by omega)
    rw [hf, this]; simp [dU]
  obtain ⟨m, hx⟩ : ∃ m, l[k]? = some m := ⟨l[k], List.getElem?_eq_getElem hlt⟩
  have hfd := sumM_drop (g := outM) hx
  have q1 : decide ((k : Int) < (l.length : Int)) = true := by simp; omega
  have q2 : IntKind.i64.wrap ((k : Int) + 1) = ((k + 1 : Nat) : Int) := by rw [aP] <;> omega
  have hmu : l.length - (k + 1) < l.length - k := by omega
  have w1 : IntKind.i64.wrap (a + 1) = a + 1 := by rw [aP] <;> omega
  cases ho : m.o with
  | true =>
    have e1 : outM m = 1 := by simp [outM, ho]
    (try simp only [SS, TF53Ref1, aA, Nat.reduceLT, Nat.reduceEqDiff, Nat.reduceAdd, reduceCtorEq, aL, q1, q2, aZ, bT, hx, ho, w1])
    exact ⟨⟨(k + 1, a + 1), hlt, by simp only; omega, by simp only; omega, by simp only; rw [hf, hfd, e1]; omega⟩, hmu, (aF.drop (by simp [look, below]) (by simp [aB, aR, below, aX]) (by simp [aB]))⟩
  | false =>
    have e1 : outM m = 0 := by simp [outM, ho]
    (try simp only [SS, TF53Ref1, aA, Nat.reduceLT, Nat.reduceEqDiff, Nat.reduceAdd, reduceCtorEq, aL, q1, q2, aZ, bT, hx, ho])
    exact ⟨⟨(k + 1, a), hlt, by simp only; omega, by simp only; omega, by simp only; rw [hf, hfd, e1]; omega⟩, hmu, (aF.drop (by simp [look, below]) (by simp [aB, aR, below, aX]) (by simp [aB]))⟩

def F54 : List EVal → Option EVal
  | [.agg [.str _, .str _, .bool _, ms]] => (bH ms).bind fun l => if l.length ≤ 1000 then some (.int .i64 (dU runM l)) else none
  | _ => none
theorem fn54 : FnT 54 F54 := by
  refine Fn.intro mixed aJ Tryz.func54 rfl [] (fun _ h => by cases h) ?_
  intro args v hF
  unfold F54 at hF
  split at hF
  rotate_left
  · cases hF
  intro Q hV
  have hQ := aW.of hV
  rename_i p e late ms
  cases ha : bH ms with
  | none => rw [ha] at hF; cases hF
  | some l =>
  rw [ha] at hF
  simp only [Option.bind_some] at hF
  split at hF
  rotate_left
  · cases hF
  rename_i hc
  cases hF
  obtain ⟨rfl, hlen, hok⟩ := bE ha
  clear ha
  refine Top.view (aF.start (n := 31) rfl (by simp)) (aD aJ _ _ _ _ ?_)
  (try simp only [aI, SS, aA, Nat.reduceLT])
  refine aT (Top.loop (I := fun s : { p : Nat × Int // p.1 ≤ l.length ∧ -4 * (p.1 : Int) ≤ p.2 ∧ p.2 ≤ 4 * (p.1 : Int) ∧ dU runM l = p.2 + dU runM (l.drop p.1) } => (mkF 31 [(4, .int .i64 (s.1.1 : Nat)), (3, .int .i64 s.1.2), (1, .ptr 0 0)], mkH 1 [(0, some (.row [.str p, .str e, .bool late, .lsl (aG l)] 24 0 0 false))] 0 [])) (μ := fun s => l.length - s.1.1) ⟨(0, 0), by simp, by simp, by simp, by simp⟩ (aF.drop (by simp [look, below]) (by simp [aB, aR, below, aX]) (by simp [aB])) ?_)
  rintro ⟨⟨k, a⟩, hk, ha1, ha2, hf⟩
  simp only at hk ha1 ha2 hf
  refine aD aJ _ _ _ _ ?_
  by_cases hlt : k < l.length
  rotate_left
  · have q1 : decide ((k : Int) < (l.length : Int)) = false := by simp; omega
    (try simp only [SS, TF54Ref1, aA, Nat.reduceLT, Nat.reduceEqDiff, reduceCtorEq, aL, q1])
    (refine hQ _ _ _ (aC (by first | exact .inl rfl | exact .inr rfl) ?_); simp only [SS, TF54Ref1, Nat.reduceLT, Nat.reduceEqDiff])
    have : l.drop k = [] := List.drop_eq_nil_of_le (by omega)
    rw [hf, this]; simp [dU]
  obtain ⟨m, hx⟩ : ∃ m, l[k]? = some m := ⟨l[k], List.getElem?_eq_getElem hlt⟩
  have hfd := sumM_drop (g := runM) hx
  have q1 : decide ((k : Int) < (l.length : Int)) = true := by simp; omega
  have q2 : IntKind.i64.wrap ((k : Int) + 1) = ((k + 1 : Nat) : Int) := by rw [aP] <;> omega
  have hmu : l.length - (k + 1) < l.length - k := by omega
  have w1 : IntKind.i64.wrap (a + 1) = a + 1 := by rw [aP] <;> omega
  cases ho : m.o with
  | true =>
    have e1 : runM m = 0 := by simp [runM, ho]
    (try simp only [SS, TF54Ref1, aA, Nat.reduceLT, Nat.reduceEqDiff, Nat.reduceAdd, reduceCtorEq, aL, q1, q2, aZ, bT, hx, ho])
    exact ⟨⟨(k + 1, a), hlt, by simp only; omega, by simp only; omega, by simp only; rw [hf, hfd, e1]; omega⟩, hmu, (aF.drop (by simp [look, below]) (by simp [aB, aR, below, aX]) (by simp [aB]))⟩
  | false =>
    cases ht : (m.t == 4) with
    | true =>
      have e1 : runM m = 1 := by simp [runM, ho, (show m.t = 4 by simpa using ht)]
      (try simp only [SS, TF54Ref1, aA, Nat.reduceLT, Nat.reduceEqDiff, Nat.reduceAdd, reduceCtorEq, aL, q1, q2, aZ, bT, hx, ho, ht, w1])
      exact ⟨⟨(k + 1, a + 1), hlt, by simp only; omega, by simp only; omega, by simp only; rw [hf, hfd, e1]; omega⟩, hmu, (aF.drop (by simp [look, below]) (by simp [aB, aR, below, aX]) (by simp [aB]))⟩
    | false =>
      have e1 : runM m = 0 := by simp [runM, ho, (show ¬ m.t = 4 by simpa using ht)]
      (try simp only [SS, TF54Ref1, aA, Nat.reduceLT, Nat.reduceEqDiff, Nat.reduceAdd, reduceCtorEq, aL, q1, q2, aZ, bT, hx, ho, ht])
      exact ⟨⟨(k + 1, a), hlt, by simp only; omega, by simp only; omega, by simp only; rw [hf, hfd, e1]; omega⟩, hmu, (aF.drop (by simp [look, below]) (by simp [aB, aR, below, aX]) (by simp [aB]))⟩

/-- the bases of a move are those of one -/
def baseMv (m : Mv) : Bool := decide (0 ≤ m.f) && decide (m.f ≤ 3) && decide (1 ≤ m.t) && decide (m.t ≤ 4)
end Go.Ev
