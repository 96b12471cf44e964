import Derived.Test.YtcmlciebgapmjaaGreatDoorForm6
set_option linter.unusedSimpArgs false
set_option linter.unusedVariables false
namespace Go.Ev
open Go.RowKit Go.Proofs
set_option linter.defProp false
def TF17Ref1 := And.intro (And.intro (And.intro (And.intro (And.intro (@Tryz.underlying3) (And.intro (@sz3) (@bT))) (And.intro (@I3s) (And.intro (@I3b) (@bS)))) (And.intro (And.intro (@bV) (And.intro (@Tryz.underlying4) (@sz4))) (And.intro (And.intro (@cV) (@I4s)) (And.intro (@I4b) (@cU))))) (And.intro (And.intro (And.intro (@cW) (And.intro (@Tryz.underlying9) (@sz9))) (And.intro (@cL) (And.intro (@I9s) (@I9b)))) (And.intro (And.intro (@cI) (And.intro (@cM) (@Tryz.underlying22))) (And.intro (And.intro (@sz22) (@info22)) (And.intro (@I22s) (@I22b)))))) (And.intro (And.intro (And.intro (And.intro (@zero22) (And.intro (@grow22) (@Tryz.underlying24))) (And.intro (@sz24) (And.intro (@fok24) (@info24)))) (And.intro (And.intro (@I24s) (And.intro (@I24b) (@zero24))) (And.intro (And.intro (@grow24) (@Tryz.underlying25)) (And.intro (@dF) (@bZ))))) (And.intro (And.intro (And.intro (@dG) (And.intro (@dH) (@bX))) (And.intro (@cA) (And.intro (@Tryz.underlying27) (@dQ)))) (And.intro (And.intro (@dB) (And.intro (@cN) (@dR))) (And.intro (And.intro (@dS) (@cK)) (And.intro (@cO) (@Tryz.results17))))))
def TF53Ref1 := And.intro (And.intro (And.intro (And.intro (And.intro (@Tryz.underlying3) (And.intro (@sz3) (@bT))) (And.intro (@I3s) (And.intro (@I3b) (@bS)))) (And.intro (And.intro (@bV) (And.intro (@Tryz.underlying4) (@sz4))) (And.intro (And.intro (@cV) (@I4s)) (And.intro (@I4b) (@cU))))) (And.intro (And.intro (And.intro (@cW) (And.intro (@Tryz.underlying9) (@sz9))) (And.intro (@cL) (And.intro (@I9s) (@I9b)))) (And.intro (And.intro (@cI) (And.intro (@cM) (@Tryz.underlying22))) (And.intro (And.intro (@sz22) (@info22)) (And.intro (@I22s) (@I22b)))))) (And.intro (And.intro (And.intro (And.intro (@zero22) (And.intro (@grow22) (@Tryz.underlying24))) (And.intro (@sz24) (And.intro (@fok24) (@info24)))) (And.intro (And.intro (@I24s) (And.intro (@I24b) (@zero24))) (And.intro (And.intro (@grow24) (@Tryz.underlying25)) (And.intro (@dF) (@bZ))))) (And.intro (And.intro (And.intro (@dG) (And.intro (@dH) (@bX))) (And.intro (@cA) (And.intro (@Tryz.underlying27) (@dQ)))) (And.intro (And.intro (@dB) (And.intro (@cN) (@dR))) (And.intro (And.intro (@dS) (@cK)) (And.intro (@cO) (@Tryz.results53))))))
def TF54Ref1 := And.intro (And.intro (And.intro (And.intro (And.intro (@Tryz.underlying3) (And.intro (@sz3) (@bT))) (And.intro (@I3s) (And.intro (@I3b) (@bS)))) (And.intro (And.intro (@bV) (And.intro (@Tryz.underlying4) (@sz4))) (And.intro (And.intro (@cV) (@I4s)) (And.intro (@I4b) (@cU))))) (And.intro (And.intro (And.intro (@cW) (And.intro (@Tryz.underlying9) (@sz9))) (And.intro (@cL) (And.intro (@I9s) (@I9b)))) (And.intro (And.intro (@cI) (And.intro (@cM) (@Tryz.underlying22))) (And.intro (And.intro (@sz22) (@info22)) (And.intro (@I22s) (@I22b)))))) (And.intro (And.intro (And.intro (And.intro (@zero22) (And.intro (@grow22) (@Tryz.underlying24))) (And.intro (@sz24) (And.intro (@fok24) (@info24)))) (And.intro (And.intro (@I24s) (And.intro (@I24b) (@zero24))) (And.intro (And.intro (@grow24) (@Tryz.underlying25)) (And.intro (@dF) (@bZ))))) (And.intro (And.intro (And.intro (@dG) (And.intro (@dH) (@bX))) (And.intro (@cA) (And.intro (@Tryz.underlying27) (@dQ)))) (And.intro (And.intro (@dB) (And.intro (@cN) (@dR))) (And.intro (And.intro (@dS) (@cK)) (And.intro (@cO) (@Tryz.results54))))))
def TF55Ref1 := And.intro (And.intro (And.intro (And.intro (And.intro (@Tryz.underlying3) (And.intro (@sz3) (@bT))) (And.intro (@I3s) (And.intro (@I3b) (@bS)))) (And.intro (And.intro (@bV) (And.intro (@Tryz.underlying4) (@sz4))) (And.intro (And.intro (@cV) (@I4s)) (And.intro (@I4b) (@cU))))) (And.intro (And.intro (And.intro (@cW) (And.intro (@Tryz.underlying9) (@sz9))) (And.intro (@cL) (And.intro (@I9s) (@I9b)))) (And.intro (And.intro (@cI) (And.intro (@cM) (@Tryz.underlying22))) (And.intro (And.intro (@sz22) (@info22)) (And.intro (@I22s) (@I22b)))))) (And.intro (And.intro (And.intro (And.intro (@zero22) (And.intro (@grow22) (@Tryz.underlying24))) (And.intro (@sz24) (And.intro (@fok24) (@info24)))) (And.intro (And.intro (@I24s) (And.intro (@I24b) (@zero24))) (And.intro (And.intro (@grow24) (@Tryz.underlying25)) (And.intro (@dF) (@bZ))))) (And.intro (And.intro (And.intro (@dG) (And.intro (@dH) (@bX))) (And.intro (@cA) (And.intro (@Tryz.underlying27) (@dQ)))) (And.intro (And.intro (@dB) (And.intro (@cN) (@dR))) (And.intro (And.intro (@dS) (@cK)) (And.intro (@cO) (@Tryz.results55))))))
def TF56Ref1 := And.intro (And.intro (And.intro (@Tryz.underlying3) (@sz3)) (And.intro (@bT) (@I3s))) (And.intro (And.intro (@I3b) (@bS)) (And.intro (@bV) (@Tryz.results56)))
set_option maxRecDepth 20000
set_option maxHeartbeats 4000000

/-! short plays -/
def shortMv (m : Mv) : Bool := decide (m.h.length ≤ 20) && decide (m.b.length ≤ 40)
def shortB (p e : List Nat) (l : List Mv) : Bool := decide (p.length ≤ 26) && decide (e.length ≤ 20) && decide (l.length ≤ 6) && l.all shortMv
theorem all_drop {l : List Mv} {k : Nat} {m : Mv} {f : Mv → Bool} (h : l[k]? = some m) : (l.drop k).all f = (f m && (l.drop (k + 1)).all f) := by
  obtain ⟨hk, rfl⟩ := List.getElem?_eq_some_iff.1 h
  rw [List.drop_eq_getElem_cons hk]; rfl
def F17 : List EVal → Option EVal
  | [.agg [.str p, .str e, .bool _, ms]] => (bR ms).map fun l => .bool (shortB p e l)
  | _ => none
theorem fn17 : FnT 17 F17 := by
  refine Fn.intro mixed bA Tryz.func17 rfl [] (fun _ h => by cases h) ?_
  intro args v hF
  unfold F17 at hF
  split at hF
  rotate_left
  · cases hF
  intro Q hV
  have hQ := bL.of hV
  rename_i p e late ms
  cases ha : bR ms with
  | none => rw [ha] at hF; cases hF
  | some l =>
  rw [ha] at hF
  cases hF
  obtain ⟨rfl, hlen, hok⟩ := bU ha
  clear ha
  dsimp only at hQ hV
  refine Top.view (aX.start (n := 45) rfl (by simp)) (aS bA _ _ _ _ ?_)
  by_cases h1 : p.length ≤ 26
  rotate_left
  · have c1 : decide ((26 : Int) < (p.length : Int)) = true := by simp; omega
    ((try simp only [aO, SS, TF17Ref1, aM, setRange, aN, aC, aB, aF, aE, aD, aA, Nat.reduceLT, Nat.reduceEqDiff, Nat.reduceAdd, Nat.reduceMul, Nat.reduceSub, Nat.reduceLeDiff, Nat.reduceBEq, reduceCtorEq, c1]); (repeat' ((first | apply aJ | apply aI | apply aL | apply aK | apply aH | apply aG) <;> intro h <;> simp only [h, SS, TF17Ref1, aM, setRange, aN, aC, aB, aF, aE, aD, aA, Nat.reduceLT, Nat.reduceEqDiff, Nat.reduceAdd, Nat.reduceMul, Nat.reduceSub, Nat.reduceLeDiff, Nat.reduceBEq, reduceCtorEq, c1])))
    (refine hQ _ _ _ (aR (by first | exact .inl rfl | exact .inr rfl) ?_); simp only [SS, TF17Ref1, aM, setRange, aN, aC, aB, aF, aE, aD, aA, Nat.reduceLT, Nat.reduceEqDiff, Nat.reduceAdd, Nat.reduceMul, Nat.reduceSub, Nat.reduceLeDiff, Nat.reduceBEq, reduceCtorEq])
    simp [shortB, h1]
  have c1 : decide ((26 : Int) < (p.length : Int)) = false := by simp; omega
  by_cases h2 : e.length ≤ 20
  rotate_left
  · have c2 : decide ((20 : Int) < (e.length : Int)) = true := by simp; omega
    ((try simp only [aO, SS, TF17Ref1, aM, setRange, aN, aC, aB, aF, aE, aD, aA, Nat.reduceLT, Nat.reduceEqDiff, Nat.reduceAdd, Nat.reduceMul, Nat.reduceSub, Nat.reduceLeDiff, Nat.reduceBEq, reduceCtorEq, c1, c2]); (repeat' ((first | apply aJ | apply aI | apply aL | apply aK | apply aH | apply aG) <;> intro h <;> simp only [h, SS, TF17Ref1, aM, setRange, aN, aC, aB, aF, aE, aD, aA, Nat.reduceLT, Nat.reduceEqDiff, Nat.reduceAdd, Nat.reduceMul, Nat.reduceSub, Nat.reduceLeDiff, Nat.reduceBEq, reduceCtorEq, c1, c2])))
    (refine hQ _ _ _ (aR (by first | exact .inl rfl | exact .inr rfl) ?_); simp only [SS, TF17Ref1, aM, setRange, aN, aC, aB, aF, aE, aD, aA, Nat.reduceLT, Nat.reduceEqDiff, Nat.reduceAdd, Nat.reduceMul, Nat.reduceSub, Nat.reduceLeDiff, Nat.reduceBEq, reduceCtorEq])
    simp [shortB, h2]
  have c2 : decide ((20 : Int) < (e.length : Int)) = false := by simp; omega
  by_cases h3 : l.length ≤ 6
  rotate_left
  · have c3 : decide ((6 : Int) < (l.length : Int)) = true := by simp; omega
    ((try simp only [aO, SS, TF17Ref1, aM, setRange, aN, aC, aB, aF, aE, aD, aA, Nat.reduceLT, Nat.reduceEqDiff, Nat.reduceAdd, Nat.reduceMul, Nat.reduceSub, Nat.reduceLeDiff, Nat.reduceBEq, reduceCtorEq, c1, c2, aP, c3]); (repeat' ((first | apply aJ | apply aI | apply aL | apply aK | apply aH | apply aG) <;> intro h <;> simp only [h, SS, TF17Ref1, aM, setRange, aN, aC, aB, aF, aE, aD, aA, Nat.reduceLT, Nat.reduceEqDiff, Nat.reduceAdd, Nat.reduceMul, Nat.reduceSub, Nat.reduceLeDiff, Nat.reduceBEq, reduceCtorEq, c1, c2, aP, c3])))
    (refine hQ _ _ _ (aR (by first | exact .inl rfl | exact .inr rfl) ?_); simp only [SS, TF17Ref1, aM, setRange, aN, aC, aB, aF, aE, aD, aA, Nat.reduceLT, Nat.reduceEqDiff, Nat.reduceAdd, Nat.reduceMul, Nat.reduceSub, Nat.reduceLeDiff, Nat.reduceBEq, reduceCtorEq])
    simp [shortB, h3]
  have c3 : decide ((6 : Int) < (l.length : Int)) = false := by simp; omega
  have hE : shortB p e l = l.all shortMv := by simp [shortB, h1, h2, h3]
  rw [hE] at hQ
  clear hE
  ((try simp only [aO, SS, TF17Ref1, aM, setRange, aN, aC, aB, aF, aE, aD, aA, Nat.reduceLT, Nat.reduceEqDiff, Nat.reduceAdd, Nat.reduceMul, Nat.reduceSub, Nat.reduceLeDiff, Nat.reduceBEq, reduceCtorEq, c1, c2, aP, c3]); (repeat' ((first | apply aJ | apply aI | apply aL | apply aK | apply aH | apply aG) <;> intro h <;> simp only [h, SS, TF17Ref1, aM, setRange, aN, aC, aB, aF, aE, aD, aA, Nat.reduceLT, Nat.reduceEqDiff, Nat.reduceAdd, Nat.reduceMul, Nat.reduceSub, Nat.reduceLeDiff, Nat.reduceBEq, reduceCtorEq, c1, c2, aP, c3])))
  refine bH (Top.loop (I := fun s : { k : Nat // k ≤ l.length ∧ l.all shortMv = (l.drop k).all shortMv } => (mkF 45 [(3, .int .i64 (s.1 : Nat)), (1, .ptr 0 0)], mkH 1 [(0, some (.row [.str p, .str e, .bool late, .lsl (bF l)] 24 0 0 false))] 0 [])) (μ := fun s => l.length - s.1) ⟨0, by simp, rfl⟩ (aX.drop (by simp [look, below, aT]) (by simp [aU, bG, below, aT, aV]) (by simp [aU])) ?_)
  rintro ⟨k, hk, hf⟩
  refine aS bA _ _ _ _ ?_
  by_cases hlt : k < l.length
  rotate_left
  · have q1 : decide ((k : Int) < (l.length : Int)) = false := by simp; omega
    ((try simp only [aO, SS, TF17Ref1, aM, setRange, aN, aC, aB, aF, aE, aD, aA, Nat.reduceLT, Nat.reduceEqDiff, Nat.reduceAdd, Nat.reduceMul, Nat.reduceSub, Nat.reduceLeDiff, Nat.reduceBEq, reduceCtorEq, aP, q1]); (repeat' ((first | apply aJ | apply aI | apply aL | apply aK | apply aH | apply aG) <;> intro h <;> simp only [h, SS, TF17Ref1, aM, setRange, aN, aC, aB, aF, aE, aD, aA, Nat.reduceLT, Nat.reduceEqDiff, Nat.reduceAdd, Nat.reduceMul, Nat.reduceSub, Nat.reduceLeDiff, Nat.reduceBEq, reduceCtorEq, aP, q1])))
    (refine hQ _ _ _ (aR (by first | exact .inl rfl | exact .inr rfl) ?_); simp only [SS, TF17Ref1, aM, setRange, aN, aC, aB, aF, aE, aD, aA, Nat.reduceLT, Nat.reduceEqDiff, Nat.reduceAdd, Nat.reduceMul, Nat.reduceSub, Nat.reduceLeDiff, Nat.reduceBEq, reduceCtorEq])
    have : l.drop k = [] := List.drop_eq_nil_of_le (by omega)
    rw [hf, this]; rfl
  obtain ⟨m, hx⟩ : ∃ m, l[k]? = some m := ⟨l[k], List.getElem?_eq_getElem hlt⟩
  have hfd := all_drop (f := shortMv) hx
  have q1 : decide ((k : Int) < (l.length : Int)) = true := by simp; omega
  have q2 : IntKind.i64.wrap ((k : Int) + 1) = ((k + 1 : Nat) : Int) := by rw [bE] <;> omega
  by_cases h4 : m.h.length ≤ 20
  rotate_left
  · have q3 : decide ((20 : Int) < (m.h.length : Int)) = true := by simp; omega
    ((try simp only [aO, SS, TF17Ref1, aM, setRange, aN, aC, aB, aF, aE, aD, aA, Nat.reduceLT, Nat.reduceEqDiff, Nat.reduceAdd, Nat.reduceMul, Nat.reduceSub, Nat.reduceLeDiff, Nat.reduceBEq, reduceCtorEq, aP, q1, aW, bC, hx, q3]); (repeat' ((first | apply aJ | apply aI | apply aL | apply aK | apply aH | apply aG) <;> intro h <;> simp only [h, SS, TF17Ref1, aM, setRange, aN, aC, aB, aF, aE, aD, aA, Nat.reduceLT, Nat.reduceEqDiff, Nat.reduceAdd, Nat.reduceMul, Nat.reduceSub, Nat.reduceLeDiff, Nat.reduceBEq, reduceCtorEq, aP, q1, aW, bC, hx, q3])))
    (refine hQ _ _ _ (aR (by first | exact .inl rfl | exact .inr rfl) ?_); simp only [SS, TF17Ref1, aM, setRange, aN, aC, aB, aF, aE, aD, aA, Nat.reduceLT, Nat.reduceEqDiff, Nat.reduceAdd, Nat.reduceMul, Nat.reduceSub, Nat.reduceLeDiff, Nat.reduceBEq, reduceCtorEq])
    rw [hf, hfd]; simp [shortMv, h4]
  have q3 : decide ((20 : Int) < (m.h.length : Int)) = false := by simp; omega
  by_cases h5 : m.b.length ≤ 40
  rotate_left
  · have q4 : decide ((40 : Int) < (m.b.length : Int)) = true := by simp; omega
    ((try simp only [aO, SS, TF17Ref1, aM, setRange, aN, aC, aB, aF, aE, aD, aA, Nat.reduceLT, Nat.reduceEqDiff, Nat.reduceAdd, Nat.reduceMul, Nat.reduceSub, Nat.reduceLeDiff, Nat.reduceBEq, reduceCtorEq, aP, q1, aW, bC, hx, q3, aQ, q4]); (repeat' ((first | apply aJ | apply aI | apply aL | apply aK | apply aH | apply aG) <;> intro h <;> simp only [h, SS, TF17Ref1, aM, setRange, aN, aC, aB, aF, aE, aD, aA, Nat.reduceLT, Nat.reduceEqDiff, Nat.reduceAdd, Nat.reduceMul, Nat.reduceSub, Nat.reduceLeDiff, Nat.reduceBEq, reduceCtorEq, aP, q1, aW, bC, hx, q3, aQ, q4])))
    (refine hQ _ _ _ (aR (by first | exact .inl rfl | exact .inr rfl) ?_); simp only [SS, TF17Ref1, aM, setRange, aN, aC, aB, aF, aE, aD, aA, Nat.reduceLT, Nat.reduceEqDiff, Nat.reduceAdd, Nat.reduceMul, Nat.reduceSub, Nat.reduceLeDiff, Nat.reduceBEq, reduceCtorEq])
    rw [hf, hfd]; simp [shortMv, h5]
  have q4 : decide ((40 : Int) < (m.b.length : Int)) = false := by simp; omega
  ((try simp only [aO, SS, TF17Ref1, aM, setRange, aN, aC, aB, aF, aE, aD, aA, Nat.reduceLT, Nat.reduceEqDiff, Nat.reduceAdd, Nat.reduceMul, Nat.reduceSub, Nat.reduceLeDiff, Nat.reduceBEq, reduceCtorEq, aP, q1, q2, aW, bC, hx, q3, aQ, q4]); (repeat' ((first | apply aJ | apply aI | apply aL | apply aK | apply aH | apply aG) <;> intro h <;> simp only [h, SS, TF17Ref1, aM, setRange, aN, aC, aB, aF, aE, aD, aA, Nat.reduceLT, Nat.reduceEqDiff, Nat.reduceAdd, Nat.reduceMul, Nat.reduceSub, Nat.reduceLeDiff, Nat.reduceBEq, reduceCtorEq, aP, q1, q2, aW, bC, hx, q3, aQ, q4])))
  exact ⟨⟨k + 1, hlt, by rw [hf, hfd]; simp [shortMv, h4, h5]⟩, by simp; omega, (aX.drop (by simp [look, below, aT]) (by simp [aU, bG, below, aT, aV]) (by simp [aU]))⟩

/-! what is counted in a play -/
def bW (g : Mv → Int) : List Mv → Int
  | [] => 0
  | m :: l => g m + bW g l
theorem sumM_drop {g : Mv → Int} {l : List Mv} {k : Nat} {m : Mv} (h : l[k]? = some m) : bW g (l.drop k) = g m + bW g (l.drop (k + 1)) := by
  obtain ⟨hk, rfl⟩ := List.getElem?_eq_some_iff.1 h
  rw [List.drop_eq_getElem_cons hk]; rfl
def outM (m : Mv) : Int := if m.o = true then 1 else 0
def dN (m : Mv) : Int := if m.o = false ∧ m.t = 4 then 1 else 0
def dM (m : Mv) : Int := if m.o = false then m.t - m.f else 0
def F53 : List EVal → Option EVal
  | [.agg [.str _, .str _, .bool _, ms]] => (bR ms).bind fun l => if l.length ≤ 1000 then some (.int .i64 (bW outM l)) else none
  | _ => none
theorem fn53 : FnT 53 F53 := by
  refine Fn.intro mixed bA Tryz.func53 rfl [] (fun _ h => by cases h) ?_
  intro args v hF
  unfold F53 at hF
  split at hF
  rotate_left
  · cases hF
  intro Q hV
  have hQ := bL.of hV
  rename_i p e late ms
  cases ha : bR ms with
  | none => rw [ha] at hF; cases hF
  | some l =>
  rw [ha] at hF
  simp only [Option.bind_some] at hF
  split at hF
  rotate_left
  · cases hF
  rename_i hc
  cases hF
  obtain ⟨rfl, hlen, hok⟩ := bU ha
  clear ha
  refine Top.view (aX.start (n := 21) rfl (by simp)) (aS bA _ _ _ _ ?_)
  ((try simp only [aO, SS, TF53Ref1, aM, setRange, aN, aC, aB, aF, aE, aD, aA, Nat.reduceLT, Nat.reduceEqDiff, Nat.reduceAdd, Nat.reduceMul, Nat.reduceSub, Nat.reduceLeDiff, Nat.reduceBEq, reduceCtorEq]); (repeat' ((first | apply aJ | apply aI | apply aL | apply aK | apply aH | apply aG) <;> intro h <;> simp only [h, SS, TF53Ref1, aM, setRange, aN, aC, aB, aF, aE, aD, aA, Nat.reduceLT, Nat.reduceEqDiff, Nat.reduceAdd, Nat.reduceMul, Nat.reduceSub, Nat.reduceLeDiff, Nat.reduceBEq, reduceCtorEq])))
  refine bH (Top.loop (I := fun s : { p : Nat × Int // p.1 ≤ l.length ∧ -4 * (p.1 : Int) ≤ p.2 ∧ p.2 ≤ 4 * (p.1 : Int) ∧ bW outM l = p.2 + bW outM (l.drop p.1) } => (mkF 21 [(4, .int .i64 (s.1.1 : Nat)), (3, .int .i64 s.1.2), (1, .ptr 0 0)], mkH 1 [(0, some (.row [.str p, .str e, .bool late, .lsl (bF l)] 24 0 0 false))] 0 [])) (μ := fun s => l.length - s.1.1) ⟨(0, 0), by simp, by simp, by simp, by simp⟩ (aX.drop (by simp [look, below, aT]) (by simp [aU, bG, below, aT, aV]) (by simp [aU])) ?_)
  rintro ⟨⟨k, a⟩, hk, ha1, ha2, hf⟩
  simp only at hk ha1 ha2 hf
  refine aS bA _ _ _ _ ?_
  by_cases hlt : k < l.length
  rotate_left
  · have q1 : decide ((k : Int) < (l.length : Int)) = false := by simp; omega
    ((try simp only [aO, SS, TF53Ref1, aM, setRange, aN, aC, aB, aF, aE, aD, aA, Nat.reduceLT, Nat.reduceEqDiff, Nat.reduceAdd, Nat.reduceMul, Nat.reduceSub, Nat.reduceLeDiff, Nat.reduceBEq, reduceCtorEq, aP, q1]); (repeat' ((first | apply aJ | apply aI | apply aL | apply aK | apply aH | apply aG) <;> intro h <;> simp only [h, SS, TF53Ref1, aM, setRange, aN, aC, aB, aF, aE, aD, aA, Nat.reduceLT, Nat.reduceEqDiff, Nat.reduceAdd, Nat.reduceMul, Nat.reduceSub, Nat.reduceLeDiff, Nat.reduceBEq, reduceCtorEq, aP, q1])))
    (refine hQ _ _ _ (aR (by first | exact .inl rfl | exact .inr rfl) ?_); simp only [SS, TF53Ref1, aM, setRange, aN, aC, aB, aF, aE, aD, aA, Nat.reduceLT, Nat.reduceEqDiff, Nat.reduceAdd, Nat.reduceMul, Nat.reduceSub, Nat.reduceLeDiff, Nat.reduceBEq, reduceCtorEq])
    have : l.drop k = [] := List.drop_eq_nil_of_le (by omega)
    rw [hf, this]; simp [bW]
  obtain ⟨m, hx⟩ : ∃ m, l[k]? = some m := ⟨l[k], List.getElem?_eq_getElem hlt⟩
  have hfd := sumM_drop (g := outM) hx
  have q1 : decide ((k : Int) < (l.length : Int)) = true := by simp; omega
  have q2 : IntKind.i64.wrap ((k : Int) + 1) = ((k + 1 : Nat) : Int) := by rw [bE] <;> omega
  have hmu : l.length - (k + 1) < l.length - k := by omega
  have w1 : IntKind.i64.wrap (a + 1) = a + 1 := by rw [bE] <;> omega
  cases ho : m.o with
  | true =>
    have e1 : outM m = 1 := by simp [outM, ho]
    ((try simp only [aO, SS, TF53Ref1, aM, setRange, aN, aC, aB, aF, aE, aD, aA, Nat.reduceLT, Nat.reduceEqDiff, Nat.reduceAdd, Nat.reduceMul, Nat.reduceSub, Nat.reduceLeDiff, Nat.reduceBEq, reduceCtorEq, aP, q1, q2, aW, bC, hx, ho, w1]); (repeat' ((first | apply aJ | apply aI | apply aL | apply aK | apply aH | apply aG) <;> intro h <;> simp only [h, SS, TF53Ref1, aM, setRange, aN, aC, aB, aF, aE, aD, aA, Nat.reduceLT, Nat.reduceEqDiff, Nat.reduceAdd, Nat.reduceMul, Nat.reduceSub, Nat.reduceLeDiff, Nat.reduceBEq, reduceCtorEq, aP, q1, q2, aW, bC, hx, ho, w1])))
    exact ⟨⟨(k + 1, a + 1), hlt, by simp only; omega, by simp only; omega, by simp only; rw [hf, hfd, e1]; omega⟩, hmu, (aX.drop (by simp [look, below, aT]) (by simp [aU, bG, below, aT, aV]) (by simp [aU]))⟩
  | false =>
    have e1 : outM m = 0 := by simp [outM, ho]
    ((try simp only [aO, SS, TF53Ref1, aM, setRange, aN, aC, aB, aF, aE, aD, aA, Nat.reduceLT, Nat.reduceEqDiff, Nat.reduceAdd, Nat.reduceMul, Nat.reduceSub, Nat.reduceLeDiff, Nat.reduceBEq, reduceCtorEq, aP, q1, q2, aW, bC, hx, ho]); (repeat' ((first | apply aJ | apply aI | apply aL | apply aK | apply aH | apply aG) <;> intro h <;> simp only [h, SS, TF53Ref1, aM, setRange, aN, aC, aB, aF, aE, aD, aA, Nat.reduceLT, Nat.reduceEqDiff, Nat.reduceAdd, Nat.reduceMul, Nat.reduceSub, Nat.reduceLeDiff, Nat.reduceBEq, reduceCtorEq, aP, q1, q2, aW, bC, hx, ho])))
    exact ⟨⟨(k + 1, a), hlt, by simp only; omega, by simp only; omega, by simp only; rw [hf, hfd, e1]; omega⟩, hmu, (aX.drop (by simp [look, below, aT]) (by simp [aU, bG, below, aT, aV]) (by simp [aU]))⟩

def F54 : List EVal → Option EVal
  | [.agg [.str _, .str _, .bool _, ms]] => (bR ms).bind fun l => if l.length ≤ 1000 then some (.int .i64 (bW dN l)) else none
  | _ => none
theorem fn54 : FnT 54 F54 := by
  refine Fn.intro mixed bA Tryz.func54 rfl [] (fun _ h => by cases h) ?_
  intro args v hF
  unfold F54 at hF
  split at hF
  rotate_left
  · cases hF
  intro Q hV
  have hQ := bL.of hV
  rename_i p e late ms
  cases ha : bR ms with
  | none => rw [ha] at hF; cases hF
  | some l =>
  rw [ha] at hF
  simp only [Option.bind_some] at hF
  split at hF
  rotate_left
  · cases hF
  rename_i hc
  cases hF
  obtain ⟨rfl, hlen, hok⟩ := bU ha
  clear ha
  refine Top.view (aX.start (n := 31) rfl (by simp)) (aS bA _ _ _ _ ?_)
  ((try simp only [aO, SS, TF54Ref1, aM, setRange, aN, aC, aB, aF, aE, aD, aA, Nat.reduceLT, Nat.reduceEqDiff, Nat.reduceAdd, Nat.reduceMul, Nat.reduceSub, Nat.reduceLeDiff, Nat.reduceBEq, reduceCtorEq]); (repeat' ((first | apply aJ | apply aI | apply aL | apply aK | apply aH | apply aG) <;> intro h <;> simp only [h, SS, TF54Ref1, aM, setRange, aN, aC, aB, aF, aE, aD, aA, Nat.reduceLT, Nat.reduceEqDiff, Nat.reduceAdd, Nat.reduceMul, Nat.reduceSub, Nat.reduceLeDiff, Nat.reduceBEq, reduceCtorEq])))
  refine bH (Top.loop (I := fun s : { p : Nat × Int // p.1 ≤ l.length ∧ -4 * (p.1 : Int) ≤ p.2 ∧ p.2 ≤ 4 * (p.1 : Int) ∧ bW dN l = p.2 + bW dN (l.drop p.1) } => (mkF 31 [(4, .int .i64 (s.1.1 : Nat)), (3, .int .i64 s.1.2), (1, .ptr 0 0)], mkH 1 [(0, some (.row [.str p, .str e, .bool late, .lsl (bF l)] 24 0 0 false))] 0 [])) (μ := fun s => l.length - s.1.1) ⟨(0, 0), by simp, by simp, by simp, by simp⟩ (aX.drop (by simp [look, below, aT]) (by simp [aU, bG, below, aT, aV]) (by simp [aU])) ?_)
  rintro ⟨⟨k, a⟩, hk, ha1, ha2, hf⟩
  simp only at hk ha1 ha2 hf
  refine aS bA _ _ _ _ ?_
  by_cases hlt : k < l.length
  rotate_left
  · have q1 : decide ((k : Int) < (l.length : Int)) = false := by simp; omega
    ((try simp only [aO, SS, TF54Ref1, aM, setRange, aN, aC, aB, aF, aE, aD, aA, Nat.reduceLT, Nat.reduceEqDiff, Nat.reduceAdd, Nat.reduceMul, Nat.reduceSub, Nat.reduceLeDiff, Nat.reduceBEq, reduceCtorEq, aP, q1]); (repeat' ((first | apply aJ | apply aI | apply aL | apply aK | apply aH | apply aG) <;> intro h <;> simp only [h, SS, TF54Ref1, aM, setRange, aN, aC, aB, aF, aE, aD, aA, Nat.reduceLT, Nat.reduceEqDiff, Nat.reduceAdd, Nat.reduceMul, Nat.reduceSub, Nat.reduceLeDiff, Nat.reduceBEq, reduceCtorEq, aP, q1])))
    (refine hQ _ _ _ (aR (by first | exact .inl rfl | exact .inr rfl) ?_); simp only [SS, TF54Ref1, aM, setRange, aN, aC, aB, aF, aE, aD, aA, Nat.reduceLT, Nat.reduceEqDiff, Nat.reduceAdd, Nat.reduceMul, Nat.reduceSub, Nat.reduceLeDiff, Nat.reduceBEq, reduceCtorEq])
    have : l.drop k = [] := List.drop_eq_nil_of_le (by omega)
    rw [hf, this]; simp [bW]
  obtain ⟨m, hx⟩ : ∃ m, l[k]? = some m := ⟨l[k], List.getElem?_eq_getElem hlt⟩
  have hfd := sumM_drop (g := dN) hx
  have q1 : decide ((k : Int) < (l.length : Int)) = true := by simp; omega
  have q2 : IntKind.i64.wrap ((k : Int) + 1) = ((k + 1 : Nat) : Int) := by rw [bE] <;> omega
  have hmu : l.length - (k + 1) < l.length - k := by omega
  have w1 : IntKind.i64.wrap (a + 1) = a + 1 := by rw [bE] <;> omega
  cases ho : m.o with
  | true =>
    have e1 : dN m = 0 := by simp [dN, ho]
    ((try simp only [aO, SS, TF54Ref1, aM, setRange, aN, aC, aB, aF, aE, aD, aA, Nat.reduceLT, Nat.reduceEqDiff, Nat.reduceAdd, Nat.reduceMul, Nat.reduceSub, Nat.reduceLeDiff, Nat.reduceBEq, reduceCtorEq, aP, q1, q2, aW, bC, hx, ho]); (repeat' ((first | apply aJ | apply aI | apply aL | apply aK | apply aH | apply aG) <;> intro h <;> simp only [h, SS, TF54Ref1, aM, setRange, aN, aC, aB, aF, aE, aD, aA, Nat.reduceLT, Nat.reduceEqDiff, Nat.reduceAdd, Nat.reduceMul, Nat.reduceSub, Nat.reduceLeDiff, Nat.reduceBEq, reduceCtorEq, aP, q1, q2, aW, bC, hx, ho])))
    exact ⟨⟨(k + 1, a), hlt, by simp only; omega, by simp only; omega, by simp only; rw [hf, hfd, e1]; omega⟩, hmu, (aX.drop (by simp [look, below, aT]) (by simp [aU, bG, below, aT, aV]) (by simp [aU]))⟩
  | false =>
    cases ht : (m.t == 4) with
    | true =>
      have e1 : dN m = 1 := by simp [dN, ho, (show m.t = 4 by simpa using ht)]
      ((try simp only [aO, SS, TF54Ref1, aM, setRange, aN, aC, aB, aF, aE, aD, aA, Nat.reduceLT, Nat.reduceEqDiff, Nat.reduceAdd, Nat.reduceMul, Nat.reduceSub, Nat.reduceLeDiff, Nat.reduceBEq, reduceCtorEq, aP, q1, q2, aW, bC, hx, ho, ht, w1]); (repeat' ((first | apply aJ | apply aI | apply aL | apply aK | apply aH | apply aG) <;> intro h <;> simp only [h, SS, TF54Ref1, aM, setRange, aN, aC, aB, aF, aE, aD, aA, Nat.reduceLT, Nat.reduceEqDiff, Nat.reduceAdd, Nat.reduceMul, Nat.reduceSub, Nat.reduceLeDiff, Nat.reduceBEq, reduceCtorEq, aP, q1, q2, aW, bC, hx, ho, ht, w1])))
      exact ⟨⟨(k + 1, a + 1), hlt, by simp only; omega, by simp only; omega, by simp only; rw [hf, hfd, e1]; omega⟩, hmu, (aX.drop (by simp [look, below, aT]) (by simp [aU, bG, below, aT, aV]) (by simp [aU]))⟩
    | false =>
      have e1 : dN m = 0 := by simp [dN, ho, (show ¬ m.t = 4 by simpa using ht)]
      ((try simp only [aO, SS, TF54Ref1, aM, setRange, aN, aC, aB, aF, aE, aD, aA, Nat.reduceLT, Nat.reduceEqDiff, Nat.reduceAdd, Nat.reduceMul, Nat.reduceSub, Nat.reduceLeDiff, Nat.reduceBEq, reduceCtorEq, aP, q1, q2, aW, bC, hx, ho, ht]); (repeat' ((first | apply aJ | apply aI | apply aL | apply aK | apply aH | apply aG) <;> intro h <;> simp only [h, SS, TF54Ref1, aM, setRange, aN, aC, aB, aF, aE, aD, aA, Nat.reduceLT, Nat.reduceEqDiff, Nat.reduceAdd, Nat.reduceMul, Nat.reduceSub, Nat.reduceLeDiff, Nat.reduceBEq, reduceCtorEq, aP, q1, q2, aW, bC, hx, ho, ht])))
      exact ⟨⟨(k + 1, a), hlt, by simp only; omega, by simp only; omega, by simp only; rw [hf, hfd, e1]; omega⟩, hmu, (aX.drop (by simp [look, below, aT]) (by simp [aU, bG, below, aT, aV]) (by simp [aU]))⟩

/-- the bases of a move are those of one -/
def baseMv (m : Mv) : Bool := decide (0 ≤ m.f) && decide (m.f ≤ 3) && decide (1 ≤ m.t) && decide (m.t ≤ 4)
def F55 : List EVal → Option EVal
  | [.agg [.str _, .str _, .bool _, ms]] => (bR ms).bind fun l => if l.length ≤ 1000 ∧ ∀ m ∈ l, baseMv m = true then some (.int .i64 (bW dM l)) else none
  | _ => none
theorem fn55 : FnT 55 F55 := by
  refine Fn.intro mixed bA Tryz.func55 rfl [] (fun _ h => by cases h) ?_
  intro args v hF
  unfold F55 at hF
  split at hF
  rotate_left
  · cases hF
  intro Q hV
  have hQ := bL.of hV
  rename_i p e late ms
  cases ha : bR ms with
  | none => rw [ha] at hF; cases hF
  | some l =>
  rw [ha] at hF
  simp only [Option.bind_some] at hF
  split at hF
  rotate_left
  · cases hF
  rename_i hc
  cases hF
  obtain ⟨rfl, hlen, hok⟩ := bU ha
  clear ha
  refine Top.view (aX.start (n := 35) rfl (by simp)) (aS bA _ _ _ _ ?_)
  ((try simp only [aO, SS, TF55Ref1, aM, setRange, aN, aC, aB, aF, aE, aD, aA, Nat.reduceLT, Nat.reduceEqDiff, Nat.reduceAdd, Nat.reduceMul, Nat.reduceSub, Nat.reduceLeDiff, Nat.reduceBEq, reduceCtorEq]); (repeat' ((first | apply aJ | apply aI | apply aL | apply aK | apply aH | apply aG) <;> intro h <;> simp only [h, SS, TF55Ref1, aM, setRange, aN, aC, aB, aF, aE, aD, aA, Nat.reduceLT, Nat.reduceEqDiff, Nat.reduceAdd, Nat.reduceMul, Nat.reduceSub, Nat.reduceLeDiff, Nat.reduceBEq, reduceCtorEq])))
  refine bH (Top.loop (I := fun s : { p : Nat × Int // p.1 ≤ l.length ∧ -4 * (p.1 : Int) ≤ p.2 ∧ p.2 ≤ 4 * (p.1 : Int) ∧ bW dM l = p.2 + bW dM (l.drop p.1) } => (mkF 35 [(4, .int .i64 (s.1.1 : Nat)), (3, .int .i64 s.1.2), (1, .ptr 0 0)], mkH 1 [(0, some (.row [.str p, .str e, .bool late, .lsl (bF l)] 24 0 0 false))] 0 [])) (μ := fun s => l.length - s.1.1) ⟨(0, 0), by simp, by simp, by simp, by simp⟩ (aX.drop (by simp [look, below, aT]) (by simp [aU, bG, below, aT, aV]) (by simp [aU])) ?_)
  rintro ⟨⟨k, a⟩, hk, ha1, ha2, hf⟩
  simp only at hk ha1 ha2 hf
  refine aS bA _ _ _ _ ?_
  by_cases hlt : k < l.length
  rotate_left
  · have q1 : decide ((k : Int) < (l.length : Int)) = false := by simp; omega
    ((try simp only [aO, SS, TF55Ref1, aM, setRange, aN, aC, aB, aF, aE, aD, aA, Nat.reduceLT, Nat.reduceEqDiff, Nat.reduceAdd, Nat.reduceMul, Nat.reduceSub, Nat.reduceLeDiff, Nat.reduceBEq, reduceCtorEq, aP, q1]); (repeat' ((first | apply aJ | apply aI | apply aL | apply aK | apply aH | apply aG) <;> intro h <;> simp only [h, SS, TF55Ref1, aM, setRange, aN, aC, aB, aF, aE, aD, aA, Nat.reduceLT, Nat.reduceEqDiff, Nat.reduceAdd, Nat.reduceMul, Nat.reduceSub, Nat.reduceLeDiff, Nat.reduceBEq, reduceCtorEq, aP, q1])))
    (refine hQ _ _ _ (aR (by first | exact .inl rfl | exact .inr rfl) ?_); simp only [SS, TF55Ref1, aM, setRange, aN, aC, aB, aF, aE, aD, aA, Nat.reduceLT, Nat.reduceEqDiff, Nat.reduceAdd, Nat.reduceMul, Nat.reduceSub, Nat.reduceLeDiff, Nat.reduceBEq, reduceCtorEq])
    have : l.drop k = [] := List.drop_eq_nil_of_le (by omega)
    rw [hf, this]; simp [bW]
  obtain ⟨m, hx⟩ : ∃ m, l[k]? = some m := ⟨l[k], List.getElem?_eq_getElem hlt⟩
  have hfd := sumM_drop (g := dM) hx
  have q1 : decide ((k : Int) < (l.length : Int)) = true := by simp; omega
  have q2 : IntKind.i64.wrap ((k : Int) + 1) = ((k + 1 : Nat) : Int) := by rw [bE] <;> omega
  have hmu : l.length - (k + 1) < l.length - k := by omega
  obtain ⟨hc1, hc2⟩ := hc
  have hm := hc2 m (List.mem_of_getElem? hx)
  unfold baseMv at hm
  simp only [Bool.and_eq_true, decide_eq_true_eq] at hm
  cases ho : m.o with
  | true =>
    have e1 : dM m = 0 := by simp [dM, ho]
    ((try simp only [aO, SS, TF55Ref1, aM, setRange, aN, aC, aB, aF, aE, aD, aA, Nat.reduceLT, Nat.reduceEqDiff, Nat.reduceAdd, Nat.reduceMul, Nat.reduceSub, Nat.reduceLeDiff, Nat.reduceBEq, reduceCtorEq, aP, q1, q2, aW, bC, hx, ho]); (repeat' ((first | apply aJ | apply aI | apply aL | apply aK | apply aH | apply aG) <;> intro h <;> simp only [h, SS, TF55Ref1, aM, setRange, aN, aC, aB, aF, aE, aD, aA, Nat.reduceLT, Nat.reduceEqDiff, Nat.reduceAdd, Nat.reduceMul, Nat.reduceSub, Nat.reduceLeDiff, Nat.reduceBEq, reduceCtorEq, aP, q1, q2, aW, bC, hx, ho])))
    exact ⟨⟨(k + 1, a), hlt, by simp only; omega, by simp only; omega, by simp only; rw [hf, hfd, e1]; omega⟩, hmu, (aX.drop (by simp [look, below, aT]) (by simp [aU, bG, below, aT, aV]) (by simp [aU]))⟩
  | false =>
    have e1 : dM m = m.t - m.f := by simp [dM, ho]
    have w1 : IntKind.i64.wrap (m.t - m.f) = m.t - m.f := by rw [bE] <;> omega
    have w2 : IntKind.i64.wrap (a + (m.t - m.f)) = a + (m.t - m.f) := by rw [bE] <;> omega
    ((try simp only [aO, SS, TF55Ref1, aM, setRange, aN, aC, aB, aF, aE, aD, aA, Nat.reduceLT, Nat.reduceEqDiff, Nat.reduceAdd, Nat.reduceMul, Nat.reduceSub, Nat.reduceLeDiff, Nat.reduceBEq, reduceCtorEq, aP, q1, q2, aW, bC, hx, ho]); (repeat' ((first | apply aJ | apply aI | apply aL | apply aK | apply aH | apply aG) <;> intro h <;> simp only [h, SS, TF55Ref1, aM, setRange, aN, aC, aB, aF, aE, aD, aA, Nat.reduceLT, Nat.reduceEqDiff, Nat.reduceAdd, Nat.reduceMul, Nat.reduceSub, Nat.reduceLeDiff, Nat.reduceBEq, reduceCtorEq, aP, q1, q2, aW, bC, hx, ho])))
    refine wp_of_draw (Top.draw mixed bA (by kernel_rfl) ?_)
    ((try simp only [aO, SS, TF55Ref1, aM, setRange, aN, aC, aB, aF, aE, aD, aA, Nat.reduceLT, Nat.reduceEqDiff, Nat.reduceAdd, Nat.reduceMul, Nat.reduceSub, Nat.reduceLeDiff, Nat.reduceBEq, reduceCtorEq, aP, q1, q2, aW, bC, hx, w1, w2]); (repeat' ((first | apply aJ | apply aI | apply aL | apply aK | apply aH | apply aG) <;> intro h <;> simp only [h, SS, TF55Ref1, aM, setRange, aN, aC, aB, aF, aE, aD, aA, Nat.reduceLT, Nat.reduceEqDiff, Nat.reduceAdd, Nat.reduceMul, Nat.reduceSub, Nat.reduceLeDiff, Nat.reduceBEq, reduceCtorEq, aP, q1, q2, aW, bC, hx, w1, w2])))
    refine ⟨by kernel_rfl, ?_⟩
    ((try simp only [aO, SS, TF55Ref1, aM, setRange, aN, aC, aB, aF, aE, aD, aA, Nat.reduceLT, Nat.reduceEqDiff, Nat.reduceAdd, Nat.reduceMul, Nat.reduceSub, Nat.reduceLeDiff, Nat.reduceBEq, reduceCtorEq, q2]); (repeat' ((first | apply aJ | apply aI | apply aL | apply aK | apply aH | apply aG) <;> intro h <;> simp only [h, SS, TF55Ref1, aM, setRange, aN, aC, aB, aF, aE, aD, aA, Nat.reduceLT, Nat.reduceEqDiff, Nat.reduceAdd, Nat.reduceMul, Nat.reduceSub, Nat.reduceLeDiff, Nat.reduceBEq, reduceCtorEq, q2])))
    exact ⟨⟨(k + 1, a + (m.t - m.f)), hlt, by simp only; omega, by simp only; omega, by simp only; rw [hf, hfd, e1]; omega⟩, hmu, (aX.drop (by simp [look, below, aT]) (by simp [aU, bG, below, aT, aV]) (by simp [aU]))⟩


def numB (a e bad want : Int) : Bool := (e == bad) && ((!(bad == 0) && (a == 0)) || ((bad == 0) && (a == want)))
def F56 : List EVal → Option EVal
  | [.int .i64 a, .int .i64 e, .int .i64 bad, .int .i64 want] => some (.bool (numB a e bad want))
  | _ => none
theorem e56 {a e bad want : Int} : F56 [.int .i64 a, .int .i64 e, .int .i64 bad, .int .i64 want] = some (.bool (numB a e bad want)) := rfl
theorem fn56 : FnT 56 F56 := by
  refine Fn.intro mixed bA Tryz.func56 rfl [] (fun _ h => by cases h) ?_
  intro args v hF
  unfold F56 at hF
  split at hF
  rotate_left
  · cases hF
  intro Q hV
  have hQ := bL.of hV
  rename_i a e bad want
  cases hF
  refine Top.view (aX.start (n := 29) rfl (by simp)) (aS bA _ _ _ _ ?_)
  cases h1 : (e == bad) with
  | false =>
    ((try simp only [aO, SS, TF56Ref1, aM, setRange, aN, aC, aB, aF, aE, aD, aA, Nat.reduceLT, Nat.reduceEqDiff, Nat.reduceAdd, Nat.reduceMul, Nat.reduceSub, Nat.reduceLeDiff, Nat.reduceBEq, reduceCtorEq, h1]); (repeat' ((first | apply aJ | apply aI | apply aL | apply aK | apply aH | apply aG) <;> intro h <;> simp only [h, SS, TF56Ref1, aM, setRange, aN, aC, aB, aF, aE, aD, aA, Nat.reduceLT, Nat.reduceEqDiff, Nat.reduceAdd, Nat.reduceMul, Nat.reduceSub, Nat.reduceLeDiff, Nat.reduceBEq, reduceCtorEq, h1])))
    (refine hQ _ _ _ (aR (by first | exact .inl rfl | exact .inr rfl) ?_); simp only [SS, TF56Ref1, aM, setRange, aN, aC, aB, aF, aE, aD, aA, Nat.reduceLT, Nat.reduceEqDiff, Nat.reduceAdd, Nat.reduceMul, Nat.reduceSub, Nat.reduceLeDiff, Nat.reduceBEq, reduceCtorEq])
    simp [numB, h1]
  | true =>
  cases h2 : (bad == 0) with
  | true =>
    ((try simp only [aO, SS, TF56Ref1, aM, setRange, aN, aC, aB, aF, aE, aD, aA, Nat.reduceLT, Nat.reduceEqDiff, Nat.reduceAdd, Nat.reduceMul, Nat.reduceSub, Nat.reduceLeDiff, Nat.reduceBEq, reduceCtorEq, h1, h2]); (repeat' ((first | apply aJ | apply aI | apply aL | apply aK | apply aH | apply aG) <;> intro h <;> simp only [h, SS, TF56Ref1, aM, setRange, aN, aC, aB, aF, aE, aD, aA, Nat.reduceLT, Nat.reduceEqDiff, Nat.reduceAdd, Nat.reduceMul, Nat.reduceSub, Nat.reduceLeDiff, Nat.reduceBEq, reduceCtorEq, h1, h2])))
    (refine hQ _ _ _ (aR (by first | exact .inl rfl | exact .inr rfl) ?_); simp only [SS, TF56Ref1, aM, setRange, aN, aC, aB, aF, aE, aD, aA, Nat.reduceLT, Nat.reduceEqDiff, Nat.reduceAdd, Nat.reduceMul, Nat.reduceSub, Nat.reduceLeDiff, Nat.reduceBEq, reduceCtorEq])
    simp [numB, h1, h2]
  | false =>
    cases h3 : (a == 0) with
    | true =>
      ((try simp only [aO, SS, TF56Ref1, aM, setRange, aN, aC, aB, aF, aE, aD, aA, Nat.reduceLT, Nat.reduceEqDiff, Nat.reduceAdd, Nat.reduceMul, Nat.reduceSub, Nat.reduceLeDiff, Nat.reduceBEq, reduceCtorEq, h1, h2, h3]); (repeat' ((first | apply aJ | apply aI | apply aL | apply aK | apply aH | apply aG) <;> intro h <;> simp only [h, SS, TF56Ref1, aM, setRange, aN, aC, aB, aF, aE, aD, aA, Nat.reduceLT, Nat.reduceEqDiff, Nat.reduceAdd, Nat.reduceMul, Nat.reduceSub, Nat.reduceLeDiff, Nat.reduceBEq, reduceCtorEq, h1, h2, h3])))
      (refine hQ _ _ _ (aR (by first | exact .inl rfl | exact .inr rfl) ?_); simp only [SS, TF56Ref1, aM, setRange, aN, aC, aB, aF, aE, aD, aA, Nat.reduceLT, Nat.reduceEqDiff, Nat.reduceAdd, Nat.reduceMul, Nat.reduceSub, Nat.reduceLeDiff, Nat.reduceBEq, reduceCtorEq])
      simp [numB, h1, h2, h3]
    | false =>
      ((try simp only [aO, SS, TF56Ref1, aM, setRange, aN, aC, aB, aF, aE, aD, aA, Nat.reduceLT, Nat.reduceEqDiff, Nat.reduceAdd, Nat.reduceMul, Nat.reduceSub, Nat.reduceLeDiff, Nat.reduceBEq, reduceCtorEq, h1, h2, h3]); (repeat' ((first | apply aJ | apply aI | apply aL | apply aK | apply aH | apply aG) <;> intro h <;> simp only [h, SS, TF56Ref1, aM, setRange, aN, aC, aB, aF, aE, aD, aA, Nat.reduceLT, Nat.reduceEqDiff, Nat.reduceAdd, Nat.reduceMul, Nat.reduceSub, Nat.reduceLeDiff, Nat.reduceBEq, reduceCtorEq, h1, h2, h3])))
      (refine hQ _ _ _ (aR (by first | exact .inl rfl | exact .inr rfl) ?_); simp only [SS, TF56Ref1, aM, setRange, aN, aC, aB, aF, aE, aD, aA, Nat.reduceLT, Nat.reduceEqDiff, Nat.reduceAdd, Nat.reduceMul, Nat.reduceSub, Nat.reduceLeDiff, Nat.reduceBEq, reduceCtorEq])
      simp [numB, h1, h2, h3]
end Go.Ev
