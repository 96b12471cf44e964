import Derived.Test.YtdhnjbgggkdiiaaGreatDoorEvC
import Derived.Test.YtdhnjbgggkdiiaaGreatDoorForm5
set_option linter.unusedSimpArgs false
set_option linter.unusedVariables false
namespace Go.Ev
open Go.RowKit Go.Proofs
set_option linter.defProp false
def TF18Form6 := And.intro (And.intro (And.intro (And.intro (And.intro (And.intro (@Tryz.underlying3) (@sz3)) (And.intro (@cE) (@I3s))) (And.intro (And.intro (@I3b) (@cA)) (And.intro (@cF) (@Tryz.underlying4)))) (And.intro (And.intro (And.intro (@sz4) (@eA)) (And.intro (@I4s) (@I4b))) (And.intro (And.intro (@dW) (@eB)) (And.intro (@Tryz.underlying9) (And.intro (@sz9) (@cB)))))) (And.intro (And.intro (And.intro (And.intro (@I9s) (@I9b)) (And.intro (@bY) (@cC))) (And.intro (And.intro (@Tryz.underlying22) (@sz22)) (And.intro (@info22) (And.intro (@I22s) (@I22b))))) (And.intro (And.intro (And.intro (@zero22) (@grow22)) (And.intro (@Tryz.underlying24) (@sz24))) (And.intro (And.intro (@fok24) (@info24)) (And.intro (@I24s) (And.intro (@I24b) (@zero24))))))) (And.intro (And.intro (And.intro (And.intro (And.intro (@grow24) (@Tryz.underlying25)) (And.intro (@eO) (@dE))) (And.intro (And.intro (@eQ) (@eR)) (And.intro (@dC) (@dF)))) (And.intro (And.intro (And.intro (@Tryz.underlying27) (@eS)) (And.intro (@eH) (@dL))) (And.intro (And.intro (@eU) (@eV)) (And.intro (@dH) (And.intro (@dM) (@Tryz.underlying30)))))) (And.intro (And.intro (And.intro (And.intro (@sz30) (@info30)) (And.intro (@I30s) (@I30b))) (And.intro (And.intro (@zero30) (@grow30)) (And.intro (@Tryz.underlying158) (And.intro (@sz158) (@info158))))) (And.intro (And.intro (And.intro (@I158s) (@I158b)) (And.intro (@zero158) (@grow158))) (And.intro (And.intro (@call79) (@call80)) (And.intro (@call81) (And.intro (@call82) (@Tryz.results18)))))))
def bU := And.intro (And.intro (And.intro (And.intro (And.intro (@Tryz.underlying3) (And.intro (@sz3) (@cE))) (And.intro (@I3s) (And.intro (@I3b) (@cA)))) (And.intro (And.intro (@cF) (And.intro (@Tryz.underlying4) (@sz4))) (And.intro (And.intro (@eA) (@I4s)) (And.intro (@I4b) (@dW))))) (And.intro (And.intro (And.intro (@eB) (And.intro (@Tryz.underlying9) (@sz9))) (And.intro (And.intro (@cB) (@I9s)) (And.intro (@I9b) (@bY)))) (And.intro (And.intro (@cC) (And.intro (@Tryz.underlying22) (@sz22))) (And.intro (And.intro (@info22) (@I22s)) (And.intro (@I22b) (@zero22)))))) (And.intro (And.intro (And.intro (And.intro (@grow22) (And.intro (@Tryz.underlying24) (@sz24))) (And.intro (And.intro (@fok24) (@info24)) (And.intro (@I24s) (@I24b)))) (And.intro (And.intro (@zero24) (And.intro (@grow24) (@Tryz.underlying25))) (And.intro (And.intro (@eO) (@dE)) (And.intro (@eQ) (@eR))))) (And.intro (And.intro (And.intro (@dC) (And.intro (@dF) (@Tryz.underlying27))) (And.intro (And.intro (@eS) (@eH)) (And.intro (@dL) (@eU)))) (And.intro (And.intro (@eV) (And.intro (@dH) (@dM))) (And.intro (And.intro (@call23) (@call84)) (And.intro (@call85) (@Tryz.results20))))))
def cG := And.intro (And.intro (And.intro (And.intro (And.intro (@Tryz.underlying3) (And.intro (@sz3) (@cE))) (And.intro (@I3s) (And.intro (@I3b) (@cA)))) (And.intro (And.intro (@cF) (And.intro (@Tryz.underlying4) (@sz4))) (And.intro (And.intro (@eA) (@I4s)) (And.intro (@I4b) (@dW))))) (And.intro (And.intro (And.intro (@eB) (And.intro (@Tryz.underlying9) (@sz9))) (And.intro (@cB) (And.intro (@I9s) (@I9b)))) (And.intro (And.intro (@bY) (And.intro (@cC) (@Tryz.underlying22))) (And.intro (And.intro (@sz22) (@info22)) (And.intro (@I22s) (@I22b)))))) (And.intro (And.intro (And.intro (And.intro (@zero22) (And.intro (@grow22) (@Tryz.underlying25))) (And.intro (@eO) (And.intro (@dE) (@eQ)))) (And.intro (And.intro (@eR) (And.intro (@dC) (@dF))) (And.intro (And.intro (@Tryz.underlying27) (@eS)) (And.intro (@eH) (@dL))))) (And.intro (And.intro (And.intro (@eU) (And.intro (@eV) (@dH))) (And.intro (@dM) (And.intro (@Tryz.underlying30) (@sz30)))) (And.intro (And.intro (@info30) (And.intro (@I30s) (@I30b))) (And.intro (And.intro (@zero30) (@grow30)) (And.intro (@call21) (@Tryz.results82))))))
set_option maxRecDepth 20000
set_option maxHeartbeats 4000000

/-! the moves of a play -/
def mvE (m : Mv) : Int := moveE m.f m.t m.o m.h m.b
def mvGo : Option Int → List Mv → Int
  | _, [] => 0
  | p, m :: l => if mvE m ≠ 0 then mvE m else if (p.any fun q => decide (q ≤ m.f)) = true then 11 else mvGo (some m.f) l
def movesE (l : List Mv) : Int := if 4 < l.length then 5 else mvGo none l
def fromAt (l : List Mv) (k : Nat) : Option Int := if k = 0 then none else (l[k - 1]?).map (·.f)
theorem fromAt_succ (l : List Mv) (k : Nat) : fromAt l (k + 1) = (l[k]?).map (·.f) := by simp [fromAt]
theorem mvGo_drop {l : List Mv} {k : Nat} {m : Mv} (h : l[k]? = some m) : mvGo (fromAt l k) (l.drop k) = if mvE m ≠ 0 then mvE m else if ((fromAt l k).any fun q => decide (q ≤ m.f)) = true then 11 else mvGo (fromAt l (k + 1)) (l.drop (k + 1)) := by
  rw [fromAt_succ, h]
  obtain ⟨hk, rfl⟩ := List.getElem?_eq_some_iff.1 h
  rw [List.drop_eq_getElem_cons hk]; rfl
theorem e21 {m : Mv} (hm : eP m) : F21 [.agg [.int .i64 m.f, .int .i64 m.t, .bool m.o, .str m.h, .lsl (cM m.b)]] = some (.int .i64 (mvE m)) := by
  simp only [F21, dInts_e hm, Option.map_some]; rfl
theorem e23 {m : Mv} (hm : eP m) : F23 [.agg [.int .i64 m.f, .int .i64 m.t, .bool m.o, .str m.h, .lsl (cM m.b)]] = some (.int .i64 (mvE m)) := by
  simp only [F23, dInts_e hm, Option.map_some]; rfl
def F82 : List EVal → Option EVal
  | [a] => (dS a).map fun l => .int .i64 (movesE l)
  | _ => none
theorem fn82 : FnT 82 F82 := by
  refine Fn.intro mixed aV Tryz.func82 rfl [(21, F21)] (by simp only [List.forall_mem_cons]; exact ⟨fn21, fun _ h => by cases h⟩) ?_
  intro args v hF
  unfold F82 at hF
  split at hF
  rotate_left
  · cases hF
  intro Q hV
  have hQ := bM.of hV
  rename_i a
  cases ha : dS a with
  | none => rw [ha] at hF; cases hF
  | some l =>
  rw [ha] at hF
  cases hF
  obtain ⟨rfl, hlen, hok⟩ := dMoves_inv ha
  clear ha
  dsimp only at hQ hV
  refine Top.view (aT.start (n := 35) rfl (by simp)) (aR aV _ _ _ _ ?_)
  by_cases h4 : 4 < l.length
  · have c1 : decide ((4 : Int) < (l.length : Int)) = true := by simp; omega
    ((try simp only [aO, SS, cG, aM, setRange, aN, aC, aB, aF, aE, aD, aA, Nat.reduceLT, Nat.reduceEqDiff, Nat.reduceAdd, Nat.reduceMul, Nat.reduceSub, Nat.reduceLeDiff, Nat.reduceBEq, reduceCtorEq, bC, c1]); (repeat' ((first | apply aJ | apply aI | apply aL | apply aK | apply aH | apply aG) <;> intro h <;> simp only [h, SS, cG, aM, setRange, aN, aC, aB, aF, aE, aD, aA, Nat.reduceLT, Nat.reduceEqDiff, Nat.reduceAdd, Nat.reduceMul, Nat.reduceSub, Nat.reduceLeDiff, Nat.reduceBEq, reduceCtorEq, bC, c1])))
    (refine hQ _ _ _ (aQ (by first | exact .inl rfl | exact .inr rfl) ?_); simp only [SS, cG, aM, setRange, aN, aC, aB, aF, aE, aD, aA, Nat.reduceLT, Nat.reduceEqDiff, Nat.reduceAdd, Nat.reduceMul, Nat.reduceSub, Nat.reduceLeDiff, Nat.reduceBEq, reduceCtorEq])
    simp [movesE, h4]
  have c1 : decide ((4 : Int) < (l.length : Int)) = false := by simp; omega
  have hE : movesE l = mvGo none l := by simp [movesE, h4]
  rw [hE] at hQ
  clear hE
  ((try simp only [aO, SS, cG, aM, setRange, aN, aC, aB, aF, aE, aD, aA, Nat.reduceLT, Nat.reduceEqDiff, Nat.reduceAdd, Nat.reduceMul, Nat.reduceSub, Nat.reduceLeDiff, Nat.reduceBEq, reduceCtorEq, bC, c1]); (repeat' ((first | apply aJ | apply aI | apply aL | apply aK | apply aH | apply aG) <;> intro h <;> simp only [h, SS, cG, aM, setRange, aN, aC, aB, aF, aE, aD, aA, Nat.reduceLT, Nat.reduceEqDiff, Nat.reduceAdd, Nat.reduceMul, Nat.reduceSub, Nat.reduceLeDiff, Nat.reduceBEq, reduceCtorEq, bC, c1])))
  refine bR (Top.loop (I := fun s : { k : Nat // k ≤ l.length ∧ mvGo none l = mvGo (fromAt l k) (l.drop k) } => (mkF 35 [(11, .int .i64 (s.1 : Nat)), (10, .int .i64 (l.length : Int)), (9, .lsl (bG l)), (0, .lsl (bG l))], mkH 0 [] 0 [])) (μ := fun s => l.length - s.1) ⟨0, by simp, rfl⟩ (aT.drop (by simp [look, below, aX]) (by simp [aP, bT, below, aX, bA]) (by simp [aP])) ?_)
  rintro ⟨k, hk, hf⟩
  refine aR aV _ _ _ _ ?_
  by_cases hlt : k < l.length
  rotate_left
  · have q1 : decide ((k : Int) < (l.length : Int)) = false := by simp; omega
    ((try simp only [aO, SS, cG, aM, setRange, aN, aC, aB, aF, aE, aD, aA, Nat.reduceLT, Nat.reduceEqDiff, Nat.reduceAdd, Nat.reduceMul, Nat.reduceSub, Nat.reduceLeDiff, Nat.reduceBEq, reduceCtorEq, q1]); (repeat' ((first | apply aJ | apply aI | apply aL | apply aK | apply aH | apply aG) <;> intro h <;> simp only [h, SS, cG, aM, setRange, aN, aC, aB, aF, aE, aD, aA, Nat.reduceLT, Nat.reduceEqDiff, Nat.reduceAdd, Nat.reduceMul, Nat.reduceSub, Nat.reduceLeDiff, Nat.reduceBEq, reduceCtorEq, q1])))
    (refine hQ _ _ _ (aQ (by first | exact .inl rfl | exact .inr rfl) ?_); simp only [SS, cG, aM, setRange, aN, aC, aB, aF, aE, aD, aA, Nat.reduceLT, Nat.reduceEqDiff, Nat.reduceAdd, Nat.reduceMul, Nat.reduceSub, Nat.reduceLeDiff, Nat.reduceBEq, reduceCtorEq])
    have : l.drop k = [] := List.drop_eq_nil_of_le (by omega)
    rw [hf, this]; rfl
  obtain ⟨m, hx⟩ : ∃ m, l[k]? = some m := ⟨l[k], List.getElem?_eq_getElem hlt⟩
  have hm := hok m (List.mem_of_getElem? hx)
  have h21 := e21 hm
  have hfd := mvGo_drop hx
  have q1 : decide ((k : Int) < (l.length : Int)) = true := by simp; omega
  have q2 : IntKind.i64.wrap ((k : Int) + 1) = ((k + 1 : Nat) : Int) := by rw [bN] <;> omega
  cases he : (mvE m == 0) with
  | false =>
    have he0 : mvE m ≠ 0 := by simpa using he
    ((try simp only [aO, SS, cG, aM, setRange, aN, aC, aB, aF, aE, aD, aA, Nat.reduceLT, Nat.reduceEqDiff, Nat.reduceAdd, Nat.reduceMul, Nat.reduceSub, Nat.reduceLeDiff, Nat.reduceBEq, reduceCtorEq, q1, eMoves_get, cR, hx, h21, he]); (repeat' ((first | apply aJ | apply aI | apply aL | apply aK | apply aH | apply aG) <;> intro h <;> simp only [h, SS, cG, aM, setRange, aN, aC, aB, aF, aE, aD, aA, Nat.reduceLT, Nat.reduceEqDiff, Nat.reduceAdd, Nat.reduceMul, Nat.reduceSub, Nat.reduceLeDiff, Nat.reduceBEq, reduceCtorEq, q1, eMoves_get, cR, hx, h21, he])))
    (refine hQ _ _ _ (aQ (by first | exact .inl rfl | exact .inr rfl) ?_); simp only [SS, cG, aM, setRange, aN, aC, aB, aF, aE, aD, aA, Nat.reduceLT, Nat.reduceEqDiff, Nat.reduceAdd, Nat.reduceMul, Nat.reduceSub, Nat.reduceLeDiff, Nat.reduceBEq, reduceCtorEq])
    rw [hf, hfd, if_pos he0]
  | true =>
  have he0 : ¬ mvE m ≠ 0 := by simpa using he
  rw [if_neg he0] at hfd
  ((try simp only [aO, SS, cG, aM, setRange, aN, aC, aB, aF, aE, aD, aA, Nat.reduceLT, Nat.reduceEqDiff, Nat.reduceAdd, Nat.reduceMul, Nat.reduceSub, Nat.reduceLeDiff, Nat.reduceBEq, reduceCtorEq, q1, eMoves_get, cR, hx, h21, he]); (repeat' ((first | apply aJ | apply aI | apply aL | apply aK | apply aH | apply aG) <;> intro h <;> simp only [h, SS, cG, aM, setRange, aN, aC, aB, aF, aE, aD, aA, Nat.reduceLT, Nat.reduceEqDiff, Nat.reduceAdd, Nat.reduceMul, Nat.reduceSub, Nat.reduceLeDiff, Nat.reduceBEq, reduceCtorEq, q1, eMoves_get, cR, hx, h21, he])))
  refine bV (Top.draw mixed aV (by kernel_rfl) ?_)
  by_cases hk0 : k = 0
  · have q4 : decide ((0 : Int) < (k : Int)) = false := by simp; omega
    ((try simp only [aO, SS, cG, aM, setRange, aN, aC, aB, aF, aE, aD, aA, Nat.reduceLT, Nat.reduceEqDiff, Nat.reduceAdd, Nat.reduceMul, Nat.reduceSub, Nat.reduceLeDiff, Nat.reduceBEq, reduceCtorEq, q4]); (repeat' ((first | apply aJ | apply aI | apply aL | apply aK | apply aH | apply aG) <;> intro h <;> simp only [h, SS, cG, aM, setRange, aN, aC, aB, aF, aE, aD, aA, Nat.reduceLT, Nat.reduceEqDiff, Nat.reduceAdd, Nat.reduceMul, Nat.reduceSub, Nat.reduceLeDiff, Nat.reduceBEq, reduceCtorEq, q4])))
    refine ⟨by kernel_rfl, ?_⟩
    ((try simp only [aO, SS, cG, aM, setRange, aN, aC, aB, aF, aE, aD, aA, Nat.reduceLT, Nat.reduceEqDiff, Nat.reduceAdd, Nat.reduceMul, Nat.reduceSub, Nat.reduceLeDiff, Nat.reduceBEq, reduceCtorEq, q2]); (repeat' ((first | apply aJ | apply aI | apply aL | apply aK | apply aH | apply aG) <;> intro h <;> simp only [h, SS, cG, aM, setRange, aN, aC, aB, aF, aE, aD, aA, Nat.reduceLT, Nat.reduceEqDiff, Nat.reduceAdd, Nat.reduceMul, Nat.reduceSub, Nat.reduceLeDiff, Nat.reduceBEq, reduceCtorEq, q2])))
    exact ⟨⟨k + 1, hlt, by rw [hf, hfd]; simp [fromAt, hk0]⟩, by simp; omega, (aT.drop (by simp [look, below, aX]) (by simp [aP, bT, below, aX, bA]) (by simp [aP]))⟩
  obtain ⟨y, hy⟩ : ∃ y, l[k - 1]? = some y := ⟨l[k - 1], List.getElem?_eq_getElem (by omega)⟩
  have hbf : fromAt l k = some y.f := by simp [fromAt, hk0, hy]
  have q4 : decide ((0 : Int) < (k : Int)) = true := by simp; omega
  have q5 : IntKind.i64.wrap ((k : Int) - 1) = ((k - 1 : Nat) : Int) := by rw [bN] <;> omega
  by_cases hxy : y.f ≤ m.f
  · have q6 : decide (y.f ≤ m.f) = true := by simpa using hxy
    ((try simp only [aO, SS, cG, aM, setRange, aN, aC, aB, aF, aE, aD, aA, Nat.reduceLT, Nat.reduceEqDiff, Nat.reduceAdd, Nat.reduceMul, Nat.reduceSub, Nat.reduceLeDiff, Nat.reduceBEq, reduceCtorEq, eMoves_get, cR, hy, q4, q5, q6]); (repeat' ((first | apply aJ | apply aI | apply aL | apply aK | apply aH | apply aG) <;> intro h <;> simp only [h, SS, cG, aM, setRange, aN, aC, aB, aF, aE, aD, aA, Nat.reduceLT, Nat.reduceEqDiff, Nat.reduceAdd, Nat.reduceMul, Nat.reduceSub, Nat.reduceLeDiff, Nat.reduceBEq, reduceCtorEq, eMoves_get, cR, hy, q4, q5, q6])))
    refine ⟨by kernel_rfl, ?_⟩
    ((try simp only [aO, SS, cG, aM, setRange, aN, aC, aB, aF, aE, aD, aA, Nat.reduceLT, Nat.reduceEqDiff, Nat.reduceAdd, Nat.reduceMul, Nat.reduceSub, Nat.reduceLeDiff, Nat.reduceBEq, reduceCtorEq]); (repeat' ((first | apply aJ | apply aI | apply aL | apply aK | apply aH | apply aG) <;> intro h <;> simp only [h, SS, cG, aM, setRange, aN, aC, aB, aF, aE, aD, aA, Nat.reduceLT, Nat.reduceEqDiff, Nat.reduceAdd, Nat.reduceMul, Nat.reduceSub, Nat.reduceLeDiff, Nat.reduceBEq, reduceCtorEq])))
    (refine hQ _ _ _ (aQ (by first | exact .inl rfl | exact .inr rfl) ?_); simp only [SS, cG, aM, setRange, aN, aC, aB, aF, aE, aD, aA, Nat.reduceLT, Nat.reduceEqDiff, Nat.reduceAdd, Nat.reduceMul, Nat.reduceSub, Nat.reduceLeDiff, Nat.reduceBEq, reduceCtorEq])
    rw [hf, hfd, hbf]; simp [hxy]
  · have q6 : decide (y.f ≤ m.f) = false := by simpa using hxy
    ((try simp only [aO, SS, cG, aM, setRange, aN, aC, aB, aF, aE, aD, aA, Nat.reduceLT, Nat.reduceEqDiff, Nat.reduceAdd, Nat.reduceMul, Nat.reduceSub, Nat.reduceLeDiff, Nat.reduceBEq, reduceCtorEq, eMoves_get, cR, hy, q4, q5, q6]); (repeat' ((first | apply aJ | apply aI | apply aL | apply aK | apply aH | apply aG) <;> intro h <;> simp only [h, SS, cG, aM, setRange, aN, aC, aB, aF, aE, aD, aA, Nat.reduceLT, Nat.reduceEqDiff, Nat.reduceAdd, Nat.reduceMul, Nat.reduceSub, Nat.reduceLeDiff, Nat.reduceBEq, reduceCtorEq, eMoves_get, cR, hy, q4, q5, q6])))
    refine ⟨by kernel_rfl, ?_⟩
    ((try simp only [aO, SS, cG, aM, setRange, aN, aC, aB, aF, aE, aD, aA, Nat.reduceLT, Nat.reduceEqDiff, Nat.reduceAdd, Nat.reduceMul, Nat.reduceSub, Nat.reduceLeDiff, Nat.reduceBEq, reduceCtorEq, q2]); (repeat' ((first | apply aJ | apply aI | apply aL | apply aK | apply aH | apply aG) <;> intro h <;> simp only [h, SS, cG, aM, setRange, aN, aC, aB, aF, aE, aD, aA, Nat.reduceLT, Nat.reduceEqDiff, Nat.reduceAdd, Nat.reduceMul, Nat.reduceSub, Nat.reduceLeDiff, Nat.reduceBEq, reduceCtorEq, q2])))
    refine ⟨⟨k + 1, hlt, ?_⟩, by simp; omega, (aT.drop (by simp [look, below, aX]) (by simp [aP, bT, below, aX, bA]) (by simp [aP]))⟩
    rw [hf, hfd, hbf]; simp [hxy]

/-! a play -/
def playE (p e : List Nat) (l : List Mv) : Int := dJ [pitchE p, eventE e, movesE l]
def F18 : List EVal → Option EVal
  | [.agg [.str p, .str e, .bool _, ms]] => if aZ p = true ∧ aZ e = true then (dS ms).map fun l => .int .i64 (playE p e l) else none
  | _ => none
theorem e79three {a b c : Int} : F79 [.lsl [[.int .i64 a], [.int .i64 b], [.int .i64 c]]] = some (.int .i64 (dJ [a, b, c])) := e79 (l := [a, b, c]) (by simp)
theorem fn18 : FnT 18 F18 := by
  refine Fn.intro mixed aV Tryz.func18 rfl [(79, F79), (80, F80), (81, F81), (82, F82)] (by simp only [List.forall_mem_cons]; exact ⟨fn79, fn80, fn81, fn82, fun _ h => by cases h⟩) ?_
  intro args v hF
  unfold F18 at hF
  split at hF
  rotate_left
  · cases hF
  intro Q hV
  have hQ := bM.of hV
  rename_i p e late ms
  split at hF
  rotate_left
  · cases hF
  rename_i hb
  cases ha : dS ms with
  | none => rw [ha] at hF; cases hF
  | some l =>
  rw [ha] at hF
  cases hF
  obtain ⟨rfl, hlen, hok⟩ := dMoves_inv ha
  clear ha
  dsimp only at hQ hV
  have h80 : F80 [.str p] = some (.int .i64 (pitchE p)) := by simp only [F80]; rw [if_pos hb.1]
  have h81 : F81 [.str e] = some (.int .i64 (eventE e)) := by simp only [F81]; rw [if_pos hb.2]
  have h82 : F82 [.lsl (bG l)] = some (.int .i64 (movesE l)) := by simp only [F82, dMoves_e hlen hok, Option.map_some]
  refine Top.view (aT.start (n := 14) rfl (by simp)) (aR aV _ _ _ _ ?_)
  ((try simp only [aO, SS, TF18Form6, aM, setRange, aN, aC, aB, aF, aE, aD, aA, Nat.reduceLT, Nat.reduceEqDiff, Nat.reduceAdd, Nat.reduceMul, Nat.reduceSub, Nat.reduceLeDiff, Nat.reduceBEq, reduceCtorEq]); (repeat' ((first | apply aJ | apply aI | apply aL | apply aK | apply aH | apply aG) <;> intro h <;> simp only [h, SS, TF18Form6, aM, setRange, aN, aC, aB, aF, aE, aD, aA, Nat.reduceLT, Nat.reduceEqDiff, Nat.reduceAdd, Nat.reduceMul, Nat.reduceSub, Nat.reduceLeDiff, Nat.reduceBEq, reduceCtorEq])))
  refine bV (Top.draw mixed aV (by kernel_rfl) ?_)
  ((try simp only [aO, SS, TF18Form6, aM, setRange, aN, aC, aB, aF, aE, aD, aA, Nat.reduceLT, Nat.reduceEqDiff, Nat.reduceAdd, Nat.reduceMul, Nat.reduceSub, Nat.reduceLeDiff, Nat.reduceBEq, reduceCtorEq, h80, h81, h82, e79three]); (repeat' ((first | apply aJ | apply aI | apply aL | apply aK | apply aH | apply aG) <;> intro h <;> simp only [h, SS, TF18Form6, aM, setRange, aN, aC, aB, aF, aE, aD, aA, Nat.reduceLT, Nat.reduceEqDiff, Nat.reduceAdd, Nat.reduceMul, Nat.reduceSub, Nat.reduceLeDiff, Nat.reduceBEq, reduceCtorEq, h80, h81, h82, e79three])))
  refine ⟨by kernel_rfl, ?_⟩
  ((try simp only [aO, SS, TF18Form6, aM, setRange, aN, aC, aB, aF, aE, aD, aA, Nat.reduceLT, Nat.reduceEqDiff, Nat.reduceAdd, Nat.reduceMul, Nat.reduceSub, Nat.reduceLeDiff, Nat.reduceBEq, reduceCtorEq]); (repeat' ((first | apply aJ | apply aI | apply aL | apply aK | apply aH | apply aG) <;> intro h <;> simp only [h, SS, TF18Form6, aM, setRange, aN, aC, aB, aF, aE, aD, aA, Nat.reduceLT, Nat.reduceEqDiff, Nat.reduceAdd, Nat.reduceMul, Nat.reduceSub, Nat.reduceLeDiff, Nat.reduceBEq, reduceCtorEq])))
  (refine hQ _ _ _ (aQ (by first | exact .inl rfl | exact .inr rfl) ?_); simp only [SS, TF18Form6, aM, setRange, aN, aC, aB, aF, aE, aD, aA, Nat.reduceLT, Nat.reduceEqDiff, Nat.reduceAdd, Nat.reduceMul, Nat.reduceSub, Nat.reduceLeDiff, Nat.reduceBEq, reduceCtorEq])
  rfl

def F20 : List EVal → Option EVal
  | [.agg [.str p, .str e, .bool _, ms]] => (dS ms).map fun l => .int .i64 (playE p e l)
  | _ => none
theorem fn20 : FnT 20 F20 := by
  refine Fn.intro mixed aV Tryz.func20 rfl [(23, F23), (84, F84), (85, F85)] (by simp only [List.forall_mem_cons]; exact ⟨fn23, fn84, fn85, fun _ h => by cases h⟩) ?_
  intro args v hF
  unfold F20 at hF
  split at hF
  rotate_left
  · cases hF
  intro Q hV
  have hQ := bM.of hV
  rename_i p e late ms
  cases ha : dS ms with
  | none => rw [ha] at hF; cases hF
  | some l =>
  rw [ha] at hF
  cases hF
  obtain ⟨rfl, hlen, hok⟩ := dMoves_inv ha
  clear ha
  dsimp only at hQ hV
  have h84 : F84 [.str p] = some (.int .i64 (pitchE p)) := rfl
  have h85 : F85 [.str e] = some (.bool (decide (e = []) || isEv e)) := rfl
  refine Top.view (aT.start (n := 54) rfl (by simp)) (aR aV _ _ _ _ ?_)
  cases h1 : (pitchE p == 0) with
  | false =>
    have h10 : pitchE p ≠ 0 := by simpa using h1
    ((try simp only [aO, SS, bU, aM, setRange, aN, aC, aB, aF, aE, aD, aA, Nat.reduceLT, Nat.reduceEqDiff, Nat.reduceAdd, Nat.reduceMul, Nat.reduceSub, Nat.reduceLeDiff, Nat.reduceBEq, reduceCtorEq, h84, h1]); (repeat' ((first | apply aJ | apply aI | apply aL | apply aK | apply aH | apply aG) <;> intro h <;> simp only [h, SS, bU, aM, setRange, aN, aC, aB, aF, aE, aD, aA, Nat.reduceLT, Nat.reduceEqDiff, Nat.reduceAdd, Nat.reduceMul, Nat.reduceSub, Nat.reduceLeDiff, Nat.reduceBEq, reduceCtorEq, h84, h1])))
    (refine hQ _ _ _ (aQ (by first | exact .inl rfl | exact .inr rfl) ?_); simp only [SS, bU, aM, setRange, aN, aC, aB, aF, aE, aD, aA, Nat.reduceLT, Nat.reduceEqDiff, Nat.reduceAdd, Nat.reduceMul, Nat.reduceSub, Nat.reduceLeDiff, Nat.reduceBEq, reduceCtorEq])
    simp [playE, dJ, h10]
  | true =>
  have h10 : pitchE p = 0 := by simpa using h1
  cases h2 : (decide (e = []) || isEv e) with
  | false =>
    ((try simp only [aO, SS, bU, aM, setRange, aN, aC, aB, aF, aE, aD, aA, Nat.reduceLT, Nat.reduceEqDiff, Nat.reduceAdd, Nat.reduceMul, Nat.reduceSub, Nat.reduceLeDiff, Nat.reduceBEq, reduceCtorEq, h84, h1, h85, h2]); (repeat' ((first | apply aJ | apply aI | apply aL | apply aK | apply aH | apply aG) <;> intro h <;> simp only [h, SS, bU, aM, setRange, aN, aC, aB, aF, aE, aD, aA, Nat.reduceLT, Nat.reduceEqDiff, Nat.reduceAdd, Nat.reduceMul, Nat.reduceSub, Nat.reduceLeDiff, Nat.reduceBEq, reduceCtorEq, h84, h1, h85, h2])))
    (refine hQ _ _ _ (aQ (by first | exact .inl rfl | exact .inr rfl) ?_); simp only [SS, bU, aM, setRange, aN, aC, aB, aF, aE, aD, aA, Nat.reduceLT, Nat.reduceEqDiff, Nat.reduceAdd, Nat.reduceMul, Nat.reduceSub, Nat.reduceLeDiff, Nat.reduceBEq, reduceCtorEq])
    simp [playE, dJ, h10, eventE, h2]
  | true =>
  by_cases h4 : 4 < l.length
  · have c1 : decide ((4 : Int) < (l.length : Int)) = true := by simp; omega
    ((try simp only [aO, SS, bU, aM, setRange, aN, aC, aB, aF, aE, aD, aA, Nat.reduceLT, Nat.reduceEqDiff, Nat.reduceAdd, Nat.reduceMul, Nat.reduceSub, Nat.reduceLeDiff, Nat.reduceBEq, reduceCtorEq, h84, h1, h85, h2, bC, c1]); (repeat' ((first | apply aJ | apply aI | apply aL | apply aK | apply aH | apply aG) <;> intro h <;> simp only [h, SS, bU, aM, setRange, aN, aC, aB, aF, aE, aD, aA, Nat.reduceLT, Nat.reduceEqDiff, Nat.reduceAdd, Nat.reduceMul, Nat.reduceSub, Nat.reduceLeDiff, Nat.reduceBEq, reduceCtorEq, h84, h1, h85, h2, bC, c1])))
    (refine hQ _ _ _ (aQ (by first | exact .inl rfl | exact .inr rfl) ?_); simp only [SS, bU, aM, setRange, aN, aC, aB, aF, aE, aD, aA, Nat.reduceLT, Nat.reduceEqDiff, Nat.reduceAdd, Nat.reduceMul, Nat.reduceSub, Nat.reduceLeDiff, Nat.reduceBEq, reduceCtorEq])
    simp [playE, dJ, h10, eventE, h2, movesE, h4]
  have c1 : decide ((4 : Int) < (l.length : Int)) = false := by simp; omega
  have hE : playE p e l = mvGo none l := by
    simp [playE, dJ, h10, eventE, h2, movesE, h4]
    intro h; exact h.symm
  rw [hE] at hQ
  clear hE
  ((try simp only [aO, SS, bU, aM, setRange, aN, aC, aB, aF, aE, aD, aA, Nat.reduceLT, Nat.reduceEqDiff, Nat.reduceAdd, Nat.reduceMul, Nat.reduceSub, Nat.reduceLeDiff, Nat.reduceBEq, reduceCtorEq, h84, h1, h85, h2, bC, c1]); (repeat' ((first | apply aJ | apply aI | apply aL | apply aK | apply aH | apply aG) <;> intro h <;> simp only [h, SS, bU, aM, setRange, aN, aC, aB, aF, aE, aD, aA, Nat.reduceLT, Nat.reduceEqDiff, Nat.reduceAdd, Nat.reduceMul, Nat.reduceSub, Nat.reduceLeDiff, Nat.reduceBEq, reduceCtorEq, h84, h1, h85, h2, bC, c1])))
  refine bR (Top.loop (I := fun s : { k : Nat // k ≤ l.length ∧ mvGo none l = mvGo (fromAt l k) (l.drop k) } => (mkF 54 [(4, .int .i64 (s.1 : Nat)), (1, .ptr 0 0)], mkH 1 [(0, some (.row [.str p, .str e, .bool late, .lsl (bG l)] 24 0 0 false))] 0 [])) (μ := fun s => l.length - s.1) ⟨0, by simp, rfl⟩ (aT.drop (by simp [look, below, aX]) (by simp [aP, bT, below, aX, bA]) (by simp [aP])) ?_)
  rintro ⟨k, hk, hf⟩
  refine aR aV _ _ _ _ ?_
  by_cases hlt : k < l.length
  rotate_left
  · have q1 : decide ((k : Int) < (l.length : Int)) = false := by simp; omega
    ((try simp only [aO, SS, bU, aM, setRange, aN, aC, aB, aF, aE, aD, aA, Nat.reduceLT, Nat.reduceEqDiff, Nat.reduceAdd, Nat.reduceMul, Nat.reduceSub, Nat.reduceLeDiff, Nat.reduceBEq, reduceCtorEq, bC, q1]); (repeat' ((first | apply aJ | apply aI | apply aL | apply aK | apply aH | apply aG) <;> intro h <;> simp only [h, SS, bU, aM, setRange, aN, aC, aB, aF, aE, aD, aA, Nat.reduceLT, Nat.reduceEqDiff, Nat.reduceAdd, Nat.reduceMul, Nat.reduceSub, Nat.reduceLeDiff, Nat.reduceBEq, reduceCtorEq, bC, q1])))
    (refine hQ _ _ _ (aQ (by first | exact .inl rfl | exact .inr rfl) ?_); simp only [SS, bU, aM, setRange, aN, aC, aB, aF, aE, aD, aA, Nat.reduceLT, Nat.reduceEqDiff, Nat.reduceAdd, Nat.reduceMul, Nat.reduceSub, Nat.reduceLeDiff, Nat.reduceBEq, reduceCtorEq])
    have : l.drop k = [] := List.drop_eq_nil_of_le (by omega)
    rw [hf, this]; rfl
  obtain ⟨m, hx⟩ : ∃ m, l[k]? = some m := ⟨l[k], List.getElem?_eq_getElem hlt⟩
  have hm := hok m (List.mem_of_getElem? hx)
  have h23 := e23 hm
  have hfd := mvGo_drop hx
  have q1 : decide ((k : Int) < (l.length : Int)) = true := by simp; omega
  have q2 : IntKind.i64.wrap ((k : Int) + 1) = ((k + 1 : Nat) : Int) := by rw [bN] <;> omega
  cases he : (mvE m == 0) with
  | false =>
    have he0 : mvE m ≠ 0 := by simpa using he
    ((try simp only [aO, SS, bU, aM, setRange, aN, aC, aB, aF, aE, aD, aA, Nat.reduceLT, Nat.reduceEqDiff, Nat.reduceAdd, Nat.reduceMul, Nat.reduceSub, Nat.reduceLeDiff, Nat.reduceBEq, reduceCtorEq, bC, q1, eMoves_get, cR, hx, h23, he]); (repeat' ((first | apply aJ | apply aI | apply aL | apply aK | apply aH | apply aG) <;> intro h <;> simp only [h, SS, bU, aM, setRange, aN, aC, aB, aF, aE, aD, aA, Nat.reduceLT, Nat.reduceEqDiff, Nat.reduceAdd, Nat.reduceMul, Nat.reduceSub, Nat.reduceLeDiff, Nat.reduceBEq, reduceCtorEq, bC, q1, eMoves_get, cR, hx, h23, he])))
    (refine hQ _ _ _ (aQ (by first | exact .inl rfl | exact .inr rfl) ?_); simp only [SS, bU, aM, setRange, aN, aC, aB, aF, aE, aD, aA, Nat.reduceLT, Nat.reduceEqDiff, Nat.reduceAdd, Nat.reduceMul, Nat.reduceSub, Nat.reduceLeDiff, Nat.reduceBEq, reduceCtorEq])
    rw [hf, hfd, if_pos he0]
  | true =>
  have he0 : ¬ mvE m ≠ 0 := by simpa using he
  rw [if_neg he0] at hfd
  ((try simp only [aO, SS, bU, aM, setRange, aN, aC, aB, aF, aE, aD, aA, Nat.reduceLT, Nat.reduceEqDiff, Nat.reduceAdd, Nat.reduceMul, Nat.reduceSub, Nat.reduceLeDiff, Nat.reduceBEq, reduceCtorEq, bC, q1, eMoves_get, cR, hx, h23, he]); (repeat' ((first | apply aJ | apply aI | apply aL | apply aK | apply aH | apply aG) <;> intro h <;> simp only [h, SS, bU, aM, setRange, aN, aC, aB, aF, aE, aD, aA, Nat.reduceLT, Nat.reduceEqDiff, Nat.reduceAdd, Nat.reduceMul, Nat.reduceSub, Nat.reduceLeDiff, Nat.reduceBEq, reduceCtorEq, bC, q1, eMoves_get, cR, hx, h23, he])))
  refine bV (Top.draw mixed aV (by kernel_rfl) ?_)
  by_cases hk0 : k = 0
  · have q4 : decide ((0 : Int) < (k : Int)) = false := by simp; omega
    ((try simp only [aO, SS, bU, aM, setRange, aN, aC, aB, aF, aE, aD, aA, Nat.reduceLT, Nat.reduceEqDiff, Nat.reduceAdd, Nat.reduceMul, Nat.reduceSub, Nat.reduceLeDiff, Nat.reduceBEq, reduceCtorEq, q4]); (repeat' ((first | apply aJ | apply aI | apply aL | apply aK | apply aH | apply aG) <;> intro h <;> simp only [h, SS, bU, aM, setRange, aN, aC, aB, aF, aE, aD, aA, Nat.reduceLT, Nat.reduceEqDiff, Nat.reduceAdd, Nat.reduceMul, Nat.reduceSub, Nat.reduceLeDiff, Nat.reduceBEq, reduceCtorEq, q4])))
    refine ⟨by kernel_rfl, ?_⟩
    ((try simp only [aO, SS, bU, aM, setRange, aN, aC, aB, aF, aE, aD, aA, Nat.reduceLT, Nat.reduceEqDiff, Nat.reduceAdd, Nat.reduceMul, Nat.reduceSub, Nat.reduceLeDiff, Nat.reduceBEq, reduceCtorEq, q2]); (repeat' ((first | apply aJ | apply aI | apply aL | apply aK | apply aH | apply aG) <;> intro h <;> simp only [h, SS, bU, aM, setRange, aN, aC, aB, aF, aE, aD, aA, Nat.reduceLT, Nat.reduceEqDiff, Nat.reduceAdd, Nat.reduceMul, Nat.reduceSub, Nat.reduceLeDiff, Nat.reduceBEq, reduceCtorEq, q2])))
    exact ⟨⟨k + 1, hlt, by rw [hf, hfd]; simp [fromAt, hk0]⟩, by simp; omega, (aT.drop (by simp [look, below, aX]) (by simp [aP, bT, below, aX, bA]) (by simp [aP]))⟩
  obtain ⟨y, hy⟩ : ∃ y, l[k - 1]? = some y := ⟨l[k - 1], List.getElem?_eq_getElem (by omega)⟩
  have hbf : fromAt l k = some y.f := by simp [fromAt, hk0, hy]
  have q4 : decide ((0 : Int) < (k : Int)) = true := by simp; omega
  have q5 : IntKind.i64.wrap ((k : Int) - 1) = ((k - 1 : Nat) : Int) := by rw [bN] <;> omega
  by_cases hxy : y.f ≤ m.f
  · have q6 : decide (y.f ≤ m.f) = true := by simpa using hxy
    ((try simp only [aO, SS, bU, aM, setRange, aN, aC, aB, aF, aE, aD, aA, Nat.reduceLT, Nat.reduceEqDiff, Nat.reduceAdd, Nat.reduceMul, Nat.reduceSub, Nat.reduceLeDiff, Nat.reduceBEq, reduceCtorEq, eMoves_get, cR, hx, hy, q4, q5, q6]); (repeat' ((first | apply aJ | apply aI | apply aL | apply aK | apply aH | apply aG) <;> intro h <;> simp only [h, SS, bU, aM, setRange, aN, aC, aB, aF, aE, aD, aA, Nat.reduceLT, Nat.reduceEqDiff, Nat.reduceAdd, Nat.reduceMul, Nat.reduceSub, Nat.reduceLeDiff, Nat.reduceBEq, reduceCtorEq, eMoves_get, cR, hx, hy, q4, q5, q6])))
    refine ⟨by kernel_rfl, ?_⟩
    ((try simp only [aO, SS, bU, aM, setRange, aN, aC, aB, aF, aE, aD, aA, Nat.reduceLT, Nat.reduceEqDiff, Nat.reduceAdd, Nat.reduceMul, Nat.reduceSub, Nat.reduceLeDiff, Nat.reduceBEq, reduceCtorEq]); (repeat' ((first | apply aJ | apply aI | apply aL | apply aK | apply aH | apply aG) <;> intro h <;> simp only [h, SS, bU, aM, setRange, aN, aC, aB, aF, aE, aD, aA, Nat.reduceLT, Nat.reduceEqDiff, Nat.reduceAdd, Nat.reduceMul, Nat.reduceSub, Nat.reduceLeDiff, Nat.reduceBEq, reduceCtorEq])))
    (refine hQ _ _ _ (aQ (by first | exact .inl rfl | exact .inr rfl) ?_); simp only [SS, bU, aM, setRange, aN, aC, aB, aF, aE, aD, aA, Nat.reduceLT, Nat.reduceEqDiff, Nat.reduceAdd, Nat.reduceMul, Nat.reduceSub, Nat.reduceLeDiff, Nat.reduceBEq, reduceCtorEq])
    rw [hf, hfd, hbf]; simp [hxy]
  · have q6 : decide (y.f ≤ m.f) = false := by simpa using hxy
    ((try simp only [aO, SS, bU, aM, setRange, aN, aC, aB, aF, aE, aD, aA, Nat.reduceLT, Nat.reduceEqDiff, Nat.reduceAdd, Nat.reduceMul, Nat.reduceSub, Nat.reduceLeDiff, Nat.reduceBEq, reduceCtorEq, eMoves_get, cR, hx, hy, q4, q5, q6]); (repeat' ((first | apply aJ | apply aI | apply aL | apply aK | apply aH | apply aG) <;> intro h <;> simp only [h, SS, bU, aM, setRange, aN, aC, aB, aF, aE, aD, aA, Nat.reduceLT, Nat.reduceEqDiff, Nat.reduceAdd, Nat.reduceMul, Nat.reduceSub, Nat.reduceLeDiff, Nat.reduceBEq, reduceCtorEq, eMoves_get, cR, hx, hy, q4, q5, q6])))
    refine ⟨by kernel_rfl, ?_⟩
    ((try simp only [aO, SS, bU, aM, setRange, aN, aC, aB, aF, aE, aD, aA, Nat.reduceLT, Nat.reduceEqDiff, Nat.reduceAdd, Nat.reduceMul, Nat.reduceSub, Nat.reduceLeDiff, Nat.reduceBEq, reduceCtorEq, q2]); (repeat' ((first | apply aJ | apply aI | apply aL | apply aK | apply aH | apply aG) <;> intro h <;> simp only [h, SS, bU, aM, setRange, aN, aC, aB, aF, aE, aD, aA, Nat.reduceLT, Nat.reduceEqDiff, Nat.reduceAdd, Nat.reduceMul, Nat.reduceSub, Nat.reduceLeDiff, Nat.reduceBEq, reduceCtorEq, q2])))
    refine ⟨⟨k + 1, hlt, ?_⟩, by simp; omega, (aT.drop (by simp [look, below, aX]) (by simp [aP, bT, below, aX, bA]) (by simp [aP]))⟩
    rw [hf, hfd, hbf]; simp [hxy]
end Go.Ev
