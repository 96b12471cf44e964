import Derived.Test.YtdhnjbgggkdiiaaGreatDoorEvC
import Derived.Test.YtdhnjbgggkdiiaaGreatDoorForm5
set_option linter.unusedSimpArgs false
set_option linter.unusedVariables false
namespace Go.Ev
open Go.RowKit Go.Proofs
set_option linter.defProp false
def TF18Form6 := And.intro (And.intro (And.intro (And.intro (And.intro (And.intro (@Tryz.underlying3) (@sz3)) (And.intro (@bI) (@I3s))) (And.intro (And.intro (@I3b) (@bH)) (And.intro (@bJ) (@Tryz.underlying4)))) (And.intro (And.intro (And.intro (@sz4) (@cO)) (And.intro (@I4s) (@I4b))) (And.intro (And.intro (@cN) (@cP)) (And.intro (@Tryz.underlying9) (And.intro (@sz9) (@bW)))))) (And.intro (And.intro (And.intro (And.intro (@I9s) (@I9b)) (And.intro (@bV) (@bX))) (And.intro (And.intro (@Tryz.underlying22) (@sz22)) (And.intro (@info22) (And.intro (@I22s) (@I22b))))) (And.intro (And.intro (And.intro (@cX) (@grow22)) (And.intro (@Tryz.underlying24) (@sz24))) (And.intro (And.intro (@fok24) (@info24)) (And.intro (@I24s) (And.intro (@I24b) (@zero24))))))) (And.intro (And.intro (And.intro (And.intro (And.intro (@grow24) (@Tryz.underlying25)) (And.intro (@dB) (@bQ))) (And.intro (And.intro (@dD) (@dE)) (And.intro (@bN) (@bR)))) (And.intro (And.intro (And.intro (@Tryz.underlying27) (@dG)) (And.intro (@cT) (@cD))) (And.intro (And.intro (@dI) (@dJ)) (And.intro (@cC) (And.intro (@cE) (@Tryz.underlying30)))))) (And.intro (And.intro (And.intro (And.intro (@sz30) (@info30)) (And.intro (@I30s) (@I30b))) (And.intro (And.intro (@zero30) (@grow30)) (And.intro (@Tryz.underlying158) (And.intro (@sz158) (@info158))))) (And.intro (And.intro (And.intro (@I158s) (@I158b)) (And.intro (@zero158) (@grow158))) (And.intro (And.intro (@call79) (@call80)) (And.intro (@call81) (And.intro (@call82) (@Tryz.results18)))))))
def TF20Form6 := And.intro (And.intro (And.intro (And.intro (And.intro (@Tryz.underlying3) (And.intro (@sz3) (@bI))) (And.intro (@I3s) (And.intro (@I3b) (@bH)))) (And.intro (And.intro (@bJ) (And.intro (@Tryz.underlying4) (@sz4))) (And.intro (And.intro (@cO) (@I4s)) (And.intro (@I4b) (@cN))))) (And.intro (And.intro (And.intro (@cP) (And.intro (@Tryz.underlying9) (@sz9))) (And.intro (And.intro (@bW) (@I9s)) (And.intro (@I9b) (@bV)))) (And.intro (And.intro (@bX) (And.intro (@Tryz.underlying22) (@sz22))) (And.intro (And.intro (@info22) (@I22s)) (And.intro (@I22b) (@cX)))))) (And.intro (And.intro (And.intro (And.intro (@grow22) (And.intro (@Tryz.underlying24) (@sz24))) (And.intro (And.intro (@fok24) (@info24)) (And.intro (@I24s) (@I24b)))) (And.intro (And.intro (@zero24) (And.intro (@grow24) (@Tryz.underlying25))) (And.intro (And.intro (@dB) (@bQ)) (And.intro (@dD) (@dE))))) (And.intro (And.intro (And.intro (@bN) (And.intro (@bR) (@Tryz.underlying27))) (And.intro (And.intro (@dG) (@cT)) (And.intro (@cD) (@dI)))) (And.intro (And.intro (@dJ) (And.intro (@cC) (@cE))) (And.intro (And.intro (@call23) (@call84)) (And.intro (@call85) (@Tryz.results20))))))
def TF82Form6 := And.intro (And.intro (And.intro (And.intro (And.intro (@Tryz.underlying3) (And.intro (@sz3) (@bI))) (And.intro (@I3s) (And.intro (@I3b) (@bH)))) (And.intro (And.intro (@bJ) (And.intro (@Tryz.underlying4) (@sz4))) (And.intro (And.intro (@cO) (@I4s)) (And.intro (@I4b) (@cN))))) (And.intro (And.intro (And.intro (@cP) (And.intro (@Tryz.underlying9) (@sz9))) (And.intro (@bW) (And.intro (@I9s) (@I9b)))) (And.intro (And.intro (@bV) (And.intro (@bX) (@Tryz.underlying22))) (And.intro (And.intro (@sz22) (@info22)) (And.intro (@I22s) (@I22b)))))) (And.intro (And.intro (And.intro (And.intro (@cX) (And.intro (@grow22) (@Tryz.underlying25))) (And.intro (@dB) (And.intro (@bQ) (@dD)))) (And.intro (And.intro (@dE) (And.intro (@bN) (@bR))) (And.intro (And.intro (@Tryz.underlying27) (@dG)) (And.intro (@cT) (@cD))))) (And.intro (And.intro (And.intro (@dI) (And.intro (@dJ) (@cC))) (And.intro (@cE) (And.intro (@Tryz.underlying30) (@sz30)))) (And.intro (And.intro (@info30) (And.intro (@I30s) (@I30b))) (And.intro (And.intro (@zero30) (@grow30)) (And.intro (@call21) (@Tryz.results82))))))
set_option maxRecDepth 20000
set_option maxHeartbeats 4000000

/-! the moves of a play -/
def mvE (m : Mv) : Int := moveE m.f m.t m.o m.h m.b
def mvGo : Option Int → List Mv → Int
  | _, [] => 0
  | p, m :: l => if mvE m ≠ 0 then mvE m else if (p.any fun q => decide (q ≤ m.f)) = true then 11 else mvGo (some m.f) l
def movesE (l : List Mv) : Int := if 4 < l.length then 5 else mvGo none l
def fromAt (l : List Mv) (k : Nat) : Option Int := if k = 0 then none else (l[k - 1]?).map (·.f)
theorem fromAt_succ (l : List Mv) (k : Nat) : fromAt l (k + 1) = (l[k]?).map (·.f) := by simp [fromAt]
theorem mvGo_drop {l : List Mv} {k : Nat} {m : Mv} (h : l[k]? = some m) : mvGo (fromAt l k) (l.drop k) = if mvE m ≠ 0 then mvE m else if ((fromAt l k).any fun q => decide (q ≤ m.f)) = true then 11 else mvGo (fromAt l (k + 1)) (l.drop (k + 1)) := by
  rw [fromAt_succ, h]
  obtain ⟨hk, rfl⟩ := List.getElem?_eq_some_iff.1 h
  rw [List.drop_eq_getElem_cons hk]; rfl
theorem e21 {m : Mv} (hm : dN m) : F21 [.agg [.int .i64 m.f, .int .i64 m.t, .bool m.o, .str m.h, .lsl (aS m.b)]] = some (.int .i64 (mvE m)) := by
  simp only [F21, dInts_e hm, Option.map_some]; rfl
theorem e23 {m : Mv} (hm : dN m) : F23 [.agg [.int .i64 m.f, .int .i64 m.t, .bool m.o, .str m.h, .lsl (aS m.b)]] = some (.int .i64 (mvE m)) := by
  simp only [F23, dInts_e hm, Option.map_some]; rfl
def F82 : List EVal → Option EVal
  | [a] => (bL a).map fun l => .int .i64 (movesE l)
  | _ => none
theorem fn82 : FnT 82 F82 := by
  refine Fn.intro mixed aI Tryz.func82 rfl [(21, F21)] (by simp only [List.forall_mem_cons]; exact ⟨fn21, fun _ h => by cases h⟩) ?_
  intro args v hF
  unfold F82 at hF
  split at hF
  rotate_left
  · cases hF
  intro Q hV
  have hQ := aW.of hV
  rename_i a
  cases ha : bL a with
  | none => rw [ha] at hF; cases hF
  | some l =>
  rw [ha] at hF
  cases hF
  obtain ⟨rfl, hlen, hok⟩ := dMoves_inv ha
  clear ha
  dsimp only at hQ hV
  refine Top.view (aF.start (n := 35) rfl (by simp)) (aD aI _ _ _ _ ?_)
  by_cases h4 : 4 < l.length
  · have c1 : decide ((4 : Int) < (l.length : Int)) = true := by simp; omega
    (try simp only [aH, SS, TF82Form6, aA, Nat.reduceLT, Nat.reduceEqDiff, reduceCtorEq, aL, c1])
    (refine hQ _ _ _ (aC (by first | exact .inl rfl | exact .inr rfl) ?_); simp only [SS, TF82Form6, Nat.reduceLT, Nat.reduceEqDiff, reduceCtorEq])
    simp [movesE, h4]
  have c1 : decide ((4 : Int) < (l.length : Int)) = false := by simp; omega
  have hE : movesE l = mvGo none l := by simp [movesE, h4]
  rw [hE] at hQ
  clear hE
  (try simp only [aH, SS, TF82Form6, aA, Nat.reduceLT, Nat.reduceEqDiff, reduceCtorEq, aL, c1])
  refine aQ (Top.loop (I := fun s : { k : Nat // k ≤ l.length ∧ mvGo none l = mvGo (fromAt l k) (l.drop k) } => (mkF 35 [(11, .int .i64 (s.1 : Nat)), (10, .int .i64 (l.length : Int)), (9, .lsl (aK l)), (0, .lsl (aK l))], mkH 0 [] 0 [])) (μ := fun s => l.length - s.1) ⟨0, by simp, rfl⟩ (aF.drop (by simp [look, below]) (by simp [aB, bC]) (by simp [aB])) ?_)
  rintro ⟨k, hk, hf⟩
  refine aD aI _ _ _ _ ?_
  by_cases hlt : k < l.length
  rotate_left
  · have q1 : decide ((k : Int) < (l.length : Int)) = false := by simp; omega
    (try simp only [SS, aA, Nat.reduceLT, Nat.reduceEqDiff, reduceCtorEq, q1])
    (refine hQ _ _ _ (aC (by first | exact .inl rfl | exact .inr rfl) ?_); simp only [SS, TF82Form6, Nat.reduceLT, Nat.reduceEqDiff, reduceCtorEq])
    have : l.drop k = [] := List.drop_eq_nil_of_le (by omega)
    rw [hf, this]; rfl
  obtain ⟨m, hx⟩ : ∃ m, l[k]? = some m := ⟨l[k], List.getElem?_eq_getElem hlt⟩
  have hm := hok m (List.mem_of_getElem? hx)
  have h21 := e21 hm
  have hfd := mvGo_drop hx
  have q1 : decide ((k : Int) < (l.length : Int)) = true := by simp; omega
  have q2 : IntKind.i64.wrap ((k : Int) + 1) = ((k + 1 : Nat) : Int) := by rw [aP] <;> omega
  cases he : (mvE m == 0) with
  | false =>
    have he0 : mvE m ≠ 0 := by simpa using he
    (try simp only [SS, TF82Form6, aG, setRange, aA, Nat.reduceLT, Nat.reduceEqDiff, Nat.reduceAdd, reduceCtorEq, q1, bD, bS, hx, h21, he])
    (refine hQ _ _ _ (aC (by first | exact .inl rfl | exact .inr rfl) ?_); simp only [SS, TF82Form6, Nat.reduceLT, Nat.reduceEqDiff, reduceCtorEq])
    rw [hf, hfd, if_pos he0]
  | true =>
  have he0 : ¬ mvE m ≠ 0 := by simpa using he
  rw [if_neg he0] at hfd
  (try simp only [SS, TF82Form6, aG, setRange, aA, Nat.reduceLT, Nat.reduceEqDiff, Nat.reduceAdd, reduceCtorEq, q1, bD, bS, hx, h21, he])
  refine aU (Top.draw mixed aI (by kernel_rfl) ?_)
  by_cases hk0 : k = 0
  · have q4 : decide ((0 : Int) < (k : Int)) = false := by simp; omega
    (try simp only [SS, aA, Nat.reduceLT, Nat.reduceEqDiff, reduceCtorEq, q4])
    refine ⟨by kernel_rfl, ?_⟩
    (try simp only [q2])
    exact ⟨⟨k + 1, hlt, by rw [hf, hfd]; simp [fromAt, hk0]⟩, by simp; omega, (aF.drop (by simp [look, below]) (by simp [aB, bC]) (by simp [aB]))⟩
  obtain ⟨y, hy⟩ : ∃ y, l[k - 1]? = some y := ⟨l[k - 1], List.getElem?_eq_getElem (by omega)⟩
  have hbf : fromAt l k = some y.f := by simp [fromAt, hk0, hy]
  have q4 : decide ((0 : Int) < (k : Int)) = true := by simp; omega
  have q5 : IntKind.i64.wrap ((k : Int) - 1) = ((k - 1 : Nat) : Int) := by rw [aP] <;> omega
  by_cases hxy : y.f ≤ m.f
  · have q6 : decide (y.f ≤ m.f) = true := by simpa using hxy
    (try simp only [SS, TF82Form6, aA, Nat.reduceLT, Nat.reduceEqDiff, Nat.reduceAdd, reduceCtorEq, bD, bS, hy, q4, q5, q6])
    refine ⟨by kernel_rfl, ?_⟩
    (try simp only [aH, SS, TF82Form6, aG, setRange, bK, aA, aO, bG, bA, aV, aE, Nat.reduceLT, Nat.reduceEqDiff, Nat.reduceAdd, Nat.reduceMul, Nat.reduceSub, Nat.reduceLeDiff, Nat.reduceBEq, reduceCtorEq])
    (refine hQ _ _ _ (aC (by first | exact .inl rfl | exact .inr rfl) ?_); simp only [SS, TF82Form6, Nat.reduceLT, Nat.reduceEqDiff, reduceCtorEq])
    rw [hf, hfd, hbf]; simp [hxy]
  · have q6 : decide (y.f ≤ m.f) = false := by simpa using hxy
    (try simp only [SS, TF82Form6, aA, Nat.reduceLT, Nat.reduceEqDiff, Nat.reduceAdd, reduceCtorEq, bD, bS, hy, q4, q5, q6])
    refine ⟨by kernel_rfl, ?_⟩
    (try simp only [q2])
    refine ⟨⟨k + 1, hlt, ?_⟩, by simp; omega, (aF.drop (by simp [look, below]) (by simp [aB, bC]) (by simp [aB]))⟩
    rw [hf, hfd, hbf]; simp [hxy]

/-! a play -/
def playE (p e : List Nat) (l : List Mv) : Int := cF [pitchE p, eventE e, movesE l]
def F18 : List EVal → Option EVal
  | [.agg [.str p, .str e, .bool _, ms]] => if aT p = true ∧ aT e = true then (bL ms).map fun l => .int .i64 (playE p e l) else none
  | _ => none
theorem e79three {a b c : Int} : F79 [.lsl [[.int .i64 a], [.int .i64 b], [.int .i64 c]]] = some (.int .i64 (cF [a, b, c])) := e79 (l := [a, b, c]) (by simp)
theorem fn18 : FnT 18 F18 := by
  refine Fn.intro mixed aI Tryz.func18 rfl [(79, F79), (80, F80), (81, F81), (82, F82)] (by simp only [List.forall_mem_cons]; exact ⟨fn79, fn80, fn81, fn82, fun _ h => by cases h⟩) ?_
  intro args v hF
  unfold F18 at hF
  split at hF
  rotate_left
  · cases hF
  intro Q hV
  have hQ := aW.of hV
  rename_i p e late ms
  split at hF
  rotate_left
  · cases hF
  rename_i hb
  cases ha : bL ms with
  | none => rw [ha] at hF; cases hF
  | some l =>
  rw [ha] at hF
  cases hF
  obtain ⟨rfl, hlen, hok⟩ := dMoves_inv ha
  clear ha
  dsimp only at hQ hV
  have h80 : F80 [.str p] = some (.int .i64 (pitchE p)) := by simp only [F80]; rw [if_pos hb.1]
  have h81 : F81 [.str e] = some (.int .i64 (eventE e)) := by simp only [F81]; rw [if_pos hb.2]
  have h82 : F82 [.lsl (aK l)] = some (.int .i64 (movesE l)) := by simp only [F82, dMoves_e hlen hok, Option.map_some]
  refine Top.view (aF.start (n := 14) rfl (by simp)) (aD aI _ _ _ _ ?_)
  (try simp only [aH, SS, aA, Nat.reduceLT])
  refine aU (Top.draw mixed aI (by kernel_rfl) ?_)
  (try simp only [SS, TF18Form6, aG, setRange, bK, aE, Nat.reduceLT, Nat.reduceEqDiff, Nat.reduceAdd, Nat.reduceLeDiff, reduceCtorEq, h80, h81, h82, e79three])
  refine ⟨by kernel_rfl, ?_⟩
  (try simp only [aH, SS, TF18Form6, aG, setRange, bK, aA, aO, bG, bA, aV, aE, Nat.reduceLT, Nat.reduceEqDiff, Nat.reduceAdd, Nat.reduceMul, Nat.reduceSub, Nat.reduceLeDiff, Nat.reduceBEq, reduceCtorEq])
  (refine hQ _ _ _ (aC (by first | exact .inl rfl | exact .inr rfl) ?_); simp only [SS, TF18Form6, Nat.reduceLT, Nat.reduceEqDiff, reduceCtorEq])
  rfl

def F20 : List EVal → Option EVal
  | [.agg [.str p, .str e, .bool _, ms]] => (bL ms).map fun l => .int .i64 (playE p e l)
  | _ => none
theorem fn20 : FnT 20 F20 := by
  refine Fn.intro mixed aI Tryz.func20 rfl [(23, F23), (84, F84), (85, F85)] (by simp only [List.forall_mem_cons]; exact ⟨fn23, fn84, fn85, fun _ h => by cases h⟩) ?_
  intro args v hF
  unfold F20 at hF
  split at hF
  rotate_left
  · cases hF
  intro Q hV
  have hQ := aW.of hV
  rename_i p e late ms
  cases ha : bL ms with
  | none => rw [ha] at hF; cases hF
  | some l =>
  rw [ha] at hF
  cases hF
  obtain ⟨rfl, hlen, hok⟩ := dMoves_inv ha
  clear ha
  dsimp only at hQ hV
  have h84 : F84 [.str p] = some (.int .i64 (pitchE p)) := rfl
  have h85 : F85 [.str e] = some (.bool (decide (e = []) || isEv e)) := rfl
  refine Top.view (aF.start (n := 54) rfl (by simp)) (aD aI _ _ _ _ ?_)
  cases h1 : (pitchE p == 0) with
  | false =>
    have h10 : pitchE p ≠ 0 := by simpa using h1
    (try simp only [aH, SS, TF20Form6, aG, aA, Nat.reduceLT, Nat.reduceEqDiff, reduceCtorEq, h84, h1])
    (refine hQ _ _ _ (aC (by first | exact .inl rfl | exact .inr rfl) ?_); simp only [SS, TF20Form6, Nat.reduceLT, Nat.reduceEqDiff, reduceCtorEq])
    simp [playE, cF, h10]
  | true =>
  have h10 : pitchE p = 0 := by simpa using h1
  cases h2 : (decide (e = []) || isEv e) with
  | false =>
    (try simp only [aH, SS, TF20Form6, aG, aA, Nat.reduceLT, Nat.reduceEqDiff, reduceCtorEq, h84, h1, h85, h2])
    (refine hQ _ _ _ (aC (by first | exact .inl rfl | exact .inr rfl) ?_); simp only [SS, TF20Form6, Nat.reduceLT, Nat.reduceEqDiff, reduceCtorEq])
    simp [playE, cF, h10, eventE, h2]
  | true =>
  by_cases h4 : 4 < l.length
  · have c1 : decide ((4 : Int) < (l.length : Int)) = true := by simp; omega
    (try simp only [aH, SS, TF20Form6, aG, aA, Nat.reduceLT, Nat.reduceEqDiff, reduceCtorEq, h84, h1, h85, h2, aL, c1])
    (refine hQ _ _ _ (aC (by first | exact .inl rfl | exact .inr rfl) ?_); simp only [SS, TF20Form6, Nat.reduceLT, Nat.reduceEqDiff, reduceCtorEq])
    simp [playE, cF, h10, eventE, h2, movesE, h4]
  have c1 : decide ((4 : Int) < (l.length : Int)) = false := by simp; omega
  have hE : playE p e l = mvGo none l := by
    simp [playE, cF, h10, eventE, h2, movesE, h4]
    intro h; exact h.symm
  rw [hE] at hQ
  clear hE
  (try simp only [aH, SS, TF20Form6, aG, aA, Nat.reduceLT, Nat.reduceEqDiff, reduceCtorEq, h84, h1, h85, h2, aL, c1])
  refine aQ (Top.loop (I := fun s : { k : Nat // k ≤ l.length ∧ mvGo none l = mvGo (fromAt l k) (l.drop k) } => (mkF 54 [(4, .int .i64 (s.1 : Nat)), (1, .ptr 0 0)], mkH 1 [(0, some (.row [.str p, .str e, .bool late, .lsl (aK l)] 24 0 0 false))] 0 [])) (μ := fun s => l.length - s.1) ⟨0, by simp, rfl⟩ (aF.drop (by simp [look, below]) (by simp [aB, bC, below, bM]) (by simp [aB])) ?_)
  rintro ⟨k, hk, hf⟩
  refine aD aI _ _ _ _ ?_
  by_cases hlt : k < l.length
  rotate_left
  · have q1 : decide ((k : Int) < (l.length : Int)) = false := by simp; omega
    (try simp only [SS, TF20Form6, aA, Nat.reduceLT, Nat.reduceEqDiff, reduceCtorEq, aL, q1])
    (refine hQ _ _ _ (aC (by first | exact .inl rfl | exact .inr rfl) ?_); simp only [SS, TF20Form6, Nat.reduceLT, Nat.reduceEqDiff])
    have : l.drop k = [] := List.drop_eq_nil_of_le (by omega)
    rw [hf, this]; rfl
  obtain ⟨m, hx⟩ : ∃ m, l[k]? = some m := ⟨l[k], List.getElem?_eq_getElem hlt⟩
  have hm := hok m (List.mem_of_getElem? hx)
  have h23 := e23 hm
  have hfd := mvGo_drop hx
  have q1 : decide ((k : Int) < (l.length : Int)) = true := by simp; omega
  have q2 : IntKind.i64.wrap ((k : Int) + 1) = ((k + 1 : Nat) : Int) := by rw [aP] <;> omega
  cases he : (mvE m == 0) with
  | false =>
    have he0 : mvE m ≠ 0 := by simpa using he
    (try simp only [SS, TF20Form6, aG, aA, Nat.reduceLT, Nat.reduceEqDiff, Nat.reduceAdd, reduceCtorEq, aL, q1, bD, bS, hx, h23, he])
    (refine hQ _ _ _ (aC (by first | exact .inl rfl | exact .inr rfl) ?_); simp only [SS, TF20Form6, Nat.reduceLT, Nat.reduceEqDiff])
    rw [hf, hfd, if_pos he0]
  | true =>
  have he0 : ¬ mvE m ≠ 0 := by simpa using he
  rw [if_neg he0] at hfd
  (try simp only [SS, TF20Form6, aG, aA, Nat.reduceLT, Nat.reduceEqDiff, Nat.reduceAdd, reduceCtorEq, aL, q1, bD, bS, hx, h23, he])
  refine aU (Top.draw mixed aI (by kernel_rfl) ?_)
  by_cases hk0 : k = 0
  · have q4 : decide ((0 : Int) < (k : Int)) = false := by simp; omega
    (try simp only [SS, aA, Nat.reduceLT, Nat.reduceEqDiff, reduceCtorEq, q4])
    refine ⟨by kernel_rfl, ?_⟩
    (try simp only [q2])
    exact ⟨⟨k + 1, hlt, by rw [hf, hfd]; simp [fromAt, hk0]⟩, by simp; omega, (aF.drop (by simp [look, below]) (by simp [aB, bC, below, bM]) (by simp [aB]))⟩
  obtain ⟨y, hy⟩ : ∃ y, l[k - 1]? = some y := ⟨l[k - 1], List.getElem?_eq_getElem (by omega)⟩
  have hbf : fromAt l k = some y.f := by simp [fromAt, hk0, hy]
  have q4 : decide ((0 : Int) < (k : Int)) = true := by simp; omega
  have q5 : IntKind.i64.wrap ((k : Int) - 1) = ((k - 1 : Nat) : Int) := by rw [aP] <;> omega
  by_cases hxy : y.f ≤ m.f
  · have q6 : decide (y.f ≤ m.f) = true := by simpa using hxy
    (try simp only [SS, TF20Form6, aA, Nat.reduceLT, Nat.reduceEqDiff, Nat.reduceAdd, reduceCtorEq, bD, bS, hx, hy, q4, q5, q6])
    refine ⟨by kernel_rfl, ?_⟩
    (try simp only [aH, SS, TF20Form6, aG, setRange, bK, aA, aO, bG, bA, aV, aE, Nat.reduceLT, Nat.reduceEqDiff, Nat.reduceAdd, Nat.reduceMul, Nat.reduceSub, Nat.reduceLeDiff, Nat.reduceBEq, reduceCtorEq])
    (refine hQ _ _ _ (aC (by first | exact .inl rfl | exact .inr rfl) ?_); simp only [SS, TF20Form6, Nat.reduceLT, Nat.reduceEqDiff])
    rw [hf, hfd, hbf]; simp [hxy]
  · have q6 : decide (y.f ≤ m.f) = false := by simpa using hxy
    (try simp only [SS, TF20Form6, aA, Nat.reduceLT, Nat.reduceEqDiff, Nat.reduceAdd, reduceCtorEq, bD, bS, hx, hy, q4, q5, q6])
    refine ⟨by kernel_rfl, ?_⟩
    (try simp only [q2])
    refine ⟨⟨k + 1, hlt, ?_⟩, by simp; omega, (aF.drop (by simp [look, below]) (by simp [aB, bC, below, bM]) (by simp [aB]))⟩
    rw [hf, hfd, hbf]; simp [hxy]
end Go.Ev
