import Derived.Test.YtdhnjbgggkdiiaaGreatDoorEvC
import Derived.Test.YtdhnjbgggkdiiaaGreatDoorForm5
set_option linter.unusedSimpArgs false
set_option linter.unusedVariables false
namespace Go.Ev
open Go.RowKit Go.Proofs
set_option linter.defProp false
def TF18Form6 := And.intro (And.intro (And.intro (And.intro (And.intro (And.intro (@Tryz.underlying3) (@sz3)) (And.intro (@bK) (@I3s))) (And.intro (And.intro (@I3b) (@bJ)) (And.intro (@bL) (@Tryz.underlying4)))) (And.intro (And.intro (And.intro (@sz4) (@cT)) (And.intro (@I4s) (@I4b))) (And.intro (And.intro (@cS) (@cU)) (And.intro (@Tryz.underlying9) (And.intro (@sz9) (@bZ)))))) (And.intro (And.intro (And.intro (And.intro (@I9s) (@I9b)) (And.intro (@bX) (@cA))) (And.intro (And.intro (@Tryz.underlying22) (@dX)) (And.intro (@cZ) (And.intro (@dY) (@dZ))))) (And.intro (And.intro (And.intro (@cX) (@dA)) (And.intro (@Tryz.underlying24) (@sz24))) (And.intro (And.intro (@fok24) (@info24)) (And.intro (@I24s) (And.intro (@I24b) (@zero24))))))) (And.intro (And.intro (And.intro (And.intro (And.intro (@grow24) (@Tryz.underlying25)) (And.intro (@dI) (@bQ))) (And.intro (And.intro (@dJ) (@dK)) (And.intro (@bP) (@bR)))) (And.intro (And.intro (And.intro (@Tryz.underlying27) (@dN)) (And.intro (@cV) (@cF))) (And.intro (And.intro (@dO) (@dP)) (And.intro (@cC) (And.intro (@cG) (@Tryz.underlying30)))))) (And.intro (And.intro (And.intro (And.intro (@sz30) (@info30)) (And.intro (@I30s) (@I30b))) (And.intro (And.intro (@zero30) (@grow30)) (And.intro (@Tryz.underlying158) (And.intro (@sz158) (@info158))))) (And.intro (And.intro (And.intro (@I158s) (@I158b)) (And.intro (@zero158) (@grow158))) (And.intro (And.intro (@call79) (@call80)) (And.intro (@call81) (And.intro (@call82) (@Tryz.results18)))))))
def TF20Form6 := And.intro (And.intro (And.intro (And.intro (And.intro (@Tryz.underlying3) (And.intro (@sz3) (@bK))) (And.intro (@I3s) (And.intro (@I3b) (@bJ)))) (And.intro (And.intro (@bL) (And.intro (@Tryz.underlying4) (@sz4))) (And.intro (And.intro (@cT) (@I4s)) (And.intro (@I4b) (@cS))))) (And.intro (And.intro (And.intro (@cU) (And.intro (@Tryz.underlying9) (@sz9))) (And.intro (And.intro (@bZ) (@I9s)) (And.intro (@I9b) (@bX)))) (And.intro (And.intro (@cA) (And.intro (@Tryz.underlying22) (@dX))) (And.intro (And.intro (@cZ) (@dY)) (And.intro (@dZ) (@cX)))))) (And.intro (And.intro (And.intro (And.intro (@dA) (And.intro (@Tryz.underlying24) (@sz24))) (And.intro (And.intro (@fok24) (@info24)) (And.intro (@I24s) (@I24b)))) (And.intro (And.intro (@zero24) (And.intro (@grow24) (@Tryz.underlying25))) (And.intro (And.intro (@dI) (@bQ)) (And.intro (@dJ) (@dK))))) (And.intro (And.intro (And.intro (@bP) (And.intro (@bR) (@Tryz.underlying27))) (And.intro (And.intro (@dN) (@cV)) (And.intro (@cF) (@dO)))) (And.intro (And.intro (@dP) (And.intro (@cC) (@cG))) (And.intro (And.intro (@call23) (@call84)) (And.intro (@call85) (@Tryz.results20))))))
def TF82Form6 := And.intro (And.intro (And.intro (And.intro (And.intro (@Tryz.underlying3) (And.intro (@sz3) (@bK))) (And.intro (@I3s) (And.intro (@I3b) (@bJ)))) (And.intro (And.intro (@bL) (And.intro (@Tryz.underlying4) (@sz4))) (And.intro (And.intro (@cT) (@I4s)) (And.intro (@I4b) (@cS))))) (And.intro (And.intro (And.intro (@cU) (And.intro (@Tryz.underlying9) (@sz9))) (And.intro (@bZ) (And.intro (@I9s) (@I9b)))) (And.intro (And.intro (@bX) (And.intro (@cA) (@Tryz.underlying22))) (And.intro (And.intro (@dX) (@cZ)) (And.intro (@dY) (@dZ)))))) (And.intro (And.intro (And.intro (And.intro (@cX) (And.intro (@dA) (@Tryz.underlying25))) (And.intro (@dI) (And.intro (@bQ) (@dJ)))) (And.intro (And.intro (@dK) (And.intro (@bP) (@bR))) (And.intro (And.intro (@Tryz.underlying27) (@dN)) (And.intro (@cV) (@cF))))) (And.intro (And.intro (And.intro (@dO) (And.intro (@dP) (@cC))) (And.intro (@cG) (And.intro (@Tryz.underlying30) (@sz30)))) (And.intro (And.intro (@info30) (And.intro (@I30s) (@I30b))) (And.intro (And.intro (@zero30) (@grow30)) (And.intro (@call21) (@Tryz.results82))))))
set_option maxRecDepth 20000
set_option maxHeartbeats 4000000

/-! the moves of a play -/
def mvE (m : Mv) : Int := moveE m.f m.t m.o m.h m.b
def mvGo : Option Int → List Mv → Int
  | _, [] => 0
  | p, m :: l => if mvE m ≠ 0 then mvE m else if (p.any fun q => decide (q ≤ m.f)) = true then 11 else mvGo (some m.f) l
def movesE (l : List Mv) : Int := if 4 < l.length then 5 else mvGo none l
def fromAt (l : List Mv) (k : Nat) : Option Int := if k = 0 then none else (l[k - 1]?).map (·.f)
theorem fromAt_succ (l : List Mv) (k : Nat) : fromAt l (k + 1) = (l[k]?).map (·.f) := by simp [fromAt]
theorem mvGo_drop {l : List Mv} {k : Nat} {m : Mv} (h : l[k]? = some m) : mvGo (fromAt l k) (l.drop k) = if mvE m ≠ 0 then mvE m else if ((fromAt l k).any fun q => decide (q ≤ m.f)) = true then 11 else mvGo (fromAt l (k + 1)) (l.drop (k + 1)) := by
  rw [fromAt_succ, h]
  obtain ⟨hk, rfl⟩ := List.getElem?_eq_some_iff.1 h
  rw [List.drop_eq_getElem_cons hk]; rfl
theorem e21 {m : Mv} (hm : eA m) : F21 [.agg [.int .i64 m.f, .int .i64 m.t, .bool m.o, .str m.h, .lsl (aS m.b)]] = some (.int .i64 (mvE m)) := by
  simp only [F21, dInts_e hm, Option.map_some]; rfl
theorem e23 {m : Mv} (hm : eA m) : F23 [.agg [.int .i64 m.f, .int .i64 m.t, .bool m.o, .str m.h, .lsl (aS m.b)]] = some (.int .i64 (mvE m)) := by
  simp only [F23, dInts_e hm, Option.map_some]; rfl
def F82 : List EVal → Option EVal
  | [a] => (bH a).map fun l => .int .i64 (movesE l)
  | _ => none
theorem fn82 : FnT 82 F82 := by
  refine Fn.intro mixed aJ Tryz.func82 rfl [(21, F21)] (by simp only [List.forall_mem_cons]; exact ⟨fn21, fun _ h => by cases h⟩) ?_
  intro args v hF
  unfold F82 at hF
  split at hF
  rotate_left
  · cases hF
  intro Q hV
  have hQ := aW.of hV
  rename_i a
  cases ha : bH a with
  | none => rw [ha] at hF; cases hF
  | some l =>
  rw [ha] at hF
  cases hF
  obtain ⟨rfl, hlen, hok⟩ := bE ha
  clear ha
  dsimp only at hQ hV
  refine Top.view (aF.start (n := 35) rfl (by simp)) (aD aJ _ _ _ _ ?_)
  by_cases h4 : 4 < l.length
  · have c1 : decide ((4 : Int) < (l.length : Int)) = true := by simp; omega
    (try simp only [aI, SS, TF82Form6, aA, Nat.reduceLT, Nat.reduceEqDiff, reduceCtorEq, aL, c1])
    (refine hQ _ _ _ (aC (by first | exact .inl rfl | exact .inr rfl) ?_); simp only [SS, TF82Form6, Nat.reduceLT, Nat.reduceEqDiff, reduceCtorEq])
    simp [movesE, h4]
  have c1 : decide ((4 : Int) < (l.length : Int)) = false := by simp; omega
  have hE : movesE l = mvGo none l := by simp [movesE, h4]
  rw [hE] at hQ
  clear hE
  (try simp only [aI, SS, TF82Form6, aA, Nat.reduceLT, Nat.reduceEqDiff, reduceCtorEq, aL, c1])
  refine aT (Top.loop (I := fun s : { k : Nat // k ≤ l.length ∧ mvGo none l = mvGo (fromAt l k) (l.drop k) } => (mkF 35 [(11, .int .i64 (s.1 : Nat)), (10, .int .i64 (l.length : Int)), (9, .lsl (aG l)), (0, .lsl (aG l))], mkH 0 [] 0 [])) (μ := fun s => l.length - s.1) ⟨0, by simp, rfl⟩ (aF.drop (by simp [look, below]) (by simp [aB, aR]) (by simp [aB])) ?_)
  rintro ⟨k, hk, hf⟩
  refine aD aJ _ _ _ _ ?_
  by_cases hlt : k < l.length
  rotate_left
  · have q1 : decide ((k : Int) < (l.length : Int)) = false := by simp; omega
    (try simp only [SS, aA, Nat.reduceLT, Nat.reduceEqDiff, reduceCtorEq, q1])
    (refine hQ _ _ _ (aC (by first | exact .inl rfl | exact .inr rfl) ?_); simp only [SS, TF82Form6, Nat.reduceLT, Nat.reduceEqDiff, reduceCtorEq])
    have : l.drop k = [] := List.drop_eq_nil_of_le (by omega)
    rw [hf, this]; rfl
  obtain ⟨m, hx⟩ : ∃ m, l[k]? = some m := ⟨l[k], List.getElem?_eq_getElem hlt⟩
  have hm := hok m (List.mem_of_getElem? hx)
  have h21 := e21 hm
  have hfd := mvGo_drop hx
  have q1 : decide ((k : Int) < (l.length : Int)) = true := by simp; omega
  have q2 : IntKind.i64.wrap ((k : Int) + 1) = ((k + 1 : Nat) : Int) := by rw [aP] <;> omega
  cases he : (mvE m == 0) with
  | false =>
    have he0 : mvE m ≠ 0 := by simpa using he
    (try simp only [SS, TF82Form6, aH, setRange, aA, Nat.reduceLT, Nat.reduceEqDiff, Nat.reduceAdd, reduceCtorEq, q1, aZ, bT, hx, h21, he])
    (refine hQ _ _ _ (aC (by first | exact .inl rfl | exact .inr rfl) ?_); simp only [SS, TF82Form6, Nat.reduceLT, Nat.reduceEqDiff, reduceCtorEq])
    rw [hf, hfd, if_pos he0]
  | true =>
  have he0 : ¬ mvE m ≠ 0 := by simpa using he
  rw [if_neg he0] at hfd
  (try simp only [SS, TF82Form6, aH, setRange, aA, Nat.reduceLT, Nat.reduceEqDiff, Nat.reduceAdd, reduceCtorEq, q1, aZ, bT, hx, h21, he])
  refine bA (Top.draw mixed aJ (by kernel_rfl) ?_)
  by_cases hk0 : k = 0
  · have q4 : decide ((0 : Int) < (k : Int)) = false := by simp; omega
    (try simp only [SS, aA, Nat.reduceLT, Nat.reduceEqDiff, reduceCtorEq, q4])
    refine ⟨by kernel_rfl, ?_⟩
    (try simp only [q2])
    exact ⟨⟨k + 1, hlt, by rw [hf, hfd]; simp [fromAt, hk0]⟩, by simp; omega, (aF.drop (by simp [look, below]) (by simp [aB, aR]) (by simp [aB]))⟩
  obtain ⟨y, hy⟩ : ∃ y, l[k - 1]? = some y := ⟨l[k - 1], List.getElem?_eq_getElem (by omega)⟩
  have hbf : fromAt l k = some y.f := by simp [fromAt, hk0, hy]
  have q4 : decide ((0 : Int) < (k : Int)) = true := by simp; omega
  have q5 : IntKind.i64.wrap ((k : Int) - 1) = ((k - 1 : Nat) : Int) := by rw [aP] <;> omega
  by_cases hxy : y.f ≤ m.f
  · have q6 : decide (y.f ≤ m.f) = true := by simpa using hxy
    (try simp only [SS, TF82Form6, aA, Nat.reduceLT, Nat.reduceEqDiff, Nat.reduceAdd, reduceCtorEq, aZ, bT, hy, q4, q5, q6])
    refine ⟨by kernel_rfl, ?_⟩
    (try simp only [aI, SS, TF82Form6, aH, setRange, bS, aA, aO, bN, bG, aY, aE, Nat.reduceLT, Nat.reduceEqDiff, Nat.reduceAdd, Nat.reduceMul, Nat.reduceSub, Nat.reduceLeDiff, Nat.reduceBEq, reduceCtorEq])
    (refine hQ _ _ _ (aC (by first | exact .inl rfl | exact .inr rfl) ?_); simp only [SS, TF82Form6, Nat.reduceLT, Nat.reduceEqDiff, reduceCtorEq])
    rw [hf, hfd, hbf]; simp [hxy]
  · have q6 : decide (y.f ≤ m.f) = false := by simpa using hxy
    (try simp only [SS, TF82Form6, aA, Nat.reduceLT, Nat.reduceEqDiff, Nat.reduceAdd, reduceCtorEq, aZ, bT, hy, q4, q5, q6])
    refine ⟨by kernel_rfl, ?_⟩
    (try simp only [q2])
    refine ⟨⟨k + 1, hlt, ?_⟩, by simp; omega, (aF.drop (by simp [look, below]) (by simp [aB, aR]) (by simp [aB]))⟩
    rw [hf, hfd, hbf]; simp [hxy]

/-! a play -/
def playE (p e : List Nat) (l : List Mv) : Int := cH [pitchE p, eventE e, movesE l]
def F18 : List EVal → Option EVal
  | [.agg [.str p, .str e, .bool _, ms]] => if aU p = true ∧ aU e = true then (bH ms).map fun l => .int .i64 (playE p e l) else none
  | _ => none
theorem e79three {a b c : Int} : F79 [.lsl [[.int .i64 a], [.int .i64 b], [.int .i64 c]]] = some (.int .i64 (cH [a, b, c])) := e79 (l := [a, b, c]) (by simp)
theorem fn18 : FnT 18 F18 := by
  refine Fn.intro mixed aJ Tryz.func18 rfl [(79, F79), (80, F80), (81, F81), (82, F82)] (by simp only [List.forall_mem_cons]; exact ⟨fn79, fn80, fn81, fn82, fun _ h => by cases h⟩) ?_
  intro args v hF
  unfold F18 at hF
  split at hF
  rotate_left
  · cases hF
  intro Q hV
  have hQ := aW.of hV
  rename_i p e late ms
  split at hF
  rotate_left
  · cases hF
  rename_i hb
  cases ha : bH ms with
  | none => rw [ha] at hF; cases hF
  | some l =>
  rw [ha] at hF
  cases hF
  obtain ⟨rfl, hlen, hok⟩ := bE ha
  clear ha
  dsimp only at hQ hV
  have h80 : F80 [.str p] = some (.int .i64 (pitchE p)) := by simp only [F80]; rw [if_pos hb.1]
  have h81 : F81 [.str e] = some (.int .i64 (eventE e)) := by simp only [F81]; rw [if_pos hb.2]
  have h82 : F82 [.lsl (aG l)] = some (.int .i64 (movesE l)) := by simp only [F82, cB hlen hok, Option.map_some]
  refine Top.view (aF.start (n := 14) rfl (by simp)) (aD aJ _ _ _ _ ?_)
  (try simp only [aI, SS, aA, Nat.reduceLT])
  refine bA (Top.draw mixed aJ (by kernel_rfl) ?_)
  (try simp only [SS, TF18Form6, aH, setRange, bS, aE, Nat.reduceLT, Nat.reduceEqDiff, Nat.reduceAdd, Nat.reduceLeDiff, reduceCtorEq, h80, h81, h82, e79three])
  refine ⟨by kernel_rfl, ?_⟩
  (try simp only [aI, SS, TF18Form6, aH, setRange, bS, aA, aO, bN, bG, aY, aE, Nat.reduceLT, Nat.reduceEqDiff, Nat.reduceAdd, Nat.reduceMul, Nat.reduceSub, Nat.reduceLeDiff, Nat.reduceBEq, reduceCtorEq])
  (refine hQ _ _ _ (aC (by first | exact .inl rfl | exact .inr rfl) ?_); simp only [SS, TF18Form6, Nat.reduceLT, Nat.reduceEqDiff, reduceCtorEq])
  rfl

def F20 : List EVal → Option EVal
  | [.agg [.str p, .str e, .bool _, ms]] => (bH ms).map fun l => .int .i64 (playE p e l)
  | _ => none
theorem fn20 : FnT 20 F20 := by
  refine Fn.intro mixed aJ Tryz.func20 rfl [(23, F23), (84, F84), (85, F85)] (by simp only [List.forall_mem_cons]; exact ⟨fn23, fn84, fn85, fun _ h => by cases h⟩) ?_
  intro args v hF
  unfold F20 at hF
  split at hF
  rotate_left
  · cases hF
  intro Q hV
  have hQ := aW.of hV
  rename_i p e late ms
  cases ha : bH ms with
  | none => rw [ha] at hF; cases hF
  | some l =>
  rw [ha] at hF
  cases hF
  obtain ⟨rfl, hlen, hok⟩ := bE ha
  clear ha
  dsimp only at hQ hV
  have h84 : F84 [.str p] = some (.int .i64 (pitchE p)) := rfl
  have h85 : F85 [.str e] = some (.bool (decide (e = []) || isEv e)) := rfl
  refine Top.view (aF.start (n := 54) rfl (by simp)) (aD aJ _ _ _ _ ?_)
  cases h1 : (pitchE p == 0) with
  | false =>
    have h10 : pitchE p ≠ 0 := by simpa using h1
    (try simp only [aI, SS, TF20Form6, aH, aA, Nat.reduceLT, Nat.reduceEqDiff, reduceCtorEq, h84, h1])
    (refine hQ _ _ _ (aC (by first | exact .inl rfl | exact .inr rfl) ?_); simp only [SS, TF20Form6, Nat.reduceLT, Nat.reduceEqDiff, reduceCtorEq])
    simp [playE, cH, h10]
  | true =>
  have h10 : pitchE p = 0 := by simpa using h1
  cases h2 : (decide (e = []) || isEv e) with
  | false =>
    (try simp only [aI, SS, TF20Form6, aH, aA, Nat.reduceLT, Nat.reduceEqDiff, reduceCtorEq, h84, h1, h85, h2])
    (refine hQ _ _ _ (aC (by first | exact .inl rfl | exact .inr rfl) ?_); simp only [SS, TF20Form6, Nat.reduceLT, Nat.reduceEqDiff, reduceCtorEq])
    simp [playE, cH, h10, eventE, h2]
  | true =>
  by_cases h4 : 4 < l.length
  · have c1 : decide ((4 : Int) < (l.length : Int)) = true := by simp; omega
    (try simp only [aI, SS, TF20Form6, aH, aA, Nat.reduceLT, Nat.reduceEqDiff, reduceCtorEq, h84, h1, h85, h2, aL, c1])
    (refine hQ _ _ _ (aC (by first | exact .inl rfl | exact .inr rfl) ?_); simp only [SS, TF20Form6, Nat.reduceLT, Nat.reduceEqDiff, reduceCtorEq])
    simp [playE, cH, h10, eventE, h2, movesE, h4]
  have c1 : decide ((4 : Int) < (l.length : Int)) = false := by simp; omega
  have hE : playE p e l = mvGo none l := by
    simp [playE, cH, h10, eventE, h2, movesE, h4]
    intro h; exact h.symm
  rw [hE] at hQ
  clear hE
  (try simp only [aI, SS, TF20Form6, aH, aA, Nat.reduceLT, Nat.reduceEqDiff, reduceCtorEq, h84, h1, h85, h2, aL, c1])
  refine aT (Top.loop (I := fun s : { k : Nat // k ≤ l.length ∧ mvGo none l = mvGo (fromAt l k) (l.drop k) } => (mkF 54 [(4, .int .i64 (s.1 : Nat)), (1, .ptr 0 0)], mkH 1 [(0, some (.row [.str p, .str e, .bool late, .lsl (aG l)] 24 0 0 false))] 0 [])) (μ := fun s => l.length - s.1) ⟨0, by simp, rfl⟩ (aF.drop (by simp [look, below]) (by simp [aB, aR, below, aX]) (by simp [aB])) ?_)
  rintro ⟨k, hk, hf⟩
  refine aD aJ _ _ _ _ ?_
  by_cases hlt : k < l.length
  rotate_left
  · have q1 : decide ((k : Int) < (l.length : Int)) = false := by simp; omega
    (try simp only [SS, TF20Form6, aA, Nat.reduceLT, Nat.reduceEqDiff, reduceCtorEq, aL, q1])
    (refine hQ _ _ _ (aC (by first | exact .inl rfl | exact .inr rfl) ?_); simp only [SS, TF20Form6, Nat.reduceLT, Nat.reduceEqDiff])
    have : l.drop k = [] := List.drop_eq_nil_of_le (by omega)
    rw [hf, this]; rfl
  obtain ⟨m, hx⟩ : ∃ m, l[k]? = some m := ⟨l[k], List.getElem?_eq_getElem hlt⟩
  have hm := hok m (List.mem_of_getElem? hx)
  have h23 := e23 hm
  have hfd := mvGo_drop hx
  have q1 : decide ((k : Int) < (l.length : Int)) = true := by simp; omega
  have q2 : IntKind.i64.wrap ((k : Int) + 1) = ((k + 1 : Nat) : Int) := by rw [aP] <;> omega
  cases he : (mvE m == 0) with
  | false =>
    have he0 : mvE m ≠ 0 := by simpa using he
    (try simp only [SS, TF20Form6, aH, aA, Nat.reduceLT, Nat.reduceEqDiff, Nat.reduceAdd, reduceCtorEq, aL, q1, aZ, bT, hx, h23, he])
    (refine hQ _ _ _ (aC (by first | exact .inl rfl | exact .inr rfl) ?_); simp only [SS, TF20Form6, Nat.reduceLT, Nat.reduceEqDiff])
    rw [hf, hfd, if_pos he0]
  | true =>
  have he0 : ¬ mvE m ≠ 0 := by simpa using he
  rw [if_neg he0] at hfd
  (try simp only [SS, TF20Form6, aH, aA, Nat.reduceLT, Nat.reduceEqDiff, Nat.reduceAdd, reduceCtorEq, aL, q1, aZ, bT, hx, h23, he])
  refine bA (Top.draw mixed aJ (by kernel_rfl) ?_)
  by_cases hk0 : k = 0
  · have q4 : decide ((0 : Int) < (k : Int)) = false := by simp; omega
    (try simp only [SS, aA, Nat.reduceLT, Nat.reduceEqDiff, reduceCtorEq, q4])
    refine ⟨by kernel_rfl, ?_⟩
    (try simp only [q2])
    exact ⟨⟨k + 1, hlt, by rw [hf, hfd]; simp [fromAt, hk0]⟩, by simp; omega, (aF.drop (by simp [look, below]) (by simp [aB, aR, below, aX]) (by simp [aB]))⟩
  obtain ⟨y, hy⟩ : ∃ y, l[k - 1]? = some y := ⟨l[k - 1], List.getElem?_eq_getElem (by omega)⟩
  have hbf : fromAt l k = some y.f := by simp [fromAt, hk0, hy]
  have q4 : decide ((0 : Int) < (k : Int)) = true := by simp; omega
  have q5 : IntKind.i64.wrap ((k : Int) - 1) = ((k - 1 : Nat) : Int) := by rw [aP] <;> omega
  by_cases hxy : y.f ≤ m.f
  · have q6 : decide (y.f ≤ m.f) = true := by simpa using hxy
    (try simp only [SS, TF20Form6, aA, Nat.reduceLT, Nat.reduceEqDiff, Nat.reduceAdd, reduceCtorEq, aZ, bT, hx, hy, q4, q5, q6])
    refine ⟨by kernel_rfl, ?_⟩
    (try simp only [aI, SS, TF20Form6, aH, setRange, bS, aA, aO, bN, bG, aY, aE, Nat.reduceLT, Nat.reduceEqDiff, Nat.reduceAdd, Nat.reduceMul, Nat.reduceSub, Nat.reduceLeDiff, Nat.reduceBEq, reduceCtorEq])
    (refine hQ _ _ _ (aC (by first | exact .inl rfl | exact .inr rfl) ?_); simp only [SS, TF20Form6, Nat.reduceLT, Nat.reduceEqDiff])
    rw [hf, hfd, hbf]; simp [hxy]
  · have q6 : decide (y.f ≤ m.f) = false := by simpa using hxy
    (try simp only [SS, TF20Form6, aA, Nat.reduceLT, Nat.reduceEqDiff, Nat.reduceAdd, reduceCtorEq, aZ, bT, hx, hy, q4, q5, q6])
    refine ⟨by kernel_rfl, ?_⟩
    (try simp only [q2])
    refine ⟨⟨k + 1, hlt, ?_⟩, by simp; omega, (aF.drop (by simp [look, below]) (by simp [aB, aR, below, aX]) (by simp [aB]))⟩
    rw [hf, hfd, hbf]; simp [hxy]
end Go.Ev
