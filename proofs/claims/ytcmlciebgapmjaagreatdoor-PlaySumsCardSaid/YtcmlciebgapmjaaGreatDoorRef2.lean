import Derived.Test.YtcmlciebgapmjaaGreatDoorRef1
set_option linter.unusedSimpArgs false
set_option linter.unusedVariables false
namespace Go.Ev
open Go.RowKit Go.Proofs
set_option linter.defProp false
def TF50Ref2 := And.intro (And.intro (And.intro (And.intro (And.intro (And.intro (@Tryz.underlying3) (@sz3)) (And.intro (@bT) (@I3s))) (And.intro (And.intro (@I3b) (@bS)) (And.intro (@bV) (@Tryz.underlying4)))) (And.intro (And.intro (And.intro (@sz4) (@cV)) (And.intro (@I4s) (@I4b))) (And.intro (And.intro (@cU) (@cW)) (And.intro (@Tryz.underlying9) (And.intro (@sz9) (@cL)))))) (And.intro (And.intro (And.intro (And.intro (@I9s) (@I9b)) (And.intro (@cI) (@cM))) (And.intro (And.intro (@Tryz.underlying22) (@sz22)) (And.intro (@info22) (@I22s)))) (And.intro (And.intro (And.intro (@I22b) (@zero22)) (And.intro (@grow22) (@Tryz.underlying24))) (And.intro (And.intro (@sz24) (@fok24)) (And.intro (@info24) (And.intro (@I24s) (@I24b))))))) (And.intro (And.intro (And.intro (And.intro (And.intro (@zero24) (@grow24)) (And.intro (@Tryz.underlying25) (@dF))) (And.intro (And.intro (@bZ) (@dG)) (And.intro (@dH) (@bX)))) (And.intro (And.intro (And.intro (@cA) (@Tryz.underlying27)) (And.intro (@dQ) (@dB))) (And.intro (And.intro (@cN) (@dR)) (And.intro (@dS) (And.intro (@cK) (@cO)))))) (And.intro (And.intro (And.intro (And.intro (@Tryz.underlying30) (@sz30)) (And.intro (@info30) (@I30s))) (And.intro (And.intro (@I30b) (@zero30)) (And.intro (@grow30) (And.intro (@Tryz.underlying123) (@sz123))))) (And.intro (And.intro (And.intro (@info123) (@I123s)) (And.intro (@I123b) (@zero123))) (And.intro (And.intro (@grow123) (@call18)) (And.intro (@call120) (And.intro (@call121) (@Tryz.results50)))))))
def TF51Ref2 := And.intro (And.intro (And.intro (And.intro (And.intro (And.intro (@Tryz.underlying3) (@sz3)) (And.intro (@bT) (@I3s))) (And.intro (And.intro (@I3b) (@bS)) (And.intro (@bV) (@Tryz.underlying4)))) (And.intro (And.intro (And.intro (@sz4) (@cV)) (And.intro (@I4s) (@I4b))) (And.intro (And.intro (@cU) (@cW)) (And.intro (@Tryz.underlying9) (And.intro (@sz9) (@cL)))))) (And.intro (And.intro (And.intro (And.intro (@I9s) (@I9b)) (And.intro (@cI) (@cM))) (And.intro (And.intro (@Tryz.underlying22) (@sz22)) (And.intro (@info22) (@I22s)))) (And.intro (And.intro (And.intro (@I22b) (@zero22)) (And.intro (@grow22) (@Tryz.underlying24))) (And.intro (And.intro (@sz24) (@fok24)) (And.intro (@info24) (And.intro (@I24s) (@I24b))))))) (And.intro (And.intro (And.intro (And.intro (And.intro (@zero24) (@grow24)) (And.intro (@Tryz.underlying25) (@dF))) (And.intro (And.intro (@bZ) (@dG)) (And.intro (@dH) (@bX)))) (And.intro (And.intro (And.intro (@cA) (@Tryz.underlying27)) (And.intro (@dQ) (@dB))) (And.intro (And.intro (@cN) (@dR)) (And.intro (@dS) (And.intro (@cK) (@cO)))))) (And.intro (And.intro (And.intro (And.intro (@Tryz.underlying30) (@sz30)) (And.intro (@info30) (@I30s))) (And.intro (And.intro (@I30b) (@zero30)) (And.intro (@grow30) (And.intro (@Tryz.underlying123) (@sz123))))) (And.intro (And.intro (And.intro (@info123) (@I123s)) (And.intro (@I123b) (@zero123))) (And.intro (And.intro (@grow123) (@call18)) (And.intro (@call120) (And.intro (@call122) (@Tryz.results51)))))))
def TF52Ref2 := And.intro (And.intro (And.intro (And.intro (And.intro (@Tryz.underlying3) (And.intro (@sz3) (@bT))) (And.intro (And.intro (@I3s) (@I3b)) (And.intro (@bS) (@bV)))) (And.intro (And.intro (And.intro (@Tryz.underlying4) (@sz4)) (And.intro (@cV) (@I4s))) (And.intro (And.intro (@I4b) (@cU)) (And.intro (@cW) (@Tryz.underlying9))))) (And.intro (And.intro (And.intro (@sz9) (And.intro (@cL) (@I9s))) (And.intro (And.intro (@I9b) (@cI)) (And.intro (@cM) (@Tryz.underlying22)))) (And.intro (And.intro (And.intro (@sz22) (@info22)) (And.intro (@I22s) (@I22b))) (And.intro (And.intro (@zero22) (@grow22)) (And.intro (@Tryz.underlying24) (@sz24)))))) (And.intro (And.intro (And.intro (And.intro (@fok24) (And.intro (@info24) (@I24s))) (And.intro (And.intro (@I24b) (@zero24)) (And.intro (@grow24) (@Tryz.underlying25)))) (And.intro (And.intro (And.intro (@dF) (@bZ)) (And.intro (@dG) (@dH))) (And.intro (And.intro (@bX) (@cA)) (And.intro (@Tryz.underlying27) (@dQ))))) (And.intro (And.intro (And.intro (@dB) (And.intro (@cN) (@dR))) (And.intro (And.intro (@dS) (@cK)) (And.intro (@cO) (@Tryz.underlying30)))) (And.intro (And.intro (And.intro (@sz30) (@info30)) (And.intro (@I30s) (@I30b))) (And.intro (And.intro (@zero30) (@grow30)) (And.intro (@call18) (@Tryz.results52))))))
def TF120Ref2 := And.intro (And.intro (And.intro (And.intro (And.intro (@Tryz.underlying3) (@sz3)) (And.intro (@bT) (And.intro (@I3s) (@I3b)))) (And.intro (And.intro (@bS) (And.intro (@bV) (@Tryz.underlying4))) (And.intro (@sz4) (And.intro (@cV) (@I4s))))) (And.intro (And.intro (And.intro (@I4b) (@cU)) (And.intro (@cW) (And.intro (@Tryz.underlying9) (@sz9)))) (And.intro (And.intro (@cL) (And.intro (@I9s) (@I9b))) (And.intro (@cI) (And.intro (@cM) (@Tryz.underlying22)))))) (And.intro (And.intro (And.intro (And.intro (@sz22) (@info22)) (And.intro (@I22s) (And.intro (@I22b) (@zero22)))) (And.intro (And.intro (@grow22) (And.intro (@Tryz.underlying25) (@dF))) (And.intro (@bZ) (And.intro (@dG) (@dH))))) (And.intro (And.intro (And.intro (@bX) (@cA)) (And.intro (@Tryz.underlying27) (And.intro (@dQ) (@dB)))) (And.intro (And.intro (@cN) (And.intro (@dR) (@dS))) (And.intro (@cK) (And.intro (@cO) (@Tryz.results120))))))
def TF121Ref2 := And.intro (And.intro (And.intro (And.intro (And.intro (@Tryz.underlying3) (@sz3)) (And.intro (@bT) (@I3s))) (And.intro (And.intro (@I3b) (@bS)) (And.intro (@bV) (And.intro (@Tryz.underlying4) (@sz4))))) (And.intro (And.intro (And.intro (@cV) (@I4s)) (And.intro (@I4b) (@cU))) (And.intro (And.intro (@cW) (@Tryz.underlying9)) (And.intro (@sz9) (And.intro (@cL) (@I9s)))))) (And.intro (And.intro (And.intro (And.intro (@I9b) (@cI)) (And.intro (@cM) (@Tryz.underlying25))) (And.intro (And.intro (@dF) (@bZ)) (And.intro (@dG) (And.intro (@dH) (@bX))))) (And.intro (And.intro (And.intro (@cA) (@Tryz.underlying27)) (And.intro (@dQ) (And.intro (@dB) (@cN)))) (And.intro (And.intro (@dR) (@dS)) (And.intro (@cK) (And.intro (@cO) (@Tryz.results121))))))
def TF122Ref2 := And.intro (And.intro (And.intro (And.intro (And.intro (@Tryz.underlying3) (@sz3)) (And.intro (@bT) (@I3s))) (And.intro (And.intro (@I3b) (@bS)) (And.intro (@bV) (And.intro (@Tryz.underlying4) (@sz4))))) (And.intro (And.intro (And.intro (@cV) (@I4s)) (And.intro (@I4b) (@cU))) (And.intro (And.intro (@cW) (@Tryz.underlying9)) (And.intro (@sz9) (And.intro (@cL) (@I9s)))))) (And.intro (And.intro (And.intro (And.intro (@I9b) (@cI)) (And.intro (@cM) (@Tryz.underlying25))) (And.intro (And.intro (@dF) (@bZ)) (And.intro (@dG) (And.intro (@dH) (@bX))))) (And.intro (And.intro (And.intro (@cA) (@Tryz.underlying27)) (And.intro (@dQ) (And.intro (@dB) (@cN)))) (And.intro (And.intro (@dR) (@dS)) (And.intro (@cK) (And.intro (@cO) (@Tryz.results122))))))
set_option maxRecDepth 20000
set_option maxHeartbeats 4000000

/-! outs and runs, filtered -/
def isO (m : Mv) : Bool := m.o
def isR (m : Mv) : Bool := !m.o && (m.t == 4)
theorem lensOK_eMoves (l : List Mv) : lensOK 5 (bF l) = true := by simp [lensOK, bF, eMove]
theorem eMoves_snoc (l : List Mv) (m : Mv) : bF l ++ [[.int .i64 m.f, .int .i64 m.t, .bool m.o, .str m.h, .lsl (bJ m.b)]] = bF (l ++ [m]) := by simp [bF, eMove]
def F121 : List EVal → Option EVal
  | [.agg [.int .i64 _, .int .i64 _, .bool o, .str _, .lsl _]] => some (.bool o)
  | _ => none
theorem e121 {f t : Int} {o : Bool} {h : List Nat} {b : List (List EVal)} : F121 [.agg [.int .i64 f, .int .i64 t, .bool o, .str h, .lsl b]] = some (.bool o) := rfl
theorem fn121 : FnT 121 F121 := by
  refine Fn.intro mixed bA Tryz.func121 rfl [] (fun _ h => by cases h) ?_
  intro args v hF
  unfold F121 at hF
  split at hF
  rotate_left
  · cases hF
  intro Q hV
  have hQ := bL.of hV
  rename_i o h b
  cases hF
  refine Top.view (aX.start (n := 5) rfl (by simp)) (aS bA _ _ _ _ ?_)
  ((try simp only [aO, SS, TF121Ref2, aM, setRange, aN, aC, aB, aF, aE, aD, aA, Nat.reduceLT, Nat.reduceEqDiff, Nat.reduceAdd, Nat.reduceMul, Nat.reduceSub, Nat.reduceLeDiff, Nat.reduceBEq, reduceCtorEq]); (repeat' ((first | apply aJ | apply aI | apply aL | apply aK | apply aH | apply aG) <;> intro h <;> simp only [h, SS, TF121Ref2, aM, setRange, aN, aC, aB, aF, aE, aD, aA, Nat.reduceLT, Nat.reduceEqDiff, Nat.reduceAdd, Nat.reduceMul, Nat.reduceSub, Nat.reduceLeDiff, Nat.reduceBEq, reduceCtorEq])))
  (refine hQ _ _ _ (aR (by first | exact .inl rfl | exact .inr rfl) ?_); simp only [SS, TF121Ref2, aM, setRange, aN, aC, aB, aF, aE, aD, aA, Nat.reduceLT, Nat.reduceEqDiff, Nat.reduceAdd, Nat.reduceMul, Nat.reduceSub, Nat.reduceLeDiff, Nat.reduceBEq, reduceCtorEq])
def F122 : List EVal → Option EVal
  | [.agg [.int .i64 _, .int .i64 t, .bool o, .str _, .lsl _]] => some (.bool (!o && (t == 4)))
  | _ => none
theorem e122 {f t : Int} {o : Bool} {h : List Nat} {b : List (List EVal)} : F122 [.agg [.int .i64 f, .int .i64 t, .bool o, .str h, .lsl b]] = some (.bool (!o && (t == 4))) := rfl
theorem fn122 : FnT 122 F122 := by
  refine Fn.intro mixed bA Tryz.func122 rfl [] (fun _ h => by cases h) ?_
  intro args v hF
  unfold F122 at hF
  split at hF
  rotate_left
  · cases hF
  intro Q hV
  have hQ := bL.of hV
  rename_i t o h b
  cases hF
  refine Top.view (aX.start (n := 11) rfl (by simp)) (aS bA _ _ _ _ ?_)
  cases o with
  | true =>
    ((try simp only [aO, SS, TF122Ref2, aM, setRange, aN, aC, aB, aF, aE, aD, aA, Nat.reduceLT, Nat.reduceEqDiff, Nat.reduceAdd, Nat.reduceMul, Nat.reduceSub, Nat.reduceLeDiff, Nat.reduceBEq, reduceCtorEq]); (repeat' ((first | apply aJ | apply aI | apply aL | apply aK | apply aH | apply aG) <;> intro h <;> simp only [h, SS, TF122Ref2, aM, setRange, aN, aC, aB, aF, aE, aD, aA, Nat.reduceLT, Nat.reduceEqDiff, Nat.reduceAdd, Nat.reduceMul, Nat.reduceSub, Nat.reduceLeDiff, Nat.reduceBEq, reduceCtorEq])))
    (refine hQ _ _ _ (aR (by first | exact .inl rfl | exact .inr rfl) ?_); simp only [SS, TF122Ref2, aM, setRange, aN, aC, aB, aF, aE, aD, aA, Nat.reduceLT, Nat.reduceEqDiff, Nat.reduceAdd, Nat.reduceMul, Nat.reduceSub, Nat.reduceLeDiff, Nat.reduceBEq, reduceCtorEq])
  | false =>
    ((try simp only [aO, SS, TF122Ref2, aM, setRange, aN, aC, aB, aF, aE, aD, aA, Nat.reduceLT, Nat.reduceEqDiff, Nat.reduceAdd, Nat.reduceMul, Nat.reduceSub, Nat.reduceLeDiff, Nat.reduceBEq, reduceCtorEq]); (repeat' ((first | apply aJ | apply aI | apply aL | apply aK | apply aH | apply aG) <;> intro h <;> simp only [h, SS, TF122Ref2, aM, setRange, aN, aC, aB, aF, aE, aD, aA, Nat.reduceLT, Nat.reduceEqDiff, Nat.reduceAdd, Nat.reduceMul, Nat.reduceSub, Nat.reduceLeDiff, Nat.reduceBEq, reduceCtorEq])))
    (refine hQ _ _ _ (aR (by first | exact .inl rfl | exact .inr rfl) ?_); simp only [SS, TF122Ref2, aM, setRange, aN, aC, aB, aF, aE, aD, aA, Nat.reduceLT, Nat.reduceEqDiff, Nat.reduceAdd, Nat.reduceMul, Nat.reduceSub, Nat.reduceLeDiff, Nat.reduceBEq, reduceCtorEq])
def F120_121 : List EVal → Option EVal
  | [ms, .func 121 []] => (bR ms).bind fun l => if l.length ≤ 300 then some (.lsl (bF (l.filter isO))) else none
  | _ => none
theorem fn120_121 : FnT 120 F120_121 := by
  refine Fn.intro mixed bA Tryz.func120 rfl [(121, F121), (122, F122)] (by simp only [List.forall_mem_cons]; exact ⟨fn121, fn122, fun _ h => by cases h⟩) ?_
  intro args v hF
  unfold F120_121 at hF
  split at hF
  rotate_left
  · cases hF
  intro Q hV
  have hQ := bL.of hV
  rename_i ms
  cases ha : bR ms with
  | none => rw [ha] at hF; cases hF
  | some l =>
  rw [ha] at hF
  simp only [Option.bind_some] at hF
  split at hF
  rotate_left
  · cases hF
  rename_i h300
  cases hF
  obtain ⟨rfl, hlen, hok⟩ := bU ha
  clear ha
  have hp2 : ∀ {m : Mv} {q : Bool}, isO m = q → m.o = q := fun h => h
  refine Top.view (aX.start (n := 23) rfl (by simp)) (aS bA _ _ _ _ ?_)
  ((try simp only [aO, SS, TF120Ref2, aM, setRange, aN, aC, aB, aF, aE, aD, aA, Nat.reduceLT, Nat.reduceEqDiff, Nat.reduceAdd, Nat.reduceMul, Nat.reduceSub, Nat.reduceLeDiff, Nat.reduceBEq, reduceCtorEq, aP]); (repeat' ((first | apply aJ | apply aI | apply aL | apply aK | apply aH | apply aG) <;> intro h <;> simp only [h, SS, TF120Ref2, aM, setRange, aN, aC, aB, aF, aE, aD, aA, Nat.reduceLT, Nat.reduceEqDiff, Nat.reduceAdd, Nat.reduceMul, Nat.reduceSub, Nat.reduceLeDiff, Nat.reduceBEq, reduceCtorEq, aP])))
  refine bH (Top.loop (I := fun s : { k : Nat // k ≤ l.length } => (mkF 23 [(10, .int .i64 (s.1 : Nat)), (9, .int .i64 (l.length : Int)), (8, .lsl (bF l)), (5, .gsl 0 (bF ((l.take s.1).filter isO))), (1, .func 121 [])], mkH 0 [] 1 [(0, some (((l.take s.1).filter isO).length, 27))])) (μ := fun s => l.length - s.1) ⟨0, by omega⟩ (aX.trans (aX.grow 5 27 (by omega) (by omega) (by simp [look])) (aX.sub (by simp [look, bF]))) ?_)
  rintro ⟨k, hk⟩
  refine aS bA _ _ _ _ ?_
  by_cases hlt : k < l.length
  rotate_left
  · obtain rfl : k = l.length := by omega
    have q1 : decide ((l.length : Int) < (l.length : Int)) = false := by simp
    rw [List.take_length]
    ((try simp only [aO, SS, TF120Ref2, aM, setRange, aN, aC, aB, aF, aE, aD, aA, Nat.reduceLT, Nat.reduceEqDiff, Nat.reduceAdd, Nat.reduceMul, Nat.reduceSub, Nat.reduceLeDiff, Nat.reduceBEq, reduceCtorEq, q1]); (repeat' ((first | apply aJ | apply aI | apply aL | apply aK | apply aH | apply aG) <;> intro h <;> simp only [h, SS, TF120Ref2, aM, setRange, aN, aC, aB, aF, aE, aD, aA, Nat.reduceLT, Nat.reduceEqDiff, Nat.reduceAdd, Nat.reduceMul, Nat.reduceSub, Nat.reduceLeDiff, Nat.reduceBEq, reduceCtorEq, q1])))
    (refine hQ _ _ _ (aR (by first | exact .inl rfl | exact .inr rfl) ?_); simp only [SS, TF120Ref2, aM, setRange, aN, aC, aB, aF, aE, aD, aA, Nat.reduceLT, Nat.reduceEqDiff, Nat.reduceAdd, Nat.reduceMul, Nat.reduceSub, Nat.reduceLeDiff, Nat.reduceBEq, reduceCtorEq])
  obtain ⟨m, hx⟩ : ∃ m, l[k]? = some m := ⟨l[k], List.getElem?_eq_getElem hlt⟩
  have q1 : decide ((k : Int) < (l.length : Int)) = true := by simp; omega
  have q2 : IntKind.i64.wrap ((k : Int) + 1) = ((k + 1 : Nat) : Int) := by rw [bE] <;> omega
  have hle : ((l.take k).filter isO).length ≤ 300 := by
    have h1 := List.length_filter_le isO (l.take k)
    rw [List.length_take] at h1
    omega
  have q3 : 64 * (((l.take k).filter isO).length + 1) ≤ 1000000 := by omega
  have htk : (l.take (k + 1)).filter isO = (l.take k).filter isO ++ (if isO m = true then [m] else []) := by
    rw [List.take_add_one, hx, List.filter_append]
    simp only [Option.toList_some, List.filter_cons, List.filter_nil]
  cases hp : isO m with
  | true =>
    rw [hp, if_pos rfl] at htk
    have hcall : F121 [.agg [.int .i64 m.f, .int .i64 m.t, .bool m.o, .str m.h, .lsl (bJ m.b)]] = some (.bool true) := by rw [e121, hp2 hp]
    ((try simp only [aO, SS, TF120Ref2, aM, setRange, aN, aC, aB, aF, aE, aD, aA, Nat.reduceLT, Nat.reduceEqDiff, Nat.reduceAdd, Nat.reduceMul, Nat.reduceSub, Nat.reduceLeDiff, Nat.reduceBEq, reduceCtorEq, q1, q2, aW, bC, hx, call121, hcall, q3, aP, lensOK_eMoves, eMoves_snoc]); (repeat' ((first | apply aJ | apply aI | apply aL | apply aK | apply aH | apply aG) <;> intro h <;> simp only [h, SS, TF120Ref2, aM, setRange, aN, aC, aB, aF, aE, aD, aA, Nat.reduceLT, Nat.reduceEqDiff, Nat.reduceAdd, Nat.reduceMul, Nat.reduceSub, Nat.reduceLeDiff, Nat.reduceBEq, reduceCtorEq, q1, q2, aW, bC, hx, call121, hcall, q3, aP, lensOK_eMoves, eMoves_snoc])))
    refine ⟨⟨k + 1, hlt⟩, by simp; omega, ?_⟩
    simp only [htk, List.length_append, List.length_cons, List.length_nil, Nat.zero_add]
    exact (aX.drop (by simp [look, below, aT]) (by simp [aU, bG, below, aT, aV]) (by simp [aU]))
  | false =>
    rw [hp, if_neg (by simp), List.append_nil] at htk
    have hcall : F121 [.agg [.int .i64 m.f, .int .i64 m.t, .bool m.o, .str m.h, .lsl (bJ m.b)]] = some (.bool false) := by rw [e121, hp2 hp]
    ((try simp only [aO, SS, TF120Ref2, aM, setRange, aN, aC, aB, aF, aE, aD, aA, Nat.reduceLT, Nat.reduceEqDiff, Nat.reduceAdd, Nat.reduceMul, Nat.reduceSub, Nat.reduceLeDiff, Nat.reduceBEq, reduceCtorEq, q1, q2, aW, bC, hx, call121, hcall]); (repeat' ((first | apply aJ | apply aI | apply aL | apply aK | apply aH | apply aG) <;> intro h <;> simp only [h, SS, TF120Ref2, aM, setRange, aN, aC, aB, aF, aE, aD, aA, Nat.reduceLT, Nat.reduceEqDiff, Nat.reduceAdd, Nat.reduceMul, Nat.reduceSub, Nat.reduceLeDiff, Nat.reduceBEq, reduceCtorEq, q1, q2, aW, bC, hx, call121, hcall])))
    refine ⟨⟨k + 1, hlt⟩, by simp; omega, ?_⟩
    simp only [htk]
    exact (aX.drop (by simp [look, below, aT]) (by simp [aU, bG, below, aT, aV]) (by simp [aU]))

def F120_122 : List EVal → Option EVal
  | [ms, .func 122 []] => (bR ms).bind fun l => if l.length ≤ 300 then some (.lsl (bF (l.filter isR))) else none
  | _ => none
theorem fn120_122 : FnT 120 F120_122 := by
  refine Fn.intro mixed bA Tryz.func120 rfl [(121, F121), (122, F122)] (by simp only [List.forall_mem_cons]; exact ⟨fn121, fn122, fun _ h => by cases h⟩) ?_
  intro args v hF
  unfold F120_122 at hF
  split at hF
  rotate_left
  · cases hF
  intro Q hV
  have hQ := bL.of hV
  rename_i ms
  cases ha : bR ms with
  | none => rw [ha] at hF; cases hF
  | some l =>
  rw [ha] at hF
  simp only [Option.bind_some] at hF
  split at hF
  rotate_left
  · cases hF
  rename_i h300
  cases hF
  obtain ⟨rfl, hlen, hok⟩ := bU ha
  clear ha
  have hp2 : ∀ {m : Mv} {q : Bool}, isR m = q → (!m.o && (m.t == 4)) = q := fun h => h
  refine Top.view (aX.start (n := 23) rfl (by simp)) (aS bA _ _ _ _ ?_)
  ((try simp only [aO, SS, TF120Ref2, aM, setRange, aN, aC, aB, aF, aE, aD, aA, Nat.reduceLT, Nat.reduceEqDiff, Nat.reduceAdd, Nat.reduceMul, Nat.reduceSub, Nat.reduceLeDiff, Nat.reduceBEq, reduceCtorEq, aP]); (repeat' ((first | apply aJ | apply aI | apply aL | apply aK | apply aH | apply aG) <;> intro h <;> simp only [h, SS, TF120Ref2, aM, setRange, aN, aC, aB, aF, aE, aD, aA, Nat.reduceLT, Nat.reduceEqDiff, Nat.reduceAdd, Nat.reduceMul, Nat.reduceSub, Nat.reduceLeDiff, Nat.reduceBEq, reduceCtorEq, aP])))
  refine bH (Top.loop (I := fun s : { k : Nat // k ≤ l.length } => (mkF 23 [(10, .int .i64 (s.1 : Nat)), (9, .int .i64 (l.length : Int)), (8, .lsl (bF l)), (5, .gsl 0 (bF ((l.take s.1).filter isR))), (1, .func 122 [])], mkH 0 [] 1 [(0, some (((l.take s.1).filter isR).length, 27))])) (μ := fun s => l.length - s.1) ⟨0, by omega⟩ (aX.trans (aX.grow 5 27 (by omega) (by omega) (by simp [look])) (aX.sub (by simp [look, bF]))) ?_)
  rintro ⟨k, hk⟩
  refine aS bA _ _ _ _ ?_
  by_cases hlt : k < l.length
  rotate_left
  · obtain rfl : k = l.length := by omega
    have q1 : decide ((l.length : Int) < (l.length : Int)) = false := by simp
    rw [List.take_length]
    ((try simp only [aO, SS, TF120Ref2, aM, setRange, aN, aC, aB, aF, aE, aD, aA, Nat.reduceLT, Nat.reduceEqDiff, Nat.reduceAdd, Nat.reduceMul, Nat.reduceSub, Nat.reduceLeDiff, Nat.reduceBEq, reduceCtorEq, q1]); (repeat' ((first | apply aJ | apply aI | apply aL | apply aK | apply aH | apply aG) <;> intro h <;> simp only [h, SS, TF120Ref2, aM, setRange, aN, aC, aB, aF, aE, aD, aA, Nat.reduceLT, Nat.reduceEqDiff, Nat.reduceAdd, Nat.reduceMul, Nat.reduceSub, Nat.reduceLeDiff, Nat.reduceBEq, reduceCtorEq, q1])))
    (refine hQ _ _ _ (aR (by first | exact .inl rfl | exact .inr rfl) ?_); simp only [SS, TF120Ref2, aM, setRange, aN, aC, aB, aF, aE, aD, aA, Nat.reduceLT, Nat.reduceEqDiff, Nat.reduceAdd, Nat.reduceMul, Nat.reduceSub, Nat.reduceLeDiff, Nat.reduceBEq, reduceCtorEq])
  obtain ⟨m, hx⟩ : ∃ m, l[k]? = some m := ⟨l[k], List.getElem?_eq_getElem hlt⟩
  have q1 : decide ((k : Int) < (l.length : Int)) = true := by simp; omega
  have q2 : IntKind.i64.wrap ((k : Int) + 1) = ((k + 1 : Nat) : Int) := by rw [bE] <;> omega
  have hle : ((l.take k).filter isR).length ≤ 300 := by
    have h1 := List.length_filter_le isR (l.take k)
    rw [List.length_take] at h1
    omega
  have q3 : 64 * (((l.take k).filter isR).length + 1) ≤ 1000000 := by omega
  have htk : (l.take (k + 1)).filter isR = (l.take k).filter isR ++ (if isR m = true then [m] else []) := by
    rw [List.take_add_one, hx, List.filter_append]
    simp only [Option.toList_some, List.filter_cons, List.filter_nil]
  cases hp : isR m with
  | true =>
    rw [hp, if_pos rfl] at htk
    have hcall : F122 [.agg [.int .i64 m.f, .int .i64 m.t, .bool m.o, .str m.h, .lsl (bJ m.b)]] = some (.bool true) := by rw [e122, hp2 hp]
    ((try simp only [aO, SS, TF120Ref2, aM, setRange, aN, aC, aB, aF, aE, aD, aA, Nat.reduceLT, Nat.reduceEqDiff, Nat.reduceAdd, Nat.reduceMul, Nat.reduceSub, Nat.reduceLeDiff, Nat.reduceBEq, reduceCtorEq, q1, q2, aW, bC, hx, call122, hcall, q3, aP, lensOK_eMoves, eMoves_snoc]); (repeat' ((first | apply aJ | apply aI | apply aL | apply aK | apply aH | apply aG) <;> intro h <;> simp only [h, SS, TF120Ref2, aM, setRange, aN, aC, aB, aF, aE, aD, aA, Nat.reduceLT, Nat.reduceEqDiff, Nat.reduceAdd, Nat.reduceMul, Nat.reduceSub, Nat.reduceLeDiff, Nat.reduceBEq, reduceCtorEq, q1, q2, aW, bC, hx, call122, hcall, q3, aP, lensOK_eMoves, eMoves_snoc])))
    refine ⟨⟨k + 1, hlt⟩, by simp; omega, ?_⟩
    simp only [htk, List.length_append, List.length_cons, List.length_nil, Nat.zero_add]
    exact (aX.drop (by simp [look, below, aT]) (by simp [aU, bG, below, aT, aV]) (by simp [aU]))
  | false =>
    rw [hp, if_neg (by simp), List.append_nil] at htk
    have hcall : F122 [.agg [.int .i64 m.f, .int .i64 m.t, .bool m.o, .str m.h, .lsl (bJ m.b)]] = some (.bool false) := by rw [e122, hp2 hp]
    ((try simp only [aO, SS, TF120Ref2, aM, setRange, aN, aC, aB, aF, aE, aD, aA, Nat.reduceLT, Nat.reduceEqDiff, Nat.reduceAdd, Nat.reduceMul, Nat.reduceSub, Nat.reduceLeDiff, Nat.reduceBEq, reduceCtorEq, q1, q2, aW, bC, hx, call122, hcall]); (repeat' ((first | apply aJ | apply aI | apply aL | apply aK | apply aH | apply aG) <;> intro h <;> simp only [h, SS, TF120Ref2, aM, setRange, aN, aC, aB, aF, aE, aD, aA, Nat.reduceLT, Nat.reduceEqDiff, Nat.reduceAdd, Nat.reduceMul, Nat.reduceSub, Nat.reduceLeDiff, Nat.reduceBEq, reduceCtorEq, q1, q2, aW, bC, hx, call122, hcall])))
    refine ⟨⟨k + 1, hlt⟩, by simp; omega, ?_⟩
    simp only [htk]
    exact (aX.drop (by simp [look, below, aT]) (by simp [aU, bG, below, aT, aV]) (by simp [aU]))


def F120 : List EVal → Option EVal := fun a => (F120_121 a).or (F120_122 a)
theorem fn120 : FnT 120 F120 := by
  refine Fn.or fun a v h => ?_
  unfold F120 at h
  cases h1 : F120_121 a with
  | some u => rw [h1] at h; exact ⟨F120_121, fn120_121, by rw [h1]; exact h⟩
  | none => rw [h1] at h; exact ⟨F120_122, fn120_122, h⟩

theorem outs_len (l : List Mv) : bW outM l = ((l.filter isO).length : Int) := by
  induction l with
  | nil => rfl
  | cons m l ih =>
    simp only [bW, List.filter_cons, ih]
    cases h : m.o <;> simp [outM, isO, h] <;> omega
theorem runs_len (l : List Mv) : bW dN l = ((l.filter isR).length : Int) := by
  induction l with
  | nil => rfl
  | cons m l ih =>
    simp only [bW, List.filter_cons, ih]
    cases h : m.o <;> by_cases h2 : m.t = 4 <;> simp [dN, isR, h, h2] <;> omega
theorem playE_zero {p e : List Nat} {l : List Mv} (h : playE p e l = 0) : pitchE p = 0 ∧ eventE e = 0 ∧ movesE l = 0 := by
  simp only [playE, cD] at h
  by_cases h1 : pitchE p = 0 <;> by_cases h2 : eventE e = 0 <;> by_cases h3 : movesE l = 0 <;> simp [h1, h2, h3] at h ⊢
theorem mvGo_zero : ∀ {l : List Mv} {p : Option Int}, mvGo p l = 0 → ∀ m ∈ l, mvE m = 0
  | [], _, _, _, hm => by cases hm
  | m :: l, p, h, x, hx => by
    simp only [mvGo] at h
    split at h
    · rename_i h1; exact absurd h h1
    · rename_i h1
      split at h
      · cases h
      · rcases List.mem_cons.1 hx with rfl | hx
        · simpa using h1
        · exact mvGo_zero h x hx
theorem movesE_zero {l : List Mv} (h : movesE l = 0) : l.length ≤ 4 ∧ ∀ m ∈ l, mvE m = 0 := by
  unfold movesE at h
  split at h
  · cases h
  · exact ⟨by omega, mvGo_zero h⟩
theorem mvE_base {m : Mv} (h : mvE m = 0) : baseMv m = true := by
  unfold mvE moveE at h
  simp only [cD] at h
  unfold baseMv
  by_cases hf : 0 ≤ m.f ∧ m.f ≤ 3
  · by_cases ht : 1 ≤ m.t ∧ m.t ≤ 4
    · simp; omega
    · rw [rangeE_in hf, rangeE_out ht] at h; simp at h
  · rw [rangeE_out hf] at h; simp at h
/-- a play's number, and its error -/
def cntP (p e : List Nat) (l : List Mv) (n : Int) : EVal := if playE p e l = 0 then .tup [.int .i64 n, .int .i64 0] else .tup [.int .i64 0, .int .i64 (playE p e l)]
def F50 : List EVal → Option EVal
  | [.agg [.str p, .str e, .bool _, ms]] => if cY p = true ∧ cY e = true then (bR ms).map fun l => cntP p e l (bW outM l) else none
  | _ => none
def F51 : List EVal → Option EVal
  | [.agg [.str p, .str e, .bool _, ms]] => if cY p = true ∧ cY e = true then (bR ms).map fun l => cntP p e l (bW dN l) else none
  | _ => none
theorem e18 {p e : List Nat} {late : Bool} {l : List Mv} (hb : cY p = true ∧ cY e = true) (hlen : l.length < 9223372036854775808) (hok : ∀ m ∈ l, okMv m) : F18 [.agg [.str p, .str e, .bool late, .lsl (bF l)]] = some (.int .i64 (playE p e l)) := by
  simp only [F18]; rw [if_pos hb, dMoves_e hlen hok]; rfl
theorem fn50 : FnT 50 F50 := by
  refine Fn.intro mixed bA Tryz.func50 rfl [(18, F18), (120, F120)] (by simp only [List.forall_mem_cons]; exact ⟨fn18, fn120, fun _ h => by cases h⟩) ?_
  intro args v hF
  unfold F50 at hF
  split at hF
  rotate_left
  · cases hF
  intro Q hV
  have hQ := bL.of hV
  rename_i p e late ms
  split at hF
  rotate_left
  · cases hF
  rename_i hb
  cases ha : bR ms with
  | none => rw [ha] at hF; cases hF
  | some l =>
  rw [ha] at hF
  cases hF
  obtain ⟨rfl, hlen, hok⟩ := bU ha
  clear ha
  dsimp only at hQ hV
  have h18 := e18 (late := late) hb hlen hok
  refine Top.view (aX.start (n := 14) rfl (by simp)) (aS bA _ _ _ _ ?_)
  cases hz : (playE p e l == 0) with
  | false =>
    have hz0 : ¬ playE p e l = 0 := by simpa using hz
    ((try simp only [aO, SS, TF50Ref2, aM, setRange, aN, aC, aB, aF, aE, aD, aA, Nat.reduceLT, Nat.reduceEqDiff, Nat.reduceAdd, Nat.reduceMul, Nat.reduceSub, Nat.reduceLeDiff, Nat.reduceBEq, reduceCtorEq, h18, hz]); (repeat' ((first | apply aJ | apply aI | apply aL | apply aK | apply aH | apply aG) <;> intro h <;> simp only [h, SS, TF50Ref2, aM, setRange, aN, aC, aB, aF, aE, aD, aA, Nat.reduceLT, Nat.reduceEqDiff, Nat.reduceAdd, Nat.reduceMul, Nat.reduceSub, Nat.reduceLeDiff, Nat.reduceBEq, reduceCtorEq, h18, hz])))
    (refine hQ _ _ _ (aR (by first | exact .inl rfl | exact .inr rfl) ?_); simp only [SS, TF50Ref2, aM, setRange, aN, aC, aB, aF, aE, aD, aA, Nat.reduceLT, Nat.reduceEqDiff, Nat.reduceAdd, Nat.reduceMul, Nat.reduceSub, Nat.reduceLeDiff, Nat.reduceBEq, reduceCtorEq])
    simp only [cntP, hz0, if_false]
  | true =>
    have hz0 : playE p e l = 0 := by simpa using hz
    have h4 := (movesE_zero (playE_zero hz0).2.2).1
    have h120 : F120 [.lsl (bF l), .func 121 []] = some (.lsl (bF (l.filter isO))) := by
      simp only [F120, F120_121, F120_122, dMoves_e hlen hok, Option.bind_some]
      rw [if_pos (by omega)]; rfl
    ((try simp only [aO, SS, TF50Ref2, aM, setRange, aN, aC, aB, aF, aE, aD, aA, Nat.reduceLT, Nat.reduceEqDiff, Nat.reduceAdd, Nat.reduceMul, Nat.reduceSub, Nat.reduceLeDiff, Nat.reduceBEq, reduceCtorEq, h18, hz, call121, h120, aP]); (repeat' ((first | apply aJ | apply aI | apply aL | apply aK | apply aH | apply aG) <;> intro h <;> simp only [h, SS, TF50Ref2, aM, setRange, aN, aC, aB, aF, aE, aD, aA, Nat.reduceLT, Nat.reduceEqDiff, Nat.reduceAdd, Nat.reduceMul, Nat.reduceSub, Nat.reduceLeDiff, Nat.reduceBEq, reduceCtorEq, h18, hz, call121, h120, aP])))
    (refine hQ _ _ _ (aR (by first | exact .inl rfl | exact .inr rfl) ?_); simp only [SS, TF50Ref2, aM, setRange, aN, aC, aB, aF, aE, aD, aA, Nat.reduceLT, Nat.reduceEqDiff, Nat.reduceAdd, Nat.reduceMul, Nat.reduceSub, Nat.reduceLeDiff, Nat.reduceBEq, reduceCtorEq])
    simp only [cntP, hz0, if_true, outs_len]
theorem fn51 : FnT 51 F51 := by
  refine Fn.intro mixed bA Tryz.func51 rfl [(18, F18), (120, F120)] (by simp only [List.forall_mem_cons]; exact ⟨fn18, fn120, fun _ h => by cases h⟩) ?_
  intro args v hF
  unfold F51 at hF
  split at hF
  rotate_left
  · cases hF
  intro Q hV
  have hQ := bL.of hV
  rename_i p e late ms
  split at hF
  rotate_left
  · cases hF
  rename_i hb
  cases ha : bR ms with
  | none => rw [ha] at hF; cases hF
  | some l =>
  rw [ha] at hF
  cases hF
  obtain ⟨rfl, hlen, hok⟩ := bU ha
  clear ha
  dsimp only at hQ hV
  have h18 := e18 (late := late) hb hlen hok
  refine Top.view (aX.start (n := 14) rfl (by simp)) (aS bA _ _ _ _ ?_)
  cases hz : (playE p e l == 0) with
  | false =>
    have hz0 : ¬ playE p e l = 0 := by simpa using hz
    ((try simp only [aO, SS, TF51Ref2, aM, setRange, aN, aC, aB, aF, aE, aD, aA, Nat.reduceLT, Nat.reduceEqDiff, Nat.reduceAdd, Nat.reduceMul, Nat.reduceSub, Nat.reduceLeDiff, Nat.reduceBEq, reduceCtorEq, h18, hz]); (repeat' ((first | apply aJ | apply aI | apply aL | apply aK | apply aH | apply aG) <;> intro h <;> simp only [h, SS, TF51Ref2, aM, setRange, aN, aC, aB, aF, aE, aD, aA, Nat.reduceLT, Nat.reduceEqDiff, Nat.reduceAdd, Nat.reduceMul, Nat.reduceSub, Nat.reduceLeDiff, Nat.reduceBEq, reduceCtorEq, h18, hz])))
    (refine hQ _ _ _ (aR (by first | exact .inl rfl | exact .inr rfl) ?_); simp only [SS, TF51Ref2, aM, setRange, aN, aC, aB, aF, aE, aD, aA, Nat.reduceLT, Nat.reduceEqDiff, Nat.reduceAdd, Nat.reduceMul, Nat.reduceSub, Nat.reduceLeDiff, Nat.reduceBEq, reduceCtorEq])
    simp only [cntP, hz0, if_false]
  | true =>
    have hz0 : playE p e l = 0 := by simpa using hz
    have h4 := (movesE_zero (playE_zero hz0).2.2).1
    have h120 : F120 [.lsl (bF l), .func 122 []] = some (.lsl (bF (l.filter isR))) := by
      simp only [F120, F120_121, F120_122, dMoves_e hlen hok, Option.bind_some]
      rw [if_pos (by omega)]; rfl
    ((try simp only [aO, SS, TF51Ref2, aM, setRange, aN, aC, aB, aF, aE, aD, aA, Nat.reduceLT, Nat.reduceEqDiff, Nat.reduceAdd, Nat.reduceMul, Nat.reduceSub, Nat.reduceLeDiff, Nat.reduceBEq, reduceCtorEq, h18, hz, call122, h120, aP]); (repeat' ((first | apply aJ | apply aI | apply aL | apply aK | apply aH | apply aG) <;> intro h <;> simp only [h, SS, TF51Ref2, aM, setRange, aN, aC, aB, aF, aE, aD, aA, Nat.reduceLT, Nat.reduceEqDiff, Nat.reduceAdd, Nat.reduceMul, Nat.reduceSub, Nat.reduceLeDiff, Nat.reduceBEq, reduceCtorEq, h18, hz, call122, h120, aP])))
    (refine hQ _ _ _ (aR (by first | exact .inl rfl | exact .inr rfl) ?_); simp only [SS, TF51Ref2, aM, setRange, aN, aC, aB, aF, aE, aD, aA, Nat.reduceLT, Nat.reduceEqDiff, Nat.reduceAdd, Nat.reduceMul, Nat.reduceSub, Nat.reduceLeDiff, Nat.reduceBEq, reduceCtorEq])
    simp only [cntP, hz0, if_true, runs_len]

def F52 : List EVal → Option EVal
  | [.agg [.str p, .str e, .bool _, ms]] => if cY p = true ∧ cY e = true then (bR ms).map fun l => cntP p e l (bW dM l) else none
  | _ => none
theorem fn52 : FnT 52 F52 := by
  refine Fn.intro mixed bA Tryz.func52 rfl [(18, F18)] (by simp only [List.forall_mem_cons]; exact ⟨fn18, fun _ h => by cases h⟩) ?_
  intro args v hF
  unfold F52 at hF
  split at hF
  rotate_left
  · cases hF
  intro Q hV
  have hQ := bL.of hV
  rename_i p e late ms
  split at hF
  rotate_left
  · cases hF
  rename_i hb
  cases ha : bR ms with
  | none => rw [ha] at hF; cases hF
  | some l =>
  rw [ha] at hF
  cases hF
  obtain ⟨rfl, hlen, hok⟩ := bU ha
  clear ha
  dsimp only at hQ hV
  have h18 := e18 (late := late) hb hlen hok
  refine Top.view (aX.start (n := 32) rfl (by simp)) (aS bA _ _ _ _ ?_)
  cases hz : (playE p e l == 0) with
  | false =>
    have hz0 : ¬ playE p e l = 0 := by simpa using hz
    ((try simp only [aO, SS, TF52Ref2, aM, setRange, aN, aC, aB, aF, aE, aD, aA, Nat.reduceLT, Nat.reduceEqDiff, Nat.reduceAdd, Nat.reduceMul, Nat.reduceSub, Nat.reduceLeDiff, Nat.reduceBEq, reduceCtorEq, h18, hz]); (repeat' ((first | apply aJ | apply aI | apply aL | apply aK | apply aH | apply aG) <;> intro h <;> simp only [h, SS, TF52Ref2, aM, setRange, aN, aC, aB, aF, aE, aD, aA, Nat.reduceLT, Nat.reduceEqDiff, Nat.reduceAdd, Nat.reduceMul, Nat.reduceSub, Nat.reduceLeDiff, Nat.reduceBEq, reduceCtorEq, h18, hz])))
    (refine hQ _ _ _ (aR (by first | exact .inl rfl | exact .inr rfl) ?_); simp only [SS, TF52Ref2, aM, setRange, aN, aC, aB, aF, aE, aD, aA, Nat.reduceLT, Nat.reduceEqDiff, Nat.reduceAdd, Nat.reduceMul, Nat.reduceSub, Nat.reduceLeDiff, Nat.reduceBEq, reduceCtorEq])
    simp only [cntP, hz0, if_false]
  | true =>
  have hz0 : playE p e l = 0 := by simpa using hz
  obtain ⟨h4, hmv⟩ := movesE_zero (playE_zero hz0).2.2
  have hE : cntP p e l (bW dM l) = .tup [.int .i64 (bW dM l), .int .i64 0] := by simp only [cntP, hz0, if_true]
  rw [hE] at hQ
  ((try simp only [aO, SS, TF52Ref2, aM, setRange, aN, aC, aB, aF, aE, aD, aA, Nat.reduceLT, Nat.reduceEqDiff, Nat.reduceAdd, Nat.reduceMul, Nat.reduceSub, Nat.reduceLeDiff, Nat.reduceBEq, reduceCtorEq, h18, hz, aP]); (repeat' ((first | apply aJ | apply aI | apply aL | apply aK | apply aH | apply aG) <;> intro h <;> simp only [h, SS, TF52Ref2, aM, setRange, aN, aC, aB, aF, aE, aD, aA, Nat.reduceLT, Nat.reduceEqDiff, Nat.reduceAdd, Nat.reduceMul, Nat.reduceSub, Nat.reduceLeDiff, Nat.reduceBEq, reduceCtorEq, h18, hz, aP])))
  refine bH (Top.loop (I := fun s : { p : Nat × Int // p.1 ≤ l.length ∧ -4 * (p.1 : Int) ≤ p.2 ∧ p.2 ≤ 4 * (p.1 : Int) ∧ bW dM l = p.2 + bW dM (l.drop p.1) } => (mkF 32 [(16, .int .i64 (s.1.1 : Nat)), (15, .int .i64 (l.length : Int)), (14, .lsl (bF l)), (5, .int .i64 s.1.2)], mkH 0 [] 0 [])) (μ := fun s => l.length - s.1.1) ⟨(0, 0), by simp, by simp, by simp, by simp⟩ (aX.drop (by simp [look, below, aT]) (by simp [aU, bG, below, aT, aV]) (by simp [aU])) ?_)
  rintro ⟨⟨k, a⟩, hk, ha1, ha2, hf⟩
  simp only at hk ha1 ha2 hf
  refine aS bA _ _ _ _ ?_
  by_cases hlt : k < l.length
  rotate_left
  · have q1 : decide ((k : Int) < (l.length : Int)) = false := by simp; omega
    ((try simp only [aO, SS, TF52Ref2, aM, setRange, aN, aC, aB, aF, aE, aD, aA, Nat.reduceLT, Nat.reduceEqDiff, Nat.reduceAdd, Nat.reduceMul, Nat.reduceSub, Nat.reduceLeDiff, Nat.reduceBEq, reduceCtorEq, q1]); (repeat' ((first | apply aJ | apply aI | apply aL | apply aK | apply aH | apply aG) <;> intro h <;> simp only [h, SS, TF52Ref2, aM, setRange, aN, aC, aB, aF, aE, aD, aA, Nat.reduceLT, Nat.reduceEqDiff, Nat.reduceAdd, Nat.reduceMul, Nat.reduceSub, Nat.reduceLeDiff, Nat.reduceBEq, reduceCtorEq, q1])))
    (refine hQ _ _ _ (aR (by first | exact .inl rfl | exact .inr rfl) ?_); simp only [SS, TF52Ref2, aM, setRange, aN, aC, aB, aF, aE, aD, aA, Nat.reduceLT, Nat.reduceEqDiff, Nat.reduceAdd, Nat.reduceMul, Nat.reduceSub, Nat.reduceLeDiff, Nat.reduceBEq, reduceCtorEq])
    have : l.drop k = [] := List.drop_eq_nil_of_le (by omega)
    rw [hf, this]; simp [bW]
  obtain ⟨m, hx⟩ : ∃ m, l[k]? = some m := ⟨l[k], List.getElem?_eq_getElem hlt⟩
  have hfd := sumM_drop (g := dM) hx
  have q1 : decide ((k : Int) < (l.length : Int)) = true := by simp; omega
  have q2 : IntKind.i64.wrap ((k : Int) + 1) = ((k + 1 : Nat) : Int) := by rw [bE] <;> omega
  have hmu : l.length - (k + 1) < l.length - k := by omega
  have hm := mvE_base (hmv m (List.mem_of_getElem? hx))
  unfold baseMv at hm
  simp only [Bool.and_eq_true, decide_eq_true_eq] at hm
  cases ho : m.o with
  | true =>
    have e1 : dM m = 0 := by simp [dM, ho]
    ((try simp only [aO, SS, TF52Ref2, aM, setRange, aN, aC, aB, aF, aE, aD, aA, Nat.reduceLT, Nat.reduceEqDiff, Nat.reduceAdd, Nat.reduceMul, Nat.reduceSub, Nat.reduceLeDiff, Nat.reduceBEq, reduceCtorEq, q1, q2, aW, bC, hx, ho]); (repeat' ((first | apply aJ | apply aI | apply aL | apply aK | apply aH | apply aG) <;> intro h <;> simp only [h, SS, TF52Ref2, aM, setRange, aN, aC, aB, aF, aE, aD, aA, Nat.reduceLT, Nat.reduceEqDiff, Nat.reduceAdd, Nat.reduceMul, Nat.reduceSub, Nat.reduceLeDiff, Nat.reduceBEq, reduceCtorEq, q1, q2, aW, bC, hx, ho])))
    exact ⟨⟨(k + 1, a), hlt, by simp only; omega, by simp only; omega, by simp only; rw [hf, hfd, e1]; omega⟩, hmu, (aX.drop (by simp [look, below, aT]) (by simp [aU, bG, below, aT, aV]) (by simp [aU]))⟩
  | false =>
    have e1 : dM m = m.t - m.f := by simp [dM, ho]
    have w1 : IntKind.i64.wrap (m.t - m.f) = m.t - m.f := by rw [bE] <;> omega
    have w2 : IntKind.i64.wrap (a + (m.t - m.f)) = a + (m.t - m.f) := by rw [bE] <;> omega
    ((try simp only [aO, SS, TF52Ref2, aM, setRange, aN, aC, aB, aF, aE, aD, aA, Nat.reduceLT, Nat.reduceEqDiff, Nat.reduceAdd, Nat.reduceMul, Nat.reduceSub, Nat.reduceLeDiff, Nat.reduceBEq, reduceCtorEq, q1, q2, aW, bC, hx, ho, w1, w2]); (repeat' ((first | apply aJ | apply aI | apply aL | apply aK | apply aH | apply aG) <;> intro h <;> simp only [h, SS, TF52Ref2, aM, setRange, aN, aC, aB, aF, aE, aD, aA, Nat.reduceLT, Nat.reduceEqDiff, Nat.reduceAdd, Nat.reduceMul, Nat.reduceSub, Nat.reduceLeDiff, Nat.reduceBEq, reduceCtorEq, q1, q2, aW, bC, hx, ho, w1, w2])))
    exact ⟨⟨(k + 1, a + (m.t - m.f)), hlt, by simp only; omega, by simp only; omega, by simp only; rw [hf, hfd, e1]; omega⟩, hmu, (aX.drop (by simp [look, below, aT]) (by simp [aU, bG, below, aT, aV]) (by simp [aU]))⟩
end Go.Ev
