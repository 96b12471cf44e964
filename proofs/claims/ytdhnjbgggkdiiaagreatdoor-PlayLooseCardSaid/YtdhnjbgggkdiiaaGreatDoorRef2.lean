import Derived.Test.YtdhnjbgggkdiiaaGreatDoorRef1
set_option linter.unusedSimpArgs false
set_option linter.unusedVariables false
namespace Go.Ev
open Go.RowKit Go.Proofs
set_option linter.defProp false
def TF50Ref2 := And.intro (And.intro (And.intro (And.intro (And.intro (And.intro (@Tryz.underlying3) (@sz3)) (And.intro (@bK) (@I3s))) (And.intro (And.intro (@I3b) (@bJ)) (And.intro (@bL) (@Tryz.underlying4)))) (And.intro (And.intro (And.intro (@sz4) (@cT)) (And.intro (@I4s) (@I4b))) (And.intro (And.intro (@cS) (@cU)) (And.intro (@Tryz.underlying9) (And.intro (@sz9) (@bZ)))))) (And.intro (And.intro (And.intro (And.intro (@I9s) (@I9b)) (And.intro (@bX) (@cA))) (And.intro (And.intro (@Tryz.underlying22) (@dX)) (And.intro (@cZ) (@dY)))) (And.intro (And.intro (And.intro (@dZ) (@cX)) (And.intro (@dA) (@Tryz.underlying24))) (And.intro (And.intro (@sz24) (@fok24)) (And.intro (@info24) (And.intro (@I24s) (@I24b))))))) (And.intro (And.intro (And.intro (And.intro (And.intro (@zero24) (@grow24)) (And.intro (@Tryz.underlying25) (@dI))) (And.intro (And.intro (@bQ) (@dJ)) (And.intro (@dK) (@bP)))) (And.intro (And.intro (And.intro (@bR) (@Tryz.underlying27)) (And.intro (@dN) (@cV))) (And.intro (And.intro (@cF) (@dO)) (And.intro (@dP) (And.intro (@cC) (@cG)))))) (And.intro (And.intro (And.intro (And.intro (@Tryz.underlying30) (@sz30)) (And.intro (@info30) (@I30s))) (And.intro (And.intro (@I30b) (@zero30)) (And.intro (@grow30) (And.intro (@Tryz.underlying123) (@sz123))))) (And.intro (And.intro (And.intro (@info123) (@I123s)) (And.intro (@I123b) (@zero123))) (And.intro (And.intro (@grow123) (@call18)) (And.intro (@call120) (And.intro (@call121) (@Tryz.results50)))))))
def TF51Ref2 := And.intro (And.intro (And.intro (And.intro (And.intro (And.intro (@Tryz.underlying3) (@sz3)) (And.intro (@bK) (@I3s))) (And.intro (And.intro (@I3b) (@bJ)) (And.intro (@bL) (@Tryz.underlying4)))) (And.intro (And.intro (And.intro (@sz4) (@cT)) (And.intro (@I4s) (@I4b))) (And.intro (And.intro (@cS) (@cU)) (And.intro (@Tryz.underlying9) (And.intro (@sz9) (@bZ)))))) (And.intro (And.intro (And.intro (And.intro (@I9s) (@I9b)) (And.intro (@bX) (@cA))) (And.intro (And.intro (@Tryz.underlying22) (@dX)) (And.intro (@cZ) (@dY)))) (And.intro (And.intro (And.intro (@dZ) (@cX)) (And.intro (@dA) (@Tryz.underlying24))) (And.intro (And.intro (@sz24) (@fok24)) (And.intro (@info24) (And.intro (@I24s) (@I24b))))))) (And.intro (And.intro (And.intro (And.intro (And.intro (@zero24) (@grow24)) (And.intro (@Tryz.underlying25) (@dI))) (And.intro (And.intro (@bQ) (@dJ)) (And.intro (@dK) (@bP)))) (And.intro (And.intro (And.intro (@bR) (@Tryz.underlying27)) (And.intro (@dN) (@cV))) (And.intro (And.intro (@cF) (@dO)) (And.intro (@dP) (And.intro (@cC) (@cG)))))) (And.intro (And.intro (And.intro (And.intro (@Tryz.underlying30) (@sz30)) (And.intro (@info30) (@I30s))) (And.intro (And.intro (@I30b) (@zero30)) (And.intro (@grow30) (And.intro (@Tryz.underlying123) (@sz123))))) (And.intro (And.intro (And.intro (@info123) (@I123s)) (And.intro (@I123b) (@zero123))) (And.intro (And.intro (@grow123) (@call18)) (And.intro (@call120) (And.intro (@call122) (@Tryz.results51)))))))
def TF120Ref2 := And.intro (And.intro (And.intro (And.intro (And.intro (@Tryz.underlying3) (@sz3)) (And.intro (@bK) (And.intro (@I3s) (@I3b)))) (And.intro (And.intro (@bJ) (And.intro (@bL) (@Tryz.underlying4))) (And.intro (@sz4) (And.intro (@cT) (@I4s))))) (And.intro (And.intro (And.intro (@I4b) (@cS)) (And.intro (@cU) (And.intro (@Tryz.underlying9) (@sz9)))) (And.intro (And.intro (@bZ) (And.intro (@I9s) (@I9b))) (And.intro (@bX) (And.intro (@cA) (@Tryz.underlying22)))))) (And.intro (And.intro (And.intro (And.intro (@dX) (@cZ)) (And.intro (@dY) (And.intro (@dZ) (@cX)))) (And.intro (And.intro (@dA) (And.intro (@Tryz.underlying25) (@dI))) (And.intro (@bQ) (And.intro (@dJ) (@dK))))) (And.intro (And.intro (And.intro (@bP) (@bR)) (And.intro (@Tryz.underlying27) (And.intro (@dN) (@cV)))) (And.intro (And.intro (@cF) (And.intro (@dO) (@dP))) (And.intro (@cC) (And.intro (@cG) (@Tryz.results120))))))
def TF121Ref2 := And.intro (And.intro (And.intro (And.intro (And.intro (@Tryz.underlying3) (@sz3)) (And.intro (@bK) (@I3s))) (And.intro (And.intro (@I3b) (@bJ)) (And.intro (@bL) (And.intro (@Tryz.underlying4) (@sz4))))) (And.intro (And.intro (And.intro (@cT) (@I4s)) (And.intro (@I4b) (@cS))) (And.intro (And.intro (@cU) (@Tryz.underlying9)) (And.intro (@sz9) (And.intro (@bZ) (@I9s)))))) (And.intro (And.intro (And.intro (And.intro (@I9b) (@bX)) (And.intro (@cA) (@Tryz.underlying25))) (And.intro (And.intro (@dI) (@bQ)) (And.intro (@dJ) (And.intro (@dK) (@bP))))) (And.intro (And.intro (And.intro (@bR) (@Tryz.underlying27)) (And.intro (@dN) (And.intro (@cV) (@cF)))) (And.intro (And.intro (@dO) (@dP)) (And.intro (@cC) (And.intro (@cG) (@Tryz.results121))))))
def TF122Ref2 := And.intro (And.intro (And.intro (And.intro (And.intro (@Tryz.underlying3) (@sz3)) (And.intro (@bK) (@I3s))) (And.intro (And.intro (@I3b) (@bJ)) (And.intro (@bL) (And.intro (@Tryz.underlying4) (@sz4))))) (And.intro (And.intro (And.intro (@cT) (@I4s)) (And.intro (@I4b) (@cS))) (And.intro (And.intro (@cU) (@Tryz.underlying9)) (And.intro (@sz9) (And.intro (@bZ) (@I9s)))))) (And.intro (And.intro (And.intro (And.intro (@I9b) (@bX)) (And.intro (@cA) (@Tryz.underlying25))) (And.intro (And.intro (@dI) (@bQ)) (And.intro (@dJ) (And.intro (@dK) (@bP))))) (And.intro (And.intro (And.intro (@bR) (@Tryz.underlying27)) (And.intro (@dN) (And.intro (@cV) (@cF)))) (And.intro (And.intro (@dO) (@dP)) (And.intro (@cC) (And.intro (@cG) (@Tryz.results122))))))
set_option maxRecDepth 20000
set_option maxHeartbeats 4000000

/-! outs and runs, filtered -/
def isO (m : Mv) : Bool := m.o
def isR (m : Mv) : Bool := !m.o && (m.t == 4)
theorem lensOK_eMoves (l : List Mv) : lensOK 5 (aG l) = true := by simp [lensOK, aG, dE]
theorem eMoves_snoc (l : List Mv) (m : Mv) : aG l ++ [[.int .i64 m.f, .int .i64 m.t, .bool m.o, .str m.h, .lsl (aS m.b)]] = aG (l ++ [m]) := by simp [aG, dE]
def F121 : List EVal → Option EVal
  | [.agg [.int .i64 _, .int .i64 _, .bool o, .str _, .lsl _]] => some (.bool o)
  | _ => none
theorem e121 {f t : Int} {o : Bool} {h : List Nat} {b : List (List EVal)} : F121 [.agg [.int .i64 f, .int .i64 t, .bool o, .str h, .lsl b]] = some (.bool o) := rfl
theorem fn121 : FnT 121 F121 := by
  refine Fn.intro mixed aJ Tryz.func121 rfl [] (fun _ h => by cases h) ?_
  intro args v hF
  unfold F121 at hF
  split at hF
  rotate_left
  · cases hF
  intro Q hV
  have hQ := aW.of hV
  rename_i o h b
  cases hF
  refine Top.view (aF.start (n := 5) rfl (by simp)) (aD aJ _ _ _ _ ?_)
  (try simp only [aI, SS, TF121Ref2, aA, Nat.reduceLT, Nat.reduceEqDiff, reduceCtorEq])
  (refine hQ _ _ _ (aC (by first | exact .inl rfl | exact .inr rfl) ?_); simp only [SS, TF121Ref2, Nat.reduceLT, Nat.reduceEqDiff, reduceCtorEq])
def F122 : List EVal → Option EVal
  | [.agg [.int .i64 _, .int .i64 t, .bool o, .str _, .lsl _]] => some (.bool (!o && (t == 4)))
  | _ => none
theorem e122 {f t : Int} {o : Bool} {h : List Nat} {b : List (List EVal)} : F122 [.agg [.int .i64 f, .int .i64 t, .bool o, .str h, .lsl b]] = some (.bool (!o && (t == 4))) := rfl
theorem fn122 : FnT 122 F122 := by
  refine Fn.intro mixed aJ Tryz.func122 rfl [] (fun _ h => by cases h) ?_
  intro args v hF
  unfold F122 at hF
  split at hF
  rotate_left
  · cases hF
  intro Q hV
  have hQ := aW.of hV
  rename_i t o h b
  cases hF
  refine Top.view (aF.start (n := 11) rfl (by simp)) (aD aJ _ _ _ _ ?_)
  cases o with
  | true =>
    (try simp only [aI, SS, TF122Ref2, aA, Nat.reduceLT, Nat.reduceEqDiff, reduceCtorEq])
    (refine hQ _ _ _ (aC (by first | exact .inl rfl | exact .inr rfl) ?_); simp only [SS, TF122Ref2, Nat.reduceLT, Nat.reduceEqDiff, reduceCtorEq])
  | false =>
    (try simp only [aI, SS, TF122Ref2, aA, Nat.reduceLT, Nat.reduceEqDiff, reduceCtorEq])
    (refine hQ _ _ _ (aC (by first | exact .inl rfl | exact .inr rfl) ?_); simp only [SS, TF122Ref2, Nat.reduceLT, Nat.reduceEqDiff, reduceCtorEq])
def F120_121 : List EVal → Option EVal
  | [ms, .func 121 []] => (bH ms).bind fun l => if l.length ≤ 300 then some (.lsl (aG (l.filter isO))) else none
  | _ => none
theorem fn120_121 : FnT 120 F120_121 := by
  refine Fn.intro mixed aJ Tryz.func120 rfl [(121, F121), (122, F122)] (by simp only [List.forall_mem_cons]; exact ⟨fn121, fn122, fun _ h => by cases h⟩) ?_
  intro args v hF
  unfold F120_121 at hF
  split at hF
  rotate_left
  · cases hF
  intro Q hV
  have hQ := aW.of hV
  rename_i ms
  cases ha : bH ms with
  | none => rw [ha] at hF; cases hF
  | some l =>
  rw [ha] at hF
  simp only [Option.bind_some] at hF
  split at hF
  rotate_left
  · cases hF
  rename_i h300
  cases hF
  obtain ⟨rfl, hlen, hok⟩ := bE ha
  clear ha
  have hp2 : ∀ {m : Mv} {q : Bool}, isO m = q → m.o = q := fun h => h
  refine Top.view (aF.start (n := 23) rfl (by simp)) (aD aJ _ _ _ _ ?_)
  (try simp only [aI, SS, TF120Ref2, aA, Nat.reduceLT, Nat.reduceEqDiff, reduceCtorEq, aL])
  refine aT (Top.loop (I := fun s : { k : Nat // k ≤ l.length } => (mkF 23 [(10, .int .i64 (s.1 : Nat)), (9, .int .i64 (l.length : Int)), (8, .lsl (aG l)), (5, .gsl 0 (aG ((l.take s.1).filter isO))), (1, .func 121 [])], mkH 0 [] 1 [(0, some (((l.take s.1).filter isO).length, 27))])) (μ := fun s => l.length - s.1) ⟨0, by omega⟩ (aF.trans (aF.grow 5 27 (by omega) (by omega) (by simp [look])) (aF.sub (by simp [look, aG]))) ?_)
  rintro ⟨k, hk⟩
  refine aD aJ _ _ _ _ ?_
  by_cases hlt : k < l.length
  rotate_left
  · obtain rfl : k = l.length := by omega
    have q1 : decide ((l.length : Int) < (l.length : Int)) = false := by simp
    rw [List.take_length]
    (try simp only [SS, aA, Nat.reduceLT, Nat.reduceEqDiff, q1])
    (refine hQ _ _ _ (aC (by first | exact .inl rfl | exact .inr rfl) ?_); simp only [SS, TF120Ref2, Nat.reduceLT, Nat.reduceEqDiff])
  obtain ⟨m, hx⟩ : ∃ m, l[k]? = some m := ⟨l[k], List.getElem?_eq_getElem hlt⟩
  have q1 : decide ((k : Int) < (l.length : Int)) = true := by simp; omega
  have q2 : IntKind.i64.wrap ((k : Int) + 1) = ((k + 1 : Nat) : Int) := by rw [aP] <;> omega
  have hle : ((l.take k).filter isO).length ≤ 300 := by
    have h1 := List.length_filter_le isO (l.take k)
    rw [List.length_take] at h1
    omega
  have q3 : 64 * (((l.take k).filter isO).length + 1) ≤ 1000000 := by omega
  have htk : (l.take (k + 1)).filter isO = (l.take k).filter isO ++ (if isO m = true then [m] else []) := by
    rw [List.take_add_one, hx, List.filter_append]
    simp only [Option.toList_some, List.filter_cons, List.filter_nil]
  cases hp : isO m with
  | true =>
    rw [hp, if_pos rfl] at htk
    have hcall : F121 [.agg [.int .i64 m.f, .int .i64 m.t, .bool m.o, .str m.h, .lsl (aS m.b)]] = some (.bool true) := by rw [e121, hp2 hp]
    (try simp only [SS, TF120Ref2, aH, setRange, bS, aA, aE, Nat.reduceLT, Nat.reduceEqDiff, Nat.reduceAdd, Nat.reduceMul, Nat.reduceLeDiff, reduceCtorEq, q1, q2, aZ, bT, hx, call121, hcall, q3, aL, lensOK_eMoves, eMoves_snoc])
    refine ⟨⟨k + 1, hlt⟩, by simp; omega, ?_⟩
    simp only [htk, List.length_append, List.length_cons, List.length_nil, Nat.zero_add]
    exact (aF.drop (by simp [look, below, aX]) (by simp [aB, aR]) (by simp [aB]))
  | false =>
    rw [hp, if_neg (by simp), List.append_nil] at htk
    have hcall : F121 [.agg [.int .i64 m.f, .int .i64 m.t, .bool m.o, .str m.h, .lsl (aS m.b)]] = some (.bool false) := by rw [e121, hp2 hp]
    (try simp only [SS, TF120Ref2, aH, setRange, aA, Nat.reduceLT, Nat.reduceEqDiff, Nat.reduceAdd, q1, q2, aZ, bT, hx, call121, hcall])
    refine ⟨⟨k + 1, hlt⟩, by simp; omega, ?_⟩
    simp only [htk]
    exact (aF.drop (by simp [look, below, aX]) (by simp [aB, aR]) (by simp [aB]))

def F120_122 : List EVal → Option EVal
  | [ms, .func 122 []] => (bH ms).bind fun l => if l.length ≤ 300 then some (.lsl (aG (l.filter isR))) else none
  | _ => none
theorem fn120_122 : FnT 120 F120_122 := by
  refine Fn.intro mixed aJ Tryz.func120 rfl [(121, F121), (122, F122)] (by simp only [List.forall_mem_cons]; exact ⟨fn121, fn122, fun _ h => by cases h⟩) ?_
  intro args v hF
  unfold F120_122 at hF
  split at hF
  rotate_left
  · cases hF
  intro Q hV
  have hQ := aW.of hV
  rename_i ms
  cases ha : bH ms with
  | none => rw [ha] at hF; cases hF
  | some l =>
  rw [ha] at hF
  simp only [Option.bind_some] at hF
  split at hF
  rotate_left
  · cases hF
  rename_i h300
  cases hF
  obtain ⟨rfl, hlen, hok⟩ := bE ha
  clear ha
  have hp2 : ∀ {m : Mv} {q : Bool}, isR m = q → (!m.o && (m.t == 4)) = q := fun h => h
  refine Top.view (aF.start (n := 23) rfl (by simp)) (aD aJ _ _ _ _ ?_)
  (try simp only [aI, SS, TF120Ref2, aA, Nat.reduceLT, Nat.reduceEqDiff, reduceCtorEq, aL])
  refine aT (Top.loop (I := fun s : { k : Nat // k ≤ l.length } => (mkF 23 [(10, .int .i64 (s.1 : Nat)), (9, .int .i64 (l.length : Int)), (8, .lsl (aG l)), (5, .gsl 0 (aG ((l.take s.1).filter isR))), (1, .func 122 [])], mkH 0 [] 1 [(0, some (((l.take s.1).filter isR).length, 27))])) (μ := fun s => l.length - s.1) ⟨0, by omega⟩ (aF.trans (aF.grow 5 27 (by omega) (by omega) (by simp [look])) (aF.sub (by simp [look, aG]))) ?_)
  rintro ⟨k, hk⟩
  refine aD aJ _ _ _ _ ?_
  by_cases hlt : k < l.length
  rotate_left
  · obtain rfl : k = l.length := by omega
    have q1 : decide ((l.length : Int) < (l.length : Int)) = false := by simp
    rw [List.take_length]
    (try simp only [SS, aA, Nat.reduceLT, Nat.reduceEqDiff, q1])
    (refine hQ _ _ _ (aC (by first | exact .inl rfl | exact .inr rfl) ?_); simp only [SS, TF120Ref2, Nat.reduceLT, Nat.reduceEqDiff])
  obtain ⟨m, hx⟩ : ∃ m, l[k]? = some m := ⟨l[k], List.getElem?_eq_getElem hlt⟩
  have q1 : decide ((k : Int) < (l.length : Int)) = true := by simp; omega
  have q2 : IntKind.i64.wrap ((k : Int) + 1) = ((k + 1 : Nat) : Int) := by rw [aP] <;> omega
  have hle : ((l.take k).filter isR).length ≤ 300 := by
    have h1 := List.length_filter_le isR (l.take k)
    rw [List.length_take] at h1
    omega
  have q3 : 64 * (((l.take k).filter isR).length + 1) ≤ 1000000 := by omega
  have htk : (l.take (k + 1)).filter isR = (l.take k).filter isR ++ (if isR m = true then [m] else []) := by
    rw [List.take_add_one, hx, List.filter_append]
    simp only [Option.toList_some, List.filter_cons, List.filter_nil]
  cases hp : isR m with
  | true =>
    rw [hp, if_pos rfl] at htk
    have hcall : F122 [.agg [.int .i64 m.f, .int .i64 m.t, .bool m.o, .str m.h, .lsl (aS m.b)]] = some (.bool true) := by rw [e122, hp2 hp]
    (try simp only [SS, TF120Ref2, aH, setRange, bS, aA, aE, Nat.reduceLT, Nat.reduceEqDiff, Nat.reduceAdd, Nat.reduceMul, Nat.reduceLeDiff, reduceCtorEq, q1, q2, aZ, bT, hx, call122, hcall, q3, aL, lensOK_eMoves, eMoves_snoc])
    refine ⟨⟨k + 1, hlt⟩, by simp; omega, ?_⟩
    simp only [htk, List.length_append, List.length_cons, List.length_nil, Nat.zero_add]
    exact (aF.drop (by simp [look, below, aX]) (by simp [aB, aR]) (by simp [aB]))
  | false =>
    rw [hp, if_neg (by simp), List.append_nil] at htk
    have hcall : F122 [.agg [.int .i64 m.f, .int .i64 m.t, .bool m.o, .str m.h, .lsl (aS m.b)]] = some (.bool false) := by rw [e122, hp2 hp]
    (try simp only [SS, TF120Ref2, aH, setRange, aA, Nat.reduceLT, Nat.reduceEqDiff, Nat.reduceAdd, q1, q2, aZ, bT, hx, call122, hcall])
    refine ⟨⟨k + 1, hlt⟩, by simp; omega, ?_⟩
    simp only [htk]
    exact (aF.drop (by simp [look, below, aX]) (by simp [aB, aR]) (by simp [aB]))


def F120 : List EVal → Option EVal := fun a => (F120_121 a).or (F120_122 a)
theorem fn120 : FnT 120 F120 := by
  refine Fn.or fun a v h => ?_
  unfold F120 at h
  cases h1 : F120_121 a with
  | some u => rw [h1] at h; exact ⟨F120_121, fn120_121, by rw [h1]; exact h⟩
  | none => rw [h1] at h; exact ⟨F120_122, fn120_122, h⟩

theorem outs_len (l : List Mv) : dU outM l = ((l.filter isO).length : Int) := by
  induction l with
  | nil => rfl
  | cons m l ih =>
    simp only [dU, List.filter_cons, ih]
    cases h : m.o <;> simp [outM, isO, h] <;> omega
theorem runs_len (l : List Mv) : dU runM l = ((l.filter isR).length : Int) := by
  induction l with
  | nil => rfl
  | cons m l ih =>
    simp only [dU, List.filter_cons, ih]
    cases h : m.o <;> by_cases h2 : m.t = 4 <;> simp [runM, isR, h, h2] <;> omega
theorem playE_zero {p e : List Nat} {l : List Mv} (h : playE p e l = 0) : pitchE p = 0 ∧ eventE e = 0 ∧ movesE l = 0 := by
  simp only [playE, cH] at h
  by_cases h1 : pitchE p = 0 <;> by_cases h2 : eventE e = 0 <;> by_cases h3 : movesE l = 0 <;> simp [h1, h2, h3] at h ⊢
theorem mvGo_zero : ∀ {l : List Mv} {p : Option Int}, mvGo p l = 0 → ∀ m ∈ l, mvE m = 0
  | [], _, _, _, hm => by cases hm
  | m :: l, p, h, x, hx => by
    simp only [mvGo] at h
    split at h
    · rename_i h1; exact absurd h h1
    · rename_i h1
      split at h
      · cases h
      · rcases List.mem_cons.1 hx with rfl | hx
        · simpa using h1
        · exact mvGo_zero h x hx
theorem movesE_zero {l : List Mv} (h : movesE l = 0) : l.length ≤ 4 ∧ ∀ m ∈ l, mvE m = 0 := by
  unfold movesE at h
  split at h
  · cases h
  · exact ⟨by omega, mvGo_zero h⟩
theorem mvE_base {m : Mv} (h : mvE m = 0) : baseMv m = true := by
  unfold mvE moveE at h
  simp only [cH] at h
  unfold baseMv
  by_cases hf : 0 ≤ m.f ∧ m.f ≤ 3
  · by_cases ht : 1 ≤ m.t ∧ m.t ≤ 4
    · simp; omega
    · rw [rangeE_in hf, rangeE_out ht] at h; simp at h
  · rw [rangeE_out hf] at h; simp at h
/-- a play's number, and its error -/
def cntP (p e : List Nat) (l : List Mv) (n : Int) : EVal := if playE p e l = 0 then .tup [.int .i64 n, .int .i64 0] else .tup [.int .i64 0, .int .i64 (playE p e l)]
def F50 : List EVal → Option EVal
  | [.agg [.str p, .str e, .bool _, ms]] => if aU p = true ∧ aU e = true then (bH ms).map fun l => cntP p e l (dU outM l) else none
  | _ => none
def F51 : List EVal → Option EVal
  | [.agg [.str p, .str e, .bool _, ms]] => if aU p = true ∧ aU e = true then (bH ms).map fun l => cntP p e l (dU runM l) else none
  | _ => none
theorem e18 {p e : List Nat} {late : Bool} {l : List Mv} (hb : aU p = true ∧ aU e = true) (hlen : l.length < 9223372036854775808) (hok : ∀ m ∈ l, eA m) : F18 [.agg [.str p, .str e, .bool late, .lsl (aG l)]] = some (.int .i64 (playE p e l)) := by
  simp only [F18]; rw [if_pos hb, cB hlen hok]; rfl
theorem fn50 : FnT 50 F50 := by
  refine Fn.intro mixed aJ Tryz.func50 rfl [(18, F18), (120, F120)] (by simp only [List.forall_mem_cons]; exact ⟨fn18, fn120, fun _ h => by cases h⟩) ?_
  intro args v hF
  unfold F50 at hF
  split at hF
  rotate_left
  · cases hF
  intro Q hV
  have hQ := aW.of hV
  rename_i p e late ms
  split at hF
  rotate_left
  · cases hF
  rename_i hb
  cases ha : bH ms with
  | none => rw [ha] at hF; cases hF
  | some l =>
  rw [ha] at hF
  cases hF
  obtain ⟨rfl, hlen, hok⟩ := bE ha
  clear ha
  dsimp only at hQ hV
  have h18 := e18 (late := late) hb hlen hok
  refine Top.view (aF.start (n := 14) rfl (by simp)) (aD aJ _ _ _ _ ?_)
  cases hz : (playE p e l == 0) with
  | false =>
    have hz0 : ¬ playE p e l = 0 := by simpa using hz
    (try simp only [aI, SS, TF50Ref2, aH, aA, Nat.reduceLT, Nat.reduceEqDiff, Nat.reduceAdd, reduceCtorEq, h18, hz])
    (refine hQ _ _ _ (aC (by first | exact .inl rfl | exact .inr rfl) ?_); simp only [SS, TF50Ref2, Nat.reduceLT, Nat.reduceEqDiff, reduceCtorEq])
    simp only [cntP, hz0, if_false]
  | true =>
    have hz0 : playE p e l = 0 := by simpa using hz
    have h4 := (movesE_zero (playE_zero hz0).2.2).1
    have h120 : F120 [.lsl (aG l), .func 121 []] = some (.lsl (aG (l.filter isO))) := by
      simp only [F120, F120_121, F120_122, cB hlen hok, Option.bind_some]
      rw [if_pos (by omega)]; rfl
    (try simp only [aI, SS, TF50Ref2, aH, aA, Nat.reduceLT, Nat.reduceEqDiff, Nat.reduceAdd, reduceCtorEq, h18, hz, h120, aL])
    (refine hQ _ _ _ (aC (by first | exact .inl rfl | exact .inr rfl) ?_); simp only [SS, TF50Ref2, Nat.reduceLT, Nat.reduceEqDiff, reduceCtorEq])
    simp only [cntP, hz0, if_true, outs_len]
theorem fn51 : FnT 51 F51 := by
  refine Fn.intro mixed aJ Tryz.func51 rfl [(18, F18), (120, F120)] (by simp only [List.forall_mem_cons]; exact ⟨fn18, fn120, fun _ h => by cases h⟩) ?_
  intro args v hF
  unfold F51 at hF
  split at hF
  rotate_left
  · cases hF
  intro Q hV
  have hQ := aW.of hV
  rename_i p e late ms
  split at hF
  rotate_left
  · cases hF
  rename_i hb
  cases ha : bH ms with
  | none => rw [ha] at hF; cases hF
  | some l =>
  rw [ha] at hF
  cases hF
  obtain ⟨rfl, hlen, hok⟩ := bE ha
  clear ha
  dsimp only at hQ hV
  have h18 := e18 (late := late) hb hlen hok
  refine Top.view (aF.start (n := 14) rfl (by simp)) (aD aJ _ _ _ _ ?_)
  cases hz : (playE p e l == 0) with
  | false =>
    have hz0 : ¬ playE p e l = 0 := by simpa using hz
    (try simp only [aI, SS, TF51Ref2, aH, aA, Nat.reduceLT, Nat.reduceEqDiff, Nat.reduceAdd, reduceCtorEq, h18, hz])
    (refine hQ _ _ _ (aC (by first | exact .inl rfl | exact .inr rfl) ?_); simp only [SS, TF51Ref2, Nat.reduceLT, Nat.reduceEqDiff, reduceCtorEq])
    simp only [cntP, hz0, if_false]
  | true =>
    have hz0 : playE p e l = 0 := by simpa using hz
    have h4 := (movesE_zero (playE_zero hz0).2.2).1
    have h120 : F120 [.lsl (aG l), .func 122 []] = some (.lsl (aG (l.filter isR))) := by
      simp only [F120, F120_121, F120_122, cB hlen hok, Option.bind_some]
      rw [if_pos (by omega)]; rfl
    (try simp only [aI, SS, TF51Ref2, aH, aA, Nat.reduceLT, Nat.reduceEqDiff, Nat.reduceAdd, reduceCtorEq, h18, hz, h120, aL])
    (refine hQ _ _ _ (aC (by first | exact .inl rfl | exact .inr rfl) ?_); simp only [SS, TF51Ref2, Nat.reduceLT, Nat.reduceEqDiff, reduceCtorEq])
    simp only [cntP, hz0, if_true, runs_len]

end Go.Ev
