import Derived.Test.YtcmlciebgapmjaaGreatDoorRef2
import Derived.Test.YtcmlciebgapmjaaGreatDoorDraw
set_option linter.unusedSimpArgs false
set_option linter.unusedVariables false
namespace Go.Ev
open Go.RowKit Go.Proofs
set_option linter.defProp false
def TF58Touch := And.intro (And.intro (And.intro (And.intro (And.intro (And.intro (@Tryz.underlying3) (@sz3)) (And.intro (@bT) (@I3s))) (And.intro (And.intro (@I3b) (@bS)) (And.intro (@bV) (@Tryz.underlying4)))) (And.intro (And.intro (And.intro (@sz4) (@cV)) (And.intro (@I4s) (@I4b))) (And.intro (And.intro (@cU) (@cW)) (And.intro (@Tryz.underlying9) (@sz9))))) (And.intro (And.intro (And.intro (And.intro (@cL) (@I9s)) (And.intro (@I9b) (@cI))) (And.intro (And.intro (@cM) (@Tryz.underlying22)) (And.intro (@sz22) (@info22)))) (And.intro (And.intro (And.intro (@I22s) (@I22b)) (And.intro (@zero22) (@grow22))) (And.intro (And.intro (@Tryz.underlying24) (@sz24)) (And.intro (@fok24) (And.intro (@info24) (@I24s))))))) (And.intro (And.intro (And.intro (And.intro (And.intro (@I24b) (@zero24)) (And.intro (@grow24) (@Tryz.underlying25))) (And.intro (And.intro (@dF) (@bZ)) (And.intro (@dG) (@dH)))) (And.intro (And.intro (And.intro (@bX) (@cA)) (And.intro (@Tryz.underlying27) (@dQ))) (And.intro (And.intro (@dB) (@cN)) (And.intro (@dR) (And.intro (@dS) (@cK)))))) (And.intro (And.intro (And.intro (And.intro (@cO) (@Tryz.underlying30)) (And.intro (@sz30) (@info30))) (And.intro (And.intro (@I30s) (@I30b)) (And.intro (@zero30) (@grow30)))) (And.intro (And.intro (And.intro (@Tryz.underlying86) (@sz86)) (And.intro (@info86) (@I86s))) (And.intro (And.intro (@I86b) (@zero86)) (And.intro (@grow86) (And.intro (@call18) (@Tryz.results58)))))))
def TF62Touch := And.intro (And.intro (And.intro (And.intro (And.intro (@Tryz.underlying3) (And.intro (@sz3) (@bT))) (And.intro (And.intro (@I3s) (@I3b)) (And.intro (@bS) (@bV)))) (And.intro (And.intro (@Tryz.underlying4) (And.intro (@sz4) (@cV))) (And.intro (And.intro (@I4s) (@I4b)) (And.intro (@cU) (@cW))))) (And.intro (And.intro (And.intro (@Tryz.underlying9) (And.intro (@sz9) (@cL))) (And.intro (And.intro (@I9s) (@I9b)) (And.intro (@cI) (@cM)))) (And.intro (And.intro (And.intro (@Tryz.underlying22) (@sz22)) (And.intro (@info22) (@I22s))) (And.intro (And.intro (@I22b) (@zero22)) (And.intro (@grow22) (@Tryz.underlying24)))))) (And.intro (And.intro (And.intro (And.intro (@sz24) (And.intro (@fok24) (@info24))) (And.intro (And.intro (@I24s) (@I24b)) (And.intro (@zero24) (@grow24)))) (And.intro (And.intro (And.intro (@Tryz.underlying25) (@dF)) (And.intro (@bZ) (@dG))) (And.intro (And.intro (@dH) (@bX)) (And.intro (@cA) (@Tryz.underlying27))))) (And.intro (And.intro (And.intro (@dQ) (And.intro (@dB) (@cN))) (And.intro (And.intro (@dR) (@dS)) (And.intro (@cK) (@cO)))) (And.intro (And.intro (And.intro (@Tryz.underlying86) (@sz86)) (And.intro (@info86) (@I86s))) (And.intro (And.intro (@I86b) (@zero86)) (And.intro (@grow86) (@Tryz.results62))))))
set_option maxRecDepth 20000
set_option maxHeartbeats 8000000

/-! who touched the ball how often -/
def incAt (c : List Int) (n : Int) : List Int := c.set (n - 1).toNat (IntKind.i64.wrap (c.getD (n - 1).toNat 0 + 1))
def tchB (c : List Int) (b : List Int) : List Int := b.foldl incAt c
def dT (c : List Int) (l : List Mv) : List Int := l.foldl (fun c m => tchB c m.b) c
def dA : List Int := [0, 0, 0, 0, 0, 0, 0, 0, 0]
theorem incAt_len (c : List Int) (n : Int) : (incAt c n).length = c.length := by simp [incAt]
theorem tchB_len (b : List Int) : ∀ c : List Int, (tchB c b).length = c.length := by
  induction b with
  | nil => intro c; rfl
  | cons x b ih => intro c; exact (ih _).trans (incAt_len c x)
theorem tchL_len (l : List Mv) : ∀ c : List Int, (dT c l).length = c.length := by
  induction l with
  | nil => intro c; rfl
  | cons x l ih => intro c; exact (ih _).trans (tchB_len x.b c)
theorem tchB_take {c b : List Int} {k : Nat} {x : Int} (h : b[k]? = some x) : tchB c (b.take (k + 1)) = incAt (tchB c (b.take k)) x := by
  rw [List.take_add_one, h]; simp [tchB]
theorem tchL_take {c : List Int} {l : List Mv} {k : Nat} {m : Mv} (h : l[k]? = some m) : dT c (l.take (k + 1)) = tchB (dT c (l.take k)) m.b := by
  rw [List.take_add_one, h]; simp [dT]
def inNine (b : List Int) : Bool := b.all fun n => decide (1 ≤ n) && decide (n ≤ 9)
theorem allOne_eRow (l : List Int) : allOne (bY l) = true := by
  induction l with
  | nil => rfl
  | cons a l ih => simpa [allOne, EVal.one, bY] using ih
/-- one more at a place -/
theorem inc_facts {c : List Int} {n : Int} (hc : c.length = 9) (h1 : 1 ≤ n) (h9 : n ≤ 9) : ∃ j : Nat, j < 9 ∧ (n - 1).toNat = j ∧ IntKind.i64.wrap (n - 1) = (j : Int) ∧ ((j : Int) < ((9 : Nat) : Int)) = True ∧ (bY c)[j]? = some (.int .i64 (c.getD j 0)) ∧
    (j + 1 ≤ (bY c).length) = True ∧ setRange (bY c) j [.int .i64 (IntKind.i64.wrap (c.getD j 0 + 1))] = bY (incAt c n) := by
  refine ⟨(n - 1).toNat, by omega, rfl, by rw [bE] <;> omega, by simp; omega, eRow_get (by omega), by simp [eRow_length]; omega, ?_⟩
  exact setRange_eRow (by omega)
def touchesE (p e : List Nat) (l : List Mv) : EVal := if playE p e l = 0 then .tup [.agg (bY (dT dA l)), .int .i64 0] else .tup [.agg (bY dA), .int .i64 (playE p e l)]
theorem touchOK_in : ∀ {b : List Int} {p : Option Int}, touchOK p b = true → inNine b = true
  | [], _, _ => rfl
  | x :: b, p, h => by
    simp only [touchOK, Bool.and_eq_true, withinB, decide_eq_true_eq] at h
    have h2 := touchOK_in h.2
    simp only [inNine, List.all_cons, Bool.and_eq_true, decide_eq_true_eq] at h2 ⊢
    exact ⟨h.1.1, h2⟩
theorem touch_in {o : Bool} {b : List Int} (h : touchE o b = 0) : inNine b = true := by
  unfold touchE at h
  split at h
  · cases h
  split at h
  · rename_i h2; exact touchOK_in h2
  · cases h
theorem mvE_in {m : Mv} (h : mvE m = 0) : inNine m.b = true := by
  apply touch_in (o := m.o)
  unfold mvE moveE at h
  simp only [cD] at h
  repeat' split at h
  all_goals simp_all
theorem inNine_get {b : List Int} {k : Nat} {x : Int} (h : inNine b = true) (hx : b[k]? = some x) : 1 ≤ x ∧ x ≤ 9 := by
  simp only [inNine, List.all_eq_true, Bool.and_eq_true, decide_eq_true_eq] at h
  exact h x (List.mem_of_getElem? hx)
def F58 : List EVal → Option EVal
  | [.agg [.str p, .str e, .bool _, ms]] => if cY p = true ∧ cY e = true then (bR ms).map fun l => touchesE p e l else none
  | _ => none
theorem fn58 : FnT 58 F58 := by
  refine Fn.intro mixed bA Tryz.func58 rfl [(18, F18)] (by simp only [List.forall_mem_cons]; exact ⟨fn18, fun _ h => by cases h⟩) ?_
  intro args v hF
  unfold F58 at hF
  split at hF
  rotate_left
  · cases hF
  intro Q hV
  have hQ := bL.of hV
  rename_i p e late ms
  split at hF
  rotate_left
  · cases hF
  rename_i hb
  cases ha : bR ms with
  | none => rw [ha] at hF; cases hF
  | some l =>
  rw [ha] at hF
  cases hF
  obtain ⟨rfl, hlen, hok⟩ := bU ha
  clear ha
  dsimp only at hQ hV
  have h18 := e18 (late := late) hb hlen hok
  have hz9 : bY dA = [.int .i64 0, .int .i64 0, .int .i64 0, .int .i64 0, .int .i64 0, .int .i64 0, .int .i64 0, .int .i64 0, .int .i64 0] := rfl
  refine Top.view (aX.start (n := 39) rfl (by simp)) (aS bA _ _ _ _ ?_)
  cases hz : (playE p e l == 0) with
  | false =>
    have hz0 : ¬ playE p e l = 0 := by simpa using hz
    have hE : touchesE p e l = .tup [.agg (bY dA), .int .i64 (playE p e l)] := by unfold touchesE; rw [if_neg hz0]
    rw [hE, hz9] at hQ
    ((try simp only [aO, SS, TF58Touch, aM, setRange, aN, aC, aB, aF, aE, aD, aA, Nat.reduceLT, Nat.reduceEqDiff, Nat.reduceAdd, Nat.reduceMul, Nat.reduceSub, Nat.reduceLeDiff, Nat.reduceBEq, reduceCtorEq, h18, hz]); (repeat' ((first | apply aJ | apply aI | apply aL | apply aK | apply aH | apply aG) <;> intro h <;> simp only [h, SS, TF58Touch, aM, setRange, aN, aC, aB, aF, aE, aD, aA, Nat.reduceLT, Nat.reduceEqDiff, Nat.reduceAdd, Nat.reduceMul, Nat.reduceSub, Nat.reduceLeDiff, Nat.reduceBEq, reduceCtorEq, h18, hz])))
    (refine hQ _ _ _ (aR (by first | exact .inl rfl | exact .inr rfl) ?_); simp only [SS, TF58Touch, aM, setRange, aN, aC, aB, aF, aE, aD, aA, Nat.reduceLT, Nat.reduceEqDiff, Nat.reduceAdd, Nat.reduceMul, Nat.reduceSub, Nat.reduceLeDiff, Nat.reduceBEq, reduceCtorEq])
  | true =>
    have hz0 : playE p e l = 0 := by simpa using hz
    have hE : touchesE p e l = .tup [.agg (bY (dT dA l)), .int .i64 0] := by unfold touchesE; rw [if_pos hz0]
    rw [hE] at hQ
    obtain ⟨h4, hmv⟩ := movesE_zero (playE_zero hz0).2.2
    ((try simp only [aO, SS, TF58Touch, aM, setRange, aN, aC, aB, aF, aE, aD, aA, Nat.reduceLT, Nat.reduceEqDiff, Nat.reduceAdd, Nat.reduceMul, Nat.reduceSub, Nat.reduceLeDiff, Nat.reduceBEq, reduceCtorEq, h18, hz, aP]); (repeat' ((first | apply aJ | apply aI | apply aL | apply aK | apply aH | apply aG) <;> intro h <;> simp only [h, SS, TF58Touch, aM, setRange, aN, aC, aB, aF, aE, aD, aA, Nat.reduceLT, Nat.reduceEqDiff, Nat.reduceAdd, Nat.reduceMul, Nat.reduceSub, Nat.reduceLeDiff, Nat.reduceBEq, reduceCtorEq, h18, hz, aP])))
    refine bH (Top.loop (I := fun s : { k : Nat // k ≤ l.length } => (mkF 39 [(19, .int .i64 (s.1 : Nat)), (18, .int .i64 (l.length : Int)), (17, .lsl (bF l)), (5, .ptr 2 0), (2, .ptr 1 0)], mkH 3 [(2, some (.row (bY (dT dA (l.take s.1))) 86 0 0 false)), (1, some (.row [.int .i64 0, .int .i64 0, .int .i64 0, .int .i64 0, .int .i64 0, .int .i64 0, .int .i64 0, .int .i64 0, .int .i64 0] 86 0 0 false)), (0, some (.row [.str p, .str e, .bool late, .lsl (bF l)] 24 0 0 false))] 0 [])) (μ := fun s => l.length - s.1) ⟨0, by omega⟩ (aX.drop (by simp [look, below, aT]) (by simp [aU, bG, below, aT, List.take_zero, dT, hz9]) (by simp [aU])) ?_)
    rintro ⟨k, hk⟩
    refine aS bA _ _ _ _ ?_
    by_cases hlt : k < l.length
    rotate_left
    · obtain rfl : k = l.length := by omega
      have q1 : decide ((l.length : Int) < (l.length : Int)) = false := by simp
      have hl9 : (dT dA l).length = 9 := tchL_len l dA
      have hr9 : (bY (dT dA l)).length = 9 := by rw [eRow_length, hl9]
      have ht9 : (bY (dT dA l)).take 9 = bY (dT dA l) := by rw [← hr9, List.take_length]
      have ha9 := allOne_eRow (dT dA l)
      have hk9 := keepL_eRow (dT dA l)
      rw [List.take_length]
      ((try simp only [aO, SS, TF58Touch, aM, setRange, aN, aC, aB, aF, aE, aD, aA, Nat.reduceLT, Nat.reduceEqDiff, Nat.reduceAdd, Nat.reduceMul, Nat.reduceSub, Nat.reduceLeDiff, Nat.reduceBEq, reduceCtorEq, q1, hr9, ht9, ha9]); (repeat' ((first | apply aJ | apply aI | apply aL | apply aK | apply aH | apply aG) <;> intro h <;> simp only [h, SS, TF58Touch, aM, setRange, aN, aC, aB, aF, aE, aD, aA, Nat.reduceLT, Nat.reduceEqDiff, Nat.reduceAdd, Nat.reduceMul, Nat.reduceSub, Nat.reduceLeDiff, Nat.reduceBEq, reduceCtorEq, q1, hr9, ht9, ha9])))
      (refine hQ _ _ _ (aR (by first | exact .inl rfl | exact .inr rfl) ?_); simp only [SS, TF58Touch, aM, setRange, aN, aC, aB, aF, aE, aD, aA, Nat.reduceLT, Nat.reduceEqDiff, Nat.reduceAdd, Nat.reduceMul, Nat.reduceSub, Nat.reduceLeDiff, Nat.reduceBEq, reduceCtorEq, hr9, ht9, hk9])
    obtain ⟨m, hx⟩ : ∃ m, l[k]? = some m := ⟨l[k], List.getElem?_eq_getElem hlt⟩
    have q1 : decide ((k : Int) < (l.length : Int)) = true := by simp; omega
    have q2 : IntKind.i64.wrap ((k : Int) + 1) = ((k + 1 : Nat) : Int) := by rw [bE] <;> omega
    have hin := mvE_in (hmv m (List.mem_of_getElem? hx))
    have hm9 : m.b.length < 9223372036854775808 := hok m (List.mem_of_getElem? hx)
    have htk := tchL_take (c := dA) hx
    have hc9 : (dT dA (l.take k)).length = 9 := tchL_len _ dA
    generalize dT dA (l.take k) = c at htk hc9 ⊢
    ((try simp only [aO, SS, TF58Touch, aM, setRange, aN, aC, aB, aF, aE, aD, aA, Nat.reduceLT, Nat.reduceEqDiff, Nat.reduceAdd, Nat.reduceMul, Nat.reduceSub, Nat.reduceLeDiff, Nat.reduceBEq, reduceCtorEq, q1, aW, bC, hx, aQ]); (repeat' ((first | apply aJ | apply aI | apply aL | apply aK | apply aH | apply aG) <;> intro h <;> simp only [h, SS, TF58Touch, aM, setRange, aN, aC, aB, aF, aE, aD, aA, Nat.reduceLT, Nat.reduceEqDiff, Nat.reduceAdd, Nat.reduceMul, Nat.reduceSub, Nat.reduceLeDiff, Nat.reduceBEq, reduceCtorEq, q1, aW, bC, hx, aQ])))
    refine bH (Top.loop (I := fun s : { j : Nat // j ≤ m.b.length } => (mkF 39 [(26, .int .i64 (s.1 : Nat)), (25, .int .i64 (m.b.length : Int)), (24, .lsl (bJ m.b)), (19, .int .i64 (k : Nat)), (18, .int .i64 (l.length : Int)), (17, .lsl (bF l)), (5, .ptr 2 0), (2, .ptr 1 0)], mkH 3 [(2, some (.row (bY (tchB c (m.b.take s.1))) 86 0 0 false)), (1, some (.row [.int .i64 0, .int .i64 0, .int .i64 0, .int .i64 0, .int .i64 0, .int .i64 0, .int .i64 0, .int .i64 0, .int .i64 0] 86 0 0 false)), (0, some (.row [.str p, .str e, .bool late, .lsl (bF l)] 24 0 0 false))] 0 [])) (μ := fun s => m.b.length - s.1) ⟨0, by omega⟩ (aX.drop (by simp [look, below, aT]) (by simp [aU, bG, below, aT, aV, List.take_zero, tchB]) (by simp [aU])) ?_)
    rintro ⟨j, hj⟩
    refine aS bA _ _ _ _ ?_
    by_cases hjl : j < m.b.length
    rotate_left
    · obtain rfl : j = m.b.length := by omega
      have q3 : decide ((m.b.length : Int) < (m.b.length : Int)) = false := by simp
      rw [List.take_length]
      ((try simp only [aO, SS, TF58Touch, aM, setRange, aN, aC, aB, aF, aE, aD, aA, Nat.reduceLT, Nat.reduceEqDiff, Nat.reduceAdd, Nat.reduceMul, Nat.reduceSub, Nat.reduceLeDiff, Nat.reduceBEq, reduceCtorEq, q3, q2]); (repeat' ((first | apply aJ | apply aI | apply aL | apply aK | apply aH | apply aG) <;> intro h <;> simp only [h, SS, TF58Touch, aM, setRange, aN, aC, aB, aF, aE, aD, aA, Nat.reduceLT, Nat.reduceEqDiff, Nat.reduceAdd, Nat.reduceMul, Nat.reduceSub, Nat.reduceLeDiff, Nat.reduceBEq, reduceCtorEq, q3, q2])))
      refine ⟨⟨k + 1, hlt⟩, by simp; omega, ?_⟩
      simp only [htk]
      exact (aX.drop (by simp [look, below, aT]) (by simp [aU, bG, below, aT, aV]) (by simp [aU]))
    obtain ⟨x, hxb⟩ : ∃ x, m.b[j]? = some x := ⟨m.b[j], List.getElem?_eq_getElem hjl⟩
    obtain ⟨hx1, hx9⟩ := inNine_get hin hxb
    have q3 : decide ((j : Int) < (m.b.length : Int)) = true := by simp; omega
    have q4 : IntKind.i64.wrap ((j : Int) + 1) = ((j + 1 : Nat) : Int) := by rw [bE] <;> omega
    have hd9 : (tchB c (m.b.take j)).length = 9 := (tchB_len _ c).trans hc9
    have htb := tchB_take (c := c) hxb
    generalize tchB c (m.b.take j) = d at htb hd9 ⊢
    obtain ⟨i, hi9, _, r1, r2, r3, r4, r5⟩ := inc_facts hd9 hx1 hx9
    ((try simp only [aO, SS, TF58Touch, aM, aN, aC, aB, aF, aE, aD, aA, Nat.reduceLT, Nat.reduceEqDiff, Nat.reduceAdd, Nat.reduceMul, Nat.reduceSub, Nat.reduceLeDiff, Nat.reduceBEq, reduceCtorEq, q3, q4, aZ, hxb, r1, r2, r3, r4, r5]); (repeat' ((first | apply aJ | apply aI | apply aL | apply aK | apply aH | apply aG) <;> intro h <;> simp only [h, SS, TF58Touch, aM, aN, aC, aB, aF, aE, aD, aA, Nat.reduceLT, Nat.reduceEqDiff, Nat.reduceAdd, Nat.reduceMul, Nat.reduceSub, Nat.reduceLeDiff, Nat.reduceBEq, reduceCtorEq, q3, q4, aZ, hxb, r1, r2, r3, r4, r5])))
    refine ⟨⟨j + 1, hjl⟩, by simp; omega, ?_⟩
    simp only [htb]
    exact (aX.drop (by simp [look, below, aT]) (by simp [aU, bG, below, aT, aV]) (by simp [aU]))

/-! the reference's -/
def F62 : List EVal → Option EVal
  | [.agg [.str _, .str _, .bool _, ms]] => (bR ms).bind fun l => if l.all (fun m => inNine m.b) = true then some (.agg (bY (dT dA l))) else none
  | _ => none
theorem fn62 : FnT 62 F62 := by
  refine Fn.intro mixed bA Tryz.func62 rfl [] (fun _ h => by cases h) ?_
  intro args v hF
  unfold F62 at hF
  split at hF
  rotate_left
  · cases hF
  intro Q hV
  have hQ := bL.of hV
  rename_i p e late ms
  cases ha : bR ms with
  | none => rw [ha] at hF; cases hF
  | some l =>
  rw [ha] at hF
  simp only [Option.bind_some] at hF
  split at hF
  rotate_left
  · cases hF
  rename_i hin0
  cases hF
  obtain ⟨rfl, hlen, hok⟩ := bU ha
  clear ha
  simp only [List.all_eq_true] at hin0
  have hz9 : bY dA = [.int .i64 0, .int .i64 0, .int .i64 0, .int .i64 0, .int .i64 0, .int .i64 0, .int .i64 0, .int .i64 0, .int .i64 0] := rfl
  refine Top.view (aX.start (n := 39) rfl (by simp)) (aS bA _ _ _ _ ?_)
  ((try simp only [aO, SS, TF62Touch, aM, setRange, aN, aC, aB, aF, aE, aD, aA, Nat.reduceLT, Nat.reduceEqDiff, Nat.reduceAdd, Nat.reduceMul, Nat.reduceSub, Nat.reduceLeDiff, Nat.reduceBEq, reduceCtorEq]); (repeat' ((first | apply aJ | apply aI | apply aL | apply aK | apply aH | apply aG) <;> intro h <;> simp only [h, SS, TF62Touch, aM, setRange, aN, aC, aB, aF, aE, aD, aA, Nat.reduceLT, Nat.reduceEqDiff, Nat.reduceAdd, Nat.reduceMul, Nat.reduceSub, Nat.reduceLeDiff, Nat.reduceBEq, reduceCtorEq])))
  refine bH (Top.loop (I := fun s : { k : Nat // k ≤ l.length } => (mkF 39 [(4, .int .i64 (s.1 : Nat)), (3, .ptr 2 0), (1, .ptr 0 0), (2, .ptr 1 0)], mkH 3 [(2, some (.row (bY (dT dA (l.take s.1))) 86 0 0 false)), (1, some (.row [.int .i64 0, .int .i64 0, .int .i64 0, .int .i64 0, .int .i64 0, .int .i64 0, .int .i64 0, .int .i64 0, .int .i64 0] 86 0 0 false)), (0, some (.row [.str p, .str e, .bool late, .lsl (bF l)] 24 0 0 false))] 0 [])) (μ := fun s => l.length - s.1) ⟨0, by omega⟩ (aX.drop (by simp [look, below, aT]) (by simp [aU, bG, below, aT, List.take_zero, dT, hz9]) (by simp [aU])) ?_)
  rintro ⟨k, hk⟩
  refine aS bA _ _ _ _ ?_
  by_cases hlt : k < l.length
  rotate_left
  · obtain rfl : k = l.length := by omega
    have q1 : decide ((l.length : Int) < (l.length : Int)) = false := by simp
    have hl9 : (dT dA l).length = 9 := tchL_len l dA
    have hr9 : (bY (dT dA l)).length = 9 := by rw [eRow_length, hl9]
    have ht9 : (bY (dT dA l)).take 9 = bY (dT dA l) := by rw [← hr9, List.take_length]
    have ha9 := allOne_eRow (dT dA l)
    have hk9 := keepL_eRow (dT dA l)
    rw [List.take_length]
    ((try simp only [aO, SS, TF62Touch, aM, setRange, aN, aC, aB, aF, aE, aD, aA, Nat.reduceLT, Nat.reduceEqDiff, Nat.reduceAdd, Nat.reduceMul, Nat.reduceSub, Nat.reduceLeDiff, Nat.reduceBEq, reduceCtorEq, q1, hr9, ht9, ha9, aP]); (repeat' ((first | apply aJ | apply aI | apply aL | apply aK | apply aH | apply aG) <;> intro h <;> simp only [h, SS, TF62Touch, aM, setRange, aN, aC, aB, aF, aE, aD, aA, Nat.reduceLT, Nat.reduceEqDiff, Nat.reduceAdd, Nat.reduceMul, Nat.reduceSub, Nat.reduceLeDiff, Nat.reduceBEq, reduceCtorEq, q1, hr9, ht9, ha9, aP])))
    (refine hQ _ _ _ (aR (by first | exact .inl rfl | exact .inr rfl) ?_); simp only [SS, TF62Touch, aM, setRange, aN, aC, aB, aF, aE, aD, aA, Nat.reduceLT, Nat.reduceEqDiff, Nat.reduceAdd, Nat.reduceMul, Nat.reduceSub, Nat.reduceLeDiff, Nat.reduceBEq, reduceCtorEq, hr9, ht9, hk9])
  obtain ⟨m, hx⟩ : ∃ m, l[k]? = some m := ⟨l[k], List.getElem?_eq_getElem hlt⟩
  have q1 : decide ((k : Int) < (l.length : Int)) = true := by simp; omega
  have q2 : IntKind.i64.wrap ((k : Int) + 1) = ((k + 1 : Nat) : Int) := by rw [bE] <;> omega
  have hin := hin0 m (List.mem_of_getElem? hx)
  have hm9 : m.b.length < 9223372036854775808 := hok m (List.mem_of_getElem? hx)
  have htk := tchL_take (c := dA) hx
  have hc9 : (dT dA (l.take k)).length = 9 := tchL_len _ dA
  generalize dT dA (l.take k) = c at htk hc9 ⊢
  ((try simp only [aO, SS, TF62Touch, aM, setRange, aN, aC, aB, aF, aE, aD, aA, Nat.reduceLT, Nat.reduceEqDiff, Nat.reduceAdd, Nat.reduceMul, Nat.reduceSub, Nat.reduceLeDiff, Nat.reduceBEq, reduceCtorEq, q1, aP]); (repeat' ((first | apply aJ | apply aI | apply aL | apply aK | apply aH | apply aG) <;> intro h <;> simp only [h, SS, TF62Touch, aM, setRange, aN, aC, aB, aF, aE, aD, aA, Nat.reduceLT, Nat.reduceEqDiff, Nat.reduceAdd, Nat.reduceMul, Nat.reduceSub, Nat.reduceLeDiff, Nat.reduceBEq, reduceCtorEq, q1, aP])))
  refine bH (Top.loop (I := fun s : { j : Nat // j ≤ m.b.length } => (mkF 39 [(5, .int .i64 (s.1 : Nat)), (4, .int .i64 (k : Nat)), (3, .ptr 2 0), (1, .ptr 0 0), (2, .ptr 1 0)], mkH 3 [(2, some (.row (bY (tchB c (m.b.take s.1))) 86 0 0 false)), (1, some (.row [.int .i64 0, .int .i64 0, .int .i64 0, .int .i64 0, .int .i64 0, .int .i64 0, .int .i64 0, .int .i64 0, .int .i64 0] 86 0 0 false)), (0, some (.row [.str p, .str e, .bool late, .lsl (bF l)] 24 0 0 false))] 0 [])) (μ := fun s => m.b.length - s.1) ⟨0, by omega⟩ (aX.drop (by simp [look, below, aT]) (by simp [aU, bG, below, aT, aV, List.take_zero, tchB]) (by simp [aU])) ?_)
  rintro ⟨j, hj⟩
  refine aS bA _ _ _ _ ?_
  by_cases hjl : j < m.b.length
  rotate_left
  · obtain rfl : j = m.b.length := by omega
    have q3 : decide ((m.b.length : Int) < (m.b.length : Int)) = false := by simp
    rw [List.take_length]
    ((try simp only [aO, SS, TF62Touch, aM, setRange, aN, aC, aB, aF, aE, aD, aA, Nat.reduceLT, Nat.reduceEqDiff, Nat.reduceAdd, Nat.reduceMul, Nat.reduceSub, Nat.reduceLeDiff, Nat.reduceBEq, reduceCtorEq, q3, q2, aW, bC, hx, aQ]); (repeat' ((first | apply aJ | apply aI | apply aL | apply aK | apply aH | apply aG) <;> intro h <;> simp only [h, SS, TF62Touch, aM, setRange, aN, aC, aB, aF, aE, aD, aA, Nat.reduceLT, Nat.reduceEqDiff, Nat.reduceAdd, Nat.reduceMul, Nat.reduceSub, Nat.reduceLeDiff, Nat.reduceBEq, reduceCtorEq, q3, q2, aW, bC, hx, aQ])))
    refine ⟨⟨k + 1, hlt⟩, by simp; omega, ?_⟩
    simp only [htk]
    exact (aX.drop (by simp [look, below, aT]) (by simp [aU, bG, below, aT, aV]) (by simp [aU]))
  obtain ⟨x, hxb⟩ : ∃ x, m.b[j]? = some x := ⟨m.b[j], List.getElem?_eq_getElem hjl⟩
  obtain ⟨hx1, hx9⟩ := inNine_get hin hxb
  have q3 : decide ((j : Int) < (m.b.length : Int)) = true := by simp; omega
  have q4 : IntKind.i64.wrap ((j : Int) + 1) = ((j + 1 : Nat) : Int) := by rw [bE] <;> omega
  have hd9 : (tchB c (m.b.take j)).length = 9 := (tchB_len _ c).trans hc9
  have htb := tchB_take (c := c) hxb
  generalize tchB c (m.b.take j) = d at htb hd9 ⊢
  obtain ⟨i, hi9, _, r1, r2, r3, r4, r5⟩ := inc_facts hd9 hx1 hx9
  ((try simp only [aO, SS, TF62Touch, aM, aN, aC, aB, aF, aE, aD, aA, Nat.reduceLT, Nat.reduceEqDiff, Nat.reduceAdd, Nat.reduceMul, Nat.reduceSub, Nat.reduceLeDiff, Nat.reduceBEq, reduceCtorEq, q3, q4, aW, bC, hx, aQ, aZ, hxb, r1, r2, r3, r4, r5]); (repeat' ((first | apply aJ | apply aI | apply aL | apply aK | apply aH | apply aG) <;> intro h <;> simp only [h, SS, TF62Touch, aM, aN, aC, aB, aF, aE, aD, aA, Nat.reduceLT, Nat.reduceEqDiff, Nat.reduceAdd, Nat.reduceMul, Nat.reduceSub, Nat.reduceLeDiff, Nat.reduceBEq, reduceCtorEq, q3, q4, aW, bC, hx, aQ, aZ, hxb, r1, r2, r3, r4, r5])))
  refine ⟨⟨j + 1, hjl⟩, by simp; omega, ?_⟩
  simp only [htb]
  exact (aX.drop (by simp [look, below, aT]) (by simp [aU, bG, below, aT, aV]) (by simp [aU]))
end Go.Ev
