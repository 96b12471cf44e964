import Derived.Test.YtdhnjbgggkdiiaaGreatDoorForm1
set_option linter.unusedSimpArgs false
set_option linter.unusedVariables false
namespace Go.Ev
open Go.RowKit Go.Proofs
set_option linter.defProp false
def TF81Form2 := And.intro (And.intro (And.intro (@Tryz.underlying9) (@sz9)) (And.intro (@bZ) (@I9s))) (And.intro (And.intro (@I9b) (@bX)) (And.intro (@cA) (And.intro (@call130) (@Tryz.results81))))
def TF85Form2 := And.intro (And.intro (And.intro (And.intro (@Tryz.underlying3) (@sz3)) (And.intro (@bK) (And.intro (@I3s) (@I3b)))) (And.intro (And.intro (@bJ) (And.intro (@bL) (@Tryz.underlying5))) (And.intro (@sz5) (And.intro (@info5) (@I5s))))) (And.intro (And.intro (And.intro (@I5b) (And.intro (@zero5) (@grow5))) (And.intro (@Tryz.underlying9) (And.intro (@sz9) (@bZ)))) (And.intro (And.intro (@I9s) (And.intro (@I9b) (@bX))) (And.intro (@cA) (And.intro (@call74) (@Tryz.results85)))))
def TF86Form2 := And.intro (And.intro (And.intro (@Tryz.underlying3) (@sz3)) (And.intro (@bK) (@I3s))) (And.intro (And.intro (@I3b) (@bJ)) (And.intro (@bL) (And.intro (@call93) (@Tryz.results86))))
def TF87Form2 := And.intro (And.intro (And.intro (@Tryz.underlying3) (@sz3)) (And.intro (@bK) (@I3s))) (And.intro (And.intro (@I3b) (@bJ)) (And.intro (@bL) (And.intro (@call93) (@Tryz.results87))))
def TF130Form2 := And.intro (And.intro (And.intro (And.intro (@Tryz.underlying3) (@sz3)) (And.intro (@bK) (@I3s))) (And.intro (And.intro (@I3b) (@bJ)) (And.intro (@bL) (@Tryz.underlying9)))) (And.intro (And.intro (And.intro (@sz9) (@bZ)) (And.intro (@I9s) (@I9b))) (And.intro (And.intro (@bX) (@cA)) (And.intro (@call160) (@Tryz.results130))))
def TF132Form2 := And.intro (And.intro (And.intro (@Tryz.underlying3) (@sz3)) (And.intro (@bK) (@I3s))) (And.intro (And.intro (@I3b) (@bJ)) (And.intro (@bL) (@Tryz.results132)))
set_option maxRecDepth 20000
set_option maxHeartbeats 4000000

/-! the event of a play -/
def isEv : List Nat → Bool
  | [x] => hasC [75, 87, 72, 73, 88, 78, 89] (x : Int)
  | _ => false
theorem isEv_not {l : List Nat} (h : l.length ≠ 1) : isEv l = false := by
  match l, h with
  | [], _ => rfl
  | _ :: _ :: _, _ => rfl
theorem e74E {x : Nat} : F74 [.str [UInt8.toNat 75, UInt8.toNat 87, UInt8.toNat 72, UInt8.toNat 73, UInt8.toNat 88, UInt8.toNat 78, UInt8.toNat 89], .int .u8 (x : Int)] = some (.bool (isEv [x])) := by
  show F74 [.str [75, 87, 72, 73, 88, 78, 89], .int .u8 (x : Int)] = _
  simp only [F74]
  rw [if_pos (by simp)]; rfl
def F85 : List EVal → Option EVal
  | [.str l] => some (.bool (decide (l = []) || isEv l))
  | _ => none
theorem fn85 : FnT 85 F85 := by
  refine Fn.intro mixed aJ Tryz.func85 rfl [(74, F74)] (by simp only [List.forall_mem_cons]; exact ⟨fn74, fun _ h => by cases h⟩) ?_
  intro args v hF
  unfold F85 at hF
  split at hF
  rotate_left
  · cases hF
  intro Q hV
  have hQ := aW.of hV
  rename_i l
  cases hF
  refine Top.view (aF.start (n := 15) rfl (by simp)) (aD aJ _ _ _ _ ?_)
  match l, hQ with
  | [], hQ =>
    (try simp only [aI, SS, aA, Nat.reduceLT, Nat.reduceEqDiff, reduceCtorEq])
    (refine hQ _ _ _ (aC (by first | exact .inl rfl | exact .inr rfl) ?_); simp only [SS, TF85Form2, Nat.reduceLT, Nat.reduceEqDiff, reduceCtorEq])
  | [x], hQ =>
    have c1 : decide ([x] = []) = false := by simp
    have c2 : (((1 : Nat) : Int) == 1) = true := by decide
    (try simp only [aI, SS, TF85Form2, aH, aA, Nat.reduceLT, Nat.reduceEqDiff, reduceCtorEq, c2, e74E])
    (refine hQ _ _ _ (aC (by first | exact .inl rfl | exact .inr rfl) ?_); simp only [SS, TF85Form2, Nat.reduceLT, Nat.reduceEqDiff, reduceCtorEq])
  | x :: y :: l, hQ =>
    have c1 : decide (x :: y :: l = []) = false := by simp
    have c2 : (((l.length + 1 + 1 : Nat) : Int) == 1) = false := by simp; omega
    (try simp only [aI, SS, TF85Form2, aA, Nat.reduceLT, Nat.reduceEqDiff, reduceCtorEq, c2])
    (refine hQ _ _ _ (aC (by first | exact .inl rfl | exact .inr rfl) ?_); simp only [SS, TF85Form2, Nat.reduceLT, Nat.reduceEqDiff, reduceCtorEq])
    rfl
set_option maxRecDepth 100000 in
theorem isEv_runs : ((List.range 256).all fun r => allBool (isEv [r]) (run Tryz.prog gT quiet 2000 (.call 130 [.str [r]] H.start))) = true := by kernel_rfl
def F130 : List EVal → Option EVal
  | [.str l] => if aU l = true then some (.bool (isEv l)) else none
  | _ => none
def F130a : List EVal → Option EVal
  | [.str l] => if l.length ≠ 1 then some (.bool false) else none
  | _ => none
def F130b : List EVal → Option EVal
  | [.str [x]] => if x < 256 then some (.bool (isEv [x])) else none
  | _ => none
theorem fn130b : FnT 130 F130b := by
  refine run_bool (n := 2000) fun a u h => ?_
  unfold F130b at h
  split at h
  rotate_left
  · cases h
  rename_i x
  split at h
  rotate_left
  · cases h
  rename_i hx
  cases h
  exact ⟨_, rfl, List.all_eq_true.1 isEv_runs x (by simpa using hx)⟩
theorem fn130a : FnT 130 F130a := by
  refine Fn.intro mixed aJ Tryz.func130 rfl [] (fun _ h => by cases h) ?_
  intro args v hF
  unfold F130a at hF
  split at hF
  rotate_left
  · cases hF
  intro Q hV
  have hQ := aW.of hV
  rename_i l
  split at hF
  rotate_left
  · cases hF
  rename_i hl
  cases hF
  refine Top.view (aF.start (n := 10) rfl (by simp)) (aD aJ _ _ _ _ ?_)
  have c1 : ((l.length : Int) == 1) = false := by simp; omega
  (try simp only [aI, SS, TF130Form2, aA, Nat.reduceLT, Nat.reduceEqDiff, reduceCtorEq, c1])
  (refine hQ _ _ _ (aC (by first | exact .inl rfl | exact .inr rfl) ?_); simp only [SS, TF130Form2, Nat.reduceLT, Nat.reduceEqDiff, reduceCtorEq])
theorem fn130 : FnT 130 F130 := by
  refine Fn.or fun a v h => ?_
  unfold F130 at h
  split at h
  rotate_left
  · cases h
  rename_i l
  split at h
  rotate_left
  · cases h
  rename_i hb
  cases h
  by_cases hl : l.length = 1
  · match l, hl with
    | [x], _ =>
      refine ⟨F130b, fn130b, ?_⟩
      have hx : x < 256 := by simpa [aU] using hb
      simp only [F130b]
      rw [if_pos hx]
  · refine ⟨F130a, fn130a, ?_⟩
    simp only [F130a]
    rw [if_pos hl, isEv_not hl]
def eventE (l : List Nat) : Int := if (decide (l = []) || isEv l) = true then 0 else 13
def F81 : List EVal → Option EVal
  | [.str l] => if aU l = true then some (.int .i64 (eventE l)) else none
  | _ => none
theorem fn81 : FnT 81 F81 := by
  refine Fn.intro mixed aJ Tryz.func81 rfl [(130, F130)] (by simp only [List.forall_mem_cons]; exact ⟨fn130, fun _ h => by cases h⟩) ?_
  intro args v hF
  unfold F81 at hF
  split at hF
  rotate_left
  · cases hF
  intro Q hV
  have hQ := aW.of hV
  rename_i l
  split at hF
  rotate_left
  · cases hF
  rename_i hb
  cases hF
  refine Top.view (aF.start (n := 10) rfl (by simp)) (aD aJ _ _ _ _ ?_)
  have h130 : F130 [.str l] = some (.bool (isEv l)) := by simp only [F130]; rw [if_pos hb]
  cases hl : decide (l = []) with
  | true =>
    (try simp only [aI, SS, aA, Nat.reduceLT, Nat.reduceEqDiff, reduceCtorEq, hl])
    (refine hQ _ _ _ (aC (by first | exact .inl rfl | exact .inr rfl) ?_); simp only [SS, TF81Form2, Nat.reduceLT, Nat.reduceEqDiff, reduceCtorEq])
    simp [eventE, hl]
  | false =>
    cases he : isEv l with
    | true =>
      (try simp only [aI, SS, TF81Form2, aH, aA, Nat.reduceLT, Nat.reduceEqDiff, reduceCtorEq, hl, h130, he])
      (refine hQ _ _ _ (aC (by first | exact .inl rfl | exact .inr rfl) ?_); simp only [SS, TF81Form2, Nat.reduceLT, Nat.reduceEqDiff, reduceCtorEq])
      simp [eventE, hl, he]
    | false =>
      (try simp only [aI, SS, TF81Form2, aH, aA, Nat.reduceLT, Nat.reduceEqDiff, reduceCtorEq, hl, h130, he])
      (refine hQ _ _ _ (aC (by first | exact .inl rfl | exact .inr rfl) ?_); simp only [SS, TF81Form2, Nat.reduceLT, Nat.reduceEqDiff, reduceCtorEq])
      simp [eventE, hl, he]

/-! the bases of a move -/
theorem rangeE_in {n lo hi : Int} (h : lo ≤ n ∧ n ≤ hi) : rangeE n lo hi = 0 := by unfold rangeE; rw [if_neg (by omega)]
theorem rangeE_out {n lo hi : Int} (h : ¬(lo ≤ n ∧ n ≤ hi)) : rangeE n lo hi = 3 := by unfold rangeE; rw [if_pos (by omega)]
def F86 : List EVal → Option EVal
  | [.int .i64 n] => some (.int .i64 (rangeE n 0 3))
  | _ => none
theorem e86 {n : Int} : F86 [.int .i64 n] = some (.int .i64 (rangeE n 0 3)) := rfl
theorem fn86 : FnT 86 F86 := by
  refine Fn.intro mixed aJ Tryz.func86 rfl [(93, F93)] (by simp only [List.forall_mem_cons]; exact ⟨fn93, fun _ h => by cases h⟩) ?_
  intro args v hF
  unfold F86 at hF
  split at hF
  rotate_left
  · cases hF
  intro Q hV
  have hQ := aW.of hV
  rename_i n
  cases hF
  refine Top.view (aF.start (n := 6) rfl (by simp)) (aD aJ _ _ _ _ ?_)
  by_cases h : 0 ≤ n ∧ n ≤ 3
  · have c1 := withinC_t h
    (try simp only [aI, SS, TF86Form2, aH, aA, Nat.reduceLT, Nat.reduceEqDiff, reduceCtorEq, e93, c1])
    (refine hQ _ _ _ (aC (by first | exact .inl rfl | exact .inr rfl) ?_); simp only [SS, TF86Form2, Nat.reduceLT, Nat.reduceEqDiff, reduceCtorEq])
    rw [rangeE_in h]
  · have c1 := withinC_f h
    (try simp only [aI, SS, TF86Form2, aH, aA, Nat.reduceLT, Nat.reduceEqDiff, reduceCtorEq, e93, c1])
    (refine hQ _ _ _ (aC (by first | exact .inl rfl | exact .inr rfl) ?_); simp only [SS, TF86Form2, Nat.reduceLT, Nat.reduceEqDiff, reduceCtorEq])
    rw [rangeE_out h]
def F87 : List EVal → Option EVal
  | [.int .i64 n] => some (.int .i64 (rangeE n 1 4))
  | _ => none
theorem e87 {n : Int} : F87 [.int .i64 n] = some (.int .i64 (rangeE n 1 4)) := rfl
theorem fn87 : FnT 87 F87 := by
  refine Fn.intro mixed aJ Tryz.func87 rfl [(93, F93)] (by simp only [List.forall_mem_cons]; exact ⟨fn93, fun _ h => by cases h⟩) ?_
  intro args v hF
  unfold F87 at hF
  split at hF
  rotate_left
  · cases hF
  intro Q hV
  have hQ := aW.of hV
  rename_i n
  cases hF
  refine Top.view (aF.start (n := 6) rfl (by simp)) (aD aJ _ _ _ _ ?_)
  by_cases h : 1 ≤ n ∧ n ≤ 4
  · have c1 := withinC_t h
    (try simp only [aI, SS, TF87Form2, aH, aA, Nat.reduceLT, Nat.reduceEqDiff, reduceCtorEq, e93, c1])
    (refine hQ _ _ _ (aC (by first | exact .inl rfl | exact .inr rfl) ?_); simp only [SS, TF87Form2, Nat.reduceLT, Nat.reduceEqDiff, reduceCtorEq])
    rw [rangeE_in h]
  · have c1 := withinC_f h
    (try simp only [aI, SS, TF87Form2, aH, aA, Nat.reduceLT, Nat.reduceEqDiff, reduceCtorEq, e93, c1])
    (refine hQ _ _ _ (aC (by first | exact .inl rfl | exact .inr rfl) ?_); simp only [SS, TF87Form2, Nat.reduceLT, Nat.reduceEqDiff, reduceCtorEq])
    rw [rangeE_out h]
def reachB (r f t : Int) : Bool := if r = 1 then t == f else if r = 2 then t == IntKind.i64.wrap (f + 1) else if r = 3 then decide (f < t) else if r = 4 then decide (f ≤ t) else false
def F132 : List EVal → Option EVal
  | [.int .i64 r, .int .i64 f, .int .i64 t] => some (.bool (reachB r f t))
  | _ => none
theorem e132 {r f t : Int} : F132 [.int .i64 r, .int .i64 f, .int .i64 t] = some (.bool (reachB r f t)) := rfl
theorem fn132 : FnT 132 F132 := by
  refine Fn.intro mixed aJ Tryz.func132 rfl [] (fun _ h => by cases h) ?_
  intro args v hF
  unfold F132 at hF
  split at hF
  rotate_left
  · cases hF
  intro Q hV
  have hQ := aW.of hV
  rename_i r f t
  cases hF
  refine Top.view (aF.start (n := 29) rfl (by simp)) (aD aJ _ _ _ _ ?_)
  by_cases h1 : r = 1
  · have c1 : (r == 1) = true := by simpa using h1
    (try simp only [aI, SS, aA, Nat.reduceLT, Nat.reduceEqDiff, Nat.reduceAdd, reduceCtorEq, c1])
    (refine hQ _ _ _ (aC (by first | exact .inl rfl | exact .inr rfl) ?_); simp only [SS, TF132Form2, Nat.reduceLT, Nat.reduceEqDiff, reduceCtorEq])
    simp [reachB, h1]
  have c1 : (r == 1) = false := by simpa using h1
  by_cases h2 : r = 2
  · have c2 : (r == 2) = true := by simpa using h2
    (try simp only [aI, SS, aA, Nat.reduceLT, Nat.reduceEqDiff, Nat.reduceAdd, reduceCtorEq, c1, c2])
    (refine hQ _ _ _ (aC (by first | exact .inl rfl | exact .inr rfl) ?_); simp only [SS, TF132Form2, Nat.reduceLT, Nat.reduceEqDiff, reduceCtorEq])
    simp [reachB, h2]
  have c2 : (r == 2) = false := by simpa using h2
  by_cases h3 : r = 3
  · have c3 : (r == 3) = true := by simpa using h3
    (try simp only [aI, SS, aA, Nat.reduceLT, Nat.reduceEqDiff, Nat.reduceAdd, reduceCtorEq, c1, c2, c3])
    (refine hQ _ _ _ (aC (by first | exact .inl rfl | exact .inr rfl) ?_); simp only [SS, TF132Form2, Nat.reduceLT, Nat.reduceEqDiff, reduceCtorEq])
    simp [reachB, h3]
  have c3 : (r == 3) = false := by simpa using h3
  by_cases h4 : r = 4
  · have c4 : (r == 4) = true := by simpa using h4
    (try simp only [aI, SS, aA, Nat.reduceLT, Nat.reduceEqDiff, Nat.reduceAdd, reduceCtorEq, c1, c2, c3, c4])
    (refine hQ _ _ _ (aC (by first | exact .inl rfl | exact .inr rfl) ?_); simp only [SS, TF132Form2, Nat.reduceLT, Nat.reduceEqDiff, reduceCtorEq])
    simp [reachB, h4]
  have c4 : (r == 4) = false := by simpa using h4
  (try simp only [aI, SS, aA, Nat.reduceLT, Nat.reduceEqDiff, Nat.reduceAdd, reduceCtorEq, c1, c2, c3, c4])
  (refine hQ _ _ _ (aC (by first | exact .inl rfl | exact .inr rfl) ?_); simp only [SS, TF132Form2, Nat.reduceLT, Nat.reduceEqDiff, reduceCtorEq])
  simp [reachB, h1, h2, h3, h4]
end Go.Ev
