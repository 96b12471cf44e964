import Derived.Test.YtdhnjbgggkdiiaaGreatDoorNames
import Derived.Test.YtdhnjbgggkdiiaaGreatDoorForm3
set_option linter.unusedSimpArgs false
set_option linter.unusedVariables false
namespace Go.Ev
open Go.RowKit Go.Proofs
set_option linter.defProp false
def TF79First := And.intro (And.intro (And.intro (And.intro (@Tryz.underlying3) (@sz3)) (And.intro (@bK) (And.intro (@I3s) (@I3b)))) (And.intro (And.intro (@bJ) (And.intro (@bL) (@Tryz.underlying30))) (And.intro (@sz30) (And.intro (@info30) (@I30s))))) (And.intro (And.intro (And.intro (@I30b) (@zero30)) (And.intro (@grow30) (And.intro (@Tryz.underlying158) (@sz158)))) (And.intro (And.intro (@info158) (And.intro (@I158s) (@I158b))) (And.intro (@zero158) (And.intro (@grow158) (@Tryz.results79)))))
set_option maxRecDepth 20000
set_option maxHeartbeats 4000000

/-! the first error of the program -/
def F79 : List EVal → Option EVal
  | [a] => (dInts a).map fun l => .int .i64 (cH l)
  | _ => none
theorem e79 {l : List Int} (h : l.length < 9223372036854775808) : F79 [.lsl (aS l)] = some (.int .i64 (cH l)) := by
  simp only [F79, dInts_e h, Option.map_some]
theorem e79two {a b : Int} : F79 [.lsl [[.int .i64 a], [.int .i64 b]]] = some (.int .i64 (cH [a, b])) := e79 (l := [a, b]) (by simp)
theorem fn79 : FnT 79 F79 := by
  refine Fn.intro mixed aJ Tryz.func79 rfl [] (fun _ h => by cases h) ?_
  intro args v hF
  unfold F79 at hF
  split at hF
  rotate_left
  · cases hF
  intro Q hV
  have hQ := aW.of hV
  rename_i a
  cases ha : dInts a with
  | none => rw [ha] at hF; cases hF
  | some l =>
  rw [ha] at hF
  cases hF
  obtain ⟨rfl, hlen⟩ := dInts_inv ha
  clear ha
  refine Top.view (aF.start (n := 15) rfl (by simp)) (aD aJ _ _ _ _ ?_)
  ((try simp only [aI, SS, TF79First, aH, setRange, bS, aA, aO, bN, bG, aY, aE, Nat.reduceLT, Nat.reduceEqDiff, Nat.reduceAdd, Nat.reduceMul, Nat.reduceSub, Nat.reduceLeDiff, Nat.reduceBEq, reduceCtorEq, aM]); (repeat' ((first | apply wpStep_not | apply wpStep_sym | apply wpCond_not | apply wpCond_sym | apply wpDStep_not | apply wpDStep_sym) <;> intro h <;> simp only [h, SS, TF79First, aH, setRange, bS, aA, aO, bN, bG, aY, aE, Nat.reduceLT, Nat.reduceEqDiff, Nat.reduceAdd, Nat.reduceMul, Nat.reduceSub, Nat.reduceLeDiff, Nat.reduceBEq, reduceCtorEq, aM])))
  refine aT (Top.loop (I := fun s : { k : Nat // k ≤ l.length ∧ cH l = cH (l.drop k) } => (mkF 15 [(7, .int .i64 (s.1 : Nat)), (6, .int .i64 (l.length : Int)), (5, .lsl (aS l))], H.start)) (μ := fun s => l.length - s.1) ⟨0, by simp⟩ (aF.sub (by simp [look])) ?_)
  rintro ⟨k, hk, hf⟩
  refine aD aJ _ _ _ _ ?_
  by_cases hlt : k < l.length
  · obtain ⟨x, hx⟩ : ∃ x, l[k]? = some x := ⟨l[k], List.getElem?_eq_getElem hlt⟩
    have c1 : decide ((k : Int) < (l.length : Int)) = true := by simp; omega
    have c2 : IntKind.i64.wrap ((k : Int) + 1) = ((k + 1 : Nat) : Int) := by rw [aP] <;> omega
    have hfd := firstL_drop hx
    ((try simp only [aI, SS, TF79First, aH, setRange, bS, aA, aO, bN, bG, aY, aE, Nat.reduceLT, Nat.reduceEqDiff, Nat.reduceAdd, Nat.reduceMul, Nat.reduceSub, Nat.reduceLeDiff, Nat.reduceBEq, reduceCtorEq, aM, bM, c1, c2, hx]); (repeat' ((first | apply wpStep_not | apply wpStep_sym | apply wpCond_not | apply wpCond_sym | apply wpDStep_not | apply wpDStep_sym) <;> intro h <;> simp only [h, SS, TF79First, aH, setRange, bS, aA, aO, bN, bG, aY, aE, Nat.reduceLT, Nat.reduceEqDiff, Nat.reduceAdd, Nat.reduceMul, Nat.reduceSub, Nat.reduceLeDiff, Nat.reduceBEq, reduceCtorEq, aM, bM, c1, c2, hx])))
    · have h' : x ≠ 0 := by simpa using h
      rw [if_pos h'] at hfd
      (refine hQ _ _ _ (aC (by first | exact .inl rfl | exact .inr rfl) ?_); simp only [SS, TF79First, aH, setRange, bS, aA, aO, bN, bG, aY, aE, Nat.reduceLT, Nat.reduceEqDiff, Nat.reduceAdd, Nat.reduceMul, Nat.reduceSub, Nat.reduceLeDiff, Nat.reduceBEq, reduceCtorEq])
      rw [hf, hfd]
    · have h0 : x = 0 := by simpa using h
      refine ⟨⟨k + 1, hlt, by rw [hf, hfd, if_neg (by simp [h0])]⟩, by simp; omega, aF.sub (by simp [look])⟩
  · have c1 : decide ((k : Int) < (l.length : Int)) = false := by simp; omega
    (try simp only [SS, aA, Nat.reduceLT, Nat.reduceEqDiff, c1])
    (refine hQ _ _ _ (aC (by first | exact .inl rfl | exact .inr rfl) ?_); simp only [SS, TF79First, Nat.reduceLT, Nat.reduceEqDiff])
    rw [hf, List.drop_eq_nil_of_le (by omega)]; rfl
end Go.Ev
namespace Go.Ev
open Go.RowKit Go.Proofs
set_option linter.defProp false
def TF90Form4 := And.intro (And.intro (And.intro (And.intro (@Tryz.underlying3) (@sz3)) (And.intro (@bK) (And.intro (@I3s) (@I3b)))) (And.intro (And.intro (@bJ) (And.intro (@bL) (@Tryz.underlying5))) (And.intro (@sz5) (And.intro (@info5) (@I5s))))) (And.intro (And.intro (And.intro (@I5b) (And.intro (@zero5) (@grow5))) (And.intro (@Tryz.underlying9) (And.intro (@sz9) (@bZ)))) (And.intro (And.intro (@I9s) (And.intro (@I9b) (@bX))) (And.intro (@cA) (And.intro (@call74) (@Tryz.results90)))))
def TF91Form4 := And.intro (And.intro (And.intro (And.intro (And.intro (@Tryz.underlying3) (@sz3)) (And.intro (@bK) (And.intro (@I3s) (@I3b)))) (And.intro (And.intro (@bJ) (And.intro (@bL) (@Tryz.underlying4))) (And.intro (@sz4) (And.intro (@cT) (@I4s))))) (And.intro (And.intro (And.intro (@I4b) (@cS)) (And.intro (@cU) (And.intro (@Tryz.underlying5) (@sz5)))) (And.intro (And.intro (@info5) (And.intro (@I5s) (@I5b))) (And.intro (@zero5) (And.intro (@grow5) (@Tryz.underlying9)))))) (And.intro (And.intro (And.intro (And.intro (@sz9) (@bZ)) (And.intro (@I9s) (And.intro (@I9b) (@bX)))) (And.intro (And.intro (@cA) (And.intro (@Tryz.underlying25) (@dI))) (And.intro (@bQ) (And.intro (@dJ) (@dK))))) (And.intro (And.intro (And.intro (@bP) (And.intro (@bR) (@Tryz.underlying27))) (And.intro (@dN) (And.intro (@cV) (@cF)))) (And.intro (And.intro (@dO) (And.intro (@dP) (@cC))) (And.intro (@cG) (And.intro (@call74) (@Tryz.results91))))))
set_option maxRecDepth 20000
set_option maxHeartbeats 4000000

/-! the ways, as the reference tells them -/
def waysO : List Nat := [102, 103, 99, 100, 107, 110, 121]
def waysS : List Nat := [98, 97, 115, 112, 107, 116, 111]
def isWayB (o : Bool) : List Nat → Bool
  | [c] => hasC (if o = true then waysO else waysS) (c : Int)
  | _ => false
theorem e74O {x : Nat} : F74 [.str [UInt8.toNat 102, UInt8.toNat 103, UInt8.toNat 99, UInt8.toNat 100, UInt8.toNat 107, UInt8.toNat 110, UInt8.toNat 121], .int .u8 (x : Int)] = some (.bool (isWayB true [x])) := by
  show F74 [.str waysO, .int .u8 (x : Int)] = _
  simp only [F74]
  rw [if_pos (by decide)]; rfl
theorem e74S {x : Nat} : F74 [.str [UInt8.toNat 98, UInt8.toNat 97, UInt8.toNat 115, UInt8.toNat 112, UInt8.toNat 107, UInt8.toNat 116, UInt8.toNat 111], .int .u8 (x : Int)] = some (.bool (isWayB false [x])) := by
  show F74 [.str waysS, .int .u8 (x : Int)] = _
  simp only [F74]
  rw [if_pos (by decide)]; rfl
def F90 : List EVal → Option EVal
  | [.str h, .bool o] => some (.bool (isWayB o h))
  | _ => none
theorem e90 {h : List Nat} {o : Bool} : F90 [.str h, .bool o] = some (.bool (isWayB o h)) := rfl
theorem fn90 : FnT 90 F90 := by
  refine Fn.intro mixed aJ Tryz.func90 rfl [(74, F74)] (by simp only [List.forall_mem_cons]; exact ⟨fn74, fun _ h => by cases h⟩) ?_
  intro args v hF
  unfold F90 at hF
  split at hF
  rotate_left
  · cases hF
  intro Q hV
  have hQ := aW.of hV
  rename_i h o
  cases hF
  refine Top.view (aF.start (n := 15) rfl (by simp)) (aD aJ _ _ _ _ ?_)
  match h, hQ with
  | [], hQ =>
    have c2 : (((0 : Nat) : Int) == 1) = false := by decide
    have c3 : ((0 : Int) == 1) = false := by decide
    (try simp only [aI, SS, TF90Form4, aA, Nat.reduceLT, Nat.reduceEqDiff, reduceCtorEq, c3])
    (refine hQ _ _ _ (aC (by first | exact .inl rfl | exact .inr rfl) ?_); simp only [SS, TF90Form4, Nat.reduceLT, Nat.reduceEqDiff, reduceCtorEq])
    rfl
  | [x], hQ =>
    have c2 : (((1 : Nat) : Int) == 1) = true := by decide
    cases o with
    | true =>
      (try simp only [aI, SS, TF90Form4, aH, aA, Nat.reduceLT, Nat.reduceEqDiff, reduceCtorEq, c2, e74O])
      (refine hQ _ _ _ (aC (by first | exact .inl rfl | exact .inr rfl) ?_); simp only [SS, TF90Form4, Nat.reduceLT, Nat.reduceEqDiff, reduceCtorEq])
    | false =>
      (try simp only [aI, SS, TF90Form4, aH, aA, Nat.reduceLT, Nat.reduceEqDiff, reduceCtorEq, c2, e74S])
      (refine hQ _ _ _ (aC (by first | exact .inl rfl | exact .inr rfl) ?_); simp only [SS, TF90Form4, Nat.reduceLT, Nat.reduceEqDiff, reduceCtorEq])
  | x :: y :: l, hQ =>
    have c2 : (((l.length + 1 + 1 : Nat) : Int) == 1) = false := by simp; omega
    (try simp only [aI, SS, TF90Form4, aA, Nat.reduceLT, Nat.reduceEqDiff, reduceCtorEq, c2])
    (refine hQ _ _ _ (aC (by first | exact .inl rfl | exact .inr rfl) ?_); simp only [SS, TF90Form4, Nat.reduceLT, Nat.reduceEqDiff, reduceCtorEq])
    rfl

def fitsB (f t : Int) (o : Bool) (c : Nat) : Bool :=
  if o = false then decide (f < t) && (decide (0 < f) || !hasC [115, 107] (c : Int)) else
  if c = 100 then decide (0 < f) && (t == f) else if c = 103 then decide (f ≤ t) else
  if c = 110 then decide (f < t) && (decide (0 < f) || (t == 1)) else if c = 102 then t == f + 1 else (f == 0) && (t == 1)
theorem e74k {x : Nat} : F74 [.str [UInt8.toNat 115, UInt8.toNat 107], .int .u8 (x : Int)] = some (.bool (hasC [115, 107] (x : Int))) := by
  show F74 [.str [115, 107], .int .u8 (x : Int)] = _
  simp only [F74]
  rw [if_pos (by decide)]
def F91 : List EVal → Option EVal
  | [.agg [.int .i64 f, .int .i64 t, .bool o, .str [c], .lsl _]] => if 0 ≤ f ∧ f ≤ 3 then some (.bool (fitsB f t o c)) else none
  | _ => none
theorem fn91 : FnT 91 F91 := by
  refine Fn.intro mixed aJ Tryz.func91 rfl [(74, F74)] (by simp only [List.forall_mem_cons]; exact ⟨fn74, fun _ h => by cases h⟩) ?_
  intro args v hF
  unfold F91 at hF
  split at hF
  rotate_left
  · cases hF
  intro Q hV
  have hQ := aW.of hV
  rename_i f t o c els
  split at hF
  rotate_left
  · cases hF
  rename_i hf
  cases hF
  have w1 : IntKind.i64.wrap (f + 1) = f + 1 := by rw [aP] <;> omega
  have qd : decide ([c] = [UInt8.toNat 100]) = decide (c = 100) := by simp
  have qg : decide ([c] = [UInt8.toNat 103]) = decide (c = 103) := by simp
  have qn : decide ([c] = [UInt8.toNat 110]) = decide (c = 110) := by simp
  have qf : decide ([c] = [UInt8.toNat 102]) = decide (c = 102) := by simp
  refine Top.view (aF.start (n := 77) rfl (by simp)) (aD aJ _ _ _ _ ?_)
  cases o with
  | false =>
    cases h1 : decide (f < t) with
    | false =>
      (try simp only [aI, SS, TF91Form4, aA, Nat.reduceLT, Nat.reduceEqDiff, reduceCtorEq, h1])
      (refine hQ _ _ _ (aC (by first | exact .inl rfl | exact .inr rfl) ?_); simp only [SS, TF91Form4, Nat.reduceLT, Nat.reduceEqDiff, reduceCtorEq])
      simp [fitsB, h1]
    | true =>
      cases h2 : decide (0 < f) with
      | true =>
        (try simp only [aI, SS, TF91Form4, aA, Nat.reduceLT, Nat.reduceEqDiff, reduceCtorEq, h1, h2])
        (refine hQ _ _ _ (aC (by first | exact .inl rfl | exact .inr rfl) ?_); simp only [SS, TF91Form4, Nat.reduceLT, Nat.reduceEqDiff, reduceCtorEq])
        simp [fitsB, h1, h2]
      | false =>
        (try simp only [aI, SS, TF91Form4, aH, aA, Nat.reduceLT, Nat.reduceEqDiff, reduceCtorEq, h1, h2, e74k])
        (refine hQ _ _ _ (aC (by first | exact .inl rfl | exact .inr rfl) ?_); simp only [SS, TF91Form4, Nat.reduceLT, Nat.reduceEqDiff, reduceCtorEq])
        simp [fitsB, h1, h2]
  | true =>
    cases h1 : decide (c = 100) with
    | true =>
      have e1 : c = 100 := by simpa using h1
      cases h2 : decide (0 < f) with
      | true =>
        (try simp only [aI, SS, TF91Form4, aA, Nat.reduceLT, Nat.reduceEqDiff, reduceCtorEq, qd, h1, h2])
        (refine hQ _ _ _ (aC (by first | exact .inl rfl | exact .inr rfl) ?_); simp only [SS, TF91Form4, Nat.reduceLT, Nat.reduceEqDiff, reduceCtorEq])
        simp [fitsB, e1, h2]
      | false =>
        (try simp only [aI, SS, TF91Form4, aA, Nat.reduceLT, Nat.reduceEqDiff, reduceCtorEq, qd, h1, h2])
        (refine hQ _ _ _ (aC (by first | exact .inl rfl | exact .inr rfl) ?_); simp only [SS, TF91Form4, Nat.reduceLT, Nat.reduceEqDiff, reduceCtorEq])
        simp [fitsB, e1, h2]
    | false =>
    have n1 : ¬ c = 100 := by simpa using h1
    cases h3 : decide (c = 103) with
    | true =>
      have e1 : c = 103 := by simpa using h3
      (try simp only [aI, SS, TF91Form4, aA, Nat.reduceLT, Nat.reduceEqDiff, reduceCtorEq, qd, h1, qg, h3])
      (refine hQ _ _ _ (aC (by first | exact .inl rfl | exact .inr rfl) ?_); simp only [SS, TF91Form4, Nat.reduceLT, Nat.reduceEqDiff, reduceCtorEq])
      simp [fitsB, e1]
    | false =>
    have n3 : ¬ c = 103 := by simpa using h3
    cases h4 : decide (c = 110) with
    | true =>
      have e1 : c = 110 := by simpa using h4
      cases h5 : decide (f < t) with
      | false =>
        (try simp only [aI, SS, TF91Form4, aA, Nat.reduceLT, Nat.reduceEqDiff, reduceCtorEq, qd, h1, qg, h3, qn, h4, h5])
        (refine hQ _ _ _ (aC (by first | exact .inl rfl | exact .inr rfl) ?_); simp only [SS, TF91Form4, Nat.reduceLT, Nat.reduceEqDiff, reduceCtorEq])
        simp [fitsB, e1, h5]
      | true =>
        cases h6 : decide (0 < f) with
        | true =>
          (try simp only [aI, SS, TF91Form4, aA, Nat.reduceLT, Nat.reduceEqDiff, reduceCtorEq, qd, h1, qg, h3, qn, h4, h5, h6])
          (refine hQ _ _ _ (aC (by first | exact .inl rfl | exact .inr rfl) ?_); simp only [SS, TF91Form4, Nat.reduceLT, Nat.reduceEqDiff, reduceCtorEq])
          simp [fitsB, e1, h5, h6]
        | false =>
          (try simp only [aI, SS, TF91Form4, aA, Nat.reduceLT, Nat.reduceEqDiff, reduceCtorEq, qd, h1, qg, h3, qn, h4, h5, h6])
          (refine hQ _ _ _ (aC (by first | exact .inl rfl | exact .inr rfl) ?_); simp only [SS, TF91Form4, Nat.reduceLT, Nat.reduceEqDiff, reduceCtorEq])
          simp [fitsB, e1, h5, h6]
    | false =>
    have n4 : ¬ c = 110 := by simpa using h4
    cases h7 : decide (c = 102) with
    | true =>
      have e1 : c = 102 := by simpa using h7
      (try simp only [aI, SS, TF91Form4, aA, Nat.reduceLT, Nat.reduceEqDiff, reduceCtorEq, qd, h1, qg, h3, qn, h4, qf, h7, w1])
      (refine hQ _ _ _ (aC (by first | exact .inl rfl | exact .inr rfl) ?_); simp only [SS, TF91Form4, Nat.reduceLT, Nat.reduceEqDiff, reduceCtorEq])
      simp [fitsB, e1]
    | false =>
      have n7 : ¬ c = 102 := by simpa using h7
      cases h8 : (f == 0) with
      | true =>
        (try simp only [aI, SS, TF91Form4, aA, Nat.reduceLT, Nat.reduceEqDiff, reduceCtorEq, qd, h1, qg, h3, qn, h4, qf, h7, h8])
        (refine hQ _ _ _ (aC (by first | exact .inl rfl | exact .inr rfl) ?_); simp only [SS, TF91Form4, Nat.reduceLT, Nat.reduceEqDiff, reduceCtorEq])
        simp [fitsB, n1, n3, n4, n7, h8]
      | false =>
        (try simp only [aI, SS, TF91Form4, aA, Nat.reduceLT, Nat.reduceEqDiff, reduceCtorEq, qd, h1, qg, h3, qn, h4, qf, h7, h8])
        (refine hQ _ _ _ (aC (by first | exact .inl rfl | exact .inr rfl) ?_); simp only [SS, TF91Form4, Nat.reduceLT, Nat.reduceEqDiff, reduceCtorEq])
        simp [fitsB, n1, n3, n4, n7, h8]

/-- both sides tell the same of a way -/
def wayR (f t : Int) (o : Bool) (h : List Nat) : Int := if isWayB o h = true then (match h with
  | [c] => if fitsB f t o c = true then 0 else 15
  | _ => 15) else 13
theorem way_key : ∀ o ∈ [true, false], ∀ c ∈ (if o = true then waysO else waysS), ∀ f ∈ ([0, 1, 2, 3] : List Int), ∀ t ∈ ([1, 2, 3, 4] : List Int), wayE f t o [c] = wayR f t o [c] := by decide +kernel
theorem way_all : ∀ w ∈ wayT, isWayB w.1 w.2.1 = true := by decide +kernel
theorem hasC_mem {l : List Nat} {c : Nat} (h : hasC l (c : Int) = true) : c ∈ l := by
  simp only [hasC, List.any_eq_true, beq_iff_eq] at h
  obtain ⟨x, hx, e⟩ := h
  obtain rfl : x = c := by omega
  exact hx
theorem way_eq {f t : Int} {o : Bool} {h : List Nat} (hf : 0 ≤ f ∧ f ≤ 3) (ht : 1 ≤ t ∧ t ≤ 4) : wayE f t o h = wayR f t o h := by
  cases hw : isWayB o h with
  | true =>
    match h, hw with
    | [c], hw =>
      exact way_key o (by cases o <;> simp) c (hasC_mem hw) f (by simp; omega) t (by simp; omega)
  | false =>
    have hn : findL o h wayT = none := by
      unfold findL
      rw [List.find?_eq_none]
      intro w hm hc
      simp only [Bool.and_eq_true, beq_iff_eq, decide_eq_true_eq] at hc
      have := way_all w hm
      rw [hc.1, hc.2, hw] at this
      cases this
    simp only [wayE, hn, wayR, hw, Bool.false_eq_true, if_false]
end Go.Ev
