import Derived.Test.YtdhnjbgggkdiiaaGreatDoorWords
import Derived.Test.YtdhnjbgggkdiiaaGreatDoorRefPr
set_option linter.unusedSimpArgs false
set_option linter.unusedVariables false
namespace Go.Ev
open Go.RowKit Go.Proofs
set_option linter.defProp false
def TF138Words2 := And.intro (And.intro (And.intro (And.intro (@Tryz.underlying9) (@sz9)) (And.intro (@bI) (@I9s))) (And.intro (And.intro (@I9b) (@bH)) (And.intro (@bJ) (@Tryz.underlying125)))) (And.intro (And.intro (And.intro (@sz125) (@info125)) (And.intro (@I125s) (@I125b))) (And.intro (And.intro (@zero125) (@grow125)) (And.intro (@call117) (And.intro (@call166) (@Tryz.results138)))))
def bC := And.intro (And.intro (And.intro (And.intro (And.intro (@Tryz.underlying3) (@sz3)) (And.intro (@bN) (@I3s))) (And.intro (And.intro (@I3b) (@bL)) (And.intro (@bO) (@Tryz.underlying5)))) (And.intro (And.intro (And.intro (@sz5) (@dK)) (And.intro (@I5s) (@I5b))) (And.intro (And.intro (@dG) (@dL)) (And.intro (@Tryz.underlying9) (@sz9))))) (And.intro (And.intro (And.intro (And.intro (@bI) (@I9s)) (And.intro (@I9b) (@bH))) (And.intro (And.intro (@bJ) (@Tryz.underlying125)) (And.intro (@sz125) (@info125)))) (And.intro (And.intro (And.intro (@I125s) (@I125b)) (And.intro (@zero125) (@grow125))) (And.intro (And.intro (@call95) (@call133)) (And.intro (@call166) (@Tryz.results139)))))
def TF140Words2 := And.intro (And.intro (And.intro (@Tryz.underlying9) (@sz9)) (And.intro (@bI) (@I9s))) (And.intro (And.intro (@I9b) (@bH)) (And.intro (@bJ) (@Tryz.results140)))
set_option maxRecDepth 20000
set_option maxHeartbeats 8000000

/-! the words of a play, and of a move -/
def pitW (l : List Nat) : Bool := decide (l = [45]) || cS isP l
def F138 : List EVal → Option EVal
  | [.str l] => if aM l = true ∧ l.length < 1000000000 then some (.bool (pitW l)) else none
  | _ => none
theorem fn138 : FnT 138 F138 := by
  refine Fn.intro mixed aI Tryz.func138 rfl [(166, F166)] (by simp only [List.forall_mem_cons]; exact ⟨fn166, fun _ h => by cases h⟩) ?_
  intro args v hF
  unfold F138 at hF
  split at hF
  rotate_left
  · cases hF
  intro Q hV
  have hQ := aS.of hV
  rename_i l
  split at hF
  rotate_left
  · cases hF
  rename_i hb
  cases hF
  have h166 := e166P hb.1 hb.2
  have u45 : UInt8.toNat 45 = 45 := rfl
  refine Top.view (aH.start (n := 9) rfl (by simp)) (aD aI _ _ _ _ ?_)
  cases hc : decide (l = [45]) with
  | true =>
    (try simp only [aG, SS, aA, Nat.reduceLT, Nat.reduceEqDiff, reduceCtorEq, u45, hc])
    (refine hQ _ _ _ (aC (by first | exact .inl rfl | exact .inr rfl) ?_); simp only [SS, TF138Words2, Nat.reduceLT, Nat.reduceEqDiff, reduceCtorEq])
    simp only [pitW, hc, Bool.true_or]
  | false =>
    (try simp only [aG, SS, TF138Words2, aF, aA, Nat.reduceLT, Nat.reduceEqDiff, reduceCtorEq, u45, hc, h166])
    (refine hQ _ _ _ (aC (by first | exact .inl rfl | exact .inr rfl) ?_); simp only [SS, TF138Words2, Nat.reduceLT, Nat.reduceEqDiff, reduceCtorEq])
    simp only [pitW, hc, Bool.false_or]
def undash (l : List Nat) : List Nat := if l = [45] then [] else l
def F140 : List EVal → Option EVal
  | [.str l] => some (.str (undash l))
  | _ => none
theorem fn140 : FnT 140 F140 := by
  refine Fn.intro mixed aI Tryz.func140 rfl [] (fun _ h => by cases h) ?_
  intro args v hF
  unfold F140 at hF
  split at hF
  rotate_left
  · cases hF
  intro Q hV
  have hQ := aS.of hV
  rename_i l
  cases hF
  have u45 : UInt8.toNat 45 = 45 := rfl
  refine Top.view (aH.start (n := 6) rfl (by simp)) (aD aI _ _ _ _ ?_)
  by_cases hc : l = [45]
  · have h1 : decide (l = [45]) = true := by simp [hc]
    (try simp only [aG, SS, aA, Nat.reduceLT, Nat.reduceEqDiff, reduceCtorEq, u45, h1])
    (refine hQ _ _ _ (aC (by first | exact .inl rfl | exact .inr rfl) ?_); simp only [SS, TF140Words2, Nat.reduceLT, Nat.reduceEqDiff, reduceCtorEq])
    simp only [undash, if_pos hc]
  · have h1 : decide (l = [45]) = false := by simp [hc]
    (try simp only [aG, SS, aA, Nat.reduceLT, Nat.reduceEqDiff, reduceCtorEq, u45, h1])
    (refine hQ _ _ _ (aC (by first | exact .inl rfl | exact .inr rfl) ?_); simp only [SS, TF140Words2, Nat.reduceLT, Nat.reduceEqDiff, reduceCtorEq])
    simp only [undash, if_neg hc]
/-- the form of a move's word -/
def mvW : List Nat → Bool
  | a :: b :: c :: d :: r => ((b == 45) || (b == 120)) && (dQ a && (dQ c && eJ d)) && (decide (r = []) || match r with | e :: r2 => (e == 58) && cS dQ r2 | [] => true)
  | _ => false
theorem madeOf_one {f : Nat → Bool} {x : Nat} : cS f [x] = f x := by simp [cS]
def F139 : List EVal → Option EVal
  | [.str l] => if aM l = true ∧ l.length < 1000000000 then some (.bool (mvW l)) else none
  | _ => none
theorem fn139 : FnT 139 F139 := by
  refine Fn.intro mixed aI Tryz.func139 rfl [(95, F95), (133, F133), (166, F166)] (by simp only [List.forall_mem_cons]; exact ⟨fn95, fn133, fn166, fun _ h => by cases h⟩) ?_
  intro args v hF
  unfold F139 at hF
  split at hF
  rotate_left
  · cases hF
  intro Q hV
  have hQ := aS.of hV
  rename_i l
  split at hF
  rotate_left
  · cases hF
  rename_i hb
  obtain ⟨hby, hlen⟩ := hb
  cases hF
  refine Top.view (aH.start (n := 45) rfl (by simp)) (aD aI _ _ _ _ ?_)
  by_cases h4 : l.length < 4
  · have q1 : decide ((l.length : Int) < 4) = true := by simp; omega
    (try simp only [aG, SS, bC, aA, Nat.reduceLT, Nat.reduceEqDiff, reduceCtorEq, q1])
    (refine hQ _ _ _ (aC (by first | exact .inl rfl | exact .inr rfl) ?_); simp only [SS, bC, Nat.reduceLT, Nat.reduceEqDiff, reduceCtorEq])
    match l, h4 with
    | [], _ => rfl
    | [_], _ => rfl
    | [_, _], _ => rfl
    | [_, _, _], _ => rfl
    | _ :: _ :: _ :: _ :: _, h => simp at h; omega
  obtain ⟨a, b, c, d, r, rfl⟩ : ∃ a b c d r, l = a :: b :: c :: d :: r := by
    match l, h4 with
    | a :: b :: c :: d :: r, _ => exact ⟨a, b, c, d, r, rfl⟩
    | [], h => simp at h
    | [_], h => simp at h
    | [_, _], h => simp at h
    | [_, _, _], h => simp at h
  simp only [aM, List.all_cons, Bool.and_eq_true, decide_eq_true_eq] at hby
  obtain ⟨ha, hb, hc, hd, hr⟩ := hby
  have ea := e166D (l := [a]) (by simp [aM, ha]) (by simp)
  have ec := e166D (l := [c]) (by simp [aM, hc]) (by simp)
  have ed := e166L (l := [d]) (by simp [aM, hd]) (by simp)
  rw [madeOf_one] at ea ec ed
  have q1 : decide (((r.length + 1 + 1 + 1 + 1 : Nat) : Int) < 4) = false := by simp; omega
  have q45 : ((b : Int) == 45) = (b == 45) := by rw [Bool.eq_iff_iff, beq_iff_eq, beq_iff_eq]; omega
  have q120 : ((b : Int) == 120) = (b == 120) := by rw [Bool.eq_iff_iff, beq_iff_eq, beq_iff_eq]; omega
  have l1 : ((1 : Int) ≤ ((r.length + 1 + 1 + 1 + 1 : Nat) : Int)) = True := by simp only [eq_iff_iff, iff_true]; omega
  have l3 : ((3 : Int) ≤ ((r.length + 1 + 1 + 1 + 1 : Nat) : Int)) = True := by simp only [eq_iff_iff, iff_true]; omega
  have l4 : ((4 : Int) ≤ ((r.length + 1 + 1 + 1 + 1 : Nat) : Int)) = True := by simp only [eq_iff_iff, iff_true]; omega
  have l23 : ((2 : Int) ≤ ((3 : Nat) : Int)) = True := by decide
  have l34 : ((3 : Int) ≤ ((4 : Nat) : Int)) = True := by decide
  have l01 : ((0 : Int) ≤ ((1 : Nat) : Int)) = True := by decide
  have hbad : ∀ z, z = false → ((b == 45) || (b == 120)) = z → mvW (a :: b :: c :: d :: r) = false := by intro z hz h; simp only [mvW, h, hz, Bool.false_and]
  cases hb1 : (b == 45) with
  | true =>
    have hgood : ((b == 45) || (b == 120)) = true := by simp only [hb1, Bool.true_or]
    cases ga : dQ a with
    | false =>
      rw [ga] at ea
      (try simp only [aG, SS, bC, aF, aA, aQ, Nat.reduceLT, Nat.reduceEqDiff, reduceCtorEq, q1, Int.reduceLE, Int.reduceToNat, q45, hb1, l1, ea])
      (refine hQ _ _ _ (aC (by first | exact .inl rfl | exact .inr rfl) ?_); simp only [SS, bC, Nat.reduceLT, Nat.reduceEqDiff, reduceCtorEq])
      simp only [mvW, ga, Bool.false_and, Bool.and_false]
    | true =>
    rw [ga] at ea
    cases gc : dQ c with
    | false =>
      rw [gc] at ec
      (try simp only [aG, SS, bC, aF, aA, aQ, Nat.reduceLT, Nat.reduceEqDiff, reduceCtorEq, q1, Int.reduceLE, Int.reduceToNat, q45, hb1, l1, l3, l23, ea, ec])
      (refine hQ _ _ _ (aC (by first | exact .inl rfl | exact .inr rfl) ?_); simp only [SS, bC, Nat.reduceLT, Nat.reduceEqDiff, reduceCtorEq])
      simp only [mvW, gc, Bool.false_and, Bool.and_false]
    | true =>
    rw [gc] at ec
    cases gd : eJ d with
    | false =>
      rw [gd] at ed
      (try simp only [aG, SS, bC, aF, aA, aQ, Nat.reduceLT, Nat.reduceEqDiff, reduceCtorEq, q1, Int.reduceLE, Int.reduceToNat, q45, hb1, l1, l3, l4, l23, l34, ea, ec, ed])
      (refine hQ _ _ _ (aC (by first | exact .inl rfl | exact .inr rfl) ?_); simp only [SS, bC, Nat.reduceLT, Nat.reduceEqDiff, reduceCtorEq])
      simp only [mvW, gd, Bool.false_and, Bool.and_false]
    | true =>
    rw [gd] at ed
    cases r with
    | nil =>
      have z4' : ((4 : Int) == 4) = true := by decide
      have c4 : ((4 : Nat) : Int) = 4 := rfl
      have k1 : ((1 : Int) ≤ 4) = True := by decide
      have k3 : ((3 : Int) ≤ 4) = True := by decide
      (try simp only [aG, SS, bC, aF, aA, aQ, Nat.reduceLT, Nat.reduceEqDiff, Nat.reduceAdd, reduceCtorEq, Int.reduceLE, Int.reduceToNat, q45, hb1, l23, ea, ec, ed, c4, k1, k3, Int.reduceLT])
      (refine hQ _ _ _ (aC (by first | exact .inl rfl | exact .inr rfl) ?_); simp only [SS, bC, Nat.reduceLT, Nat.reduceEqDiff, reduceCtorEq])
      simp only [mvW, ga, gc, gd, hgood, Bool.and_self, decide_true, Bool.true_or]
    | cons e r2 =>
      have z4 : (((r2.length + 1 + 1 + 1 + 1 + 1 : Nat) : Int) == 4) = false := by rw [beq_eq_false_iff_ne]; omega
      have q58 : ((e : Int) == 58) = (e == 58) := by rw [Bool.eq_iff_iff, beq_iff_eq, beq_iff_eq]; omega
      have m0 : decide (((r2.length + 1 + 1 + 1 + 1 + 1 : Nat) : Int) < 4) = false := by simp; omega
      have m1 : ((1 : Int) ≤ ((r2.length + 1 + 1 + 1 + 1 + 1 : Nat) : Int)) = True := by simp only [eq_iff_iff, iff_true]; omega
      have m3 : ((3 : Int) ≤ ((r2.length + 1 + 1 + 1 + 1 + 1 : Nat) : Int)) = True := by simp only [eq_iff_iff, iff_true]; omega
      have m4 : ((4 : Int) ≤ ((r2.length + 1 + 1 + 1 + 1 + 1 : Nat) : Int)) = True := by simp only [eq_iff_iff, iff_true]; omega
      have l5 : ((5 : Int) ≤ ((r2.length + 1 + 1 + 1 + 1 + 1 : Nat) : Int)) = True := by simp only [eq_iff_iff, iff_true]; omega
      simp only [List.all_cons, Bool.and_eq_true, decide_eq_true_eq] at hr
      have er := e166D (l := r2) (by simpa [aM] using hr.2) (by simp at hlen; omega)
      have htk : (a :: b :: c :: d :: e :: r2).take (r2.length + 1 + 1 + 1 + 1 + 1) = a :: b :: c :: d :: e :: r2 := by simp
      cases ge : (e == 58) with
      | false =>
        (try simp only [aG, SS, bC, aF, aA, aQ, Nat.reduceLT, Nat.reduceEqDiff, reduceCtorEq, Int.reduceLE, Int.reduceToNat, q45, hb1, l23, l34, ea, ec, ed, z4, m0, m1, m3, m4, q58, ge])
        (refine hQ _ _ _ (aC (by first | exact .inl rfl | exact .inr rfl) ?_); simp only [SS, bC, Nat.reduceLT, Nat.reduceEqDiff, reduceCtorEq])
        simp only [mvW, ge, Bool.false_and, Bool.and_false, Bool.or_false, reduceCtorEq, decide_false]
      | true =>
        (try simp only [aG, SS, bC, aF, aA, aQ, Nat.reduceLT, Nat.reduceEqDiff, reduceCtorEq, Int.reduceLE, Int.reduceToNat, q45, hb1, l23, l34, ea, ec, ed, z4, m0, m1, m3, m4, q58, ge, l5, er, htk])
        (refine hQ _ _ _ (aC (by first | exact .inl rfl | exact .inr rfl) ?_); simp only [SS, bC, Nat.reduceLT, Nat.reduceEqDiff, reduceCtorEq])
        simp only [mvW, ga, gc, gd, hgood, ge, Bool.true_and, reduceCtorEq, decide_false, Bool.false_or]
  | false =>
  cases hb2 : (b == 120) with
  | false =>
    (try simp only [aG, SS, bC, aA, Nat.reduceLT, Nat.reduceEqDiff, reduceCtorEq, q1, Int.reduceLE, Int.reduceToNat, q45, q120, hb1, hb2])
    (refine hQ _ _ _ (aC (by first | exact .inl rfl | exact .inr rfl) ?_); simp only [SS, bC, Nat.reduceLT, Nat.reduceEqDiff, reduceCtorEq])
    rw [hbad false rfl (by rw [hb1, hb2]; rfl)]
  | true =>
    have hgood : ((b == 45) || (b == 120)) = true := by simp only [hb1, hb2, Bool.or_true]
    cases ga : dQ a with
    | false =>
      rw [ga] at ea
      (try simp only [aG, SS, bC, aF, aA, aQ, Nat.reduceLT, Nat.reduceEqDiff, reduceCtorEq, q1, Int.reduceLE, Int.reduceToNat, q45, q120, hb1, hb2, l1, ea])
      (refine hQ _ _ _ (aC (by first | exact .inl rfl | exact .inr rfl) ?_); simp only [SS, bC, Nat.reduceLT, Nat.reduceEqDiff, reduceCtorEq])
      simp only [mvW, ga, Bool.false_and, Bool.and_false]
    | true =>
    rw [ga] at ea
    cases gc : dQ c with
    | false =>
      rw [gc] at ec
      (try simp only [aG, SS, bC, aF, aA, aQ, Nat.reduceLT, Nat.reduceEqDiff, reduceCtorEq, q1, Int.reduceLE, Int.reduceToNat, q45, q120, hb1, hb2, l1, l3, l23, ea, ec])
      (refine hQ _ _ _ (aC (by first | exact .inl rfl | exact .inr rfl) ?_); simp only [SS, bC, Nat.reduceLT, Nat.reduceEqDiff, reduceCtorEq])
      simp only [mvW, gc, Bool.false_and, Bool.and_false]
    | true =>
    rw [gc] at ec
    cases gd : eJ d with
    | false =>
      rw [gd] at ed
      (try simp only [aG, SS, bC, aF, aA, aQ, Nat.reduceLT, Nat.reduceEqDiff, reduceCtorEq, q1, Int.reduceLE, Int.reduceToNat, q45, q120, hb1, hb2, l1, l3, l4, l23, l34, ea, ec, ed])
      (refine hQ _ _ _ (aC (by first | exact .inl rfl | exact .inr rfl) ?_); simp only [SS, bC, Nat.reduceLT, Nat.reduceEqDiff, reduceCtorEq])
      simp only [mvW, gd, Bool.false_and, Bool.and_false]
    | true =>
    rw [gd] at ed
    cases r with
    | nil =>
      have z4' : ((4 : Int) == 4) = true := by decide
      have c4 : ((4 : Nat) : Int) = 4 := rfl
      have k1 : ((1 : Int) ≤ 4) = True := by decide
      have k3 : ((3 : Int) ≤ 4) = True := by decide
      (try simp only [aG, SS, bC, aF, aA, aQ, Nat.reduceLT, Nat.reduceEqDiff, Nat.reduceAdd, reduceCtorEq, Int.reduceLE, Int.reduceToNat, q45, q120, hb1, hb2, l23, ea, ec, ed, c4, k1, k3, Int.reduceLT])
      (refine hQ _ _ _ (aC (by first | exact .inl rfl | exact .inr rfl) ?_); simp only [SS, bC, Nat.reduceLT, Nat.reduceEqDiff, reduceCtorEq])
      simp only [mvW, ga, gc, gd, hgood, Bool.and_self, decide_true, Bool.true_or]
    | cons e r2 =>
      have z4 : (((r2.length + 1 + 1 + 1 + 1 + 1 : Nat) : Int) == 4) = false := by rw [beq_eq_false_iff_ne]; omega
      have q58 : ((e : Int) == 58) = (e == 58) := by rw [Bool.eq_iff_iff, beq_iff_eq, beq_iff_eq]; omega
      have m0 : decide (((r2.length + 1 + 1 + 1 + 1 + 1 : Nat) : Int) < 4) = false := by simp; omega
      have m1 : ((1 : Int) ≤ ((r2.length + 1 + 1 + 1 + 1 + 1 : Nat) : Int)) = True := by simp only [eq_iff_iff, iff_true]; omega
      have m3 : ((3 : Int) ≤ ((r2.length + 1 + 1 + 1 + 1 + 1 : Nat) : Int)) = True := by simp only [eq_iff_iff, iff_true]; omega
      have m4 : ((4 : Int) ≤ ((r2.length + 1 + 1 + 1 + 1 + 1 : Nat) : Int)) = True := by simp only [eq_iff_iff, iff_true]; omega
      have l5 : ((5 : Int) ≤ ((r2.length + 1 + 1 + 1 + 1 + 1 : Nat) : Int)) = True := by simp only [eq_iff_iff, iff_true]; omega
      simp only [List.all_cons, Bool.and_eq_true, decide_eq_true_eq] at hr
      have er := e166D (l := r2) (by simpa [aM] using hr.2) (by simp at hlen; omega)
      have htk : (a :: b :: c :: d :: e :: r2).take (r2.length + 1 + 1 + 1 + 1 + 1) = a :: b :: c :: d :: e :: r2 := by simp
      cases ge : (e == 58) with
      | false =>
        (try simp only [aG, SS, bC, aF, aA, aQ, Nat.reduceLT, Nat.reduceEqDiff, reduceCtorEq, Int.reduceLE, Int.reduceToNat, q45, q120, hb1, hb2, l23, l34, ea, ec, ed, z4, m0, m1, m3, m4, q58, ge])
        (refine hQ _ _ _ (aC (by first | exact .inl rfl | exact .inr rfl) ?_); simp only [SS, bC, Nat.reduceLT, Nat.reduceEqDiff, reduceCtorEq])
        simp only [mvW, ge, Bool.false_and, Bool.and_false, Bool.or_false, reduceCtorEq, decide_false]
      | true =>
        (try simp only [aG, SS, bC, aF, aA, aQ, Nat.reduceLT, Nat.reduceEqDiff, reduceCtorEq, Int.reduceLE, Int.reduceToNat, q45, q120, hb1, hb2, l23, l34, ea, ec, ed, z4, m0, m1, m3, m4, q58, ge, l5, er, htk])
        (refine hQ _ _ _ (aC (by first | exact .inl rfl | exact .inr rfl) ?_); simp only [SS, bC, Nat.reduceLT, Nat.reduceEqDiff, reduceCtorEq])
        simp only [mvW, ga, gc, gd, hgood, ge, Bool.true_and, reduceCtorEq, decide_false, Bool.false_or]
end Go.Ev
