import Derived.Test.YtdhnjbgggkdiiaaGreatDoorText
import Derived.Test.YtdhnjbgggkdiiaaGreatDoorJoin
set_option linter.unusedSimpArgs false
set_option linter.unusedVariables false
namespace Go.Ev
open Go.RowKit Go.Proofs
set_option linter.defProp false
def TF103RefPr := And.intro (And.intro (And.intro (@Tryz.underlying9) (@sz9)) (And.intro (@cK) (@I9s))) (And.intro (And.intro (@I9b) (@cF)) (And.intro (@cL) (@Tryz.results103)))
def cA := And.intro (And.intro (And.intro (And.intro (And.intro (@Tryz.underlying3) (@sz3)) (And.intro (@cM) (@I3s))) (And.intro (And.intro (@I3b) (@cJ)) (And.intro (@cN) (And.intro (@Tryz.underlying4) (@sz4))))) (And.intro (And.intro (And.intro (@dX) (@I4s)) (And.intro (@I4b) (And.intro (@dT) (@dZ)))) (And.intro (And.intro (@Tryz.underlying9) (@sz9)) (And.intro (@cK) (And.intro (@I9s) (@I9b)))))) (And.intro (And.intro (And.intro (And.intro (@cF) (@cL)) (And.intro (@Tryz.underlying25) (@eL))) (And.intro (And.intro (@dD) (@eM)) (And.intro (@eN) (And.intro (@cZ) (@dF))))) (And.intro (And.intro (And.intro (@Tryz.underlying27) (@eP)) (And.intro (@eC) (And.intro (@dK) (@eR)))) (And.intro (And.intro (@eS) (@dH)) (And.intro (@dM) (And.intro (@call142) (@Tryz.results104))))))
set_option maxRecDepth 20000
set_option maxHeartbeats 8000000

/-! the strings of the reference -/
def dQ (s : List Nat) : List Nat := if s = [] then [45] else s
def F103 : List EVal → Option EVal
  | [.str s] => some (.str (dQ s))
  | _ => none
theorem e103 {s : List Nat} : F103 [.str s] = some (.str (dQ s)) := rfl
theorem fn103 : FnT 103 F103 := by
  refine Fn.intro mixed aX Tryz.func103 rfl [] (fun _ h => by cases h) ?_
  intro args v hF
  unfold F103 at hF
  split at hF
  rotate_left
  · cases hF
  intro Q hV
  have hQ := bL.of hV
  rename_i s
  cases hF
  refine Top.view (aV.start (n := 6) rfl (by simp)) (aS aX _ _ _ _ ?_)
  cases s with
  | nil =>
    have q1 : decide (([] : List Nat) = []) = true := rfl
    ((try simp only [aO, SS, TF103RefPr, aM, setRange, aN, aC, aB, aF, aE, aD, aA, Nat.reduceLT, Nat.reduceEqDiff, Nat.reduceAdd, Nat.reduceMul, Nat.reduceSub, Nat.reduceLeDiff, Nat.reduceBEq, reduceCtorEq, q1]); (repeat' ((first | apply aJ | apply aI | apply aL | apply aK | apply aH | apply aG) <;> intro h <;> simp only [h, SS, TF103RefPr, aM, setRange, aN, aC, aB, aF, aE, aD, aA, Nat.reduceLT, Nat.reduceEqDiff, Nat.reduceAdd, Nat.reduceMul, Nat.reduceSub, Nat.reduceLeDiff, Nat.reduceBEq, reduceCtorEq, q1])))
    (refine hQ _ _ _ (aP (by first | exact .inl rfl | exact .inr rfl) ?_); simp only [SS, TF103RefPr, aM, setRange, aN, aC, aB, aF, aE, aD, aA, Nat.reduceLT, Nat.reduceEqDiff, Nat.reduceAdd, Nat.reduceMul, Nat.reduceSub, Nat.reduceLeDiff, Nat.reduceBEq, reduceCtorEq])
    rfl
  | cons a s =>
    have q1 : decide (a :: s = []) = false := rfl
    ((try simp only [aO, SS, TF103RefPr, aM, setRange, aN, aC, aB, aF, aE, aD, aA, Nat.reduceLT, Nat.reduceEqDiff, Nat.reduceAdd, Nat.reduceMul, Nat.reduceSub, Nat.reduceLeDiff, Nat.reduceBEq, reduceCtorEq, q1]); (repeat' ((first | apply aJ | apply aI | apply aL | apply aK | apply aH | apply aG) <;> intro h <;> simp only [h, SS, TF103RefPr, aM, setRange, aN, aC, aB, aF, aE, aD, aA, Nat.reduceLT, Nat.reduceEqDiff, Nat.reduceAdd, Nat.reduceMul, Nat.reduceSub, Nat.reduceLeDiff, Nat.reduceBEq, reduceCtorEq, q1])))
    (refine hQ _ _ _ (aP (by first | exact .inl rfl | exact .inr rfl) ?_); simp only [SS, TF103RefPr, aM, setRange, aN, aC, aB, aF, aE, aD, aA, Nat.reduceLT, Nat.reduceEqDiff, Nat.reduceAdd, Nat.reduceMul, Nat.reduceSub, Nat.reduceLeDiff, Nat.reduceBEq, reduceCtorEq])
    rfl
theorem byStr_step {b : List Int} {j : Nat} {x : Int} (h : b[j]? = some x) : eF (b.take (j + 1)) = eF (b.take j) ++ (if j = 0 then [58] else []) ++ [dig x] := by
  obtain ⟨hk, rfl⟩ := List.getElem?_eq_some_iff.1 h
  have hb : b ≠ [] := by rintro rfl; simp at hk
  have h1 : b.take (j + 1) ≠ [] := by rw [ne_eq, List.take_eq_nil_iff]; rintro (h | h); omega; exact hb h
  have e : (b.take (j + 1)).map dig = (b.take j).map dig ++ [dig b[j]] := by rw [List.take_add_one, h, List.map_append]; rfl
  by_cases hj : j = 0
  · subst hj
    unfold eF
    rw [if_neg h1, e]; simp
  · have h2 : b.take j ≠ [] := by rw [ne_eq, List.take_eq_nil_iff]; rintro (h | h); omega; exact hb h
    unfold eF
    rw [if_neg h1, if_neg h2, if_neg hj, e]; simp
def F104 : List EVal → Option EVal
  | [.agg x] => (dMove x).bind fun m => if prB m = true then some (.str (cX m)) else none
  | _ => none
theorem e104 {m : Mv} (hok : eJ m) (h : prB m = true) : F104 [.agg [.int .i64 m.f, .int .i64 m.t, .bool m.o, .str m.h, .lsl (cC m.b)]] = some (.str (cX m)) := e135 hok h
theorem fn104 : FnT 104 F104 := by
  refine Fn.intro mixed aX Tryz.func104 rfl [(142, F142)] (by simp only [List.forall_mem_cons]; exact ⟨fn142, fun _ h => by cases h⟩) ?_
  intro args v hF
  unfold F104 at hF
  split at hF
  rotate_left
  · cases hF
  intro Q hV
  have hQ := bL.of hV
  rename_i x
  cases hx : dMove x with
  | none => rw [hx] at hF; cases hF
  | some mv =>
  rw [hx] at hF
  simp only [Option.bind_some] at hF
  split at hF
  rotate_left
  · cases hF
  rename_i hp
  cases hF
  obtain ⟨rfl, hok⟩ := dMove_inv hx
  rw [bZ]
  obtain ⟨p1, p2, ⟨p3, p3'⟩, p4, p5, p6⟩ := prB_iff hp
  have d1 := e142 p1
  have d2 := e142 p2
  refine Top.view (aV.start (n := 40) rfl (by simp)) (aS aX _ _ _ _ ?_)
  cases ho : mv.o with
  | true =>
    ((try simp only [aO, SS, cA, aM, setRange, aN, aC, aB, aF, aE, aD, aA, Nat.reduceLT, Nat.reduceEqDiff, Nat.reduceAdd, Nat.reduceMul, Nat.reduceSub, Nat.reduceLeDiff, Nat.reduceBEq, reduceCtorEq, ho]); (repeat' ((first | apply aJ | apply aI | apply aL | apply aK | apply aH | apply aG) <;> intro h <;> simp only [h, SS, cA, aM, setRange, aN, aC, aB, aF, aE, aD, aA, Nat.reduceLT, Nat.reduceEqDiff, Nat.reduceAdd, Nat.reduceMul, Nat.reduceSub, Nat.reduceLeDiff, Nat.reduceBEq, reduceCtorEq, ho])))
    refine bQ (Top.draw mixed aX (by kernel_rfl) ?_)
    have s1 : (3 + mv.h.length < 1000000000) = True := by simp; omega
    ((try simp only [aO, SS, cA, aM, setRange, aN, aC, aB, aF, aE, aD, aA, Nat.reduceLT, Nat.reduceEqDiff, Nat.reduceAdd, Nat.reduceMul, Nat.reduceSub, Nat.reduceLeDiff, Nat.reduceBEq, reduceCtorEq, ho, d1, d2, s1]); (repeat' ((first | apply aJ | apply aI | apply aL | apply aK | apply aH | apply aG) <;> intro h <;> simp only [h, SS, cA, aM, setRange, aN, aC, aB, aF, aE, aD, aA, Nat.reduceLT, Nat.reduceEqDiff, Nat.reduceAdd, Nat.reduceMul, Nat.reduceSub, Nat.reduceLeDiff, Nat.reduceBEq, reduceCtorEq, ho, d1, d2, s1])))
    refine ⟨by kernel_rfl, ?_⟩
    ((try simp only [aO, SS, cA, aM, setRange, aN, aC, aB, aF, aE, aD, aA, Nat.reduceLT, Nat.reduceEqDiff, Nat.reduceAdd, Nat.reduceMul, Nat.reduceSub, Nat.reduceLeDiff, Nat.reduceBEq, reduceCtorEq, ho]); (repeat' ((first | apply aJ | apply aI | apply aL | apply aK | apply aH | apply aG) <;> intro h <;> simp only [h, SS, cA, aM, setRange, aN, aC, aB, aF, aE, aD, aA, Nat.reduceLT, Nat.reduceEqDiff, Nat.reduceAdd, Nat.reduceMul, Nat.reduceSub, Nat.reduceLeDiff, Nat.reduceBEq, reduceCtorEq, ho])))
    refine bO (Top.loop (I := fun s : { j : Nat // j ≤ mv.b.length } => (mkF 40 [(5, .int .i64 (s.1 : Nat)), (4, .str (dig mv.f :: 120 :: dig mv.t :: (mv.h ++ eF (mv.b.take s.1)))), (1, .ptr 0 0)], mkH 1 [(0, some (.row [.int .i64 mv.f, .int .i64 mv.t, .bool true, .str mv.h, .lsl (cC mv.b)] 27 0 0 false))] 0 [])) (μ := fun s => mv.b.length - s.1) ⟨0, by omega⟩ (aV.drop (by simp [look, below, eF]) (by simp [aQ, bY, below, bC]) (by simp [aQ])) ?_)
    rintro ⟨j, hj⟩
    refine aS aX _ _ _ _ ?_
    dsimp only
    have hbl : (eF (mv.b.take j)).length ≤ 101 := by unfold eF; split <;> simp; omega
    by_cases hjl : j < mv.b.length
    · obtain ⟨x, hx⟩ : ∃ x, mv.b[j]? = some x := ⟨mv.b[j], List.getElem?_eq_getElem hjl⟩
      have d3 := e142 (p5 x (List.mem_of_getElem? hx))
      have hst := byStr_step hx
      have q1 : decide ((j : Int) < (mv.b.length : Int)) = true := by simp; omega
      have q2 : IntKind.i64.wrap ((j : Int) + 1) = ((j + 1 : Nat) : Int) := by rw [bM] <;> omega
      obtain ⟨S, hS⟩ : ∃ S, S = dig mv.f :: 120 :: dig mv.t :: (mv.h ++ eF (mv.b.take j)) := ⟨_, rfl⟩
      have hSl : S.length ≤ 300 := by rw [hS]; simp; omega
      rw [← hS]
      have u58 : UInt8.toNat 58 = 58 := rfl
      have s2 : (S.length + 1 < 1000000000) = True := by simp; omega
      have s3 : ((S ++ [58]).length + 1 < 1000000000) = True := by simp; omega
      cases hj0 : ((j : Int) == 0) with
      | true =>
        have hj1 : j = 0 := by simpa using hj0
        rw [if_pos hj1] at hst
        ((try simp only [aO, SS, cA, aM, setRange, aN, aC, aB, aF, aE, aD, aA, Nat.reduceLT, Nat.reduceEqDiff, Nat.reduceAdd, Nat.reduceMul, Nat.reduceSub, Nat.reduceLeDiff, Nat.reduceBEq, reduceCtorEq, ho, aT, q1, q2, hj0, bD, hx, d3, s2, s3, u58]); (repeat' ((first | apply aJ | apply aI | apply aL | apply aK | apply aH | apply aG) <;> intro h <;> simp only [h, SS, cA, aM, setRange, aN, aC, aB, aF, aE, aD, aA, Nat.reduceLT, Nat.reduceEqDiff, Nat.reduceAdd, Nat.reduceMul, Nat.reduceSub, Nat.reduceLeDiff, Nat.reduceBEq, reduceCtorEq, ho, aT, q1, q2, hj0, bD, hx, d3, s2, s3, u58])))
        refine ⟨⟨j + 1, hjl⟩, by simp; omega, ?_⟩
        have hn : dig mv.f :: 120 :: dig mv.t :: (mv.h ++ eF (mv.b.take (j + 1))) = S ++ [58] ++ [dig x] := by rw [hS, hst]; simp
        simp only [hn]
        exact aV.drop (by simp [look, below]) (by simp [aQ, bY, below, bC]) (by simp [aQ])
      | false =>
        have hj1 : ¬ j = 0 := by simpa using hj0
        rw [if_neg hj1, List.append_nil] at hst
        ((try simp only [aO, SS, cA, aM, setRange, aN, aC, aB, aF, aE, aD, aA, Nat.reduceLT, Nat.reduceEqDiff, Nat.reduceAdd, Nat.reduceMul, Nat.reduceSub, Nat.reduceLeDiff, Nat.reduceBEq, reduceCtorEq, ho, aT, q1, q2, hj0, bD, hx, d3, s2]); (repeat' ((first | apply aJ | apply aI | apply aL | apply aK | apply aH | apply aG) <;> intro h <;> simp only [h, SS, cA, aM, setRange, aN, aC, aB, aF, aE, aD, aA, Nat.reduceLT, Nat.reduceEqDiff, Nat.reduceAdd, Nat.reduceMul, Nat.reduceSub, Nat.reduceLeDiff, Nat.reduceBEq, reduceCtorEq, ho, aT, q1, q2, hj0, bD, hx, d3, s2])))
        refine ⟨⟨j + 1, hjl⟩, by simp; omega, ?_⟩
        have hn : dig mv.f :: 120 :: dig mv.t :: (mv.h ++ eF (mv.b.take (j + 1))) = S ++ [dig x] := by rw [hS, hst]; simp
        simp only [hn]
        exact aV.drop (by simp [look, below]) (by simp [aQ, bY, below, bC]) (by simp [aQ])
    obtain rfl : j = mv.b.length := by omega
    have q1 : decide ((mv.b.length : Int) < (mv.b.length : Int)) = false := by simp
    ((try simp only [aO, SS, cA, aM, setRange, aN, aC, aB, aF, aE, aD, aA, Nat.reduceLT, Nat.reduceEqDiff, Nat.reduceAdd, Nat.reduceMul, Nat.reduceSub, Nat.reduceLeDiff, Nat.reduceBEq, reduceCtorEq, aT, q1]); (repeat' ((first | apply aJ | apply aI | apply aL | apply aK | apply aH | apply aG) <;> intro h <;> simp only [h, SS, cA, aM, setRange, aN, aC, aB, aF, aE, aD, aA, Nat.reduceLT, Nat.reduceEqDiff, Nat.reduceAdd, Nat.reduceMul, Nat.reduceSub, Nat.reduceLeDiff, Nat.reduceBEq, reduceCtorEq, aT, q1])))
    (refine hQ _ _ _ (aP (by first | exact .inl rfl | exact .inr rfl) ?_); simp only [SS, cA, aM, setRange, aN, aC, aB, aF, aE, aD, aA, Nat.reduceLT, Nat.reduceEqDiff, Nat.reduceAdd, Nat.reduceMul, Nat.reduceSub, Nat.reduceLeDiff, Nat.reduceBEq, reduceCtorEq])
    rw [List.take_length]
    simp [cX, ho, signC]
  | false =>
    ((try simp only [aO, SS, cA, aM, setRange, aN, aC, aB, aF, aE, aD, aA, Nat.reduceLT, Nat.reduceEqDiff, Nat.reduceAdd, Nat.reduceMul, Nat.reduceSub, Nat.reduceLeDiff, Nat.reduceBEq, reduceCtorEq, ho]); (repeat' ((first | apply aJ | apply aI | apply aL | apply aK | apply aH | apply aG) <;> intro h <;> simp only [h, SS, cA, aM, setRange, aN, aC, aB, aF, aE, aD, aA, Nat.reduceLT, Nat.reduceEqDiff, Nat.reduceAdd, Nat.reduceMul, Nat.reduceSub, Nat.reduceLeDiff, Nat.reduceBEq, reduceCtorEq, ho])))
    refine bQ (Top.draw mixed aX (by kernel_rfl) ?_)
    have s1 : (3 + mv.h.length < 1000000000) = True := by simp; omega
    ((try simp only [aO, SS, cA, aM, setRange, aN, aC, aB, aF, aE, aD, aA, Nat.reduceLT, Nat.reduceEqDiff, Nat.reduceAdd, Nat.reduceMul, Nat.reduceSub, Nat.reduceLeDiff, Nat.reduceBEq, reduceCtorEq, ho, d1, d2, s1]); (repeat' ((first | apply aJ | apply aI | apply aL | apply aK | apply aH | apply aG) <;> intro h <;> simp only [h, SS, cA, aM, setRange, aN, aC, aB, aF, aE, aD, aA, Nat.reduceLT, Nat.reduceEqDiff, Nat.reduceAdd, Nat.reduceMul, Nat.reduceSub, Nat.reduceLeDiff, Nat.reduceBEq, reduceCtorEq, ho, d1, d2, s1])))
    refine ⟨by kernel_rfl, ?_⟩
    ((try simp only [aO, SS, cA, aM, setRange, aN, aC, aB, aF, aE, aD, aA, Nat.reduceLT, Nat.reduceEqDiff, Nat.reduceAdd, Nat.reduceMul, Nat.reduceSub, Nat.reduceLeDiff, Nat.reduceBEq, reduceCtorEq, ho]); (repeat' ((first | apply aJ | apply aI | apply aL | apply aK | apply aH | apply aG) <;> intro h <;> simp only [h, SS, cA, aM, setRange, aN, aC, aB, aF, aE, aD, aA, Nat.reduceLT, Nat.reduceEqDiff, Nat.reduceAdd, Nat.reduceMul, Nat.reduceSub, Nat.reduceLeDiff, Nat.reduceBEq, reduceCtorEq, ho])))
    refine bO (Top.loop (I := fun s : { j : Nat // j ≤ mv.b.length } => (mkF 40 [(5, .int .i64 (s.1 : Nat)), (4, .str (dig mv.f :: 45 :: dig mv.t :: (mv.h ++ eF (mv.b.take s.1)))), (1, .ptr 0 0)], mkH 1 [(0, some (.row [.int .i64 mv.f, .int .i64 mv.t, .bool false, .str mv.h, .lsl (cC mv.b)] 27 0 0 false))] 0 [])) (μ := fun s => mv.b.length - s.1) ⟨0, by omega⟩ (aV.drop (by simp [look, below, eF]) (by simp [aQ, bY, below, bC]) (by simp [aQ])) ?_)
    rintro ⟨j, hj⟩
    refine aS aX _ _ _ _ ?_
    dsimp only
    have hbl : (eF (mv.b.take j)).length ≤ 101 := by unfold eF; split <;> simp; omega
    by_cases hjl : j < mv.b.length
    · obtain ⟨x, hx⟩ : ∃ x, mv.b[j]? = some x := ⟨mv.b[j], List.getElem?_eq_getElem hjl⟩
      have d3 := e142 (p5 x (List.mem_of_getElem? hx))
      have hst := byStr_step hx
      have q1 : decide ((j : Int) < (mv.b.length : Int)) = true := by simp; omega
      have q2 : IntKind.i64.wrap ((j : Int) + 1) = ((j + 1 : Nat) : Int) := by rw [bM] <;> omega
      obtain ⟨S, hS⟩ : ∃ S, S = dig mv.f :: 45 :: dig mv.t :: (mv.h ++ eF (mv.b.take j)) := ⟨_, rfl⟩
      have hSl : S.length ≤ 300 := by rw [hS]; simp; omega
      rw [← hS]
      have u58 : UInt8.toNat 58 = 58 := rfl
      have s2 : (S.length + 1 < 1000000000) = True := by simp; omega
      have s3 : ((S ++ [58]).length + 1 < 1000000000) = True := by simp; omega
      cases hj0 : ((j : Int) == 0) with
      | true =>
        have hj1 : j = 0 := by simpa using hj0
        rw [if_pos hj1] at hst
        ((try simp only [aO, SS, cA, aM, setRange, aN, aC, aB, aF, aE, aD, aA, Nat.reduceLT, Nat.reduceEqDiff, Nat.reduceAdd, Nat.reduceMul, Nat.reduceSub, Nat.reduceLeDiff, Nat.reduceBEq, reduceCtorEq, ho, aT, q1, q2, hj0, bD, hx, d3, s2, s3, u58]); (repeat' ((first | apply aJ | apply aI | apply aL | apply aK | apply aH | apply aG) <;> intro h <;> simp only [h, SS, cA, aM, setRange, aN, aC, aB, aF, aE, aD, aA, Nat.reduceLT, Nat.reduceEqDiff, Nat.reduceAdd, Nat.reduceMul, Nat.reduceSub, Nat.reduceLeDiff, Nat.reduceBEq, reduceCtorEq, ho, aT, q1, q2, hj0, bD, hx, d3, s2, s3, u58])))
        refine ⟨⟨j + 1, hjl⟩, by simp; omega, ?_⟩
        have hn : dig mv.f :: 45 :: dig mv.t :: (mv.h ++ eF (mv.b.take (j + 1))) = S ++ [58] ++ [dig x] := by rw [hS, hst]; simp
        simp only [hn]
        exact aV.drop (by simp [look, below]) (by simp [aQ, bY, below, bC]) (by simp [aQ])
      | false =>
        have hj1 : ¬ j = 0 := by simpa using hj0
        rw [if_neg hj1, List.append_nil] at hst
        ((try simp only [aO, SS, cA, aM, setRange, aN, aC, aB, aF, aE, aD, aA, Nat.reduceLT, Nat.reduceEqDiff, Nat.reduceAdd, Nat.reduceMul, Nat.reduceSub, Nat.reduceLeDiff, Nat.reduceBEq, reduceCtorEq, ho, aT, q1, q2, hj0, bD, hx, d3, s2]); (repeat' ((first | apply aJ | apply aI | apply aL | apply aK | apply aH | apply aG) <;> intro h <;> simp only [h, SS, cA, aM, setRange, aN, aC, aB, aF, aE, aD, aA, Nat.reduceLT, Nat.reduceEqDiff, Nat.reduceAdd, Nat.reduceMul, Nat.reduceSub, Nat.reduceLeDiff, Nat.reduceBEq, reduceCtorEq, ho, aT, q1, q2, hj0, bD, hx, d3, s2])))
        refine ⟨⟨j + 1, hjl⟩, by simp; omega, ?_⟩
        have hn : dig mv.f :: 45 :: dig mv.t :: (mv.h ++ eF (mv.b.take (j + 1))) = S ++ [dig x] := by rw [hS, hst]; simp
        simp only [hn]
        exact aV.drop (by simp [look, below]) (by simp [aQ, bY, below, bC]) (by simp [aQ])
    obtain rfl : j = mv.b.length := by omega
    have q1 : decide ((mv.b.length : Int) < (mv.b.length : Int)) = false := by simp
    ((try simp only [aO, SS, cA, aM, setRange, aN, aC, aB, aF, aE, aD, aA, Nat.reduceLT, Nat.reduceEqDiff, Nat.reduceAdd, Nat.reduceMul, Nat.reduceSub, Nat.reduceLeDiff, Nat.reduceBEq, reduceCtorEq, aT, q1]); (repeat' ((first | apply aJ | apply aI | apply aL | apply aK | apply aH | apply aG) <;> intro h <;> simp only [h, SS, cA, aM, setRange, aN, aC, aB, aF, aE, aD, aA, Nat.reduceLT, Nat.reduceEqDiff, Nat.reduceAdd, Nat.reduceMul, Nat.reduceSub, Nat.reduceLeDiff, Nat.reduceBEq, reduceCtorEq, aT, q1])))
    (refine hQ _ _ _ (aP (by first | exact .inl rfl | exact .inr rfl) ?_); simp only [SS, cA, aM, setRange, aN, aC, aB, aF, aE, aD, aA, Nat.reduceLT, Nat.reduceEqDiff, Nat.reduceAdd, Nat.reduceMul, Nat.reduceSub, Nat.reduceLeDiff, Nat.reduceBEq, reduceCtorEq])
    rw [List.take_length]
    simp [cX, ho, signC]
end Go.Ev
