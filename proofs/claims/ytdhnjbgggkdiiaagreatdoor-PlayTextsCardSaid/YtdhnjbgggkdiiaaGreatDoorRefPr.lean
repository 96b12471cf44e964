import Derived.Test.YtdhnjbgggkdiiaaGreatDoorCnt
import Derived.Test.YtdhnjbgggkdiiaaGreatDoorPrMove
import Derived.Test.YtdhnjbgggkdiiaaGreatDoorJoin
set_option linter.unusedSimpArgs false
set_option linter.unusedVariables false
namespace Go.Ev
open Go.RowKit Go.Proofs
set_option maxRecDepth 20000
set_option maxHeartbeats 4000000

/-! contracts by running, of strings -/
def allStr (s : List Nat) : Option (List Out) → Bool
  | some l => l.all fun o => match o with | .val (.str c) _ => c == s | _ => false
  | none => false
theorem run_str {f : FuncId} {F : List EVal → Option EVal} {n : Nat} (H1 : ∀ a u, F a = some u → ∃ s, u = .str s ∧ allStr s (run Tryz.prog gT quiet n (.call f a H.start)) = true) : FnT f F := by
  intro B0 W0 G a u hF vs fro w hvs hfz hb hs
  obtain ⟨s, rfl, h⟩ := H1 a u hF
  have G1 : eK w.heap.size w gT := G.grow hb hs
  cases hr : run Tryz.prog gT quiet n (.call f a H.start) with
  | none => rw [hr] at h; cases h
  | some outs =>
    rw [hr] at h
    have hall : ∀ o ∈ outs, (match o with | .val (.str c) _ => c == s | _ => false) = true := List.all_eq_true.1 h
    refine (run_calls mixed aI hfz G1 (quietK_ok (W0 := ⟨w, fro⟩) mixed aI G1 100 quietF) hr hvs).mono ?_
    rintro e w' ⟨v, h', u, ρ, hm, rfl, hv, hR⟩
    have := hall _ hm
    split at this
    · rename_i heq
      cases heq
      simp only [beq_iff_eq] at this
      subst this
      have hv2 : ∀ ρ2, VRel ρ2 (.str _) u := fun ρ2 => by cases hv with | str _ x hx => exact .str _ x hx
      refine ⟨_, ρ.fro, rfl, hv2 _, hR.below, ?_⟩
      have hfro : (fun b => if b < w.heap.size then fro b else ρ.fro b) = ρ.fro := by
        funext b
        split
        · rename_i hb; exact (hR.fz0 b hb).symm
        · rfl
      rw [hfro]; exact hR.fz
    · cases this
def F142 : List EVal → Option EVal
  | [.int .i64 n] => if 0 ≤ n ∧ n ≤ 9 then some (.str [dig n]) else none
  | _ => none
theorem e142 {n : Int} (h : 0 ≤ n ∧ n ≤ 9) : F142 [.int .i64 n] = some (.str [dig n]) := by simp only [F142]; rw [if_pos h]
theorem runs142 : ((List.range 10).all fun k => allStr [k + 48] (run Tryz.prog gT quiet 200 (.call 142 [.int .i64 (k : Nat)] H.start))) = true := by kernel_rfl
theorem fn142 : FnT 142 F142 := by
  refine run_str (n := 200) fun a u hF => ?_
  unfold F142 at hF
  split at hF
  · rename_i n
    split at hF
    · rename_i h
      cases hF
      refine ⟨_, rfl, ?_⟩
      have := List.all_eq_true.1 runs142 n.toNat (by rw [List.mem_range]; omega)
      rwa [Int.toNat_of_nonneg h.1] at this
    · cases hF
  · cases hF
end Go.Ev
namespace Go.Ev
open Go.RowKit Go.Proofs
set_option linter.defProp false
def TF103RefPr := And.intro (And.intro (And.intro (@Tryz.underlying9) (@sz9)) (And.intro (@bI) (@I9s))) (And.intro (And.intro (@I9b) (@bH)) (And.intro (@bJ) (@Tryz.results103)))
def TF104RefPr := And.intro (And.intro (And.intro (And.intro (And.intro (@Tryz.underlying3) (@sz3)) (And.intro (@bN) (@I3s))) (And.intro (And.intro (@I3b) (@bL)) (And.intro (@bO) (And.intro (@Tryz.underlying4) (@sz4))))) (And.intro (And.intro (And.intro (@dC) (@I4s)) (And.intro (@I4b) (And.intro (@cY) (@dD)))) (And.intro (And.intro (@Tryz.underlying9) (@sz9)) (And.intro (@bI) (And.intro (@I9s) (@I9b)))))) (And.intro (And.intro (And.intro (And.intro (@bH) (@bJ)) (And.intro (@Tryz.underlying25) (@eB))) (And.intro (And.intro (@cE) (@eC)) (And.intro (@eD) (And.intro (@cC) (@cF))))) (And.intro (And.intro (And.intro (@Tryz.underlying27) (@eE)) (And.intro (@dF) (And.intro (@cJ) (@eF)))) (And.intro (And.intro (@eG) (@cH)) (And.intro (@cK) (And.intro (@call142) (@Tryz.results104))))))
set_option maxRecDepth 20000
set_option maxHeartbeats 8000000

/-! the strings of the reference -/
def bR (s : List Nat) : List Nat := if s = [] then [45] else s
def F103 : List EVal → Option EVal
  | [.str s] => some (.str (bR s))
  | _ => none
theorem e103 {s : List Nat} : F103 [.str s] = some (.str (bR s)) := rfl
theorem fn103 : FnT 103 F103 := by
  refine Fn.intro mixed aI Tryz.func103 rfl [] (fun _ h => by cases h) ?_
  intro args v hF
  unfold F103 at hF
  split at hF
  rotate_left
  · cases hF
  intro Q hV
  have hQ := aS.of hV
  rename_i s
  cases hF
  refine Top.view (aH.start (n := 6) rfl (by simp)) (aD aI _ _ _ _ ?_)
  cases s with
  | nil =>
    have q1 : decide (([] : List Nat) = []) = true := rfl
    (try simp only [aG, SS, aA, Nat.reduceLT, Nat.reduceEqDiff, reduceCtorEq])
    (refine hQ _ _ _ (aC (by first | exact .inl rfl | exact .inr rfl) ?_); simp only [SS, TF103RefPr, Nat.reduceLT, Nat.reduceEqDiff, reduceCtorEq])
    rfl
  | cons a s =>
    have q1 : decide (a :: s = []) = false := rfl
    (try simp only [aG, SS, aA, Nat.reduceLT, Nat.reduceEqDiff, reduceCtorEq])
    (refine hQ _ _ _ (aC (by first | exact .inl rfl | exact .inr rfl) ?_); simp only [SS, TF103RefPr, Nat.reduceLT, Nat.reduceEqDiff, reduceCtorEq])
    rfl
theorem byStr_step {b : List Int} {j : Nat} {x : Int} (h : b[j]? = some x) : dM (b.take (j + 1)) = dM (b.take j) ++ (if j = 0 then [58] else []) ++ [dig x] := by
  obtain ⟨hk, rfl⟩ := List.getElem?_eq_some_iff.1 h
  have hb : b ≠ [] := by rintro rfl; simp at hk
  have h1 : b.take (j + 1) ≠ [] := by rw [ne_eq, List.take_eq_nil_iff]; rintro (h | h); omega; exact hb h
  have e : (b.take (j + 1)).map dig = (b.take j).map dig ++ [dig b[j]] := by rw [List.take_add_one, h, List.map_append]; rfl
  by_cases hj : j = 0
  · subst hj
    unfold dM
    rw [if_neg h1, e]; simp
  · have h2 : b.take j ≠ [] := by rw [ne_eq, List.take_eq_nil_iff]; rintro (h | h); omega; exact hb h
    unfold dM
    rw [if_neg h1, if_neg h2, if_neg hj, e]; simp
def F104 : List EVal → Option EVal
  | [.agg x] => (dMove x).bind fun m => if prB m = true then some (.str (bM m)) else none
  | _ => none
theorem e104 {m : Mv} (hok : eI m) (h : prB m = true) : F104 [.agg [.int .i64 m.f, .int .i64 m.t, .bool m.o, .str m.h, .lsl (bU m.b)]] = some (.str (bM m)) := e135 hok h
theorem fn104 : FnT 104 F104 := by
  refine Fn.intro mixed aI Tryz.func104 rfl [(142, F142)] (by simp only [List.forall_mem_cons]; exact ⟨fn142, fun _ h => by cases h⟩) ?_
  intro args v hF
  unfold F104 at hF
  split at hF
  rotate_left
  · cases hF
  intro Q hV
  have hQ := aS.of hV
  rename_i x
  cases hx : dMove x with
  | none => rw [hx] at hF; cases hF
  | some mv =>
  rw [hx] at hF
  simp only [Option.bind_some] at hF
  split at hF
  rotate_left
  · cases hF
  rename_i hp
  cases hF
  obtain ⟨rfl, hok⟩ := dMove_inv hx
  rw [eMove_q]
  obtain ⟨p1, p2, ⟨p3, p3'⟩, p4, p5, p6⟩ := prB_iff hp
  have d1 := e142 p1
  have d2 := e142 p2
  refine Top.view (aH.start (n := 40) rfl (by simp)) (aD aI _ _ _ _ ?_)
  cases ho : mv.o with
  | true =>
    (try simp only [aG, SS, TF104RefPr, aA, Nat.reduceLT, Nat.reduceEqDiff, reduceCtorEq])
    refine aX (Top.draw mixed aI (by kernel_rfl) ?_)
    have s1 : (3 + mv.h.length < 1000000000) = True := by simp; omega
    (try simp only [SS, TF104RefPr, aF, aA, Nat.reduceLT, Nat.reduceEqDiff, Nat.reduceAdd, reduceCtorEq, d1, d2, s1])
    refine ⟨by kernel_rfl, ?_⟩
    (try simp only [aG, SS, TF104RefPr, aF, setRange, bQ, aA, aL, bB, aQ, aO, aE, Nat.reduceLT, Nat.reduceEqDiff, Nat.reduceAdd, Nat.reduceMul, Nat.reduceSub, Nat.reduceLeDiff, Nat.reduceBEq, reduceCtorEq, ho])
    refine aU (Top.loop (I := fun s : { j : Nat // j ≤ mv.b.length } => (mkF 40 [(5, .int .i64 (s.1 : Nat)), (4, .str (dig mv.f :: 120 :: dig mv.t :: (mv.h ++ dM (mv.b.take s.1)))), (1, .ptr 0 0)], mkH 1 [(0, some (.row [.int .i64 mv.f, .int .i64 mv.t, .bool true, .str mv.h, .lsl (bU mv.b)] 27 0 0 false))] 0 [])) (μ := fun s => mv.b.length - s.1) ⟨0, by omega⟩ (aH.drop (by simp [look, below, dM]) (by simp [aB, bG, below, bV]) (by simp [aB])) ?_)
    rintro ⟨j, hj⟩
    refine aD aI _ _ _ _ ?_
    dsimp only
    have hbl : (dM (mv.b.take j)).length ≤ 101 := by unfold dM; split <;> simp; omega
    by_cases hjl : j < mv.b.length
    · obtain ⟨x, hx⟩ : ∃ x, mv.b[j]? = some x := ⟨mv.b[j], List.getElem?_eq_getElem hjl⟩
      have d3 := e142 (p5 x (List.mem_of_getElem? hx))
      have hst := byStr_step hx
      have q1 : decide ((j : Int) < (mv.b.length : Int)) = true := by simp; omega
      have q2 : IntKind.i64.wrap ((j : Int) + 1) = ((j + 1 : Nat) : Int) := by rw [aR] <;> omega
      obtain ⟨S, hS⟩ : ∃ S, S = dig mv.f :: 120 :: dig mv.t :: (mv.h ++ dM (mv.b.take j)) := ⟨_, rfl⟩
      have hSl : S.length ≤ 300 := by rw [hS]; simp; omega
      rw [← hS]
      have u58 : UInt8.toNat 58 = 58 := rfl
      have s2 : (S.length + 1 < 1000000000) = True := by simp; omega
      have s3 : ((S ++ [58]).length + 1 < 1000000000) = True := by simp; omega
      cases hj0 : ((j : Int) == 0) with
      | true =>
        have hj1 : j = 0 := by simpa using hj0
        rw [if_pos hj1] at hst
        (try simp only [SS, TF104RefPr, aF, aA, Nat.reduceLT, Nat.reduceEqDiff, reduceCtorEq, aP, q1, q2, hj0, bK, hx, d3, s2, s3, u58])
        refine ⟨⟨j + 1, hjl⟩, by simp; omega, ?_⟩
        have hn : dig mv.f :: 120 :: dig mv.t :: (mv.h ++ dM (mv.b.take (j + 1))) = S ++ [58] ++ [dig x] := by rw [hS, hst]; simp
        simp only [hn]
        exact aH.drop (by simp [look, below]) (by simp [aB, bG, below, bV]) (by simp [aB])
      | false =>
        have hj1 : ¬ j = 0 := by simpa using hj0
        rw [if_neg hj1, List.append_nil] at hst
        (try simp only [SS, TF104RefPr, aF, aA, Nat.reduceLT, Nat.reduceEqDiff, reduceCtorEq, aP, q1, q2, hj0, bK, hx, d3, s2])
        refine ⟨⟨j + 1, hjl⟩, by simp; omega, ?_⟩
        have hn : dig mv.f :: 120 :: dig mv.t :: (mv.h ++ dM (mv.b.take (j + 1))) = S ++ [dig x] := by rw [hS, hst]; simp
        simp only [hn]
        exact aH.drop (by simp [look, below]) (by simp [aB, bG, below, bV]) (by simp [aB])
    obtain rfl : j = mv.b.length := by omega
    have q1 : decide ((mv.b.length : Int) < (mv.b.length : Int)) = false := by simp
    (try simp only [SS, TF104RefPr, aA, Nat.reduceLT, Nat.reduceEqDiff, reduceCtorEq, aP, q1])
    (refine hQ _ _ _ (aC (by first | exact .inl rfl | exact .inr rfl) ?_); simp only [SS, TF104RefPr, Nat.reduceLT, Nat.reduceEqDiff])
    rw [List.take_length]
    simp [bM, ho, signC]
  | false =>
    (try simp only [aG, SS, TF104RefPr, aA, Nat.reduceLT, Nat.reduceEqDiff, reduceCtorEq])
    refine aX (Top.draw mixed aI (by kernel_rfl) ?_)
    have s1 : (3 + mv.h.length < 1000000000) = True := by simp; omega
    (try simp only [SS, TF104RefPr, aF, aA, Nat.reduceLT, Nat.reduceEqDiff, Nat.reduceAdd, reduceCtorEq, d1, d2, s1])
    refine ⟨by kernel_rfl, ?_⟩
    (try simp only [aG, SS, TF104RefPr, aF, setRange, bQ, aA, aL, bB, aQ, aO, aE, Nat.reduceLT, Nat.reduceEqDiff, Nat.reduceAdd, Nat.reduceMul, Nat.reduceSub, Nat.reduceLeDiff, Nat.reduceBEq, reduceCtorEq, ho])
    refine aU (Top.loop (I := fun s : { j : Nat // j ≤ mv.b.length } => (mkF 40 [(5, .int .i64 (s.1 : Nat)), (4, .str (dig mv.f :: 45 :: dig mv.t :: (mv.h ++ dM (mv.b.take s.1)))), (1, .ptr 0 0)], mkH 1 [(0, some (.row [.int .i64 mv.f, .int .i64 mv.t, .bool false, .str mv.h, .lsl (bU mv.b)] 27 0 0 false))] 0 [])) (μ := fun s => mv.b.length - s.1) ⟨0, by omega⟩ (aH.drop (by simp [look, below, dM]) (by simp [aB, bG, below, bV]) (by simp [aB])) ?_)
    rintro ⟨j, hj⟩
    refine aD aI _ _ _ _ ?_
    dsimp only
    have hbl : (dM (mv.b.take j)).length ≤ 101 := by unfold dM; split <;> simp; omega
    by_cases hjl : j < mv.b.length
    · obtain ⟨x, hx⟩ : ∃ x, mv.b[j]? = some x := ⟨mv.b[j], List.getElem?_eq_getElem hjl⟩
      have d3 := e142 (p5 x (List.mem_of_getElem? hx))
      have hst := byStr_step hx
      have q1 : decide ((j : Int) < (mv.b.length : Int)) = true := by simp; omega
      have q2 : IntKind.i64.wrap ((j : Int) + 1) = ((j + 1 : Nat) : Int) := by rw [aR] <;> omega
      obtain ⟨S, hS⟩ : ∃ S, S = dig mv.f :: 45 :: dig mv.t :: (mv.h ++ dM (mv.b.take j)) := ⟨_, rfl⟩
      have hSl : S.length ≤ 300 := by rw [hS]; simp; omega
      rw [← hS]
      have u58 : UInt8.toNat 58 = 58 := rfl
      have s2 : (S.length + 1 < 1000000000) = True := by simp; omega
      have s3 : ((S ++ [58]).length + 1 < 1000000000) = True := by simp; omega
      cases hj0 : ((j : Int) == 0) with
      | true =>
        have hj1 : j = 0 := by simpa using hj0
        rw [if_pos hj1] at hst
        (try simp only [SS, TF104RefPr, aF, aA, Nat.reduceLT, Nat.reduceEqDiff, reduceCtorEq, aP, q1, q2, hj0, bK, hx, d3, s2, s3, u58])
        refine ⟨⟨j + 1, hjl⟩, by simp; omega, ?_⟩
        have hn : dig mv.f :: 45 :: dig mv.t :: (mv.h ++ dM (mv.b.take (j + 1))) = S ++ [58] ++ [dig x] := by rw [hS, hst]; simp
        simp only [hn]
        exact aH.drop (by simp [look, below]) (by simp [aB, bG, below, bV]) (by simp [aB])
      | false =>
        have hj1 : ¬ j = 0 := by simpa using hj0
        rw [if_neg hj1, List.append_nil] at hst
        (try simp only [SS, TF104RefPr, aF, aA, Nat.reduceLT, Nat.reduceEqDiff, reduceCtorEq, aP, q1, q2, hj0, bK, hx, d3, s2])
        refine ⟨⟨j + 1, hjl⟩, by simp; omega, ?_⟩
        have hn : dig mv.f :: 45 :: dig mv.t :: (mv.h ++ dM (mv.b.take (j + 1))) = S ++ [dig x] := by rw [hS, hst]; simp
        simp only [hn]
        exact aH.drop (by simp [look, below]) (by simp [aB, bG, below, bV]) (by simp [aB])
    obtain rfl : j = mv.b.length := by omega
    have q1 : decide ((mv.b.length : Int) < (mv.b.length : Int)) = false := by simp
    (try simp only [SS, TF104RefPr, aA, Nat.reduceLT, Nat.reduceEqDiff, reduceCtorEq, aP, q1])
    (refine hQ _ _ _ (aC (by first | exact .inl rfl | exact .inr rfl) ?_); simp only [SS, TF104RefPr, Nat.reduceLT, Nat.reduceEqDiff])
    rw [List.take_length]
    simp [bM, ho, signC]
end Go.Ev
