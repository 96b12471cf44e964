import Derived.Test.YtdhnjbgggkdiiaaGreatDoorCan8
import Derived.Test.YtdhnjbgggkdiiaaGreatDoorForm5
import Derived.Test.YtdhnjbgggkdiiaaGreatDoorDraw
import Derived.Test.YtdhnjbgggkdiiaaGreatDoorRefParse
set_option linter.unusedSimpArgs false
set_option linter.unusedVariables false
namespace Go.Ev
open Go.RowKit Go.Proofs
set_option linter.defProp false
set_option maxRecDepth 20000
set_option maxHeartbeats 8000000

/-! the reference: stays, plain, Sorted -/
theorem way_some : ∀ c ∈ waysS, (findL false [c] wayT).isSome = true := by decide +kernel
theorem way_is (h : List Nat) : isWayB false h = (findL false h wayT).isSome := by
  cases hw : isWayB false h with
  | true =>
    match h, hw with
    | [c], hw => exact (way_some c (hasC_mem hw)).symm
  | false =>
    have hn : findL false h wayT = none := by
      unfold findL
      rw [List.find?_eq_none]
      intro w hm hc
      simp only [Bool.and_eq_true, beq_iff_eq, decide_eq_true_eq] at hc
      have := way_all w hm
      rw [hc.1, hc.2, hw] at this
      cases this
    rw [hn]; rfl
end Go.Ev
namespace Go.Ev
open Go.RowKit Go.Proofs
set_option linter.defProp false
set_option maxRecDepth 20000
set_option maxHeartbeats 8000000

/-! the reference: Sorted -/
end Go.Ev
namespace Go.Ev
open Go.RowKit Go.Proofs
set_option linter.defProp false
def TF120CanB := And.intro (And.intro (And.intro (And.intro (And.intro (@Tryz.underlying3) (@sz3)) (And.intro (@bK) (And.intro (@I3s) (@I3b)))) (And.intro (And.intro (@bJ) (And.intro (@bL) (@Tryz.underlying4))) (And.intro (@sz4) (And.intro (@cT) (@I4s))))) (And.intro (And.intro (And.intro (@I4b) (@cS)) (And.intro (@cU) (And.intro (@Tryz.underlying9) (@sz9)))) (And.intro (And.intro (@bZ) (And.intro (@I9s) (@I9b))) (And.intro (@bX) (And.intro (@cA) (@Tryz.underlying22)))))) (And.intro (And.intro (And.intro (And.intro (@dX) (@cZ)) (And.intro (@dY) (And.intro (@dZ) (@cX)))) (And.intro (And.intro (@dA) (And.intro (@Tryz.underlying25) (@dI))) (And.intro (@bQ) (And.intro (@dJ) (@dK))))) (And.intro (And.intro (And.intro (@bP) (@bR)) (And.intro (@Tryz.underlying27) (And.intro (@dN) (@cV)))) (And.intro (And.intro (@cF) (And.intro (@dO) (@dP))) (And.intro (@cC) (And.intro (@cG) (@Tryz.results120))))))
set_option maxRecDepth 20000
set_option maxHeartbeats 8000000

/-! the reference: the canonical form of a loose play -/
theorem canonT_rest {q : Pl} (h : sizeE q.p q.m = 0) (h2 : dupT [] q.m = false) : looseE q = 0 ∧ bU q = if dV (tidyP q) ≠ 0 then (pl0, dV (tidyP q)) else (tidyP q, 0) := by
  have hl : looseE q = 0 := by
    unfold looseE twiceE; rw [h, h2]; rfl
  refine ⟨hl, ?_⟩
  unfold bU
  rw [if_neg (by rw [hl]; decide)]
theorem sizeE_not {p : List Nat} {l : List Mv} (h1 : p.length ≤ 24) (h2 : l.length ≤ 4) (h3 : l.any bigM = false) : sizeE p l = 0 := by
  unfold sizeE
  rw [if_neg (by rw [h3]; simp; omega)]
theorem ML_ne {lo : Nat} {v : EVal} {ms : List Mv} {N : Nat} {l : List (Nat × Option EObj)} (h : ML lo v ms N l) (i : Nat) (hi : i < lo ∨ N ≤ i) (n : Nat) (c : ECap) : v ≠ .slice i 0 n c := by
  rcases h with ⟨rfl, _⟩ | ⟨id, h1, h2, rfl, h4⟩
  · simp
  · intro e; cases e; omega
theorem eAppend_MT {lo : Nat} {v : EVal} {ms : List Mv} {x : Mv} {N m : Nat} {l : List (Nat × Option EObj)} {kk : List (Nat × Option (Nat × TypeId))} (h : ML lo v ms N l) (hlo : lo ≤ N) (hN : N + 1 < 16000) (hlen : ms.length ≤ 10000) :
    ∃ v2 l2, eAppend Tryz.prog (mkH (N + 1) ((N, some (.row [.int .i64 x.f, .int .i64 x.t, .bool x.o, .str x.h, .lsl (aS x.b)] 27 0 0 false)) :: l) m kk) 22 v (.slice N 0 1 (.exact 1)) = some (v2, mkH (N + 1 + 1) l2 m kk) ∧ ML lo v2 (ms ++ [x]) (N + 1 + 1) l2 ∧ ∀ i, i < N → (∀ n c, v ≠ .slice i 0 n c) → aB l2 i = aB l i := by
  have hs : aV ms ++ [.int .i64 x.f, .int .i64 x.t, .bool x.o, .str x.h, .lsl (aS x.b)] = aV (ms ++ [x]) := by simp [aV, dE]
  have hn0 : N < 16000 := by omega
  rcases h with ⟨rfl, rfl⟩ | ⟨id, hlo2, hid, rfl, hl⟩
  · have g1 : decide (64 * 1 ≤ 1000000) = true := by decide
    refine ⟨.slice (N + 1) 0 1 (.slack 0), (N + 1, some (.row [.int .i64 x.f, .int .i64 x.t, .bool x.o, .str x.h, .lsl (aS x.b)] 27 0 0 true)) :: (N, some (.row [.int .i64 x.f, .int .i64 x.t, .bool x.o, .str x.h, .lsl (aS x.b)] 27 0 0 false)) :: l, ?_, .inr ⟨N + 1, by omega, by omega, rfl, by simp [aB, aV, dE]⟩, ?_⟩
    · simp only [SS, TF120CanB, Nat.reduceAdd, Nat.reduceMul, Nat.reduceLeDiff, reduceCtorEq, hn0]
    · intro i hi _
      rw [aB.eq_2, if_neg (by omega), aB.eq_2, if_neg (by omega)]
  · have hid0 : id < 16000 := by omega
    have hne : (N = id) = False := by simp only [eq_iff_iff, iff_false]; omega
    have g1 : decide (64 * (ms.length + 1) ≤ 1000000) = true := by simp; omega
    have g3 : ((ms.length + 1) * 5 ≤ ms.length * 5) = False := by simp only [eq_iff_iff, iff_false]; omega
    refine ⟨.slice (N + 1) 0 (ms.length + 1) (.slack 0), (N + 1, some (.row (aV ms ++ [.int .i64 x.f, .int .i64 x.t, .bool x.o, .str x.h, .lsl (aS x.b)]) 27 0 0 true)) :: (id, none) :: (N, some (.row [.int .i64 x.f, .int .i64 x.t, .bool x.o, .str x.h, .lsl (aS x.b)] 27 0 0 false)) :: l, ?_, .inr ⟨N + 1, by omega, by omega, by simp, by rw [hs]; simp [aB]⟩, ?_⟩
    · simp only [SS, TF120CanB, setRange, Nat.reduceAdd, Nat.reduceMul, reduceCtorEq, hid0, hn0, hne, hl, g1, g3, cellM_length, cellM_take]
    · intro i hi hv
      have : id ≠ i := fun e => hv _ _ (by rw [e])
      rw [aB.eq_2, if_neg (by omega), aB.eq_2, if_neg this, aB.eq_2, if_neg (by omega)]
end Go.Ev
