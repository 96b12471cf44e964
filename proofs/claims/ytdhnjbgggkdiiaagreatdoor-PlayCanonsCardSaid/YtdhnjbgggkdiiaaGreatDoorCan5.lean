import Derived.Test.YtdhnjbgggkdiiaaGreatDoorEvC
import Derived.Test.YtdhnjbgggkdiiaaGreatDoorCan4
set_option linter.unusedSimpArgs false
set_option linter.unusedVariables false
namespace Go.Ev
open Go.RowKit Go.Proofs
set_option linter.defProp false
def TF123Can5 := And.intro (And.intro (And.intro (@Tryz.underlying3) (And.intro (@sz3) (@bI))) (And.intro (And.intro (@I3s) (@I3b)) (And.intro (@bH) (@bJ)))) (And.intro (And.intro (And.intro (@Tryz.underlying25) (@dB)) (And.intro (@bQ) (@dD))) (And.intro (And.intro (@dE) (@bN)) (And.intro (@bR) (@Tryz.results123))))
def TF152Can5 := And.intro (And.intro (And.intro (@Tryz.underlying3) (And.intro (@sz3) (@bI))) (And.intro (And.intro (@I3s) (@I3b)) (And.intro (@bH) (@bJ)))) (And.intro (And.intro (And.intro (@Tryz.underlying25) (@dB)) (And.intro (@bQ) (@dD))) (And.intro (And.intro (@dE) (@bN)) (And.intro (@bR) (@Tryz.results152))))
set_option maxRecDepth 20000
set_option maxHeartbeats 8000000

/-! touches, copied into memory of their own -/
section
variable {K : bE} {N : Nat} {l : List (Nat × Option EObj)}
theorem ct123n (hN : N < 16000) (hb : ∀ p ∈ l, p.1 < 16000 ∧ p.1 < N ∧ ∃ o, p.2 = some o ∧ aB l p.1 = some o ∧ bC N o = true) : bU Tryz.prog gT K 123 [.lsl []] (mkH N l 0 []) fun v h => v = .lsl [] ∧ h = mkH N l 0 [] := by
  refine bU.intro Tryz.func123 rfl (Top.unview ?_)
  refine Top.view (aF.start (n := 8) rfl (by simp)) (aD aI _ _ _ _ ?_)
  (try simp only [aH, SS, TF123Can5, aA, Nat.reduceLT, Nat.reduceEqDiff, reduceCtorEq, eOther, eqX, eqNilS, ndEq_yes Tryz.underlying25])
  intro q
  cases q with
  | true =>
    (try simp only [SS, aA, Nat.reduceLT])
    refine ⟨_, _, aF.told (ds := []) (r := none) (fl2 := [(2, .lsl [])]) (l2 := l) (by simp [look, toldR]) (fun p hp => ?_), cB (es := [.lsl []]) (.inl rfl) rfl (by simp only [SS, TF123Can5, Nat.reduceLT]) ⟨rfl, rfl⟩⟩
    obtain ⟨h1, _, o, h2, h3, _⟩ := hb p hp
    exact ⟨h1, o, h2, .inl h3⟩
  | false =>
    (try simp only [SS, TF123Can5, setRange, bK, aA, aE, Nat.reduceLT, Nat.reduceEqDiff, Nat.reduceMul, Nat.reduceLeDiff, reduceCtorEq, lensOK, List.all_nil, hN])
    have hb2 : ∀ p ∈ l, p.1 < 16000 ∧ p.1 ≠ N ∧ ∃ o2, p.2 = some o2 ∧ (aB ((N, some (.row [] 3 0 0 false)) :: (N, some (.row [] 3 0 0 false)) :: l) p.1 = some o2 ∨ ∃ cs1 cs2 e lo hi sl, aB ((N, some (.row [] 3 0 0 false)) :: (N, some (.row [] 3 0 0 false)) :: l) p.1 = some (.row cs1 e lo hi sl) ∧ o2 = .row cs2 e lo hi sl ∧ fzL N 0 (.lsl (bZ 1 0 [])) cs1 cs2) := by
      intro p hp
      obtain ⟨h1, h4, o, h2, h3, _⟩ := hb p hp
      exact ⟨h1, by omega, o, h2, .inl (by rw [aB.eq_2, if_neg (by omega), aB.eq_2, if_neg (by omega)]; exact h3)⟩
    refine ⟨_, _, aF.trans (aF.fz (sz := 1) (len := 0) (cells := []) (cells' := []) (e := 3) (lo := 0) (hi := 0) (sl := false) (fl2 := [(2, .lsl [])]) (l2 := l) (k2 := []) N hN (by simp [aB]) rfl rfl (by simp [look, fzR, capOK, bZ]) hb2 (by simp)) (aF.drop (fl2 := [(2, .lsl [])]) (l2 := l) (by simp [look, below]) hb (by simp) (fun q h => by cases h; simp)), cB (es := [.lsl []]) (.inl rfl) rfl (by simp only [SS, TF123Can5, Nat.reduceLT]) ⟨rfl, rfl⟩⟩
theorem ct123 {b : List Int} (hb : b ≠ []) (hlen : b.length ≤ 1000) (hN : N + 1 < 16000) : bU Tryz.prog gT K 123 [.lsl (aS b)] (mkH N l 0 []) fun v h => v = .slice (N + 1) 0 b.length (.slack 0) ∧ h = mkH (N + 1 + 1) ((N + 1, some (.row (dC b) 3 0 0 true)) :: (N, some (.row [] 3 0 0 false)) :: l) 0 [] := by
  refine bU.intro Tryz.func123 rfl ?_
  refine Top.view (aF.start (n := 8) rfl (by simp)) (aD aI _ _ _ _ ?_)
  match b, hb, hlen with
  | x :: b, _, hlen =>
    have hl : (aS (x :: b)).length = b.length + 1 := by rw [aM]; rfl
    have hf : (aS (x :: b)).flatten = dC (x :: b) := eInts_flatten _
    have hlens : lensOK 1 (aS (x :: b)) = true := lensOK_eInts _
    have q4 : (b.length + 1 ≤ 0) = False := by simp
    have q5 : 8 * (b.length + 1) ≤ 1000000 := by simp only [List.length_cons] at hlen; omega
    have hq : eqNilS (.lsl (aS (x :: b))) .nilslice = some false := rfl
    have hN0 : N < 16000 := by omega
    (try simp only [aH, SS, TF123Can5, setRange, bK, aA, aE, Nat.reduceLT, Nat.reduceEqDiff, Nat.reduceLeDiff, reduceCtorEq, eOther, eqX, hq, hl, hf, hlens, q4, q5, hN0])
    exact cB (es := [.slice (N + 1) 0 (b.length + 1) (.slack 0)]) (.inl rfl) rfl (by simp only [SS, TF123Can5, Nat.reduceLT, Nat.reduceEqDiff, reduceCtorEq]) ⟨rfl, rfl⟩
theorem ct152n : bU Tryz.prog gT K 152 [.lsl []] (mkH N l 0 []) fun v h => v = .lsl [] ∧ h = mkH N l 0 [] := by
  refine bU.intro Tryz.func152 rfl ?_
  refine Top.view (aF.start (n := 61) rfl (by simp)) (aD aI _ _ _ _ ?_)
  have q1 : decide ((0 : Int) < 2) = true := by decide
  (try simp only [aH, SS, TF152Can5, aA, Nat.reduceLT, Nat.reduceEqDiff, reduceCtorEq, q1])
  exact cB (es := [.lsl []]) (.inl rfl) rfl (by simp only [SS, TF152Can5, Nat.reduceLT, Nat.reduceEqDiff, reduceCtorEq]) ⟨rfl, rfl⟩
end
end Go.Ev
