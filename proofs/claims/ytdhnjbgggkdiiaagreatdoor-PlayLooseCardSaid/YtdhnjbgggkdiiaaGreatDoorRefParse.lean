import Derived.Test.YtdhnjbgggkdiiaaGreatDoorEvC
import Derived.Test.YtdhnjbgggkdiiaaGreatDoorParseV
set_option linter.unusedSimpArgs false
set_option linter.unusedVariables false
namespace Go.Ev
open Go.RowKit Go.Proofs
set_option linter.defProp false
set_option maxRecDepth 20000
set_option maxHeartbeats 8000000

/-! the reference's parser -/
theorem Top.joinR {A : Option Nat} {P : Program} {g : G} {K : bI} {x y : Code} {f : EFr} {h : H} {Q : dB} {σ : Type} (hng : NoNG P) (F2 : σ → EFr) (H2 : σ → H)
    (H1 : ∀ R : dB, (∀ s f1 h1, aF A P f1 h1 (F2 s) (H2 s) → R .normal f1 h1) → (∀ f1 h1, Q .ret f1 h1 → R .ret f1 h1) → wp A P g K x f h R) (H3 : ∀ s, Top A P g K y (F2 s) (H2 s) Q) : Top A P g K (.seq x y) f h Q :=
  Top.seq (aD hng _ _ _ _ (H1 _ (fun s _ _ v => Top.view v (H3 s)) (fun _ _ h => h)))
structure PInv (lo : Nat) (ws : List (List Nat)) (G0 : Pl) (i at0 : Nat) (q : Pl) (v : EVal) (N : Nat) (l : List (Nat × Option EObj)) : Prop where
  hi : i ≤ ws.length
  wr : wrongAt 0 0 ws = wrongAt i at0 (ws.drop i)
  rd : G0 = readG i q (ws.drop i)
  pl : at0 = dS (ws.take i) + i
  ml : q.m.length ≤ i
  mo : ∀ m ∈ q.m, eA m
  p0 : i = 0 → q.p = []
  e0 : i ≤ 1 → q.e = []
  hN : N ≤ lo + 2 * i
  hN2 : lo ≤ N
  M1 : ML lo v q.m N l
  A1 : aB l 1 = some (.row [.str q.p, .str q.e, .bool q.l, v] 24 0 0 false)
  A0 : aB l 0 = some (.row [.str [], .str [], .bool false, .nilslice] 24 0 0 false)
end Go.Ev
