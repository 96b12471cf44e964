import Derived.Test.YtcdmpceicmbckaaGreatDoorStU
set_option linter.unusedSimpArgs false
set_option linter.unusedVariables false
namespace Go.Ev
open Go.RowKit Go.Proofs
set_option linter.defProp false
def TF16StV := And.intro (And.intro (And.intro (And.intro (And.intro (And.intro (@Tryz.underlying3) (@sz3)) (And.intro (@bP) (@I3s))) (And.intro (And.intro (@I3b) (@bM)) (And.intro (@bQ) (@Tryz.underlying4)))) (And.intro (And.intro (And.intro (@sz4) (@bW)) (And.intro (@I4s) (@I4b))) (And.intro (And.intro (@bU) (@bX)) (And.intro (@Tryz.underlying22) (And.intro (@cE) (@bJ)))))) (And.intro (And.intro (And.intro (And.intro (@cH) (@cI)) (And.intro (@bH) (@bL))) (And.intro (And.intro (@Tryz.underlying23) (@cD)) (And.intro (@bI) (@cF)))) (And.intro (And.intro (And.intro (@cG) (@bG)) (And.intro (@bK) (@Tryz.underlying26))) (And.intro (And.intro (@sz26) (@fok26)) (And.intro (@info26) (And.intro (@I26s) (@I26b))))))) (And.intro (And.intro (And.intro (And.intro (And.intro (@zero26) (@grow26)) (And.intro (@Tryz.underlying27) (@sz27))) (And.intro (And.intro (@info27) (@I27s)) (And.intro (@I27b) (@zero27)))) (And.intro (And.intro (And.intro (@grow27) (@Tryz.underlying33)) (And.intro (@sz33) (@info33))) (And.intro (And.intro (@I33s) (@I33b)) (And.intro (@zero33) (And.intro (@grow33) (@Tryz.underlying37)))))) (And.intro (And.intro (And.intro (And.intro (@sz37) (@info37)) (And.intro (@I37s) (@I37b))) (And.intro (And.intro (@zero37) (@grow37)) (And.intro (@Tryz.underlying162) (And.intro (@sz162) (@info162))))) (And.intro (And.intro (And.intro (@I162s) (@I162b)) (And.intro (@zero162) (@grow162))) (And.intro (And.intro (@call18) (@call60)) (And.intro (@call61) (And.intro (@call63) (@Tryz.results16)))))))
def TF25StV := And.intro (And.intro (And.intro (And.intro (And.intro (@Tryz.underlying3) (@sz3)) (And.intro (@bP) (And.intro (@I3s) (@I3b)))) (And.intro (And.intro (@bM) (And.intro (@bQ) (@Tryz.underlying4))) (And.intro (@sz4) (And.intro (@bW) (@I4s))))) (And.intro (And.intro (And.intro (@I4b) (@bU)) (And.intro (@bX) (And.intro (@Tryz.underlying22) (@cE)))) (And.intro (And.intro (@bJ) (And.intro (@cH) (@cI))) (And.intro (@bH) (And.intro (@bL) (@Tryz.underlying23)))))) (And.intro (And.intro (And.intro (And.intro (@cD) (@bI)) (And.intro (@cF) (And.intro (@cG) (@bG)))) (And.intro (And.intro (@bK) (And.intro (@Tryz.underlying25) (@sz25))) (And.intro (@fok25) (And.intro (@info25) (@I25s))))) (And.intro (And.intro (And.intro (@I25b) (@zero25)) (And.intro (@grow25) (And.intro (@Tryz.underlying33) (@sz33)))) (And.intro (And.intro (@info33) (And.intro (@I33s) (@I33b))) (And.intro (@zero33) (And.intro (@grow33) (@Tryz.results25))))))
def TF63StV := And.intro (And.intro (And.intro (And.intro (And.intro (@Tryz.underlying3) (@sz3)) (And.intro (@bP) (And.intro (@I3s) (@I3b)))) (And.intro (And.intro (@bM) (And.intro (@bQ) (@Tryz.underlying4))) (And.intro (@sz4) (And.intro (@bW) (@I4s))))) (And.intro (And.intro (And.intro (@I4b) (@bU)) (And.intro (@bX) (And.intro (@Tryz.underlying22) (@cE)))) (And.intro (And.intro (@bJ) (And.intro (@cH) (@cI))) (And.intro (@bH) (And.intro (@bL) (@Tryz.underlying23)))))) (And.intro (And.intro (And.intro (And.intro (@cD) (@bI)) (And.intro (@cF) (And.intro (@cG) (@bG)))) (And.intro (And.intro (@bK) (And.intro (@Tryz.underlying26) (@sz26))) (And.intro (@fok26) (And.intro (@info26) (@I26s))))) (And.intro (And.intro (And.intro (@I26b) (@zero26)) (And.intro (@grow26) (And.intro (@Tryz.underlying33) (@sz33)))) (And.intro (And.intro (@info33) (And.intro (@I33s) (@I33b))) (And.intro (@zero33) (And.intro (@grow33) (@Tryz.results63))))))
set_option maxRecDepth 20000
set_option maxHeartbeats 4000000

/-! who has to move -/
def fq (s : St) : Nat → Bool
  | 0 => true
  | k + 1 => fq s k && !decide (bsC s k = 0)
def frc (s : St) : List EVal := [.bool (fq s 0), .bool (fq s 1), .bool (fq s 2), .bool (fq s 3)]
theorem l4_0 : decide ((0 : Int) < 4) = true := by decide
theorem l4_1 : decide ((1 : Int) < 4) = true := by decide
theorem l4_2 : decide ((2 : Int) < 4) = true := by decide
theorem l4_3 : decide ((3 : Int) < 4) = true := by decide
theorem l4_4 : decide ((4 : Int) < 4) = false := by decide
theorem p4_0 : ((0 : Int) < ((4 : Nat) : Int)) = True := by simp
theorem p4_1 : ((1 : Int) < ((4 : Nat) : Int)) = True := by simp
theorem p4_2 : ((2 : Int) < ((4 : Nat) : Int)) = True := by simp
theorem p4_3 : ((3 : Int) < ((4 : Nat) : Int)) = True := by simp
theorem q4_0 : ((0 : Int) < 4) = True := by simp
theorem q4_1 : ((1 : Int) < 4) = True := by simp
theorem q4_2 : ((2 : Int) < 4) = True := by simp
theorem q4_3 : ((3 : Int) < 4) = True := by simp
theorem m1_1 : IntKind.i64.wrap ((1 : Int) - 1) = 0 := by decide
theorem m1_2 : IntKind.i64.wrap ((2 : Int) - 1) = 1 := by decide
theorem m1_3 : IntKind.i64.wrap ((3 : Int) - 1) = 2 := by decide
set_option linter.defProp false
def FO := (And.intro (And.intro (And.intro (And.intro q4_0 q4_1) (And.intro q4_2 q4_3)) (And.intro (And.intro l4_0 l4_1) (And.intro l4_2 l4_3))) (And.intro (And.intro (And.intro l4_4 p4_0) (And.intro p4_1 p4_2)) (And.intro (And.intro p4_3 m1_1) (And.intro m1_2 m1_3))))
def F1063 : List EVal → Option EVal := cJ fun s => some (.agg (frc s))
theorem e1063 {s : St} : F1063 [.agg (eSt s)] = some (.agg (frc s)) := rfl
theorem fn1063 : FnT 63 F1063 := by
  refine Fn.intro mixed aK Tryz.func63 rfl [] (fun _ h => by cases h) ?_
  intro args v hF0
  obtain ⟨s, rfl, hF⟩ := onSt_inv hF0
  clear hF0
  cases hF
  intro Q hV
  have hQ := aY.of hV
  have u : eSt s = [.int .i64 s.inn, .int .i64 s.half, .int .i64 s.outs, .int .i64 s.balls, .int .i64 s.strikes, .int .i64 s.b1, .int .i64 s.b2, .int .i64 s.b3, .int .i64 s.n0, .int .i64 s.n1, .int .i64 s.c0, .int .i64 s.c1, .bool s.over] := rfl
  have hfr : frc s = [.bool (fq s 0), .bool (fq s 1), .bool (fq s 2), .bool (fq s 3)] := rfl
  have q1 : fq s 1 = (fq s 0 && !decide (s.b1 = 0)) := rfl
  have q2 : fq s 2 = (fq s 1 && !decide (s.b2 = 0)) := rfl
  have q3 : fq s 3 = (fq s 2 && !decide (s.b3 = 0)) := rfl
  have q0 : fq s 0 = true := rfl
  refine Top.view (aF.start (n := 20) rfl (by simp)) ?_
  refine Top.seam (σ := Unit) aK (fun _ => mkF 20 [(2, .ptr 1 0), (1, .ptr 0 0)]) (fun _ => mkH 2 [(1, some (.row [.bool false, .bool false, .bool false, .bool false] 33 0 0 false)), (0, some (.row [.int .i64 s.inn, .int .i64 s.half, .int .i64 s.outs, .int .i64 s.balls, .int .i64 s.strikes, .int .i64 s.b1, .int .i64 s.b2, .int .i64 s.b3, .int .i64 s.n0, .int .i64 s.n1, .int .i64 s.c0, .int .i64 s.c1, .bool s.over] 26 0 0 false))] 0 []) ?_ ?_
  · intro R hR
    (try simp only [aV, SS, TF63StV, aA, Nat.reduceLT, Nat.reduceAdd, u])
    exact hR () _ _ (aF.drop (by simp [aL, below]) (by simp [aB, aG, below, aD]) (by simp [aB]))
  intro _
  refine Top.seam (σ := Unit) aK (fun _ => mkF 20 [(3, .ptr 2 0), (2, .ptr 1 0), (1, .ptr 0 0)]) (fun _ => mkH 3 [(2, some (.row [.bool true, .bool false, .bool false, .bool false] 33 0 0 false)), (1, some (.row [.bool false, .bool false, .bool false, .bool false] 33 0 0 false)), (0, some (.row [.int .i64 s.inn, .int .i64 s.half, .int .i64 s.outs, .int .i64 s.balls, .int .i64 s.strikes, .int .i64 s.b1, .int .i64 s.b2, .int .i64 s.b3, .int .i64 s.n0, .int .i64 s.n1, .int .i64 s.c0, .int .i64 s.c1, .bool s.over] 26 0 0 false))] 0 []) ?_ ?_
  · intro R hR
    (try simp only [SS, TF63StV, setRange, aA, aP, Nat.reduceLT, Nat.reduceEqDiff, Nat.reduceAdd, reduceCtorEq])
    exact hR () _ _ (aF.drop (by simp [aL, below]) (by simp [aB, aG, below, aD]) (by simp [aB]))
  intro _
  refine Top.seam (σ := Unit) aK (fun _ => mkF 20 [(3, .ptr 2 0), (2, .ptr 1 0), (1, .ptr 0 0)]) (fun _ => mkH 3 [(2, some (.row [.bool (fq s 0), .bool (fq s 1), .bool (fq s 2), .bool (fq s 3)] 33 0 0 false)), (1, some (.row [.bool false, .bool false, .bool false, .bool false] 33 0 0 false)), (0, some (.row [.int .i64 s.inn, .int .i64 s.half, .int .i64 s.outs, .int .i64 s.balls, .int .i64 s.strikes, .int .i64 s.b1, .int .i64 s.b2, .int .i64 s.b3, .int .i64 s.n0, .int .i64 s.n1, .int .i64 s.c0, .int .i64 s.c1, .bool s.over] 26 0 0 false))] 0 []) ?_ ?_
  · intro R hR
    (try simp only [SS, TF63StV, aA, Nat.reduceLT, Nat.reduceEqDiff, Nat.reduceAdd, reduceCtorEq])
    refine wp_of_top (Top.loop (I := fun x : { k : Nat // k ≤ 3 ∧ (∀ j, j ≤ k → fq s j = true) } => (mkF 20 [(9, .int .i64 ((x.1 : Nat) : Int)), (8, .agg [.int .i64 s.b1, .int .i64 s.b2, .int .i64 s.b3]), (3, .ptr 2 0), (2, .ptr 1 0), (1, .ptr 0 0)], mkH 3 [(2, some (.row [.bool true, .bool (decide (1 ≤ x.1)), .bool (decide (2 ≤ x.1)), .bool (decide (3 ≤ x.1))] 33 0 0 false)), (1, some (.row [.bool false, .bool false, .bool false, .bool false] 33 0 0 false)), (0, some (.row [.int .i64 s.inn, .int .i64 s.half, .int .i64 s.outs, .int .i64 s.balls, .int .i64 s.strikes, .int .i64 s.b1, .int .i64 s.b2, .int .i64 s.b3, .int .i64 s.n0, .int .i64 s.n1, .int .i64 s.c0, .int .i64 s.c1, .bool s.over] 26 0 0 false))] 0 [])) (μ := fun x => 3 - x.1) ⟨0, by omega, fun j hj => (Nat.le_zero.1 hj) ▸ rfl⟩ (aF.drop (by simp [aL, below, aD]) (by simp [aB, aG, below, aD]) (by simp [aB])) ?_)
    rintro ⟨k, hk, hf⟩
    refine aH aK _ _ _ _ ?_
    dsimp only
    obtain rfl | rfl | rfl | rfl : k = 0 ∨ k = 1 ∨ k = 2 ∨ k = 3 := by omega
    · cases hb : (s.b1 == 0) with
      | true =>
        have g1 : fq s 1 = false := by rw [q1]; simp only [eqN] at hb; rw [hb]; simp
        have g2 : fq s 2 = false := by rw [q2, g1]; rfl
        have g3 : fq s 3 = false := by rw [q3, g2]; rfl
        (try simp only [SS, TF63StV, aA, Nat.reduceLT, Nat.reduceEqDiff, Nat.reduceSub, Nat.reduceLeDiff, reduceCtorEq, UP, hb])
        exact hR () _ _ (aF.drop (by simp [aL, below]) (by simp [aB, aG, below, aD, q0, g1, g2, g3]) (by simp [aB]))
      | false =>
        have g1 : fq s 1 = true := by rw [q1, hf 0 (by omega)]; simp only [eqN] at hb; rw [hb]; rfl
        (try simp only [SS, TF63StV, setRange, aA, Nat.reduceLT, Nat.reduceEqDiff, Nat.reduceAdd, Nat.reduceSub, Nat.reduceLeDiff, reduceCtorEq, UP, BND, FO, hb])
        refine ⟨⟨1, by omega, fun j hj => ?_⟩, by simp, (aF.drop (by simp [aL, below, aD]) (by simp [aB, aG, below, aD]) (by simp [aB]))⟩
        by_cases hj2 : j ≤ 0
        · exact hf j hj2
        · obtain rfl : j = 1 := by omega
          exact g1
    · cases hb : (s.b2 == 0) with
      | true =>
        have g1 := hf 1 (by omega)
        have g2 : fq s 2 = false := by rw [q2]; simp only [eqN] at hb; rw [hb]; simp
        have g3 : fq s 3 = false := by rw [q3, g2]; rfl
        (try simp only [SS, TF63StV, aA, Nat.reduceLT, Nat.reduceEqDiff, Nat.reduceSub, Nat.reduceLeDiff, reduceCtorEq, UP, BND, hb])
        exact hR () _ _ (aF.drop (by simp [aL, below]) (by simp [aB, aG, below, aD, q0, g1, g2, g3]) (by simp [aB]))
      | false =>
        have g2 : fq s 2 = true := by rw [q2, hf 1 (by omega)]; simp only [eqN] at hb; rw [hb]; rfl
        (try simp only [SS, TF63StV, setRange, aA, Nat.reduceLT, Nat.reduceEqDiff, Nat.reduceAdd, Nat.reduceSub, Nat.reduceLeDiff, reduceCtorEq, UP, BND, FO, hb])
        refine ⟨⟨2, by omega, fun j hj => ?_⟩, by simp, (aF.drop (by simp [aL, below, aD]) (by simp [aB, aG, below, aD]) (by simp [aB]))⟩
        by_cases hj2 : j ≤ 1
        · exact hf j hj2
        · obtain rfl : j = 2 := by omega
          exact g2
    · cases hb : (s.b3 == 0) with
      | true =>
        have g1 := hf 1 (by omega)
        have g2 := hf 2 (by omega)
        have g3 : fq s 3 = false := by rw [q3]; simp only [eqN] at hb; rw [hb]; simp
        (try simp only [SS, TF63StV, aA, Nat.reduceLT, Nat.reduceEqDiff, Nat.reduceSub, Nat.reduceLeDiff, reduceCtorEq, UP, BND, hb])
        exact hR () _ _ (aF.drop (by simp [aL, below]) (by simp [aB, aG, below, aD, q0, g1, g2, g3]) (by simp [aB]))
      | false =>
        have g3 : fq s 3 = true := by rw [q3, hf 2 (by omega)]; simp only [eqN] at hb; rw [hb]; rfl
        (try simp only [SS, TF63StV, setRange, aA, Nat.reduceLT, Nat.reduceEqDiff, Nat.reduceAdd, Nat.reduceSub, Nat.reduceLeDiff, reduceCtorEq, UP, BND, FO, hb])
        refine ⟨⟨3, by omega, fun j hj => ?_⟩, by simp, (aF.drop (by simp [aL, below, aD]) (by simp [aB, aG, below, aD]) (by simp [aB]))⟩
        by_cases hj2 : j ≤ 2
        · exact hf j hj2
        · obtain rfl : j = 3 := by omega
          exact g3
    · have g1 := hf 1 (by omega)
      have g2 := hf 2 (by omega)
      have g3 := hf 3 (by omega)
      (try simp only [SS, aA, Nat.reduceLT, Nat.reduceEqDiff, Nat.reduceLeDiff, UP])
      exact hR () _ _ (aF.drop (by simp [aL, below]) (by simp [aB, aG, below, aD, q0, g1, g2, g3]) (by simp [aB]))
  intro _
  refine aH aK _ _ _ _ ?_
  (try simp only [SS, TF63StV, setRange, aA, Nat.reduceLT, Nat.reduceEqDiff, Nat.reduceAdd, reduceCtorEq])
  (refine hQ _ _ _ (aJ (by first | exact .inl rfl | exact .inr rfl) ?_); simp only [SS, TF63StV, Nat.reduceLT, Nat.reduceEqDiff, Nat.reduceAdd, reduceCtorEq, hfr])

def F1025 : List EVal → Option EVal := cJ fun s => some (.agg (frc s))
theorem e1025 {s : St} : F1025 [.agg (eSt s)] = some (.agg (frc s)) := rfl
theorem fn1025 : FnT 25 F1025 := by
  refine Fn.intro mixed aK Tryz.func25 rfl [] (fun _ h => by cases h) ?_
  intro args v hF0
  obtain ⟨s, rfl, hF⟩ := onSt_inv hF0
  clear hF0
  cases hF
  intro Q hV
  have hQ := aY.of hV
  have u : eSt s = [.int .i64 s.inn, .int .i64 s.half, .int .i64 s.outs, .int .i64 s.balls, .int .i64 s.strikes, .int .i64 s.b1, .int .i64 s.b2, .int .i64 s.b3, .int .i64 s.n0, .int .i64 s.n1, .int .i64 s.c0, .int .i64 s.c1, .bool s.over] := rfl
  have hfr : frc s = [.bool (fq s 0), .bool (fq s 1), .bool (fq s 2), .bool (fq s 3)] := rfl
  have q1 : fq s 1 = (fq s 0 && !decide (s.b1 = 0)) := rfl
  have q2 : fq s 2 = (fq s 1 && !decide (s.b2 = 0)) := rfl
  have q3 : fq s 3 = (fq s 2 && !decide (s.b3 = 0)) := rfl
  have q0 : fq s 0 = true := rfl
  refine Top.view (aF.start (n := 25) rfl (by simp)) ?_
  refine Top.seam (σ := Unit) aK (fun _ => mkF 25 [(2, .ptr 1 0), (1, .ptr 0 0)]) (fun _ => mkH 2 [(1, some (.row [.bool false, .bool false, .bool false, .bool false] 33 0 0 false)), (0, some (.row [.int .i64 s.inn, .int .i64 s.half, .int .i64 s.outs, .int .i64 s.balls, .int .i64 s.strikes, .int .i64 s.b1, .int .i64 s.b2, .int .i64 s.b3, .int .i64 s.n0, .int .i64 s.n1, .int .i64 s.c0, .int .i64 s.c1, .bool s.over] 25 0 0 false))] 0 []) ?_ ?_
  · intro R hR
    (try simp only [aV, SS, TF25StV, aA, Nat.reduceLT, Nat.reduceAdd, u])
    exact hR () _ _ (aF.drop (by simp [aL, below]) (by simp [aB, aG, below, aD]) (by simp [aB]))
  intro _
  refine Top.seam (σ := Unit) aK (fun _ => mkF 25 [(3, .ptr 2 0), (2, .ptr 1 0), (1, .ptr 0 0)]) (fun _ => mkH 3 [(2, some (.row [.bool true, .bool false, .bool false, .bool false] 33 0 0 false)), (1, some (.row [.bool false, .bool false, .bool false, .bool false] 33 0 0 false)), (0, some (.row [.int .i64 s.inn, .int .i64 s.half, .int .i64 s.outs, .int .i64 s.balls, .int .i64 s.strikes, .int .i64 s.b1, .int .i64 s.b2, .int .i64 s.b3, .int .i64 s.n0, .int .i64 s.n1, .int .i64 s.c0, .int .i64 s.c1, .bool s.over] 25 0 0 false))] 0 []) ?_ ?_
  · intro R hR
    (try simp only [SS, TF25StV, setRange, aA, aP, Nat.reduceLT, Nat.reduceEqDiff, Nat.reduceAdd, reduceCtorEq])
    exact hR () _ _ (aF.drop (by simp [aL, below]) (by simp [aB, aG, below, aD]) (by simp [aB]))
  intro _
  refine Top.seam (σ := Unit) aK (fun _ => mkF 25 [(3, .ptr 2 0), (2, .ptr 1 0), (1, .ptr 0 0)]) (fun _ => mkH 3 [(2, some (.row [.bool (fq s 0), .bool (fq s 1), .bool (fq s 2), .bool (fq s 3)] 33 0 0 false)), (1, some (.row [.bool false, .bool false, .bool false, .bool false] 33 0 0 false)), (0, some (.row [.int .i64 s.inn, .int .i64 s.half, .int .i64 s.outs, .int .i64 s.balls, .int .i64 s.strikes, .int .i64 s.b1, .int .i64 s.b2, .int .i64 s.b3, .int .i64 s.n0, .int .i64 s.n1, .int .i64 s.c0, .int .i64 s.c1, .bool s.over] 25 0 0 false))] 0 []) ?_ ?_
  · intro R hR
    (try simp only [SS, aA, Nat.reduceLT])
    refine wp_of_top (Top.loop (I := fun x : { x : Nat × Int × EVal × EVal × EVal // x.1 ≤ 3 ∧ x.2.1 = x.1 + 1 ∧ x.2.2.1 = .bool (if 1 ≤ x.1 then fq s 1 else false) ∧ x.2.2.2.1 = .bool (if 2 ≤ x.1 then fq s 2 else false) ∧ x.2.2.2.2 = .bool (if 3 ≤ x.1 then fq s 3 else false) } => (mkF 25 [(4, .int .i64 x.1.2.1), (3, .ptr 2 0), (2, .ptr 1 0), (1, .ptr 0 0)], mkH 3 [(2, some (.row [.bool true, x.1.2.2.1, x.1.2.2.2.1, x.1.2.2.2.2] 33 0 0 false)), (1, some (.row [.bool false, .bool false, .bool false, .bool false] 33 0 0 false)), (0, some (.row [.int .i64 s.inn, .int .i64 s.half, .int .i64 s.outs, .int .i64 s.balls, .int .i64 s.strikes, .int .i64 s.b1, .int .i64 s.b2, .int .i64 s.b3, .int .i64 s.n0, .int .i64 s.n1, .int .i64 s.c0, .int .i64 s.c1, .bool s.over] 25 0 0 false))] 0 [])) (μ := fun x => 3 - x.1.1) ⟨(0, 1, .bool false, .bool false, .bool false), by omega, rfl, rfl, rfl, rfl⟩ (aF.drop (by simp [aL, below]) (by simp [aB, aG, below, aD]) (by simp [aB])) ?_)
    rintro ⟨⟨k, i, v1, v2, v3⟩, hk, hi, h1, h2, h3⟩
    refine aH aK _ _ _ _ ?_
    dsimp only at hk hi h1 h2 h3 ⊢
    obtain rfl | rfl | rfl | rfl : k = 0 ∨ k = 1 ∨ k = 2 ∨ k = 3 := by omega
    · obtain rfl : i = 1 := by omega
      obtain rfl : v1 = .bool false := h1
      obtain rfl : v2 = .bool false := h2
      obtain rfl : v3 = .bool false := h3
      cases hb : (s.b1 == 0)
      all_goals (simp only [eqN] at hb; rw [hb] at q1; simp only [← eqN] at hb; simp only [Bool.not_true, Bool.not_false, Bool.and_true, Bool.and_false] at q1)
      all_goals (rcases (show fq s 0 = true ∨ fq s 0 = false by cases fq s 0 <;> simp) with hq | hq)
      all_goals try (exfalso; rw [q0] at hq; cases hq; done)
      all_goals ((try simp only [SS, TF25StV, setRange, aA, Nat.reduceLT, Nat.reduceEqDiff, Nat.reduceAdd, Nat.reduceSub, Nat.reduceLeDiff, reduceCtorEq, UP, BND, FO, hb]))
      all_goals (try rw [hq] at q1)
      all_goals (exact ⟨⟨(1, 2, .bool (fq s 1), .bool false, .bool false), by omega, rfl, rfl, rfl, rfl⟩, by simp, (aF.drop (by simp [aL, below]) (by simp [aB, aG, below, aD, q1]) (by simp [aB]))⟩)
    · obtain rfl : i = 2 := by omega
      obtain rfl : v1 = .bool (fq s 1) := h1
      obtain rfl : v2 = .bool false := h2
      obtain rfl : v3 = .bool false := h3
      cases hb : (s.b2 == 0)
      all_goals (simp only [eqN] at hb; rw [hb] at q2; simp only [← eqN] at hb; simp only [Bool.not_true, Bool.not_false, Bool.and_true, Bool.and_false] at q2)
      all_goals (rcases (show fq s 1 = true ∨ fq s 1 = false by cases fq s 1 <;> simp) with hq | hq)
      all_goals try (exfalso; rw [q0] at hq; cases hq; done)
      all_goals ((try simp only [SS, TF25StV, setRange, aA, Nat.reduceLT, Nat.reduceEqDiff, Nat.reduceAdd, Nat.reduceSub, Nat.reduceLeDiff, reduceCtorEq, UP, BND, FO, hb, hq]))
      all_goals (try rw [hq] at q2)
      all_goals (exact ⟨⟨(2, 3, .bool (fq s 1), .bool (fq s 2), .bool false), by omega, rfl, rfl, rfl, rfl⟩, by simp, (aF.drop (by simp [aL, below]) (by simp [aB, aG, below, aD, hq, q2]) (by simp [aB]))⟩)
    · obtain rfl : i = 3 := by omega
      obtain rfl : v1 = .bool (fq s 1) := h1
      obtain rfl : v2 = .bool (fq s 2) := h2
      obtain rfl : v3 = .bool false := h3
      cases hb : (s.b3 == 0)
      all_goals (simp only [eqN] at hb; rw [hb] at q3; simp only [← eqN] at hb; simp only [Bool.not_true, Bool.not_false, Bool.and_true, Bool.and_false] at q3)
      all_goals (rcases (show fq s 2 = true ∨ fq s 2 = false by cases fq s 2 <;> simp) with hq | hq)
      all_goals try (exfalso; rw [q0] at hq; cases hq; done)
      all_goals ((try simp only [SS, TF25StV, setRange, aA, Nat.reduceLT, Nat.reduceEqDiff, Nat.reduceAdd, Nat.reduceSub, reduceCtorEq, UP, BND, FO, hb, hq]))
      all_goals (try rw [hq] at q3)
      all_goals (exact ⟨⟨(3, 4, .bool (fq s 1), .bool (fq s 2), .bool (fq s 3)), by omega, rfl, rfl, rfl, rfl⟩, by simp, (aF.drop (by simp [aL, below]) (by simp [aB, aG, below, aD, hq, q3]) (by simp [aB]))⟩)
    · obtain rfl : i = 4 := by omega
      obtain rfl : v1 = .bool (fq s 1) := h1
      obtain rfl : v2 = .bool (fq s 2) := h2
      obtain rfl : v3 = .bool (fq s 3) := h3
      (try simp only [SS, aA, Nat.reduceLT, Nat.reduceEqDiff, FO])
      exact hR () _ _ (aF.drop (by simp [aL, below]) (by simp [aB, aG, below, aD, q0]) (by simp [aB]))
  intro _
  refine aH aK _ _ _ _ ?_
  (try simp only [SS, TF25StV, setRange, aA, Nat.reduceLT, Nat.reduceEqDiff, Nat.reduceAdd, reduceCtorEq])
  (refine hQ _ _ _ (aJ (by first | exact .inl rfl | exact .inr rfl) ?_); simp only [SS, TF25StV, Nat.reduceLT, Nat.reduceEqDiff, Nat.reduceAdd, reduceCtorEq, hfr])

def forT (s : St) : EVal := if onE s = 0 then .tup [.agg (frc s), .int .i64 0] else .tup [.agg [.bool false, .bool false, .bool false, .bool false], .int .i64 (onE s)]
def F1016 : List EVal → Option EVal := cJ fun s => some (forT s)
theorem e1016 {s : St} : F1016 [.agg (eSt s)] = some (forT s) := rfl
theorem fn1016 : FnT 16 F1016 := by
  refine Fn.intro mixed aK Tryz.func16 rfl [(60, F1060b), (63, F1063)] (by simp only [List.forall_mem_cons]; exact ⟨fn1060b, fn1063, fun _ h => by cases h⟩) ?_
  intro args v hF0
  obtain ⟨s, rfl, hF⟩ := onSt_inv hF0
  cases hF
  clear hF0
  intro Q hV
  have u : eSt s = [.int .i64 s.inn, .int .i64 s.half, .int .i64 s.outs, .int .i64 s.balls, .int .i64 s.strikes, .int .i64 s.b1, .int .i64 s.b2, .int .i64 s.b3, .int .i64 s.n0, .int .i64 s.n1, .int .i64 s.c0, .int .i64 s.c1, .bool s.over] := rfl
  have hfr : frc s = [.bool (fq s 0), .bool (fq s 1), .bool (fq s 2), .bool (fq s 3)] := rfl
  have e := e1060b (s := s)
  have e3 := e1063 (s := s)
  simp only [u, hfr] at e e3
  unfold forT at hV
  by_cases h0 : onE s = 0
  · rw [if_pos h0] at hV
    have hQ := aY.of hV
    have c0 : (onE s == 0) = true := by simp [h0]
    refine Top.view (aF.start (n := 14) rfl (by simp)) (aH aK _ _ _ _ ?_)
    (try simp only [aV, SS, TF16StV, aI, setRange, bA, aA, aC, Nat.reduceLT, Nat.reduceEqDiff, Nat.reduceAdd, Nat.reduceLeDiff, reduceCtorEq, u, e, e3, c0])
    (refine hQ _ _ _ (aJ (by first | exact .inl rfl | exact .inr rfl) ?_); simp only [SS, TF16StV, Nat.reduceLT, Nat.reduceEqDiff, Nat.reduceAdd, reduceCtorEq, hfr])
  · rw [if_neg h0] at hV
    have hQ := aY.of hV
    have c0 : (onE s == 0) = false := by simp [h0]
    refine Top.view (aF.start (n := 14) rfl (by simp)) (aH aK _ _ _ _ ?_)
    (try simp only [aV, SS, TF16StV, aI, setRange, bA, aA, aP, aC, Nat.reduceLT, Nat.reduceEqDiff, Nat.reduceAdd, Nat.reduceLeDiff, reduceCtorEq, u, e, c0])
    (refine hQ _ _ _ (aJ (by first | exact .inl rfl | exact .inr rfl) ?_); simp only [SS, TF16StV, Nat.reduceLT, Nat.reduceEqDiff, Nat.reduceAdd, reduceCtorEq])
end Go.Ev
