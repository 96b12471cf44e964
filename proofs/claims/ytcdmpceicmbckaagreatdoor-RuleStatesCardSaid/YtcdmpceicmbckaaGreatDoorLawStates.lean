import Derived.Test.YtcdmpceicmbckaaGreatDoorEvC
import Derived.Test.YtcdmpceicmbckaaGreatDoorStW
import Derived.Test.YtcdmpceicmbckaaGreatDoorAwk
set_option linter.unusedSimpArgs false
set_option linter.unusedVariables false
namespace Go.Ev
open Go.RowKit Go.Proofs
set_option linter.defProp false
def aE := And.intro (And.intro (And.intro (And.intro (And.intro (And.intro (@Tryz.underlying3) (@sz3)) (And.intro (@bP) (And.intro (@I3s) (@I3b)))) (And.intro (And.intro (@bM) (@bQ)) (And.intro (@Tryz.underlying4) (And.intro (@sz4) (@bW))))) (And.intro (And.intro (And.intro (@I4s) (@I4b)) (And.intro (@bU) (And.intro (@bX) (@Tryz.underlying9)))) (And.intro (And.intro (@sz9) (And.intro (@info9) (@I9s))) (And.intro (@I9b) (And.intro (@zero9) (@grow9)))))) (And.intro (And.intro (And.intro (And.intro (@Tryz.underlying22) (@cE)) (And.intro (@bJ) (And.intro (@cH) (@cI)))) (And.intro (And.intro (@bH) (And.intro (@bL) (@Tryz.underlying23))) (And.intro (@cD) (And.intro (@bI) (@cF))))) (And.intro (And.intro (And.intro (@cG) (@bG)) (And.intro (@bK) (And.intro (@Tryz.underlying25) (@sz25)))) (And.intro (And.intro (@fok25) (And.intro (@info25) (@I25s))) (And.intro (@I25b) (And.intro (@zero25) (@grow25))))))) (And.intro (And.intro (And.intro (And.intro (And.intro (@Tryz.underlying26) (@sz26)) (And.intro (@fok26) (And.intro (@info26) (@I26s)))) (And.intro (And.intro (@I26b) (And.intro (@zero26) (@grow26))) (And.intro (@Tryz.underlying30) (And.intro (@sz30) (@info30))))) (And.intro (And.intro (And.intro (@I30s) (@I30b)) (And.intro (@zero30) (And.intro (@grow30) (@Tryz.underlying33)))) (And.intro (And.intro (@sz33) (And.intro (@info33) (@I33s))) (And.intro (@I33b) (And.intro (@zero33) (@grow33)))))) (And.intro (And.intro (And.intro (And.intro (@Tryz.underlying39) (@sz39)) (And.intro (@info39) (And.intro (@I39s) (@I39b)))) (And.intro (And.intro (@zero39) (And.intro (@grow39) (@call14))) (And.intro (@call15) (And.intro (@call16) (@call17))))) (And.intro (And.intro (And.intro (@call18) (@call19)) (And.intro (@call20) (And.intro (@call21) (@call22)))) (And.intro (And.intro (@call23) (And.intro (@call24) (@call25))) (And.intro (@call26) (And.intro (@call27) (@Tryz.results3)))))))
set_option maxRecDepth 20000
set_option maxHeartbeats 4000000

def F3 : List EVal → Option EVal := cJ fun _ => some (.bool true)
theorem fn3 : FnT 3 F3 := by
  refine Fn.intro mixed aK Tryz.func3 rfl [(14, F1014), (15, F1015), (16, F1016), (17, F1017), (18, F1018), (19, T1019), (20, T1020), (21, T1021), (22, T1022), (23, T1023), (24, F1024), (25, F1025), (26, F1026), (27, F27)] (by simp only [List.forall_mem_cons]; exact ⟨fn1014, fn1015, fn1016, fn1017, fn1018, fn1019, fn1020, fn1021, fn1022, fn1023, fn1024, fn1025, fn1026, fn27, fun _ h => by cases h⟩) ?_
  intro args v hF0
  obtain ⟨s, rfl, hF⟩ := onSt_inv hF0
  cases hF
  clear hF0
  intro Q hV
  have hQ := aY.of hV
  by_cases h0 : onE s = 0
  · have hh := (onE_good h0).half
    rcases hh with hh | hh
    · have e14 := e1014 (s := s)
      have e15 := e1015 (s := s)
      have e16 := e1016 (s := s)
      have e17 := e1017 (s := s)
      have e18 := e1018 (s := s)
      have hs0 : stE s = 0 := by rw [onE_eq] at h0; split at h0 <;> first | assumption | contradiction
      have ho : s.over = false := by rw [onE_eq, if_pos hs0] at h0; cases ho : s.over; rfl; rw [ho] at h0; exact absurd h0 (by decide)
      have u : eSt s = [.int .i64 s.inn, .int .i64 0, .int .i64 s.outs, .int .i64 s.balls, .int .i64 s.strikes, .int .i64 s.b1, .int .i64 s.b2, .int .i64 s.b3, .int .i64 s.n0, .int .i64 s.n1, .int .i64 s.c0, .int .i64 s.c1, .bool false] := by unfold eSt; rw [hh, ho]
      have hbc : cC s = s.n0 := by unfold cC; rw [if_pos hh]
      have hfr : frc s = [.bool (fq s 0), .bool (fq s 1), .bool (fq s 2), .bool (fq s 3)] := rfl
      unfold batT at e14; unfold runT at e15; unfold forT at e16
      rw [if_pos h0] at e14 e15 e16
      rw [hbc] at e14
      have e24 := e1024 (s := s)
      have e25 := e1025 (s := s)
      rw [hs0] at e17 e18
      simp only [u, hfr] at e14 e15 e16 e17 e18 e24 e25
      refine Top.view (aF.start (n := 114) rfl (by simp)) ?_
      refine Top.seam (σ := Unit) aK (fun _ => mkF 114 [(1, .ptr 0 0)]) (fun _ => mkH 1 [(0, some (.row [.int .i64 s.inn, .int .i64 0, .int .i64 s.outs, .int .i64 s.balls, .int .i64 s.strikes, .int .i64 s.b1, .int .i64 s.b2, .int .i64 s.b3, .int .i64 s.n0, .int .i64 s.n1, .int .i64 s.c0, .int .i64 s.c1, .bool false] 25 0 0 false))] 0 []) ?_ ?_
      · intro R hR
        (try simp only [aV, SS, aA, Nat.reduceLT, u])
        exact hR () _ _ (aF.drop (by simp [aL, below]) (by simp [aB, aG, below, aD]) (by simp [aB]))
      intro _
      refine Top.seam (σ := Unit) aK (fun _ => mkF 114 [(3, .ptr 1 0), (1, .ptr 0 0)]) (fun _ => mkH 2 [(1, some (.row [.int .i64 s.inn, .int .i64 0, .int .i64 s.outs, .int .i64 s.balls, .int .i64 s.strikes, .int .i64 s.b1, .int .i64 s.b2, .int .i64 s.b3, .int .i64 s.n0, .int .i64 s.n1, .int .i64 s.c0, .int .i64 s.c1, .bool false] 26 0 0 false)), (0, some (.row [.int .i64 s.inn, .int .i64 0, .int .i64 s.outs, .int .i64 s.balls, .int .i64 s.strikes, .int .i64 s.b1, .int .i64 s.b2, .int .i64 s.b3, .int .i64 s.n0, .int .i64 s.n1, .int .i64 s.c0, .int .i64 s.c1, .bool false] 25 0 0 false))] 0 []) ?_ ?_
      · intro R hR
        (try simp only [SS, aE, setRange, aA, Nat.reduceLT, Nat.reduceEqDiff, Nat.reduceAdd, reduceCtorEq])
        exact hR () _ _ (aF.drop (by simp [aL, below]) (by simp [aB, aG, below, aD]) (by simp [aB]))
      intro _
      refine Top.seam (σ := Unit) aK (fun _ => mkF 114 [(5, .int .i64 0), (4, .int .i64 s.n0), (3, .ptr 1 0), (1, .ptr 0 0)]) (fun _ => mkH 2 [(1, some (.row [.int .i64 s.inn, .int .i64 0, .int .i64 s.outs, .int .i64 s.balls, .int .i64 s.strikes, .int .i64 s.b1, .int .i64 s.b2, .int .i64 s.b3, .int .i64 s.n0, .int .i64 s.n1, .int .i64 s.c0, .int .i64 s.c1, .bool false] 26 0 0 false)), (0, some (.row [.int .i64 s.inn, .int .i64 0, .int .i64 s.outs, .int .i64 s.balls, .int .i64 s.strikes, .int .i64 s.b1, .int .i64 s.b2, .int .i64 s.b3, .int .i64 s.n0, .int .i64 s.n1, .int .i64 s.c0, .int .i64 s.c1, .bool false] 25 0 0 false))] 0 []) ?_ ?_
      · intro R hR
        (try simp only [SS, aE, aI, aA, Nat.reduceLT, Nat.reduceEqDiff, Nat.reduceAdd, reduceCtorEq, e14])
        exact hR () _ _ (aF.drop (by simp [aL, below]) (by simp [aB, aG, below, aD]) (by simp [aB]))
      intro _
      refine Top.seam (σ := Unit) aK (fun _ => mkF 114 [(7, .int .i64 0), (6, .lsl (aX (bT s))), (5, .int .i64 0), (4, .int .i64 s.n0), (3, .ptr 1 0), (1, .ptr 0 0)]) (fun _ => mkH 2 [(1, some (.row [.int .i64 s.inn, .int .i64 0, .int .i64 s.outs, .int .i64 s.balls, .int .i64 s.strikes, .int .i64 s.b1, .int .i64 s.b2, .int .i64 s.b3, .int .i64 s.n0, .int .i64 s.n1, .int .i64 s.c0, .int .i64 s.c1, .bool false] 26 0 0 false)), (0, some (.row [.int .i64 s.inn, .int .i64 0, .int .i64 s.outs, .int .i64 s.balls, .int .i64 s.strikes, .int .i64 s.b1, .int .i64 s.b2, .int .i64 s.b3, .int .i64 s.n0, .int .i64 s.n1, .int .i64 s.c0, .int .i64 s.c1, .bool false] 25 0 0 false))] 0 []) ?_ ?_
      · intro R hR
        (try simp only [SS, aE, aI, aA, Nat.reduceLT, Nat.reduceEqDiff, Nat.reduceAdd, reduceCtorEq, e15])
        exact hR () _ _ (aF.drop (by simp [aL, below]) (by simp [aB, aG, below, aD]) (by simp [aB]))
      intro _
      refine Top.seam (σ := Unit) aK (fun _ => mkF 114 [(9, .int .i64 0), (8, .ptr 2 0), (7, .int .i64 0), (6, .lsl (aX (bT s))), (5, .int .i64 0), (4, .int .i64 s.n0), (3, .ptr 1 0), (1, .ptr 0 0)]) (fun _ => mkH 3 [(2, some (.row [.bool (fq s 0), .bool (fq s 1), .bool (fq s 2), .bool (fq s 3)] 33 0 0 false)), (1, some (.row [.int .i64 s.inn, .int .i64 0, .int .i64 s.outs, .int .i64 s.balls, .int .i64 s.strikes, .int .i64 s.b1, .int .i64 s.b2, .int .i64 s.b3, .int .i64 s.n0, .int .i64 s.n1, .int .i64 s.c0, .int .i64 s.c1, .bool false] 26 0 0 false)), (0, some (.row [.int .i64 s.inn, .int .i64 0, .int .i64 s.outs, .int .i64 s.balls, .int .i64 s.strikes, .int .i64 s.b1, .int .i64 s.b2, .int .i64 s.b3, .int .i64 s.n0, .int .i64 s.n1, .int .i64 s.c0, .int .i64 s.c1, .bool false] 25 0 0 false))] 0 []) ?_ ?_
      · intro R hR
        (try simp only [SS, aE, aI, setRange, aA, Nat.reduceLT, Nat.reduceEqDiff, Nat.reduceAdd, reduceCtorEq, e16])
        exact hR () _ _ (aF.drop (by simp [aL, below]) (by simp [aB, aG, below, aD]) (by simp [aB]))
      intro _
      refine Top.seam (σ := Unit) aK (fun _ => mkF 114 [(10, .int .i64 0), (9, .int .i64 0), (8, .ptr 2 0), (7, .int .i64 0), (6, .lsl (aX (bT s))), (5, .int .i64 0), (4, .int .i64 s.n0), (3, .ptr 1 0), (1, .ptr 0 0)]) (fun _ => mkH 3 [(2, some (.row [.bool (fq s 0), .bool (fq s 1), .bool (fq s 2), .bool (fq s 3)] 33 0 0 false)), (1, some (.row [.int .i64 s.inn, .int .i64 0, .int .i64 s.outs, .int .i64 s.balls, .int .i64 s.strikes, .int .i64 s.b1, .int .i64 s.b2, .int .i64 s.b3, .int .i64 s.n0, .int .i64 s.n1, .int .i64 s.c0, .int .i64 s.c1, .bool false] 26 0 0 false)), (0, some (.row [.int .i64 s.inn, .int .i64 0, .int .i64 s.outs, .int .i64 s.balls, .int .i64 s.strikes, .int .i64 s.b1, .int .i64 s.b2, .int .i64 s.b3, .int .i64 s.n0, .int .i64 s.n1, .int .i64 s.c0, .int .i64 s.c1, .bool false] 25 0 0 false))] 0 []) ?_ ?_
      · intro R hR
        (try simp only [SS, aE, aI, aA, Nat.reduceLT, Nat.reduceEqDiff, Nat.reduceAdd, reduceCtorEq, e17])
        exact hR () _ _ (aF.drop (by simp [aL, below]) (by simp [aB, aG, below, aD]) (by simp [aB]))
      intro _
      refine Top.seam (σ := Unit) aK (fun _ => mkF 114 [(10, .int .i64 0), (9, .int .i64 0), (8, .ptr 2 0), (7, .int .i64 0), (6, .lsl (aX (bT s))), (5, .int .i64 0), (4, .int .i64 s.n0), (3, .ptr 1 0), (1, .ptr 0 0)]) (fun _ => mkH 3 [(2, some (.row [.bool (fq s 0), .bool (fq s 1), .bool (fq s 2), .bool (fq s 3)] 33 0 0 false)), (0, some (.row [.int .i64 s.inn, .int .i64 0, .int .i64 s.outs, .int .i64 s.balls, .int .i64 s.strikes, .int .i64 s.b1, .int .i64 s.b2, .int .i64 s.b3, .int .i64 s.n0, .int .i64 s.n1, .int .i64 s.c0, .int .i64 s.c1, .bool false] 25 0 0 false))] 0 []) ?_ ?_
      · intro R hR
        (try simp only [SS, aE, aI, aA, Nat.reduceLT, Nat.reduceEqDiff, Nat.reduceAdd, reduceCtorEq, e18, e1020, e1021, e1019, e1022, e1023, eq25s, eOther])
        exact hR () _ _ (aF.drop (by simp [aL, below]) (by simp [aB, aG, below, aD]) (by simp [aB]))
      intro _
      refine Top.seam (σ := Unit) aK (fun _ => mkF 114 [(10, .int .i64 0), (9, .int .i64 0), (8, .ptr 2 0), (7, .int .i64 0), (6, .lsl (aX (bT s))), (5, .int .i64 0), (4, .int .i64 s.n0), (3, .ptr 1 0), (1, .ptr 0 0)]) (fun _ => mkH 3 [(2, some (.row [.bool (fq s 0), .bool (fq s 1), .bool (fq s 2), .bool (fq s 3)] 33 0 0 false)), (0, some (.row [.int .i64 s.inn, .int .i64 0, .int .i64 s.outs, .int .i64 s.balls, .int .i64 s.strikes, .int .i64 s.b1, .int .i64 s.b2, .int .i64 s.b3, .int .i64 s.n0, .int .i64 s.n1, .int .i64 s.c0, .int .i64 s.c1, .bool false] 25 0 0 false))] 0 []) ?_ ?_
      · intro R hR
        (try simp only [SS, aE, aA, Nat.reduceLT, Nat.reduceEqDiff, reduceCtorEq])
        exact hR () _ _ (aF.drop (by simp [aL, below]) (by simp [aB, aG, below, aD]) (by simp [aB]))
      intro _
      refine Top.seam (σ := Unit) aK (fun _ => mkF 114 [(11, .int .i64 0), (10, .int .i64 0), (9, .int .i64 0), (8, .ptr 2 0), (7, .int .i64 0), (6, .lsl (aX (bT s))), (5, .int .i64 0), (4, .int .i64 s.n0), (3, .ptr 1 0), (1, .ptr 0 0)]) (fun _ => mkH 3 [(2, some (.row [.bool (fq s 0), .bool (fq s 1), .bool (fq s 2), .bool (fq s 3)] 33 0 0 false)), (0, some (.row [.int .i64 s.inn, .int .i64 0, .int .i64 s.outs, .int .i64 s.balls, .int .i64 s.strikes, .int .i64 s.b1, .int .i64 s.b2, .int .i64 s.b3, .int .i64 s.n0, .int .i64 s.n1, .int .i64 s.c0, .int .i64 s.c1, .bool false] 25 0 0 false))] 0 []) ?_ ?_
      · intro R hR
        (try simp only [SS, aA, Nat.reduceLT])
        exact hR () _ _ (aF.drop (by simp [aL, below]) (by simp [aB, aG, below, aD]) (by simp [aB]))
      intro _
      refine Top.seam (σ := Unit) aK (fun _ => mkF 114 [(12, .nilslice), (11, .int .i64 0), (10, .int .i64 0), (9, .int .i64 0), (8, .ptr 2 0), (7, .int .i64 0), (6, .lsl (aX (bT s))), (5, .int .i64 0), (4, .int .i64 s.n0), (3, .ptr 1 0), (1, .ptr 0 0)]) (fun _ => mkH 3 [(2, some (.row [.bool (fq s 0), .bool (fq s 1), .bool (fq s 2), .bool (fq s 3)] 33 0 0 false)), (0, some (.row [.int .i64 s.inn, .int .i64 0, .int .i64 s.outs, .int .i64 s.balls, .int .i64 s.strikes, .int .i64 s.b1, .int .i64 s.b2, .int .i64 s.b3, .int .i64 s.n0, .int .i64 s.n1, .int .i64 s.c0, .int .i64 s.c1, .bool false] 25 0 0 false))] 0 []) ?_ ?_
      · intro R hR
        (try simp only [SS, aA, Nat.reduceLT])
        exact hR () _ _ (aF.drop (by simp [aL, below]) (by simp [aB, aG, below, aD]) (by simp [aB]))
      intro _
      refine Top.seam (σ := Unit) aK (fun _ => mkF 114 [(13, .ptr 3 0), (12, .nilslice), (11, .int .i64 0), (10, .int .i64 0), (9, .int .i64 0), (8, .ptr 2 0), (7, .int .i64 0), (6, .lsl (aX (bT s))), (5, .int .i64 0), (4, .int .i64 s.n0), (3, .ptr 1 0), (1, .ptr 0 0)]) (fun _ => mkH 4 [(3, some (.row [.bool false, .bool false, .bool false, .bool false] 33 0 0 false)), (2, some (.row [.bool (fq s 0), .bool (fq s 1), .bool (fq s 2), .bool (fq s 3)] 33 0 0 false)), (0, some (.row [.int .i64 s.inn, .int .i64 0, .int .i64 s.outs, .int .i64 s.balls, .int .i64 s.strikes, .int .i64 s.b1, .int .i64 s.b2, .int .i64 s.b3, .int .i64 s.n0, .int .i64 s.n1, .int .i64 s.c0, .int .i64 s.c1, .bool false] 25 0 0 false))] 0 []) ?_ ?_
      · intro R hR
        (try simp only [SS, aE, aA, Nat.reduceLT, Nat.reduceAdd])
        exact hR () _ _ (aF.drop (by simp [aL, below]) (by simp [aB, aG, below, aD]) (by simp [aB]))
      intro _
      refine Top.seqS (σ := Unit) (fun _ => mkF 114 [(13, .ptr 3 0), (12, .lsl (aX (bT s))), (11, .int .i64 s.n0), (10, .int .i64 0), (9, .int .i64 0), (8, .ptr 2 0), (7, .int .i64 0), (6, .lsl (aX (bT s))), (5, .int .i64 0), (4, .int .i64 s.n0)]) (fun _ => mkH 4 [(3, some (.row [.bool (fq s 0), .bool (fq s 1), .bool (fq s 2), .bool (fq s 3)] 33 0 0 false)), (2, some (.row [.bool (fq s 0), .bool (fq s 1), .bool (fq s 2), .bool (fq s 3)] 33 0 0 false))] 0 []) ?_ ?_
      · intro R hR _
        refine (Top.seam (σ := Unit) aK (fun _ => mkF 114 [(55, .bool true), (13, .ptr 3 0), (12, .nilslice), (11, .int .i64 0), (10, .int .i64 0), (9, .int .i64 0), (8, .ptr 2 0), (7, .int .i64 0), (6, .lsl (aX (bT s))), (5, .int .i64 0), (4, .int .i64 s.n0), (3, .ptr 1 0), (1, .ptr 0 0)]) (fun _ => mkH 4 [(3, some (.row [.bool false, .bool false, .bool false, .bool false] 33 0 0 false)), (2, some (.row [.bool (fq s 0), .bool (fq s 1), .bool (fq s 2), .bool (fq s 3)] 33 0 0 false)), (0, some (.row [.int .i64 s.inn, .int .i64 0, .int .i64 s.outs, .int .i64 s.balls, .int .i64 s.strikes, .int .i64 s.b1, .int .i64 s.b2, .int .i64 s.b3, .int .i64 s.n0, .int .i64 s.n1, .int .i64 s.c0, .int .i64 s.c1, .bool false] 25 0 0 false))] 0 []) ?_ ?_)
        · intro R2 hR2
          (try simp only [SS, aA, Nat.reduceLT, Nat.reduceEqDiff])
          exact hR2 () _ _ (aF.drop (by simp [aL, below]) (by simp [aB, aG, below, aD]) (by simp [aB]))
        intro _
        refine Top.cond (q := true) (by simp only [SS, Nat.reduceLT, Nat.reduceEqDiff]) (fun _ => ?_) (fun h => by cases h)
        refine Top.seam (σ := Unit) aK (fun _ => mkF 114 [(13, .ptr 3 0), (12, .lsl (aX (bT s))), (11, .int .i64 s.n0), (10, .int .i64 0), (9, .int .i64 0), (8, .ptr 2 0), (7, .int .i64 0), (6, .lsl (aX (bT s))), (5, .int .i64 0), (4, .int .i64 s.n0), (1, .ptr 0 0)]) (fun _ => mkH 4 [(3, some (.row [.bool false, .bool false, .bool false, .bool false] 33 0 0 false)), (2, some (.row [.bool (fq s 0), .bool (fq s 1), .bool (fq s 2), .bool (fq s 3)] 33 0 0 false)), (0, some (.row [.int .i64 s.inn, .int .i64 0, .int .i64 s.outs, .int .i64 s.balls, .int .i64 s.strikes, .int .i64 s.b1, .int .i64 s.b2, .int .i64 s.b3, .int .i64 s.n0, .int .i64 s.n1, .int .i64 s.c0, .int .i64 s.c1, .bool false] 25 0 0 false))] 0 []) ?_ ?_
        · intro R2 hR2
          (try simp only [aV, SS, aE, aI, setRange, bA, aA, aN, aT, aS, aP, aC, Nat.reduceLT, Nat.reduceEqDiff, Nat.reduceAdd, Nat.reduceMul, Nat.reduceSub, Nat.reduceLeDiff, Nat.reduceBEq, reduceCtorEq])
          refine wp_of_draw (Top.draw mixed aK (by kernel_rfl) ?_)
          (try simp only [SS, aE, aI, Nat.reduceLT, Nat.reduceEqDiff, Nat.reduceAdd, reduceCtorEq, UP, e24])
          refine ⟨by kernel_rfl, ?_⟩
          (try simp only [aV, SS, aE, aI, setRange, bA, aA, aN, aT, aS, aP, aC, Nat.reduceLT, Nat.reduceEqDiff, Nat.reduceAdd, Nat.reduceMul, Nat.reduceSub, Nat.reduceLeDiff, Nat.reduceBEq, reduceCtorEq])
          exact hR2 () _ _ (aF.drop (by simp [aL, below]) (by simp [aB, aG, below, aD]) (by simp [aB]))
        intro _
        refine Top.seam (σ := Unit) aK (fun _ => mkF 114 [(13, .ptr 3 0), (12, .lsl (aX (bT s))), (11, .int .i64 s.n0), (10, .int .i64 0), (9, .int .i64 0), (8, .ptr 2 0), (7, .int .i64 0), (6, .lsl (aX (bT s))), (5, .int .i64 0), (4, .int .i64 s.n0), (1, .ptr 0 0)]) (fun _ => mkH 4 [(3, some (.row [.bool (fq s 0), .bool (fq s 1), .bool (fq s 2), .bool (fq s 3)] 33 0 0 false)), (2, some (.row [.bool (fq s 0), .bool (fq s 1), .bool (fq s 2), .bool (fq s 3)] 33 0 0 false)), (0, some (.row [.int .i64 s.inn, .int .i64 0, .int .i64 s.outs, .int .i64 s.balls, .int .i64 s.strikes, .int .i64 s.b1, .int .i64 s.b2, .int .i64 s.b3, .int .i64 s.n0, .int .i64 s.n1, .int .i64 s.c0, .int .i64 s.c1, .bool false] 25 0 0 false))] 0 []) ?_ ?_
        · intro R2 hR2
          (try simp only [SS, aE, aI, setRange, aA, Nat.reduceLT, Nat.reduceEqDiff, Nat.reduceAdd, reduceCtorEq, e25])
          exact hR2 () _ _ (aF.drop (by simp [aL, below]) (by simp [aB, aG, below, aD]) (by simp [aB]))
        intro _
        refine aH aK _ _ _ _ ?_
        (try simp only [SS, aA, Nat.reduceLT])
        refine wp_of_top (Top.loop (I := fun x : { k : Nat // k ≤ 3 } => (mkF 114 [(65, .int .i64 ((x.1 : Nat) : Int)), (13, .ptr 3 0), (12, .lsl (aX (bT s))), (11, .int .i64 s.n0), (10, .int .i64 0), (9, .int .i64 0), (8, .ptr 2 0), (7, .int .i64 0), (6, .lsl (aX (bT s))), (5, .int .i64 0), (4, .int .i64 s.n0), (1, .ptr 0 0)], mkH 4 [(3, some (.row [.bool (fq s 0), .bool (fq s 1), .bool (fq s 2), .bool (fq s 3)] 33 0 0 false)), (2, some (.row [.bool (fq s 0), .bool (fq s 1), .bool (fq s 2), .bool (fq s 3)] 33 0 0 false)), (0, some (.row [.int .i64 s.inn, .int .i64 0, .int .i64 s.outs, .int .i64 s.balls, .int .i64 s.strikes, .int .i64 s.b1, .int .i64 s.b2, .int .i64 s.b3, .int .i64 s.n0, .int .i64 s.n1, .int .i64 s.c0, .int .i64 s.c1, .bool false] 25 0 0 false))] 0 [])) (μ := fun x => 3 - x.1) ⟨0, by omega⟩ (aF.sub (by simp [aL])) ?_)
        rintro ⟨k, hk⟩
        refine aH aK _ _ _ _ ?_
        dsimp only
        obtain rfl | rfl | rfl | rfl : k = 0 ∨ k = 1 ∨ k = 2 ∨ k = 3 := by omega
        · have hq : fq s 1 = (fq s 0 && !decide (s.b1 = 0)) := rfl
          rcases (show fq s 1 = true ∨ fq s 1 = false by cases fq s 1 <;> simp) with h1 | h1
          · have hb : (s.b1 == 0) = false := by
              rw [h1] at hq
              cases hb : decide (s.b1 = 0)
              · rw [eqN]; exact hb
              · rw [hb] at hq; simp at hq
            (try simp only [SS, aE, setRange, aA, Nat.reduceLT, Nat.reduceEqDiff, Nat.reduceAdd, Nat.reduceSub, Nat.reduceLeDiff, reduceCtorEq, UP, BND, FO, h1, hb])
            exact ⟨⟨1, by omega⟩, by simp, (aF.drop (by simp [aL, below]) (by simp [aB, aG, below, aD]) (by simp [aB]))⟩
          · (try simp only [SS, aE, setRange, aA, Nat.reduceLT, Nat.reduceEqDiff, Nat.reduceAdd, Nat.reduceSub, Nat.reduceLeDiff, reduceCtorEq, UP, BND, FO, h1])
            exact ⟨⟨1, by omega⟩, by simp, (aF.drop (by simp [aL, below]) (by simp [aB, aG, below, aD]) (by simp [aB]))⟩
        · have hq : fq s 2 = (fq s 1 && !decide (s.b2 = 0)) := rfl
          rcases (show fq s 2 = true ∨ fq s 2 = false by cases fq s 2 <;> simp) with h1 | h1
          · have hb : (s.b2 == 0) = false := by
              rw [h1] at hq
              cases hb : decide (s.b2 = 0)
              · rw [eqN]; exact hb
              · rw [hb] at hq; simp at hq
            (try simp only [SS, aE, setRange, aA, Nat.reduceLT, Nat.reduceEqDiff, Nat.reduceAdd, Nat.reduceSub, Nat.reduceLeDiff, reduceCtorEq, UP, BND, FO, h1, hb])
            exact ⟨⟨2, by omega⟩, by simp, (aF.drop (by simp [aL, below]) (by simp [aB, aG, below, aD]) (by simp [aB]))⟩
          · (try simp only [SS, aE, setRange, aA, Nat.reduceLT, Nat.reduceEqDiff, Nat.reduceAdd, Nat.reduceSub, Nat.reduceLeDiff, reduceCtorEq, UP, BND, FO, h1])
            exact ⟨⟨2, by omega⟩, by simp, (aF.drop (by simp [aL, below]) (by simp [aB, aG, below, aD]) (by simp [aB]))⟩
        · have hq : fq s 3 = (fq s 2 && !decide (s.b3 = 0)) := rfl
          rcases (show fq s 3 = true ∨ fq s 3 = false by cases fq s 3 <;> simp) with h1 | h1
          · have hb : (s.b3 == 0) = false := by
              rw [h1] at hq
              cases hb : decide (s.b3 = 0)
              · rw [eqN]; exact hb
              · rw [hb] at hq; simp at hq
            (try simp only [SS, aE, setRange, aA, Nat.reduceLT, Nat.reduceEqDiff, Nat.reduceAdd, Nat.reduceSub, reduceCtorEq, UP, BND, FO, h1, hb])
            exact ⟨⟨3, by omega⟩, by simp, (aF.drop (by simp [aL, below]) (by simp [aB, aG, below, aD]) (by simp [aB]))⟩
          · (try simp only [SS, aE, setRange, aA, Nat.reduceLT, Nat.reduceEqDiff, Nat.reduceAdd, Nat.reduceSub, reduceCtorEq, UP, FO, h1])
            exact ⟨⟨3, by omega⟩, by simp, (aF.drop (by simp [aL, below]) (by simp [aB, aG, below, aD]) (by simp [aB]))⟩
        · (try simp only [SS, aA, Nat.reduceLT, Nat.reduceEqDiff, UP])
          exact hR () _ _ (aF.drop (by simp [aL, below]) (by simp [aB, aG, below, aD]) (by simp [aB]))
      intro _
      refine aH aK _ _ _ _ ?_
      have hrl := runN_len s 3
      have h26 := e1026 (l := bT s) (m := bT s) (by show (cB s 3).length < _; omega) (by show (cB s 3).length < _; omega)
      simp only [decide_true] at h26
      have ce : (s.n0 == s.n0) = true := by simp
      have q33 := eq33 (a := fq s 0) (b := fq s 1) (c := fq s 2) (d := fq s 3)
      (try simp only [SS, aE, aI, aA, Nat.reduceLT, Nat.reduceEqDiff, Nat.reduceAdd, h26, q33, e27, eOther])
      (refine hQ _ _ _ (aJ (by first | exact .inl rfl | exact .inr rfl) ?_); simp only [SS, aE, Nat.reduceLT, Nat.reduceEqDiff])
    · have e14 := e1014 (s := s)
      have e15 := e1015 (s := s)
      have e16 := e1016 (s := s)
      have e17 := e1017 (s := s)
      have e18 := e1018 (s := s)
      have hs0 : stE s = 0 := by rw [onE_eq] at h0; split at h0 <;> first | assumption | contradiction
      have ho : s.over = false := by rw [onE_eq, if_pos hs0] at h0; cases ho : s.over; rfl; rw [ho] at h0; exact absurd h0 (by decide)
      have u : eSt s = [.int .i64 s.inn, .int .i64 1, .int .i64 s.outs, .int .i64 s.balls, .int .i64 s.strikes, .int .i64 s.b1, .int .i64 s.b2, .int .i64 s.b3, .int .i64 s.n0, .int .i64 s.n1, .int .i64 s.c0, .int .i64 s.c1, .bool false] := by unfold eSt; rw [hh, ho]
      have hbc : cC s = s.n1 := by unfold cC; rw [if_neg (by omega)]
      have hfr : frc s = [.bool (fq s 0), .bool (fq s 1), .bool (fq s 2), .bool (fq s 3)] := rfl
      unfold batT at e14; unfold runT at e15; unfold forT at e16
      rw [if_pos h0] at e14 e15 e16
      rw [hbc] at e14
      have e24 := e1024 (s := s)
      have e25 := e1025 (s := s)
      rw [hs0] at e17 e18
      simp only [u, hfr] at e14 e15 e16 e17 e18 e24 e25
      refine Top.view (aF.start (n := 114) rfl (by simp)) ?_
      refine Top.seam (σ := Unit) aK (fun _ => mkF 114 [(1, .ptr 0 0)]) (fun _ => mkH 1 [(0, some (.row [.int .i64 s.inn, .int .i64 1, .int .i64 s.outs, .int .i64 s.balls, .int .i64 s.strikes, .int .i64 s.b1, .int .i64 s.b2, .int .i64 s.b3, .int .i64 s.n0, .int .i64 s.n1, .int .i64 s.c0, .int .i64 s.c1, .bool false] 25 0 0 false))] 0 []) ?_ ?_
      · intro R hR
        (try simp only [aV, SS, aA, Nat.reduceLT, u])
        exact hR () _ _ (aF.drop (by simp [aL, below]) (by simp [aB, aG, below, aD]) (by simp [aB]))
      intro _
      refine Top.seam (σ := Unit) aK (fun _ => mkF 114 [(3, .ptr 1 0), (1, .ptr 0 0)]) (fun _ => mkH 2 [(1, some (.row [.int .i64 s.inn, .int .i64 1, .int .i64 s.outs, .int .i64 s.balls, .int .i64 s.strikes, .int .i64 s.b1, .int .i64 s.b2, .int .i64 s.b3, .int .i64 s.n0, .int .i64 s.n1, .int .i64 s.c0, .int .i64 s.c1, .bool false] 26 0 0 false)), (0, some (.row [.int .i64 s.inn, .int .i64 1, .int .i64 s.outs, .int .i64 s.balls, .int .i64 s.strikes, .int .i64 s.b1, .int .i64 s.b2, .int .i64 s.b3, .int .i64 s.n0, .int .i64 s.n1, .int .i64 s.c0, .int .i64 s.c1, .bool false] 25 0 0 false))] 0 []) ?_ ?_
      · intro R hR
        (try simp only [SS, aE, setRange, aA, Nat.reduceLT, Nat.reduceEqDiff, Nat.reduceAdd, reduceCtorEq])
        exact hR () _ _ (aF.drop (by simp [aL, below]) (by simp [aB, aG, below, aD]) (by simp [aB]))
      intro _
      refine Top.seam (σ := Unit) aK (fun _ => mkF 114 [(5, .int .i64 0), (4, .int .i64 s.n1), (3, .ptr 1 0), (1, .ptr 0 0)]) (fun _ => mkH 2 [(1, some (.row [.int .i64 s.inn, .int .i64 1, .int .i64 s.outs, .int .i64 s.balls, .int .i64 s.strikes, .int .i64 s.b1, .int .i64 s.b2, .int .i64 s.b3, .int .i64 s.n0, .int .i64 s.n1, .int .i64 s.c0, .int .i64 s.c1, .bool false] 26 0 0 false)), (0, some (.row [.int .i64 s.inn, .int .i64 1, .int .i64 s.outs, .int .i64 s.balls, .int .i64 s.strikes, .int .i64 s.b1, .int .i64 s.b2, .int .i64 s.b3, .int .i64 s.n0, .int .i64 s.n1, .int .i64 s.c0, .int .i64 s.c1, .bool false] 25 0 0 false))] 0 []) ?_ ?_
      · intro R hR
        (try simp only [SS, aE, aI, aA, Nat.reduceLT, Nat.reduceEqDiff, Nat.reduceAdd, reduceCtorEq, e14])
        exact hR () _ _ (aF.drop (by simp [aL, below]) (by simp [aB, aG, below, aD]) (by simp [aB]))
      intro _
      refine Top.seam (σ := Unit) aK (fun _ => mkF 114 [(7, .int .i64 0), (6, .lsl (aX (bT s))), (5, .int .i64 0), (4, .int .i64 s.n1), (3, .ptr 1 0), (1, .ptr 0 0)]) (fun _ => mkH 2 [(1, some (.row [.int .i64 s.inn, .int .i64 1, .int .i64 s.outs, .int .i64 s.balls, .int .i64 s.strikes, .int .i64 s.b1, .int .i64 s.b2, .int .i64 s.b3, .int .i64 s.n0, .int .i64 s.n1, .int .i64 s.c0, .int .i64 s.c1, .bool false] 26 0 0 false)), (0, some (.row [.int .i64 s.inn, .int .i64 1, .int .i64 s.outs, .int .i64 s.balls, .int .i64 s.strikes, .int .i64 s.b1, .int .i64 s.b2, .int .i64 s.b3, .int .i64 s.n0, .int .i64 s.n1, .int .i64 s.c0, .int .i64 s.c1, .bool false] 25 0 0 false))] 0 []) ?_ ?_
      · intro R hR
        (try simp only [SS, aE, aI, aA, Nat.reduceLT, Nat.reduceEqDiff, Nat.reduceAdd, reduceCtorEq, e15])
        exact hR () _ _ (aF.drop (by simp [aL, below]) (by simp [aB, aG, below, aD]) (by simp [aB]))
      intro _
      refine Top.seam (σ := Unit) aK (fun _ => mkF 114 [(9, .int .i64 0), (8, .ptr 2 0), (7, .int .i64 0), (6, .lsl (aX (bT s))), (5, .int .i64 0), (4, .int .i64 s.n1), (3, .ptr 1 0), (1, .ptr 0 0)]) (fun _ => mkH 3 [(2, some (.row [.bool (fq s 0), .bool (fq s 1), .bool (fq s 2), .bool (fq s 3)] 33 0 0 false)), (1, some (.row [.int .i64 s.inn, .int .i64 1, .int .i64 s.outs, .int .i64 s.balls, .int .i64 s.strikes, .int .i64 s.b1, .int .i64 s.b2, .int .i64 s.b3, .int .i64 s.n0, .int .i64 s.n1, .int .i64 s.c0, .int .i64 s.c1, .bool false] 26 0 0 false)), (0, some (.row [.int .i64 s.inn, .int .i64 1, .int .i64 s.outs, .int .i64 s.balls, .int .i64 s.strikes, .int .i64 s.b1, .int .i64 s.b2, .int .i64 s.b3, .int .i64 s.n0, .int .i64 s.n1, .int .i64 s.c0, .int .i64 s.c1, .bool false] 25 0 0 false))] 0 []) ?_ ?_
      · intro R hR
        (try simp only [SS, aE, aI, setRange, aA, Nat.reduceLT, Nat.reduceEqDiff, Nat.reduceAdd, reduceCtorEq, e16])
        exact hR () _ _ (aF.drop (by simp [aL, below]) (by simp [aB, aG, below, aD]) (by simp [aB]))
      intro _
      refine Top.seam (σ := Unit) aK (fun _ => mkF 114 [(10, .int .i64 0), (9, .int .i64 0), (8, .ptr 2 0), (7, .int .i64 0), (6, .lsl (aX (bT s))), (5, .int .i64 0), (4, .int .i64 s.n1), (3, .ptr 1 0), (1, .ptr 0 0)]) (fun _ => mkH 3 [(2, some (.row [.bool (fq s 0), .bool (fq s 1), .bool (fq s 2), .bool (fq s 3)] 33 0 0 false)), (1, some (.row [.int .i64 s.inn, .int .i64 1, .int .i64 s.outs, .int .i64 s.balls, .int .i64 s.strikes, .int .i64 s.b1, .int .i64 s.b2, .int .i64 s.b3, .int .i64 s.n0, .int .i64 s.n1, .int .i64 s.c0, .int .i64 s.c1, .bool false] 26 0 0 false)), (0, some (.row [.int .i64 s.inn, .int .i64 1, .int .i64 s.outs, .int .i64 s.balls, .int .i64 s.strikes, .int .i64 s.b1, .int .i64 s.b2, .int .i64 s.b3, .int .i64 s.n0, .int .i64 s.n1, .int .i64 s.c0, .int .i64 s.c1, .bool false] 25 0 0 false))] 0 []) ?_ ?_
      · intro R hR
        (try simp only [SS, aE, aI, aA, Nat.reduceLT, Nat.reduceEqDiff, Nat.reduceAdd, reduceCtorEq, e17])
        exact hR () _ _ (aF.drop (by simp [aL, below]) (by simp [aB, aG, below, aD]) (by simp [aB]))
      intro _
      refine Top.seam (σ := Unit) aK (fun _ => mkF 114 [(10, .int .i64 0), (9, .int .i64 0), (8, .ptr 2 0), (7, .int .i64 0), (6, .lsl (aX (bT s))), (5, .int .i64 0), (4, .int .i64 s.n1), (3, .ptr 1 0), (1, .ptr 0 0)]) (fun _ => mkH 3 [(2, some (.row [.bool (fq s 0), .bool (fq s 1), .bool (fq s 2), .bool (fq s 3)] 33 0 0 false)), (0, some (.row [.int .i64 s.inn, .int .i64 1, .int .i64 s.outs, .int .i64 s.balls, .int .i64 s.strikes, .int .i64 s.b1, .int .i64 s.b2, .int .i64 s.b3, .int .i64 s.n0, .int .i64 s.n1, .int .i64 s.c0, .int .i64 s.c1, .bool false] 25 0 0 false))] 0 []) ?_ ?_
      · intro R hR
        (try simp only [SS, aE, aI, aA, Nat.reduceLT, Nat.reduceEqDiff, Nat.reduceAdd, reduceCtorEq, e18, e1020, e1021, e1019, e1022, e1023, eq25s, eOther])
        exact hR () _ _ (aF.drop (by simp [aL, below]) (by simp [aB, aG, below, aD]) (by simp [aB]))
      intro _
      refine Top.seam (σ := Unit) aK (fun _ => mkF 114 [(10, .int .i64 0), (9, .int .i64 0), (8, .ptr 2 0), (7, .int .i64 0), (6, .lsl (aX (bT s))), (5, .int .i64 0), (4, .int .i64 s.n1), (3, .ptr 1 0), (1, .ptr 0 0)]) (fun _ => mkH 3 [(2, some (.row [.bool (fq s 0), .bool (fq s 1), .bool (fq s 2), .bool (fq s 3)] 33 0 0 false)), (0, some (.row [.int .i64 s.inn, .int .i64 1, .int .i64 s.outs, .int .i64 s.balls, .int .i64 s.strikes, .int .i64 s.b1, .int .i64 s.b2, .int .i64 s.b3, .int .i64 s.n0, .int .i64 s.n1, .int .i64 s.c0, .int .i64 s.c1, .bool false] 25 0 0 false))] 0 []) ?_ ?_
      · intro R hR
        (try simp only [SS, aE, aA, Nat.reduceLT, Nat.reduceEqDiff, reduceCtorEq])
        exact hR () _ _ (aF.drop (by simp [aL, below]) (by simp [aB, aG, below, aD]) (by simp [aB]))
      intro _
      refine Top.seam (σ := Unit) aK (fun _ => mkF 114 [(11, .int .i64 0), (10, .int .i64 0), (9, .int .i64 0), (8, .ptr 2 0), (7, .int .i64 0), (6, .lsl (aX (bT s))), (5, .int .i64 0), (4, .int .i64 s.n1), (3, .ptr 1 0), (1, .ptr 0 0)]) (fun _ => mkH 3 [(2, some (.row [.bool (fq s 0), .bool (fq s 1), .bool (fq s 2), .bool (fq s 3)] 33 0 0 false)), (0, some (.row [.int .i64 s.inn, .int .i64 1, .int .i64 s.outs, .int .i64 s.balls, .int .i64 s.strikes, .int .i64 s.b1, .int .i64 s.b2, .int .i64 s.b3, .int .i64 s.n0, .int .i64 s.n1, .int .i64 s.c0, .int .i64 s.c1, .bool false] 25 0 0 false))] 0 []) ?_ ?_
      · intro R hR
        (try simp only [SS, aA, Nat.reduceLT])
        exact hR () _ _ (aF.drop (by simp [aL, below]) (by simp [aB, aG, below, aD]) (by simp [aB]))
      intro _
      refine Top.seam (σ := Unit) aK (fun _ => mkF 114 [(12, .nilslice), (11, .int .i64 0), (10, .int .i64 0), (9, .int .i64 0), (8, .ptr 2 0), (7, .int .i64 0), (6, .lsl (aX (bT s))), (5, .int .i64 0), (4, .int .i64 s.n1), (3, .ptr 1 0), (1, .ptr 0 0)]) (fun _ => mkH 3 [(2, some (.row [.bool (fq s 0), .bool (fq s 1), .bool (fq s 2), .bool (fq s 3)] 33 0 0 false)), (0, some (.row [.int .i64 s.inn, .int .i64 1, .int .i64 s.outs, .int .i64 s.balls, .int .i64 s.strikes, .int .i64 s.b1, .int .i64 s.b2, .int .i64 s.b3, .int .i64 s.n0, .int .i64 s.n1, .int .i64 s.c0, .int .i64 s.c1, .bool false] 25 0 0 false))] 0 []) ?_ ?_
      · intro R hR
        (try simp only [SS, aA, Nat.reduceLT])
        exact hR () _ _ (aF.drop (by simp [aL, below]) (by simp [aB, aG, below, aD]) (by simp [aB]))
      intro _
      refine Top.seam (σ := Unit) aK (fun _ => mkF 114 [(13, .ptr 3 0), (12, .nilslice), (11, .int .i64 0), (10, .int .i64 0), (9, .int .i64 0), (8, .ptr 2 0), (7, .int .i64 0), (6, .lsl (aX (bT s))), (5, .int .i64 0), (4, .int .i64 s.n1), (3, .ptr 1 0), (1, .ptr 0 0)]) (fun _ => mkH 4 [(3, some (.row [.bool false, .bool false, .bool false, .bool false] 33 0 0 false)), (2, some (.row [.bool (fq s 0), .bool (fq s 1), .bool (fq s 2), .bool (fq s 3)] 33 0 0 false)), (0, some (.row [.int .i64 s.inn, .int .i64 1, .int .i64 s.outs, .int .i64 s.balls, .int .i64 s.strikes, .int .i64 s.b1, .int .i64 s.b2, .int .i64 s.b3, .int .i64 s.n0, .int .i64 s.n1, .int .i64 s.c0, .int .i64 s.c1, .bool false] 25 0 0 false))] 0 []) ?_ ?_
      · intro R hR
        (try simp only [SS, aE, aA, Nat.reduceLT, Nat.reduceAdd])
        exact hR () _ _ (aF.drop (by simp [aL, below]) (by simp [aB, aG, below, aD]) (by simp [aB]))
      intro _
      refine Top.seqS (σ := Unit) (fun _ => mkF 114 [(13, .ptr 3 0), (12, .lsl (aX (bT s))), (11, .int .i64 s.n1), (10, .int .i64 0), (9, .int .i64 0), (8, .ptr 2 0), (7, .int .i64 0), (6, .lsl (aX (bT s))), (5, .int .i64 0), (4, .int .i64 s.n1)]) (fun _ => mkH 4 [(3, some (.row [.bool (fq s 0), .bool (fq s 1), .bool (fq s 2), .bool (fq s 3)] 33 0 0 false)), (2, some (.row [.bool (fq s 0), .bool (fq s 1), .bool (fq s 2), .bool (fq s 3)] 33 0 0 false))] 0 []) ?_ ?_
      · intro R hR _
        refine (Top.seam (σ := Unit) aK (fun _ => mkF 114 [(55, .bool true), (13, .ptr 3 0), (12, .nilslice), (11, .int .i64 0), (10, .int .i64 0), (9, .int .i64 0), (8, .ptr 2 0), (7, .int .i64 0), (6, .lsl (aX (bT s))), (5, .int .i64 0), (4, .int .i64 s.n1), (3, .ptr 1 0), (1, .ptr 0 0)]) (fun _ => mkH 4 [(3, some (.row [.bool false, .bool false, .bool false, .bool false] 33 0 0 false)), (2, some (.row [.bool (fq s 0), .bool (fq s 1), .bool (fq s 2), .bool (fq s 3)] 33 0 0 false)), (0, some (.row [.int .i64 s.inn, .int .i64 1, .int .i64 s.outs, .int .i64 s.balls, .int .i64 s.strikes, .int .i64 s.b1, .int .i64 s.b2, .int .i64 s.b3, .int .i64 s.n0, .int .i64 s.n1, .int .i64 s.c0, .int .i64 s.c1, .bool false] 25 0 0 false))] 0 []) ?_ ?_)
        · intro R2 hR2
          (try simp only [SS, aA, Nat.reduceLT, Nat.reduceEqDiff])
          exact hR2 () _ _ (aF.drop (by simp [aL, below]) (by simp [aB, aG, below, aD]) (by simp [aB]))
        intro _
        refine Top.cond (q := true) (by simp only [SS, Nat.reduceLT, Nat.reduceEqDiff]) (fun _ => ?_) (fun h => by cases h)
        refine Top.seam (σ := Unit) aK (fun _ => mkF 114 [(13, .ptr 3 0), (12, .lsl (aX (bT s))), (11, .int .i64 s.n1), (10, .int .i64 0), (9, .int .i64 0), (8, .ptr 2 0), (7, .int .i64 0), (6, .lsl (aX (bT s))), (5, .int .i64 0), (4, .int .i64 s.n1), (1, .ptr 0 0)]) (fun _ => mkH 4 [(3, some (.row [.bool false, .bool false, .bool false, .bool false] 33 0 0 false)), (2, some (.row [.bool (fq s 0), .bool (fq s 1), .bool (fq s 2), .bool (fq s 3)] 33 0 0 false)), (0, some (.row [.int .i64 s.inn, .int .i64 1, .int .i64 s.outs, .int .i64 s.balls, .int .i64 s.strikes, .int .i64 s.b1, .int .i64 s.b2, .int .i64 s.b3, .int .i64 s.n0, .int .i64 s.n1, .int .i64 s.c0, .int .i64 s.c1, .bool false] 25 0 0 false))] 0 []) ?_ ?_
        · intro R2 hR2
          (try simp only [aV, SS, aE, aI, setRange, bA, aA, aN, aT, aS, aP, aC, Nat.reduceLT, Nat.reduceEqDiff, Nat.reduceAdd, Nat.reduceMul, Nat.reduceSub, Nat.reduceLeDiff, Nat.reduceBEq, reduceCtorEq])
          refine wp_of_draw (Top.draw mixed aK (by kernel_rfl) ?_)
          (try simp only [SS, aE, aI, Nat.reduceLT, Nat.reduceEqDiff, Nat.reduceAdd, reduceCtorEq, UP, BND, e24])
          refine ⟨by kernel_rfl, ?_⟩
          (try simp only [aV, SS, aE, aI, setRange, bA, aA, aN, aT, aS, aP, aC, Nat.reduceLT, Nat.reduceEqDiff, Nat.reduceAdd, Nat.reduceMul, Nat.reduceSub, Nat.reduceLeDiff, Nat.reduceBEq, reduceCtorEq])
          exact hR2 () _ _ (aF.drop (by simp [aL, below]) (by simp [aB, aG, below, aD]) (by simp [aB]))
        intro _
        refine Top.seam (σ := Unit) aK (fun _ => mkF 114 [(13, .ptr 3 0), (12, .lsl (aX (bT s))), (11, .int .i64 s.n1), (10, .int .i64 0), (9, .int .i64 0), (8, .ptr 2 0), (7, .int .i64 0), (6, .lsl (aX (bT s))), (5, .int .i64 0), (4, .int .i64 s.n1), (1, .ptr 0 0)]) (fun _ => mkH 4 [(3, some (.row [.bool (fq s 0), .bool (fq s 1), .bool (fq s 2), .bool (fq s 3)] 33 0 0 false)), (2, some (.row [.bool (fq s 0), .bool (fq s 1), .bool (fq s 2), .bool (fq s 3)] 33 0 0 false)), (0, some (.row [.int .i64 s.inn, .int .i64 1, .int .i64 s.outs, .int .i64 s.balls, .int .i64 s.strikes, .int .i64 s.b1, .int .i64 s.b2, .int .i64 s.b3, .int .i64 s.n0, .int .i64 s.n1, .int .i64 s.c0, .int .i64 s.c1, .bool false] 25 0 0 false))] 0 []) ?_ ?_
        · intro R2 hR2
          (try simp only [SS, aE, aI, setRange, aA, Nat.reduceLT, Nat.reduceEqDiff, Nat.reduceAdd, reduceCtorEq, e25])
          exact hR2 () _ _ (aF.drop (by simp [aL, below]) (by simp [aB, aG, below, aD]) (by simp [aB]))
        intro _
        refine aH aK _ _ _ _ ?_
        (try simp only [SS, aA, Nat.reduceLT])
        refine wp_of_top (Top.loop (I := fun x : { k : Nat // k ≤ 3 } => (mkF 114 [(65, .int .i64 ((x.1 : Nat) : Int)), (13, .ptr 3 0), (12, .lsl (aX (bT s))), (11, .int .i64 s.n1), (10, .int .i64 0), (9, .int .i64 0), (8, .ptr 2 0), (7, .int .i64 0), (6, .lsl (aX (bT s))), (5, .int .i64 0), (4, .int .i64 s.n1), (1, .ptr 0 0)], mkH 4 [(3, some (.row [.bool (fq s 0), .bool (fq s 1), .bool (fq s 2), .bool (fq s 3)] 33 0 0 false)), (2, some (.row [.bool (fq s 0), .bool (fq s 1), .bool (fq s 2), .bool (fq s 3)] 33 0 0 false)), (0, some (.row [.int .i64 s.inn, .int .i64 1, .int .i64 s.outs, .int .i64 s.balls, .int .i64 s.strikes, .int .i64 s.b1, .int .i64 s.b2, .int .i64 s.b3, .int .i64 s.n0, .int .i64 s.n1, .int .i64 s.c0, .int .i64 s.c1, .bool false] 25 0 0 false))] 0 [])) (μ := fun x => 3 - x.1) ⟨0, by omega⟩ (aF.sub (by simp [aL])) ?_)
        rintro ⟨k, hk⟩
        refine aH aK _ _ _ _ ?_
        dsimp only
        obtain rfl | rfl | rfl | rfl : k = 0 ∨ k = 1 ∨ k = 2 ∨ k = 3 := by omega
        · have hq : fq s 1 = (fq s 0 && !decide (s.b1 = 0)) := rfl
          rcases (show fq s 1 = true ∨ fq s 1 = false by cases fq s 1 <;> simp) with h1 | h1
          · have hb : (s.b1 == 0) = false := by
              rw [h1] at hq
              cases hb : decide (s.b1 = 0)
              · rw [eqN]; exact hb
              · rw [hb] at hq; simp at hq
            (try simp only [SS, aE, setRange, aA, Nat.reduceLT, Nat.reduceEqDiff, Nat.reduceAdd, Nat.reduceSub, Nat.reduceLeDiff, reduceCtorEq, UP, BND, FO, h1, hb])
            exact ⟨⟨1, by omega⟩, by simp, (aF.drop (by simp [aL, below]) (by simp [aB, aG, below, aD]) (by simp [aB]))⟩
          · (try simp only [SS, aE, setRange, aA, Nat.reduceLT, Nat.reduceEqDiff, Nat.reduceAdd, Nat.reduceSub, Nat.reduceLeDiff, reduceCtorEq, UP, BND, FO, h1])
            exact ⟨⟨1, by omega⟩, by simp, (aF.drop (by simp [aL, below]) (by simp [aB, aG, below, aD]) (by simp [aB]))⟩
        · have hq : fq s 2 = (fq s 1 && !decide (s.b2 = 0)) := rfl
          rcases (show fq s 2 = true ∨ fq s 2 = false by cases fq s 2 <;> simp) with h1 | h1
          · have hb : (s.b2 == 0) = false := by
              rw [h1] at hq
              cases hb : decide (s.b2 = 0)
              · rw [eqN]; exact hb
              · rw [hb] at hq; simp at hq
            (try simp only [SS, aE, setRange, aA, Nat.reduceLT, Nat.reduceEqDiff, Nat.reduceAdd, Nat.reduceSub, Nat.reduceLeDiff, reduceCtorEq, UP, BND, FO, h1, hb])
            exact ⟨⟨2, by omega⟩, by simp, (aF.drop (by simp [aL, below]) (by simp [aB, aG, below, aD]) (by simp [aB]))⟩
          · (try simp only [SS, aE, setRange, aA, Nat.reduceLT, Nat.reduceEqDiff, Nat.reduceAdd, Nat.reduceSub, Nat.reduceLeDiff, reduceCtorEq, UP, BND, FO, h1])
            exact ⟨⟨2, by omega⟩, by simp, (aF.drop (by simp [aL, below]) (by simp [aB, aG, below, aD]) (by simp [aB]))⟩
        · have hq : fq s 3 = (fq s 2 && !decide (s.b3 = 0)) := rfl
          rcases (show fq s 3 = true ∨ fq s 3 = false by cases fq s 3 <;> simp) with h1 | h1
          · have hb : (s.b3 == 0) = false := by
              rw [h1] at hq
              cases hb : decide (s.b3 = 0)
              · rw [eqN]; exact hb
              · rw [hb] at hq; simp at hq
            (try simp only [SS, aE, setRange, aA, Nat.reduceLT, Nat.reduceEqDiff, Nat.reduceAdd, Nat.reduceSub, reduceCtorEq, UP, BND, FO, h1, hb])
            exact ⟨⟨3, by omega⟩, by simp, (aF.drop (by simp [aL, below]) (by simp [aB, aG, below, aD]) (by simp [aB]))⟩
          · (try simp only [SS, aE, setRange, aA, Nat.reduceLT, Nat.reduceEqDiff, Nat.reduceAdd, Nat.reduceSub, reduceCtorEq, UP, FO, h1])
            exact ⟨⟨3, by omega⟩, by simp, (aF.drop (by simp [aL, below]) (by simp [aB, aG, below, aD]) (by simp [aB]))⟩
        · (try simp only [SS, aA, Nat.reduceLT, Nat.reduceEqDiff, UP])
          exact hR () _ _ (aF.drop (by simp [aL, below]) (by simp [aB, aG, below, aD]) (by simp [aB]))
      intro _
      refine aH aK _ _ _ _ ?_
      have hrl := runN_len s 3
      have h26 := e1026 (l := bT s) (m := bT s) (by show (cB s 3).length < _; omega) (by show (cB s 3).length < _; omega)
      simp only [decide_true] at h26
      have ce : (s.n1 == s.n1) = true := by simp
      have q33 := eq33 (a := fq s 0) (b := fq s 1) (c := fq s 2) (d := fq s 3)
      (try simp only [SS, aE, aI, aA, Nat.reduceLT, Nat.reduceEqDiff, Nat.reduceAdd, h26, q33, e27, eOther])
      (refine hQ _ _ _ (aJ (by first | exact .inl rfl | exact .inr rfl) ?_); simp only [SS, aE, Nat.reduceLT, Nat.reduceEqDiff])
  · have e14 := e1014 (s := s)
    have e15 := e1015 (s := s)
    have e16 := e1016 (s := s)
    have e17 := e1017 (s := s)
    have e18 := e1018 (s := s)
    have u : eSt s = [.int .i64 s.inn, .int .i64 s.half, .int .i64 s.outs, .int .i64 s.balls, .int .i64 s.strikes, .int .i64 s.b1, .int .i64 s.b2, .int .i64 s.b3, .int .i64 s.n0, .int .i64 s.n1, .int .i64 s.c0, .int .i64 s.c1, .bool s.over] := rfl
    unfold batT at e14; unfold runT at e15; unfold forT at e16
    rw [if_neg h0] at e14 e15 e16
    simp only [u] at e14 e15 e16 e17 e18
    refine Top.view (aF.start (n := 114) rfl (by simp)) ?_
    refine Top.seam (σ := Unit) aK (fun _ => mkF 114 [(1, .ptr 0 0)]) (fun _ => mkH 1 [(0, some (.row [.int .i64 s.inn, .int .i64 s.half, .int .i64 s.outs, .int .i64 s.balls, .int .i64 s.strikes, .int .i64 s.b1, .int .i64 s.b2, .int .i64 s.b3, .int .i64 s.n0, .int .i64 s.n1, .int .i64 s.c0, .int .i64 s.c1, .bool s.over] 25 0 0 false))] 0 []) ?_ ?_
    · intro R hR
      (try simp only [aV, SS, aA, Nat.reduceLT, u])
      exact hR () _ _ (aF.drop (by simp [aL, below]) (by simp [aB, aG, below, aD]) (by simp [aB]))
    intro _
    refine Top.seam (σ := Unit) aK (fun _ => mkF 114 [(3, .ptr 1 0), (1, .ptr 0 0)]) (fun _ => mkH 2 [(1, some (.row [.int .i64 s.inn, .int .i64 s.half, .int .i64 s.outs, .int .i64 s.balls, .int .i64 s.strikes, .int .i64 s.b1, .int .i64 s.b2, .int .i64 s.b3, .int .i64 s.n0, .int .i64 s.n1, .int .i64 s.c0, .int .i64 s.c1, .bool s.over] 26 0 0 false)), (0, some (.row [.int .i64 s.inn, .int .i64 s.half, .int .i64 s.outs, .int .i64 s.balls, .int .i64 s.strikes, .int .i64 s.b1, .int .i64 s.b2, .int .i64 s.b3, .int .i64 s.n0, .int .i64 s.n1, .int .i64 s.c0, .int .i64 s.c1, .bool s.over] 25 0 0 false))] 0 []) ?_ ?_
    · intro R hR
      (try simp only [SS, aE, setRange, aA, Nat.reduceLT, Nat.reduceEqDiff, Nat.reduceAdd, reduceCtorEq])
      exact hR () _ _ (aF.drop (by simp [aL, below]) (by simp [aB, aG, below, aD]) (by simp [aB]))
    intro _
    refine Top.seam (σ := Unit) aK (fun _ => mkF 114 [(5, .int .i64 (onE s)), (4, .int .i64 0), (3, .ptr 1 0), (1, .ptr 0 0)]) (fun _ => mkH 2 [(1, some (.row [.int .i64 s.inn, .int .i64 s.half, .int .i64 s.outs, .int .i64 s.balls, .int .i64 s.strikes, .int .i64 s.b1, .int .i64 s.b2, .int .i64 s.b3, .int .i64 s.n0, .int .i64 s.n1, .int .i64 s.c0, .int .i64 s.c1, .bool s.over] 26 0 0 false)), (0, some (.row [.int .i64 s.inn, .int .i64 s.half, .int .i64 s.outs, .int .i64 s.balls, .int .i64 s.strikes, .int .i64 s.b1, .int .i64 s.b2, .int .i64 s.b3, .int .i64 s.n0, .int .i64 s.n1, .int .i64 s.c0, .int .i64 s.c1, .bool s.over] 25 0 0 false))] 0 []) ?_ ?_
    · intro R hR
      (try simp only [SS, aE, aI, aA, Nat.reduceLT, Nat.reduceEqDiff, Nat.reduceAdd, reduceCtorEq, e14])
      exact hR () _ _ (aF.drop (by simp [aL, below]) (by simp [aB, aG, below, aD]) (by simp [aB]))
    intro _
    refine Top.seam (σ := Unit) aK (fun _ => mkF 114 [(7, .int .i64 (onE s)), (6, .lsl []), (5, .int .i64 (onE s)), (4, .int .i64 0), (3, .ptr 1 0), (1, .ptr 0 0)]) (fun _ => mkH 2 [(1, some (.row [.int .i64 s.inn, .int .i64 s.half, .int .i64 s.outs, .int .i64 s.balls, .int .i64 s.strikes, .int .i64 s.b1, .int .i64 s.b2, .int .i64 s.b3, .int .i64 s.n0, .int .i64 s.n1, .int .i64 s.c0, .int .i64 s.c1, .bool s.over] 26 0 0 false)), (0, some (.row [.int .i64 s.inn, .int .i64 s.half, .int .i64 s.outs, .int .i64 s.balls, .int .i64 s.strikes, .int .i64 s.b1, .int .i64 s.b2, .int .i64 s.b3, .int .i64 s.n0, .int .i64 s.n1, .int .i64 s.c0, .int .i64 s.c1, .bool s.over] 25 0 0 false))] 0 []) ?_ ?_
    · intro R hR
      (try simp only [SS, aE, aI, aA, Nat.reduceLT, Nat.reduceEqDiff, Nat.reduceAdd, reduceCtorEq, e15])
      exact hR () _ _ (aF.drop (by simp [aL, below]) (by simp [aB, aG, below, aD]) (by simp [aB]))
    intro _
    refine Top.seam (σ := Unit) aK (fun _ => mkF 114 [(9, .int .i64 (onE s)), (8, .ptr 2 0), (7, .int .i64 (onE s)), (6, .lsl []), (5, .int .i64 (onE s)), (4, .int .i64 0), (3, .ptr 1 0), (1, .ptr 0 0)]) (fun _ => mkH 3 [(2, some (.row [.bool false, .bool false, .bool false, .bool false] 33 0 0 false)), (1, some (.row [.int .i64 s.inn, .int .i64 s.half, .int .i64 s.outs, .int .i64 s.balls, .int .i64 s.strikes, .int .i64 s.b1, .int .i64 s.b2, .int .i64 s.b3, .int .i64 s.n0, .int .i64 s.n1, .int .i64 s.c0, .int .i64 s.c1, .bool s.over] 26 0 0 false)), (0, some (.row [.int .i64 s.inn, .int .i64 s.half, .int .i64 s.outs, .int .i64 s.balls, .int .i64 s.strikes, .int .i64 s.b1, .int .i64 s.b2, .int .i64 s.b3, .int .i64 s.n0, .int .i64 s.n1, .int .i64 s.c0, .int .i64 s.c1, .bool s.over] 25 0 0 false))] 0 []) ?_ ?_
    · intro R hR
      (try simp only [SS, aE, aI, setRange, aA, Nat.reduceLT, Nat.reduceEqDiff, Nat.reduceAdd, reduceCtorEq, e16])
      exact hR () _ _ (aF.drop (by simp [aL, below]) (by simp [aB, aG, below, aD]) (by simp [aB]))
    intro _
    refine Top.seam (σ := Unit) aK (fun _ => mkF 114 [(10, .int .i64 (stE s)), (9, .int .i64 (onE s)), (8, .ptr 2 0), (7, .int .i64 (onE s)), (6, .lsl []), (5, .int .i64 (onE s)), (4, .int .i64 0), (3, .ptr 1 0), (1, .ptr 0 0)]) (fun _ => mkH 3 [(2, some (.row [.bool false, .bool false, .bool false, .bool false] 33 0 0 false)), (1, some (.row [.int .i64 s.inn, .int .i64 s.half, .int .i64 s.outs, .int .i64 s.balls, .int .i64 s.strikes, .int .i64 s.b1, .int .i64 s.b2, .int .i64 s.b3, .int .i64 s.n0, .int .i64 s.n1, .int .i64 s.c0, .int .i64 s.c1, .bool s.over] 26 0 0 false)), (0, some (.row [.int .i64 s.inn, .int .i64 s.half, .int .i64 s.outs, .int .i64 s.balls, .int .i64 s.strikes, .int .i64 s.b1, .int .i64 s.b2, .int .i64 s.b3, .int .i64 s.n0, .int .i64 s.n1, .int .i64 s.c0, .int .i64 s.c1, .bool s.over] 25 0 0 false))] 0 []) ?_ ?_
    · intro R hR
      (try simp only [SS, aE, aI, aA, Nat.reduceLT, Nat.reduceEqDiff, Nat.reduceAdd, reduceCtorEq, e17])
      exact hR () _ _ (aF.drop (by simp [aL, below]) (by simp [aB, aG, below, aD]) (by simp [aB]))
    intro _
    refine Top.seam (σ := Unit) aK (fun _ => mkF 114 [(10, .int .i64 (stE s)), (9, .int .i64 (onE s)), (8, .ptr 2 0), (7, .int .i64 (onE s)), (6, .lsl []), (5, .int .i64 (onE s)), (4, .int .i64 0), (3, .ptr 1 0), (1, .ptr 0 0)]) (fun _ => mkH 3 [(2, some (.row [.bool false, .bool false, .bool false, .bool false] 33 0 0 false)), (0, some (.row [.int .i64 s.inn, .int .i64 s.half, .int .i64 s.outs, .int .i64 s.balls, .int .i64 s.strikes, .int .i64 s.b1, .int .i64 s.b2, .int .i64 s.b3, .int .i64 s.n0, .int .i64 s.n1, .int .i64 s.c0, .int .i64 s.c1, .bool s.over] 25 0 0 false))] 0 []) ?_ ?_
    · intro R hR
      (try simp only [SS, aE, aI, aA, Nat.reduceLT, Nat.reduceEqDiff, Nat.reduceAdd, reduceCtorEq, e18, e1020, e1021, e1019, e1022, e1023, eq25s, eOther])
      exact hR () _ _ (aF.drop (by simp [aL, below]) (by simp [aB, aG, below, aD]) (by simp [aB]))
    intro _
    refine Top.seam (σ := Unit) aK (fun _ => mkF 114 [(10, .int .i64 (onE s)), (9, .int .i64 (onE s)), (8, .ptr 2 0), (7, .int .i64 (onE s)), (6, .lsl []), (5, .int .i64 (onE s)), (4, .int .i64 0), (3, .ptr 1 0), (1, .ptr 0 0)]) (fun _ => mkH 3 [(2, some (.row [.bool false, .bool false, .bool false, .bool false] 33 0 0 false)), (0, some (.row [.int .i64 s.inn, .int .i64 s.half, .int .i64 s.outs, .int .i64 s.balls, .int .i64 s.strikes, .int .i64 s.b1, .int .i64 s.b2, .int .i64 s.b3, .int .i64 s.n0, .int .i64 s.n1, .int .i64 s.c0, .int .i64 s.c1, .bool s.over] 25 0 0 false))] 0 []) ?_ ?_
    · intro R hR
      by_cases h1 : stE s = 0
      · have ho : s.over = true := by
          rw [onE_eq, if_pos h1] at h0
          cases ho : s.over
          · rw [ho] at h0; exact absurd rfl h0
          · rfl
        have hE : onE s = 20 := by rw [onE_eq, if_pos h1, ho]; rfl
        have c1 : (stE s == 0) = true := by simp [h1]
        rw [hE] at hR
        simp only [hE, ho] at *
        (try simp only [SS, aE, aA, Nat.reduceLT, Nat.reduceEqDiff, reduceCtorEq, c1])
        exact hR () _ _ (aF.drop (by simp [aL, below]) (by simp [aB, aG, below, aD]) (by simp [aB]))
      · have hE : onE s = stE s := by rw [onE_eq, if_neg h1]
        have c1 : (stE s == 0) = false := by simp [h1]
        rw [hE] at hR
        simp only [hE] at *
        (try simp only [SS, aA, Nat.reduceLT, Nat.reduceEqDiff, c1])
        exact hR () _ _ (aF.drop (by simp [aL, below]) (by simp [aB, aG, below, aD]) (by simp [aB]))
    intro _
    refine Top.seam (σ := Unit) aK (fun _ => mkF 114 [(11, .int .i64 0), (10, .int .i64 (onE s)), (9, .int .i64 (onE s)), (8, .ptr 2 0), (7, .int .i64 (onE s)), (6, .lsl []), (5, .int .i64 (onE s)), (4, .int .i64 0), (3, .ptr 1 0), (1, .ptr 0 0)]) (fun _ => mkH 3 [(2, some (.row [.bool false, .bool false, .bool false, .bool false] 33 0 0 false)), (0, some (.row [.int .i64 s.inn, .int .i64 s.half, .int .i64 s.outs, .int .i64 s.balls, .int .i64 s.strikes, .int .i64 s.b1, .int .i64 s.b2, .int .i64 s.b3, .int .i64 s.n0, .int .i64 s.n1, .int .i64 s.c0, .int .i64 s.c1, .bool s.over] 25 0 0 false))] 0 []) ?_ ?_
    · intro R hR
      (try simp only [SS, aA, Nat.reduceLT])
      exact hR () _ _ (aF.drop (by simp [aL, below]) (by simp [aB, aG, below, aD]) (by simp [aB]))
    intro _
    refine Top.seam (σ := Unit) aK (fun _ => mkF 114 [(12, .nilslice), (11, .int .i64 0), (10, .int .i64 (onE s)), (9, .int .i64 (onE s)), (8, .ptr 2 0), (7, .int .i64 (onE s)), (6, .lsl []), (5, .int .i64 (onE s)), (4, .int .i64 0), (3, .ptr 1 0), (1, .ptr 0 0)]) (fun _ => mkH 3 [(2, some (.row [.bool false, .bool false, .bool false, .bool false] 33 0 0 false)), (0, some (.row [.int .i64 s.inn, .int .i64 s.half, .int .i64 s.outs, .int .i64 s.balls, .int .i64 s.strikes, .int .i64 s.b1, .int .i64 s.b2, .int .i64 s.b3, .int .i64 s.n0, .int .i64 s.n1, .int .i64 s.c0, .int .i64 s.c1, .bool s.over] 25 0 0 false))] 0 []) ?_ ?_
    · intro R hR
      (try simp only [SS, aA, Nat.reduceLT])
      exact hR () _ _ (aF.drop (by simp [aL, below]) (by simp [aB, aG, below, aD]) (by simp [aB]))
    intro _
    refine Top.seam (σ := Unit) aK (fun _ => mkF 114 [(13, .ptr 3 0), (12, .nilslice), (11, .int .i64 0), (10, .int .i64 (onE s)), (9, .int .i64 (onE s)), (8, .ptr 2 0), (7, .int .i64 (onE s)), (6, .lsl []), (5, .int .i64 (onE s)), (4, .int .i64 0), (3, .ptr 1 0), (1, .ptr 0 0)]) (fun _ => mkH 4 [(3, some (.row [.bool false, .bool false, .bool false, .bool false] 33 0 0 false)), (2, some (.row [.bool false, .bool false, .bool false, .bool false] 33 0 0 false)), (0, some (.row [.int .i64 s.inn, .int .i64 s.half, .int .i64 s.outs, .int .i64 s.balls, .int .i64 s.strikes, .int .i64 s.b1, .int .i64 s.b2, .int .i64 s.b3, .int .i64 s.n0, .int .i64 s.n1, .int .i64 s.c0, .int .i64 s.c1, .bool s.over] 25 0 0 false))] 0 []) ?_ ?_
    · intro R hR
      (try simp only [SS, aE, aA, Nat.reduceLT, Nat.reduceAdd])
      exact hR () _ _ (aF.drop (by simp [aL, below]) (by simp [aB, aG, below, aD]) (by simp [aB]))
    intro _
    have c0 : (onE s == 0) = false := by simp [h0]
    refine Top.seam (σ := Unit) aK (fun _ => mkF 114 [(13, .ptr 3 0), (12, .nilslice), (11, .int .i64 0), (10, .int .i64 (onE s)), (9, .int .i64 (onE s)), (8, .ptr 2 0), (7, .int .i64 (onE s)), (6, .lsl []), (5, .int .i64 (onE s)), (4, .int .i64 0)]) (fun _ => mkH 4 [(3, some (.row [.bool false, .bool false, .bool false, .bool false] 33 0 0 false)), (2, some (.row [.bool false, .bool false, .bool false, .bool false] 33 0 0 false))] 0 []) ?_ ?_
    · intro R hR
      (try simp only [SS, aA, Nat.reduceLT, Nat.reduceEqDiff, c0])
      exact hR () _ _ (aF.drop (by simp [aL, below]) (by simp [aB, aG, below, aD]) (by simp [aB]))
    intro _
    refine aH aK _ _ _ _ ?_
    have h26 := e1026 (l := []) (m := []) (by simp) (by simp)
    simp only [aX, List.map_nil, decide_true] at h26
    have ce : (onE s == onE s) = true := by simp
    have q33 := eq33 (a := false) (b := false) (c := false) (d := false)
    (try simp only [SS, aE, aI, aA, Nat.reduceLT, Nat.reduceEqDiff, Nat.reduceAdd, h26, q33, e27, eOther])
    (refine hQ _ _ _ (aJ (by first | exact .inl rfl | exact .inr rfl) ?_); simp only [SS, aE, Nat.reduceLT, Nat.reduceEqDiff])
end Go.Ev
