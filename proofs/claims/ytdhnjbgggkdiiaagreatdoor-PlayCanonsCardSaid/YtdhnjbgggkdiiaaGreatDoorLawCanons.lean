import Derived.Test.YtdhnjbgggkdiiaaGreatDoorPaV
import Derived.Test.YtdhnjbgggkdiiaaGreatDoorCanB
import Derived.Test.YtdhnjbgggkdiiaaGreatDoorAwake
set_option linter.unusedSimpArgs false
set_option linter.unusedVariables false
namespace Go.Ev
open Go.RowKit Go.Proofs
set_option linter.defProp false
set_option maxRecDepth 20000
set_option maxHeartbeats 8000000

/-! short plays; the reference's reading of a text -/
def shortPl (q : Pl) : Bool := shortB q.p q.e q.m
end Go.Ev
namespace Go.Ev
open Go.RowKit Go.Proofs
set_option linter.defProp false
def TF7LawCanons := And.intro (And.intro (And.intro (And.intro (And.intro (@Tryz.underlying3) (And.intro (@sz3) (@bI))) (And.intro (And.intro (@I3s) (@I3b)) (And.intro (@bH) (@bJ)))) (And.intro (And.intro (And.intro (@Tryz.underlying4) (@sz4)) (And.intro (@cO) (@I4s))) (And.intro (And.intro (@I4b) (@cN)) (And.intro (@cP) (@Tryz.underlying9))))) (And.intro (And.intro (And.intro (@sz9) (And.intro (@bW) (@I9s))) (And.intro (And.intro (@I9b) (@bV)) (And.intro (@bX) (@Tryz.underlying22)))) (And.intro (And.intro (And.intro (@sz22) (@info22)) (And.intro (@I22s) (@I22b))) (And.intro (And.intro (@cX) (@grow22)) (And.intro (@Tryz.underlying24) (@sz24)))))) (And.intro (And.intro (And.intro (And.intro (@fok24) (And.intro (@info24) (@I24s))) (And.intro (And.intro (@I24b) (@zero24)) (And.intro (@grow24) (@Tryz.underlying25)))) (And.intro (And.intro (And.intro (@dB) (@bQ)) (And.intro (@dD) (@dE))) (And.intro (And.intro (@bN) (@bR)) (And.intro (@Tryz.underlying27) (@dG))))) (And.intro (And.intro (And.intro (@cT) (And.intro (@cD) (@dI))) (And.intro (And.intro (@dJ) (@cC)) (And.intro (@cE) (@call16)))) (And.intro (And.intro (And.intro (@call17) (@call19)) (And.intro (@call34) (@call44))) (And.intro (And.intro (@call45) (@call46)) (And.intro (@call47) (@Tryz.results7))))))
set_option maxRecDepth 20000
set_option maxHeartbeats 8000000

def F7 : List EVal → Option EVal
  | [.agg [.str p, .str e, .bool _, ms], .agg [.str p2, .str e2, .bool _, ms2]] => match bL ms, bL ms2 with
    | some _, some _ => if (aT p = true ∧ aT e = true) ∧ aT p2 = true ∧ aT e2 = true then some (.bool true) else none
    | _, _ => none
  | _ => none
theorem e17 {q : Pl} (hq : okPl q) : F17 [.agg [.str q.p, .str q.e, .bool q.l, .lsl (aK q.m)]] = some (.bool (shortPl q)) := by
  simp only [F17, dMoves_e hq.1 hq.2, Option.map_some]; rfl
theorem fn7 : FnT 7 F7 := by
  refine Fn.intro mixed aI Tryz.func7 rfl [(16, F16), (17, F17), (19, F19), (34, F34), (44, F44), (45, F45), (46, F46), (47, F47)] (by simp only [List.forall_mem_cons]; exact ⟨fn16, fn17, fn19, fn34, fn44, fn45, fn46, fn47, fun _ h => by cases h⟩) ?_
  intro args v hF
  unfold F7 at hF
  split at hF
  rotate_left
  · cases hF
  intro Q hV
  have hQ := aW.of hV
  rename_i p e late ms p2 e2 late2 ms2
  split at hF
  rotate_left
  · cases hF
  rename_i l l2 ha ha2
  split at hF
  rotate_left
  · cases hF
  rename_i hb
  obtain ⟨hb, hb2⟩ := hb
  cases hF
  obtain ⟨rfl, hlen, hok⟩ := dMoves_inv ha
  obtain ⟨rfl, hlen2, hok2⟩ := dMoves_inv ha2
  clear ha ha2
  obtain ⟨q, hq⟩ : ∃ q : Pl, q = ⟨p, e, late, l⟩ := ⟨_, rfl⟩
  obtain ⟨o, ho⟩ : ∃ q : Pl, q = ⟨p2, e2, late2, l2⟩ := ⟨_, rfl⟩
  have okq : okPl q := by rw [hq]; exact ⟨hlen, hok⟩
  have oko : okPl o := by rw [ho]; exact ⟨hlen2, hok2⟩
  have bq : plB q = true := by rw [hq]; simp [plB, hb]
  have bo : plB o = true := by rw [ho]; simp [plB, hb2]
  rw [show p = q.p by rw [hq], show e = q.e by rw [hq], show late = q.l by rw [hq], show l = q.m by rw [hq], show p2 = o.p by rw [ho], show e2 = o.e by rw [ho], show late2 = o.l by rw [ho], show l2 = o.m by rw [ho]]
  clear hq ho hb hb2 hok hok2 hlen hlen2
  have h16 := e16
  have h17q := e17 okq
  have h17o := e17 oko
  refine Top.view (aF.start (n := 79) rfl (by simp)) ?_
  refine Top.join (σ := Unit) aI (fun _ => mkF 79 [(2, .ptr 0 0), (3, .ptr 1 0)]) (fun _ => mkH 2 [(1, some (.row [.str o.p, .str o.e, .bool o.l, .lsl (aK o.m)] 24 0 0 false)), (0, some (.row [.str q.p, .str q.e, .bool q.l, .lsl (aK q.m)] 24 0 0 false))] 0 []) ?_ ?_
  · intro R hR
    (try simp only [aH, SS, aA, Nat.reduceLT, Nat.reduceEqDiff, Nat.reduceAdd, reduceCtorEq])
    exact hR () _ _ (aF.drop (by simp [look, below]) (by simp [aB, bC, below, bM]) (by simp [aB]))
  intro _
  refine Top.joinR (σ := { _u : Unit // shortPl q = true ∧ shortPl o = true }) aI (fun _ => mkF 79 [(2, .ptr 0 0), (3, .ptr 1 0)]) (fun _ => mkH 2 [(1, some (.row [.str o.p, .str o.e, .bool o.l, .lsl (aK o.m)] 24 0 0 false)), (0, some (.row [.str q.p, .str q.e, .bool q.l, .lsl (aK q.m)] 24 0 0 false))] 0 []) ?_ ?_
  · intro R hR hRr
    cases y1 : shortPl q with
    | false =>
      rw [y1] at h17q
      (try simp only [SS, TF7LawCanons, aG, aA, Nat.reduceLT, Nat.reduceEqDiff, Nat.reduceAdd, reduceCtorEq, h16, h17q])
      refine hRr _ _ (hQ _ _ _ (aC (.inl rfl) ?_))
      simp only [SS, TF7LawCanons, Nat.reduceLT, Nat.reduceEqDiff]
    | true =>
    rw [y1] at h17q
    cases y2 : shortPl o with
    | false =>
      rw [y2] at h17o
      (try simp only [SS, TF7LawCanons, aG, aA, Nat.reduceLT, Nat.reduceEqDiff, Nat.reduceAdd, reduceCtorEq, h16, h17q, h17o])
      refine hRr _ _ (hQ _ _ _ (aC (.inl rfl) ?_))
      simp only [SS, TF7LawCanons, Nat.reduceLT, Nat.reduceEqDiff]
    | true =>
      rw [y2] at h17o
      (try simp only [SS, TF7LawCanons, aG, aA, Nat.reduceLT, Nat.reduceEqDiff, Nat.reduceAdd, reduceCtorEq, h16, h17q, h17o])
      exact hR ⟨(), y1, y2⟩ _ _ (aF.drop (by simp [look, below]) (by simp [aB, bC, below, bM]) (by simp [aB]))
  rintro ⟨_, y1, y2⟩
  clear h17q h17o h16
  have h19q := e19 (p := q.p) (e := q.e) (late := q.l) okq.1 okq.2 (short_copy3 y1)
  have h19o := e19 (p := o.p) (e := o.e) (late := o.l) oko.1 oko.2 (short_copy3 y2)
  have h44q := e44 bq okq
  have h45 := e45 bq okq bo oko
  have h46q := e46 okq
  have h46o := e46 oko
  have h47 := e47two (a := (aZ q).2) (b := (aZ o).2)
  rw [show cF [(aZ q).2, (aZ o).2] = bothE q o from rfl] at h47
  have h34A := e34 (canonT_ok q) (canonT_ok q)
  have h34B := e34 (canonT_ok q) (canonT_ok o)
  rw [samePl_rfl] at h34A
  unfold plE at h44q h46q h46o
  unfold equalE at h45
  obtain ⟨A, hA⟩ : ∃ A, A = (aZ q).1 := ⟨_, rfl⟩
  obtain ⟨B, hB⟩ : ∃ B, B = (aZ o).1 := ⟨_, rfl⟩
  obtain ⟨x, hx⟩ : ∃ x, x = (aZ q).2 := ⟨_, rfl⟩
  obtain ⟨y, hy⟩ : ∃ y, y = (aZ o).2 := ⟨_, rfl⟩
  obtain ⟨z, hz⟩ : ∃ z, z = bothE q o := ⟨_, rfl⟩
  rw [← hA] at h34A h34B h45
  rw [← hB] at h34B h45
  rw [← hA, ← hx] at h44q h46q
  rw [← hB, ← hy] at h46o
  rw [← hx, ← hy, ← hz] at h47
  rw [← hz] at h45
  clear hA hB hx hy hz y1 y2 bq bo okq oko
  generalize samePl A B = sm at *
  refine Top.join (σ := Unit) aI (fun _ => mkF 79 [(2, .ptr 0 0), (3, .ptr 1 0), (5, .ptr 2 0), (6, .int .i64 x)]) (fun _ => mkH 3 [(2, some (.row [.str A.p, .str A.e, .bool A.l, .lsl (aK A.m)] 24 0 0 false)), (1, some (.row [.str o.p, .str o.e, .bool o.l, .lsl (aK o.m)] 24 0 0 false)), (0, some (.row [.str q.p, .str q.e, .bool q.l, .lsl (aK q.m)] 24 0 0 false))] 0 []) ?_ ?_
  · intro R hR
    (try simp only [SS, TF7LawCanons, aG, setRange, aA, Nat.reduceLT, Nat.reduceEqDiff, Nat.reduceAdd, reduceCtorEq, h19q, h44q])
    exact hR () _ _ (aF.drop (by simp [look, below]) (by simp [aB, bC, below, bM]) (by simp [aB]))
  intro _
  refine Top.join (σ := Unit) aI (fun _ => mkF 79 [(2, .ptr 0 0), (3, .ptr 1 0), (5, .ptr 2 0), (6, .int .i64 x), (7, .bool (decide (z = 0) && sm)), (8, .int .i64 z)]) (fun _ => mkH 3 [(2, some (.row [.str A.p, .str A.e, .bool A.l, .lsl (aK A.m)] 24 0 0 false)), (1, some (.row [.str o.p, .str o.e, .bool o.l, .lsl (aK o.m)] 24 0 0 false)), (0, some (.row [.str q.p, .str q.e, .bool q.l, .lsl (aK q.m)] 24 0 0 false))] 0 []) ?_ ?_
  · intro R hR
    (try simp only [aH, SS, TF7LawCanons, aG, setRange, bK, aA, aO, bG, bA, aV, aE, Nat.reduceLT, Nat.reduceEqDiff, Nat.reduceAdd, Nat.reduceMul, Nat.reduceSub, Nat.reduceLeDiff, Nat.reduceBEq, reduceCtorEq])
    refine aU (Top.draw mixed aI (by kernel_rfl) ?_)
    (try simp only [SS, TF7LawCanons, aG, Nat.reduceLT, Nat.reduceEqDiff, Nat.reduceAdd, reduceCtorEq, h19q, h19o, h45])
    refine ⟨by kernel_rfl, ?_⟩
    (try simp only [aH, SS, TF7LawCanons, aG, setRange, bK, aA, aO, bG, bA, aV, aE, Nat.reduceLT, Nat.reduceEqDiff, Nat.reduceAdd, Nat.reduceMul, Nat.reduceSub, Nat.reduceLeDiff, Nat.reduceBEq, reduceCtorEq])
    exact hR () _ _ (aF.drop (by simp [look, below]) (by simp [aB, bC, below, bM]) (by simp [aB]))
  intro _
  refine Top.join (σ := Unit) aI (fun _ => mkF 79 [(3, .ptr 1 0), (5, .ptr 2 0), (6, .int .i64 x), (7, .bool (decide (z = 0) && sm)), (8, .int .i64 z), (9, .ptr 3 0), (10, .int .i64 x)]) (fun _ => mkH 4 [(3, some (.row [.str A.p, .str A.e, .bool A.l, .lsl (aK A.m)] 24 0 0 false)), (2, some (.row [.str A.p, .str A.e, .bool A.l, .lsl (aK A.m)] 24 0 0 false)), (1, some (.row [.str o.p, .str o.e, .bool o.l, .lsl (aK o.m)] 24 0 0 false))] 0 []) ?_ ?_
  · intro R hR
    (try simp only [SS, TF7LawCanons, aG, setRange, aA, Nat.reduceLT, Nat.reduceEqDiff, Nat.reduceAdd, reduceCtorEq, h46q])
    exact hR () _ _ (aF.drop (by simp [look, below]) (by simp [aB, bC, below, bM]) (by simp [aB]))
  intro _
  refine Top.join (σ := Unit) aI (fun _ => mkF 79 [(5, .ptr 2 0), (6, .int .i64 x), (7, .bool (decide (z = 0) && sm)), (8, .int .i64 z), (9, .ptr 3 0), (10, .int .i64 x), (11, .ptr 4 0), (12, .int .i64 y)]) (fun _ => mkH 5 [(4, some (.row [.str B.p, .str B.e, .bool B.l, .lsl (aK B.m)] 24 0 0 false)), (3, some (.row [.str A.p, .str A.e, .bool A.l, .lsl (aK A.m)] 24 0 0 false)), (2, some (.row [.str A.p, .str A.e, .bool A.l, .lsl (aK A.m)] 24 0 0 false))] 0 []) ?_ ?_
  · intro R hR
    (try simp only [SS, TF7LawCanons, aG, setRange, aA, Nat.reduceLT, Nat.reduceEqDiff, Nat.reduceAdd, h46o])
    exact hR () _ _ (aF.drop (by simp [look, below]) (by simp [aB, bC, below, bM]) (by simp [aB]))
  intro _
  refine Top.join (σ := Unit) aI (fun _ => mkF 79 [(5, .ptr 2 0), (6, .int .i64 x), (7, .bool (decide (z = 0) && sm)), (8, .int .i64 z), (9, .ptr 3 0), (10, .int .i64 x), (11, .ptr 4 0), (13, .int .i64 z)]) (fun _ => mkH 5 [(4, some (.row [.str B.p, .str B.e, .bool B.l, .lsl (aK B.m)] 24 0 0 false)), (3, some (.row [.str A.p, .str A.e, .bool A.l, .lsl (aK A.m)] 24 0 0 false)), (2, some (.row [.str A.p, .str A.e, .bool A.l, .lsl (aK A.m)] 24 0 0 false))] 0 []) ?_ ?_
  · intro R hR
    (try simp only [SS, TF7LawCanons, aG, setRange, bK, aA, aE, Nat.reduceLT, Nat.reduceEqDiff, Nat.reduceAdd, Nat.reduceLeDiff, reduceCtorEq, h47])
    exact hR () _ _ (aF.drop (by simp [look, below]) (by simp [aB, bC, below, bM]) (by simp [aB]))
  intro _
  refine aD aI _ _ _ _ ?_
  have qx : (x == x) = true := by simp
  have qz : (z == z) = true := by simp
  cases z0 : (z == 0) with
  | false =>
    have z1 : decide (z = 0) = false := by simpa using z0
    rw [z1, Bool.false_and]
    (try simp only [SS, TF7LawCanons, aG, aA, Nat.reduceLT, Nat.reduceEqDiff, Nat.reduceAdd, h34A, z0, ndEq, eOther, eqX, eqBoolE])
    (refine hQ _ _ _ (aC (by first | exact .inl rfl | exact .inr rfl) ?_); simp only [SS, TF7LawCanons, Nat.reduceLT, Nat.reduceEqDiff])
  | true =>
    have z1 : decide (z = 0) = true := by simpa using z0
    rw [z1, Bool.true_and]
    cases sm <;> ((try simp only [SS, TF7LawCanons, aG, aA, Nat.reduceLT, Nat.reduceEqDiff, Nat.reduceAdd, h34A, h34B, z0, ndEq, eOther, eqX, eqBoolE]); (refine hQ _ _ _ (aC (by first | exact .inl rfl | exact .inr rfl) ?_); simp only [SS, TF7LawCanons, Nat.reduceLT, Nat.reduceEqDiff]))
end Go.Ev
