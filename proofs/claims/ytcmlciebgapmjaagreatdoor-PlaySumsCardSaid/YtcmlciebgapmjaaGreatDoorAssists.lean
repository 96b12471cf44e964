import Derived.Test.YtcmlciebgapmjaaGreatDoorPutouts2
set_option linter.unusedSimpArgs false
set_option linter.unusedVariables false
namespace Go.Ev
open Go.RowKit Go.Proofs
set_option linter.defProp false
def TF65Assists := And.intro (And.intro (And.intro (And.intro (And.intro (@Tryz.underlying3) (@sz3)) (And.intro (@bT) (@I3s))) (And.intro (And.intro (@I3b) (@bS)) (And.intro (@bV) (And.intro (@Tryz.underlying4) (@sz4))))) (And.intro (And.intro (And.intro (@cV) (@I4s)) (And.intro (@I4b) (And.intro (@cU) (@cW)))) (And.intro (And.intro (@Tryz.underlying9) (@sz9)) (And.intro (@cL) (And.intro (@I9s) (@I9b)))))) (And.intro (And.intro (And.intro (And.intro (@cI) (@cM)) (And.intro (@Tryz.underlying25) (@dF))) (And.intro (And.intro (@bZ) (@dG)) (And.intro (@dH) (And.intro (@bX) (@cA))))) (And.intro (And.intro (And.intro (@Tryz.underlying27) (@dQ)) (And.intro (@dB) (And.intro (@cN) (@dR)))) (And.intro (And.intro (@dS) (@cK)) (And.intro (@cO) (And.intro (@call75) (@Tryz.results65))))))
set_option maxRecDepth 20000
set_option maxHeartbeats 8000000

/-! who helped, the reference's -/
def helpB (b : List Int) (n : Int) : Bool := (n != b.getLastD 0) && b.any (· == n)
def oneTo (k : Nat) : List Int := (List.range k).map fun i : Nat => (i : Int) + 1
def cZ (b : List Int) (k : Nat) : List Int := (oneTo k).filter (helpB b)
theorem helpL_succ (b : List Int) (k : Nat) : cZ b (k + 1) = cZ b k ++ (if helpB b ((k : Int) + 1) = true then [(k : Int) + 1] else []) := by
  simp only [cZ, oneTo, List.range_succ, List.map_append, List.map_cons, List.map_nil, List.filter_append, List.filter_cons, List.filter_nil]
theorem helpL_len (b : List Int) (k : Nat) : (cZ b k).length ≤ k := by
  have h := List.length_filter_le (helpB b) (oneTo k)
  simp only [oneTo, List.length_map, List.length_range] at h
  exact h
theorem e75 {b : List Int} {c : Int} (h : b.length < 9223372036854775808) : F75 [.lsl (bJ b), .int .i64 c] = some (.bool (b.any (· == c))) := by
  simp only [F75, dInts_e h, Option.map_some]
def F65 : List EVal → Option EVal
  | [.agg [.int .i64 _, .int .i64 _, .bool _, .str _, x]] => (dK x).bind fun b => if b ≠ [] then some (.lsl (bJ (cZ b 9))) else none
  | _ => none
theorem fn65 : FnT 65 F65 := by
  refine Fn.intro mixed bA Tryz.func65 rfl [(75, F75)] (by simp only [List.forall_mem_cons]; exact ⟨fn75, fun _ h => by cases h⟩) ?_
  intro args v hF
  unfold F65 at hF
  split at hF
  rotate_left
  · cases hF
  intro Q hV
  have hQ := bL.of hV
  rename_i f t o h x
  cases ha : dK x with
  | none => rw [ha] at hF; cases hF
  | some b =>
  rw [ha] at hF
  simp only [Option.bind_some] at hF
  split at hF
  rotate_left
  · cases hF
  rename_i hb
  cases hF
  obtain ⟨rfl, hlen⟩ := dInts_inv ha
  clear ha
  have hbl : 0 < b.length := List.length_pos_iff.2 hb
  have q4 : IntKind.i64.wrap ((b.length : Int) - 1) = ((b.length - 1 : Nat) : Int) := by rw [bE] <;> omega
  obtain ⟨z, hz⟩ : ∃ z, z = b.getLastD 0 := ⟨_, rfl⟩
  have hlg : b[b.length - 1]? = some z := by rw [hz]; exact last_get hb
  have h75 : ∀ c : Int, F75 [.lsl (bJ b), .int .i64 c] = some (.bool (b.any (· == c))) := fun c => e75 hlen
  refine Top.view (aX.start (n := 30) rfl (by simp)) (aS bA _ _ _ _ ?_)
  ((try simp only [aO, SS, TF65Assists, aM, setRange, aN, aC, aB, aF, aE, aD, aA, Nat.reduceLT, Nat.reduceEqDiff, Nat.reduceAdd, Nat.reduceMul, Nat.reduceSub, Nat.reduceLeDiff, Nat.reduceBEq, reduceCtorEq]); (repeat' ((first | apply aJ | apply aI | apply aL | apply aK | apply aH | apply aG) <;> intro h <;> simp only [h, SS, TF65Assists, aM, setRange, aN, aC, aB, aF, aE, aD, aA, Nat.reduceLT, Nat.reduceEqDiff, Nat.reduceAdd, Nat.reduceMul, Nat.reduceSub, Nat.reduceLeDiff, Nat.reduceBEq, reduceCtorEq])))
  refine bH (Top.loop (I := fun s : { k : Nat // k ≤ 9 } => (mkF 30 [(4, .int .i64 ((s.1 : Int) + 1)), (3, .gsl 0 (bJ (cZ b s.1))), (1, .ptr 0 0)], mkH 1 [(0, some (.row [.int .i64 f, .int .i64 t, .bool o, .str h, .lsl (bJ b)] 27 0 0 false))] 1 [(0, some ((cZ b s.1).length, 3))])) (μ := fun s => 9 - s.1) ⟨0, by omega⟩ (aX.trans (aX.grow 3 3 (by omega) (by omega) (by simp [look])) (aX.sub (by simp [look, bJ, cZ, oneTo]))) ?_)
  rintro ⟨k, hk⟩
  refine aS bA _ _ _ _ ?_
  by_cases hlt : k < 9
  rotate_left
  · obtain rfl : k = 9 := by omega
    have q1 : decide (((9 : Nat) : Int) + 1 ≤ 9) = false := by decide
    ((try simp only [aO, SS, TF65Assists, aM, setRange, aN, aC, aB, aF, aE, aD, aA, Nat.reduceLT, Nat.reduceEqDiff, Nat.reduceAdd, Nat.reduceMul, Nat.reduceSub, Nat.reduceLeDiff, Nat.reduceBEq, reduceCtorEq, q1]); (repeat' ((first | apply aJ | apply aI | apply aL | apply aK | apply aH | apply aG) <;> intro h <;> simp only [h, SS, TF65Assists, aM, setRange, aN, aC, aB, aF, aE, aD, aA, Nat.reduceLT, Nat.reduceEqDiff, Nat.reduceAdd, Nat.reduceMul, Nat.reduceSub, Nat.reduceLeDiff, Nat.reduceBEq, reduceCtorEq, q1])))
    (refine hQ _ _ _ (aR (by first | exact .inl rfl | exact .inr rfl) ?_); simp only [SS, TF65Assists, aM, setRange, aN, aC, aB, aF, aE, aD, aA, Nat.reduceLT, Nat.reduceEqDiff, Nat.reduceAdd, Nat.reduceMul, Nat.reduceSub, Nat.reduceLeDiff, Nat.reduceBEq, reduceCtorEq])
  have q1 : decide ((k : Int) + 1 ≤ 9) = true := by simp; omega
  have q2 : IntKind.i64.wrap ((k : Int) + 1 + 1) = ((k + 1 : Nat) : Int) + 1 := by rw [bE] <;> omega
  have hle := helpL_len b k
  have q3 : 8 * ((cZ b k).length + 1) ≤ 1000000 := by omega
  have htk := helpL_succ b k
  cases c1 : ((k : Int) + 1 == z) with
  | true =>
    have c0 : helpB b ((k : Int) + 1) = false := by simp only [helpB, ← hz, bne, c1]; rfl
    rw [c0, if_neg (by simp), List.append_nil] at htk
    ((try simp only [aO, SS, TF65Assists, aM, setRange, aN, aC, aB, aF, aE, aD, aA, Nat.reduceLT, Nat.reduceEqDiff, Nat.reduceAdd, Nat.reduceMul, Nat.reduceSub, Nat.reduceLeDiff, Nat.reduceBEq, reduceCtorEq, aQ, q1, q2, q4, aZ, hlg, c1, bne]); (repeat' ((first | apply aJ | apply aI | apply aL | apply aK | apply aH | apply aG) <;> intro h <;> simp only [h, SS, TF65Assists, aM, setRange, aN, aC, aB, aF, aE, aD, aA, Nat.reduceLT, Nat.reduceEqDiff, Nat.reduceAdd, Nat.reduceMul, Nat.reduceSub, Nat.reduceLeDiff, Nat.reduceBEq, reduceCtorEq, aQ, q1, q2, q4, aZ, hlg, c1, bne])))
    refine ⟨⟨k + 1, hlt⟩, by simp; omega, ?_⟩
    simp only [htk]
    exact (aX.drop (by simp [look, below, aT]) (by simp [aU, bG, below, aT, aV]) (by simp [aU]))
  | false =>
  cases c2 : b.any (· == (k : Int) + 1) with
  | true =>
    have c0 : helpB b ((k : Int) + 1) = true := by simp only [helpB, ← hz, bne, c1, c2]; rfl
    rw [c0, if_pos rfl] at htk
    ((try simp only [aO, SS, TF65Assists, aM, setRange, aN, aC, aB, aF, aE, aD, aA, Nat.reduceLT, Nat.reduceEqDiff, Nat.reduceAdd, Nat.reduceMul, Nat.reduceSub, Nat.reduceLeDiff, Nat.reduceBEq, reduceCtorEq, aQ, q1, q2, q4, aZ, hlg, c1, bne, h75, c2, q3, lensOK_eInts, eInts_snoc]); (repeat' ((first | apply aJ | apply aI | apply aL | apply aK | apply aH | apply aG) <;> intro h <;> simp only [h, SS, TF65Assists, aM, setRange, aN, aC, aB, aF, aE, aD, aA, Nat.reduceLT, Nat.reduceEqDiff, Nat.reduceAdd, Nat.reduceMul, Nat.reduceSub, Nat.reduceLeDiff, Nat.reduceBEq, reduceCtorEq, aQ, q1, q2, q4, aZ, hlg, c1, bne, h75, c2, q3, lensOK_eInts, eInts_snoc])))
    refine ⟨⟨k + 1, hlt⟩, by simp; omega, ?_⟩
    simp only [htk, List.length_append, List.length_cons, List.length_nil, Nat.zero_add]
    exact (aX.drop (by simp [look, below, aT]) (by simp [aU, bG, below, aT, aV]) (by simp [aU]))
  | false =>
    have c0 : helpB b ((k : Int) + 1) = false := by simp only [helpB, ← hz, bne, c1, c2]; rfl
    rw [c0, if_neg (by simp), List.append_nil] at htk
    ((try simp only [aO, SS, TF65Assists, aM, setRange, aN, aC, aB, aF, aE, aD, aA, Nat.reduceLT, Nat.reduceEqDiff, Nat.reduceAdd, Nat.reduceMul, Nat.reduceSub, Nat.reduceLeDiff, Nat.reduceBEq, reduceCtorEq, aQ, q1, q2, q4, aZ, hlg, c1, bne, h75, c2]); (repeat' ((first | apply aJ | apply aI | apply aL | apply aK | apply aH | apply aG) <;> intro h <;> simp only [h, SS, TF65Assists, aM, setRange, aN, aC, aB, aF, aE, aD, aA, Nat.reduceLT, Nat.reduceEqDiff, Nat.reduceAdd, Nat.reduceMul, Nat.reduceSub, Nat.reduceLeDiff, Nat.reduceBEq, reduceCtorEq, aQ, q1, q2, q4, aZ, hlg, c1, bne, h75, c2])))
    refine ⟨⟨k + 1, hlt⟩, by simp; omega, ?_⟩
    simp only [htk]
    exact (aX.drop (by simp [look, below, aT]) (by simp [aU, bG, below, aT, aV]) (by simp [aU]))
end Go.Ev
