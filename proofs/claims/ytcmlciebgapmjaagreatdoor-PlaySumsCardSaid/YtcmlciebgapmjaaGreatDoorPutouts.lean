import Derived.Test.YtcmlciebgapmjaaGreatDoorMoveOf
import Derived.Test.YtcmlciebgapmjaaGreatDoorRef2
import Derived.Test.YtcmlciebgapmjaaGreatDoorDraw
set_option linter.unusedSimpArgs false
set_option linter.unusedVariables false
namespace Go.Ev
open Go.RowKit Go.Proofs
set_option linter.defProp false
def TF63Putouts := And.intro (And.intro (And.intro (And.intro (And.intro (@Tryz.underlying3) (And.intro (@sz3) (@bT))) (And.intro (@I3s) (And.intro (@I3b) (@bS)))) (And.intro (And.intro (@bV) (And.intro (@Tryz.underlying4) (@sz4))) (And.intro (And.intro (@cV) (@I4s)) (And.intro (@I4b) (@cU))))) (And.intro (And.intro (And.intro (@cW) (And.intro (@Tryz.underlying9) (@sz9))) (And.intro (@cL) (And.intro (@I9s) (@I9b)))) (And.intro (And.intro (@cI) (And.intro (@cM) (@Tryz.underlying22))) (And.intro (And.intro (@sz22) (@info22)) (And.intro (@I22s) (@I22b)))))) (And.intro (And.intro (And.intro (And.intro (@zero22) (And.intro (@grow22) (@Tryz.underlying24))) (And.intro (@sz24) (And.intro (@fok24) (@info24)))) (And.intro (And.intro (@I24s) (And.intro (@I24b) (@zero24))) (And.intro (And.intro (@grow24) (@Tryz.underlying25)) (And.intro (@dF) (@bZ))))) (And.intro (And.intro (And.intro (@dG) (And.intro (@dH) (@bX))) (And.intro (@cA) (And.intro (@Tryz.underlying27) (@dQ)))) (And.intro (And.intro (@dB) (And.intro (@cN) (@dR))) (And.intro (And.intro (@dS) (@cK)) (And.intro (@cO) (@Tryz.results63))))))
set_option maxRecDepth 20000
set_option maxHeartbeats 8000000

/-! the fielders who made the outs -/
def lastT (m : Mv) : Int := m.b.getLastD 0
def dC (l : List Mv) : List Int := (l.filter isO).map lastT
def touchedB (l : List Mv) : Bool := l.all fun m => !m.o || decide (m.b ≠ [])
theorem potL_take {l : List Mv} {k : Nat} {m : Mv} (h : l[k]? = some m) : dC (l.take (k + 1)) = dC (l.take k) ++ (if isO m = true then [lastT m] else []) := by
  rw [List.take_add_one, h]
  simp only [dC, List.filter_append, List.map_append, Option.toList_some, List.filter_cons, List.filter_nil]
  cases isO m <;> rfl
theorem potL_len (l : List Mv) : (dC l).length ≤ l.length := by
  simp only [dC, List.length_map]; exact List.length_filter_le _ _
theorem last_get {b : List Int} (h : b ≠ []) : b[b.length - 1]? = some (b.getLastD 0) := by
  rw [← List.getLast?_eq_getElem?]
  cases b with
  | nil => exact absurd rfl h
  | cons a b => simp [List.getLastD, List.getLast?_eq_some_getLast]
def F63 : List EVal → Option EVal
  | [.agg [.str _, .str _, .bool _, ms]] => (bR ms).bind fun l => if l.length ≤ 300 ∧ touchedB l = true then some (.lsl (bJ (dC l))) else none
  | _ => none
theorem fn63 : FnT 63 F63 := by
  refine Fn.intro mixed bA Tryz.func63 rfl [] (fun _ h => by cases h) ?_
  intro args v hF
  unfold F63 at hF
  split at hF
  rotate_left
  · cases hF
  intro Q hV
  have hQ := bL.of hV
  rename_i p e late ms
  cases ha : bR ms with
  | none => rw [ha] at hF; cases hF
  | some l =>
  rw [ha] at hF
  simp only [Option.bind_some] at hF
  split at hF
  rotate_left
  · cases hF
  rename_i hc
  obtain ⟨h300, htb⟩ := hc
  cases hF
  obtain ⟨rfl, hlen, hok⟩ := bU ha
  clear ha
  simp only [touchedB, List.all_eq_true, Bool.or_eq_true, Bool.not_eq_true', decide_eq_true_eq] at htb
  refine Top.view (aX.start (n := 32) rfl (by simp)) (aS bA _ _ _ _ ?_)
  ((try simp only [aO, SS, TF63Putouts, aM, setRange, aN, aC, aB, aF, aE, aD, aA, Nat.reduceLT, Nat.reduceEqDiff, Nat.reduceAdd, Nat.reduceMul, Nat.reduceSub, Nat.reduceLeDiff, Nat.reduceBEq, reduceCtorEq]); (repeat' ((first | apply aJ | apply aI | apply aL | apply aK | apply aH | apply aG) <;> intro h <;> simp only [h, SS, TF63Putouts, aM, setRange, aN, aC, aB, aF, aE, aD, aA, Nat.reduceLT, Nat.reduceEqDiff, Nat.reduceAdd, Nat.reduceMul, Nat.reduceSub, Nat.reduceLeDiff, Nat.reduceBEq, reduceCtorEq])))
  refine bH (Top.loop (I := fun s : { k : Nat // k ≤ l.length } => (mkF 32 [(4, .int .i64 (s.1 : Nat)), (3, .gsl 0 (bJ (dC (l.take s.1)))), (1, .ptr 0 0)], mkH 1 [(0, some (.row [.str p, .str e, .bool late, .lsl (bF l)] 24 0 0 false))] 1 [(0, some ((dC (l.take s.1)).length, 3))])) (μ := fun s => l.length - s.1) ⟨0, by omega⟩ (aX.trans (aX.grow 3 3 (by omega) (by omega) (by simp [look])) (aX.sub (by simp [look, bJ, dC]))) ?_)
  rintro ⟨k, hk⟩
  refine aS bA _ _ _ _ ?_
  by_cases hlt : k < l.length
  rotate_left
  · obtain rfl : k = l.length := by omega
    have q1 : decide ((l.length : Int) < (l.length : Int)) = false := by simp
    rw [List.take_length]
    ((try simp only [aO, SS, TF63Putouts, aM, setRange, aN, aC, aB, aF, aE, aD, aA, Nat.reduceLT, Nat.reduceEqDiff, Nat.reduceAdd, Nat.reduceMul, Nat.reduceSub, Nat.reduceLeDiff, Nat.reduceBEq, reduceCtorEq, aP, q1]); (repeat' ((first | apply aJ | apply aI | apply aL | apply aK | apply aH | apply aG) <;> intro h <;> simp only [h, SS, TF63Putouts, aM, setRange, aN, aC, aB, aF, aE, aD, aA, Nat.reduceLT, Nat.reduceEqDiff, Nat.reduceAdd, Nat.reduceMul, Nat.reduceSub, Nat.reduceLeDiff, Nat.reduceBEq, reduceCtorEq, aP, q1])))
    (refine hQ _ _ _ (aR (by first | exact .inl rfl | exact .inr rfl) ?_); simp only [SS, TF63Putouts, aM, setRange, aN, aC, aB, aF, aE, aD, aA, Nat.reduceLT, Nat.reduceEqDiff, Nat.reduceAdd, Nat.reduceMul, Nat.reduceSub, Nat.reduceLeDiff, Nat.reduceBEq, reduceCtorEq])
  obtain ⟨m, hx⟩ : ∃ m, l[k]? = some m := ⟨l[k], List.getElem?_eq_getElem hlt⟩
  have q1 : decide ((k : Int) < (l.length : Int)) = true := by simp; omega
  have q2 : IntKind.i64.wrap ((k : Int) + 1) = ((k + 1 : Nat) : Int) := by rw [bE] <;> omega
  have hle : (dC (l.take k)).length ≤ 300 := by
    have h1 := potL_len (l.take k)
    rw [List.length_take] at h1
    omega
  have q3 : 8 * ((dC (l.take k)).length + 1) ≤ 1000000 := by omega
  have htk := potL_take hx
  cases hp : isO m with
  | true =>
    rw [hp, if_pos rfl] at htk
    have hp2 : m.o = true := hp
    have hb : m.b ≠ [] := by
      rcases htb m (List.mem_of_getElem? hx) with h | h
      · rw [hp2] at h; cases h
      · exact h
    have hbl : 0 < m.b.length := List.length_pos_iff.2 hb
    have hbm : m.b.length < 9223372036854775808 := hok m (List.mem_of_getElem? hx)
    have q4 : IntKind.i64.wrap ((m.b.length : Int) - 1) = ((m.b.length - 1 : Nat) : Int) := by rw [bE] <;> omega
    have hlg : m.b[m.b.length - 1]? = some (lastT m) := last_get hb
    ((try simp only [aO, SS, TF63Putouts, aM, setRange, aN, aC, aB, aF, aE, aD, aA, Nat.reduceLT, Nat.reduceEqDiff, Nat.reduceAdd, Nat.reduceMul, Nat.reduceSub, Nat.reduceLeDiff, Nat.reduceBEq, reduceCtorEq, aP, q1, q2, aW, bC, hx, hp2, aQ, q4, aZ, hlg, q3, lensOK_eInts, eInts_snoc]); (repeat' ((first | apply aJ | apply aI | apply aL | apply aK | apply aH | apply aG) <;> intro h <;> simp only [h, SS, TF63Putouts, aM, setRange, aN, aC, aB, aF, aE, aD, aA, Nat.reduceLT, Nat.reduceEqDiff, Nat.reduceAdd, Nat.reduceMul, Nat.reduceSub, Nat.reduceLeDiff, Nat.reduceBEq, reduceCtorEq, aP, q1, q2, aW, bC, hx, hp2, aQ, q4, aZ, hlg, q3, lensOK_eInts, eInts_snoc])))
    refine ⟨⟨k + 1, hlt⟩, by simp; omega, ?_⟩
    simp only [htk, List.length_append, List.length_cons, List.length_nil, Nat.zero_add]
    exact (aX.drop (by simp [look, below, aT]) (by simp [aU, bG, below, aT, aV]) (by simp [aU]))
  | false =>
    rw [hp, if_neg (by simp), List.append_nil] at htk
    have hp2 : m.o = false := hp
    ((try simp only [aO, SS, TF63Putouts, aM, setRange, aN, aC, aB, aF, aE, aD, aA, Nat.reduceLT, Nat.reduceEqDiff, Nat.reduceAdd, Nat.reduceMul, Nat.reduceSub, Nat.reduceLeDiff, Nat.reduceBEq, reduceCtorEq, aP, q1, q2, aW, bC, hx, hp2]); (repeat' ((first | apply aJ | apply aI | apply aL | apply aK | apply aH | apply aG) <;> intro h <;> simp only [h, SS, TF63Putouts, aM, setRange, aN, aC, aB, aF, aE, aD, aA, Nat.reduceLT, Nat.reduceEqDiff, Nat.reduceAdd, Nat.reduceMul, Nat.reduceSub, Nat.reduceLeDiff, Nat.reduceBEq, reduceCtorEq, aP, q1, q2, aW, bC, hx, hp2])))
    refine ⟨⟨k + 1, hlt⟩, by simp; omega, ?_⟩
    simp only [htk]
    exact (aX.drop (by simp [look, below, aT]) (by simp [aU, bG, below, aT, aV]) (by simp [aU]))
end Go.Ev
