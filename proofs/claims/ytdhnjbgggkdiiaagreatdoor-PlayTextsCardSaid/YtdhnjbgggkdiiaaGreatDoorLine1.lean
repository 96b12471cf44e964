import Derived.Test.YtdhnjbgggkdiiaaGreatDoorPlays
set_option linter.unusedSimpArgs false
set_option linter.unusedVariables false
namespace Go.Ev
open Go.RowKit Go.Proofs
set_option linter.defProp false
def TF110Line1 := And.intro (And.intro (And.intro (And.intro (And.intro (@Tryz.underlying3) (And.intro (@sz3) (@bN))) (And.intro (@I3s) (And.intro (@I3b) (@bL)))) (And.intro (And.intro (@bO) (And.intro (@Tryz.underlying4) (@sz4))) (And.intro (And.intro (@dC) (@I4s)) (And.intro (@I4b) (@cY))))) (And.intro (And.intro (And.intro (@dD) (And.intro (@Tryz.underlying9) (@sz9))) (And.intro (And.intro (@bI) (@I9s)) (And.intro (@I9b) (@bH)))) (And.intro (And.intro (@bJ) (And.intro (@Tryz.underlying22) (@eN))) (And.intro (And.intro (@dO) (@eO)) (And.intro (@eP) (@dH)))))) (And.intro (And.intro (And.intro (And.intro (@dP) (And.intro (@Tryz.underlying24) (@sz24))) (And.intro (@fok24) (And.intro (@info24) (@I24s)))) (And.intro (And.intro (@I24b) (And.intro (@zero24) (@grow24))) (And.intro (And.intro (@Tryz.underlying25) (@eB)) (And.intro (@cE) (@eC))))) (And.intro (And.intro (And.intro (@eD) (And.intro (@cC) (@cF))) (And.intro (And.intro (@Tryz.underlying27) (@eE)) (And.intro (@dF) (@cJ)))) (And.intro (And.intro (@eF) (And.intro (@eG) (@cH))) (And.intro (And.intro (@cK) (@call31)) (And.intro (@call146) (@Tryz.results110))))))
def TF146Line1 := And.intro (And.intro (And.intro (@Tryz.underlying9) (@sz9)) (And.intro (@bI) (@I9s))) (And.intro (And.intro (@I9b) (@bH)) (And.intro (@bJ) (And.intro (@call171) (@Tryz.results146))))
def TF171Line1 := And.intro (And.intro (And.intro (And.intro (@Tryz.underlying3) (@sz3)) (And.intro (@bN) (@I3s))) (And.intro (And.intro (@I3b) (@bL)) (And.intro (@bO) (@Tryz.underlying9)))) (And.intro (And.intro (And.intro (@sz9) (@bI)) (And.intro (@I9s) (@I9b))) (And.intro (And.intro (@bH) (@bJ)) (And.intro (@call185) (@Tryz.results171))))
def TF185Line1 := And.intro (And.intro (And.intro (@Tryz.underlying3) (And.intro (@sz3) (@bN))) (And.intro (And.intro (@I3s) (@I3b)) (And.intro (@bL) (@bO)))) (And.intro (And.intro (And.intro (@Tryz.underlying9) (@sz9)) (And.intro (@bI) (@I9s))) (And.intro (And.intro (@I9b) (@bH)) (And.intro (@bJ) (@Tryz.results185))))
set_option maxRecDepth 20000
set_option maxHeartbeats 8000000

/-! the play of a line -/
def endsC (l : List Nat) : Bool := decide (1 ≤ l.length) && decide (l.drop (l.length - 1) = [10])
def F185 : List EVal → Option EVal
  | [.str l, .str [10]] => if l.length < 1000000000 then some (.bool (endsC l)) else none
  | _ => none
theorem fn185 : FnT 185 F185 := by
  refine Fn.intro mixed aI Tryz.func185 rfl [] (fun _ h => by cases h) ?_
  intro args v hF
  unfold F185 at hF
  split at hF
  rotate_left
  · cases hF
  intro Q hV
  have hQ := aS.of hV
  rename_i l
  split at hF
  rotate_left
  · cases hF
  rename_i h
  cases hF
  refine Top.view (aH.start (n := 21) rfl (by simp)) (aD aI _ _ _ _ ?_)
  by_cases hl : 1 ≤ l.length
  · have q1 : decide (((1 : Nat) : Int) ≤ (l.length : Int)) = true := by simp; omega
    have w1 : IntKind.i64.wrap ((l.length : Int) - ((1 : Nat) : Int)) = ((l.length - 1 : Nat) : Int) := by rw [aR] <;> omega
    have b1 : (((l.length - 1 : Nat) : Int) ≤ (l.length : Int)) = True := by simp only [eq_iff_iff, iff_true]; omega
    have t1 : l.take l.length = l := List.take_length
    have d1 : endsC l = decide (l.drop (l.length - 1) = [10]) := by simp [endsC, hl]
    (try simp only [aG, SS, TF185Line1, aA, aQ, Nat.reduceLT, Nat.reduceEqDiff, reduceCtorEq, q1, w1, b1, t1])
    (refine hQ _ _ _ (aC (by first | exact .inl rfl | exact .inr rfl) ?_); simp only [SS, TF185Line1, Nat.reduceLT, Nat.reduceEqDiff, reduceCtorEq])
    rw [d1]
  · have q1 : decide (((1 : Nat) : Int) ≤ (l.length : Int)) = false := by simp; omega
    have d1 : endsC l = false := by simp [endsC, hl]
    (try simp only [aG, SS, TF185Line1, aA, Nat.reduceLT, Nat.reduceEqDiff, reduceCtorEq, q1])
    (refine hQ _ _ _ (aC (by first | exact .inl rfl | exact .inr rfl) ?_); simp only [SS, TF185Line1, Nat.reduceLT, Nat.reduceEqDiff, reduceCtorEq])
    rw [d1]
def cutS (l : List Nat) : EVal := if endsC l = true then .tup [.str (l.take (l.length - 1)), .bool true] else .tup [.str l, .bool false]
def F171 : List EVal → Option EVal
  | [.str l, .str [10]] => if l.length < 1000000000 then some (cutS l) else none
  | _ => none
theorem fn171 : FnT 171 F171 := by
  refine Fn.intro mixed aI Tryz.func171 rfl [(185, F185)] (by simp only [List.forall_mem_cons]; exact ⟨fn185, fun _ h => by cases h⟩) ?_
  intro args v hF
  unfold F171 at hF
  split at hF
  rotate_left
  · cases hF
  intro Q hV
  have hQ := aS.of hV
  rename_i l
  split at hF
  rotate_left
  · cases hF
  rename_i h
  cases hF
  have h185 : F185 [.str l, .str [10]] = some (.bool (endsC l)) := by simp only [F185]; rw [if_pos h]
  refine Top.view (aH.start (n := 18) rfl (by simp)) (aD aI _ _ _ _ ?_)
  cases he : endsC l with
  | true =>
    rw [he] at h185
    have hl : 1 ≤ l.length := by simp [endsC] at he; omega
    have w1 : IntKind.i64.wrap ((l.length : Int) - ((1 : Nat) : Int)) = ((l.length - 1 : Nat) : Int) := by rw [aR] <;> omega
    have b1 : (((l.length - 1 : Nat) : Int) ≤ (l.length : Int)) = True := by simp only [eq_iff_iff, iff_true]; omega
    (try simp only [aG, SS, TF171Line1, aF, aA, aQ, Nat.reduceLT, Nat.reduceEqDiff, reduceCtorEq, h185, w1, b1])
    (refine hQ _ _ _ (aC (by first | exact .inl rfl | exact .inr rfl) ?_); simp only [SS, TF171Line1, Nat.reduceLT, Nat.reduceEqDiff, reduceCtorEq])
    simp only [cutS, he, if_true]
  | false =>
    rw [he] at h185
    (try simp only [aG, SS, TF171Line1, aF, aA, Nat.reduceLT, Nat.reduceEqDiff, reduceCtorEq, h185])
    (refine hQ _ _ _ (aC (by first | exact .inl rfl | exact .inr rfl) ?_); simp only [SS, TF171Line1, Nat.reduceLT, Nat.reduceEqDiff, reduceCtorEq])
    simp only [cutS, he]; rfl
def F146 : List EVal → Option EVal
  | [.str l, .str [10]] => if l.length < 1000000000 then some (cutS l) else none
  | _ => none
theorem fn146 : FnT 146 F146 := by
  refine Fn.intro mixed aI Tryz.func146 rfl [(171, F171)] (by simp only [List.forall_mem_cons]; exact ⟨fn171, fun _ h => by cases h⟩) ?_
  intro args v hF
  unfold F146 at hF
  split at hF
  rotate_left
  · cases hF
  intro Q hV
  have hQ := aS.of hV
  rename_i l
  split at hF
  rotate_left
  · cases hF
  rename_i h
  cases hF
  have h171 : F171 [.str l, .str [10]] = some (cutS l) := by simp only [F171]; rw [if_pos h]
  refine Top.view (aH.start (n := 11) rfl (by simp)) (aD aI _ _ _ _ ?_)
  unfold cutS at h171 hQ
  split at h171
  · rename_i hh
    rw [if_pos hh] at hQ
    (try simp only [aG, SS, TF146Line1, aF, aA, Nat.reduceLT, Nat.reduceEqDiff, reduceCtorEq, h171])
    (refine hQ _ _ _ (aC (by first | exact .inl rfl | exact .inr rfl) ?_); simp only [SS, TF146Line1, Nat.reduceLT, Nat.reduceEqDiff, reduceCtorEq])
  · rename_i hh
    rw [if_neg hh] at hQ
    (try simp only [aG, SS, TF146Line1, aF, aA, Nat.reduceLT, Nat.reduceEqDiff, reduceCtorEq, h171])
    (refine hQ _ _ _ (aC (by first | exact .inl rfl | exact .inr rfl) ?_); simp only [SS, TF146Line1, Nat.reduceLT, Nat.reduceEqDiff, reduceCtorEq])
theorem e146 {l : List Nat} (h : l.length < 1000000000) : F146 [.str l, .str [10]] = some (cutS l) := by simp only [F146]; rw [if_pos h]
/-- the play of a line, and the error -/
def lineT (l : List Nat) (n : Int) : Pl × Int := if endsC l = true then (if 256 ≤ n then (pl0, 5) else ((cI (l.take (l.length - 1))).1, (cI (l.take (l.length - 1))).2.2)) else (pl0, 25)
def F110 : List EVal → Option EVal
  | [.str l, .int .i64 n] => if aM l = true ∧ l.length ≤ 5000 then some (.tup [plE (lineT l n).1, .int .i64 (lineT l n).2]) else none
  | _ => none
theorem e110 {l : List Nat} {n : Int} (h : aM l = true) (h2 : l.length ≤ 5000) : F110 [.str l, .int .i64 n] = some (.tup [plE (lineT l n).1, .int .i64 (lineT l n).2]) := by simp only [F110]; rw [if_pos ⟨h, h2⟩]
theorem bytesB_take {l : List Nat} {k : Nat} (h : aM l = true) : aM (l.take k) = true := by
  simp only [aM, List.all_eq_true] at h ⊢
  exact fun x hx => h x (List.mem_of_mem_take hx)
theorem fn110 : FnT 110 F110 := by
  refine Fn.intro mixed aI Tryz.func110 rfl [(31, F31), (146, F146)] (by simp only [List.forall_mem_cons]; exact ⟨fn31, fn146, fun _ h => by cases h⟩) ?_
  intro args v hF
  unfold F110 at hF
  split at hF
  rotate_left
  · cases hF
  intro Q hV
  have hQ := aS.of hV
  rename_i l n
  split at hF
  rotate_left
  · cases hF
  rename_i hc
  obtain ⟨hby, hlen⟩ := hc
  cases hF
  have h146 := e146 (l := l) (by omega)
  have u10 : UInt8.toNat 10 = 10 := rfl
  unfold lineT at hQ hV
  refine Top.view (aH.start (n := 30) rfl (by simp)) (aD aI _ _ _ _ ?_)
  cases he : endsC l with
  | false =>
    rw [he, if_neg (by simp)] at hQ
    simp only [cutS, he, Bool.false_eq_true, if_false] at h146
    (try simp only [aG, SS, TF110Line1, aF, setRange, aA, aO, Nat.reduceLT, Nat.reduceEqDiff, Nat.reduceAdd, reduceCtorEq, u10, h146])
    (refine hQ _ _ _ (aC (by first | exact .inl rfl | exact .inr rfl) ?_); simp only [SS, TF110Line1, Nat.reduceLT, Nat.reduceEqDiff, Nat.reduceAdd, reduceCtorEq, plE, pl0])
    rfl
  | true =>
    rw [he, if_pos rfl] at hQ
    simp only [cutS, he, if_true] at h146
    by_cases hn : 256 ≤ n
    · rw [if_pos hn] at hQ
      have q1 : decide ((256 : Int) ≤ n) = true := by simp; omega
      (try simp only [aG, SS, TF110Line1, aF, setRange, aA, aO, Nat.reduceLT, Nat.reduceEqDiff, Nat.reduceAdd, reduceCtorEq, u10, h146, q1])
      (refine hQ _ _ _ (aC (by first | exact .inl rfl | exact .inr rfl) ?_); simp only [SS, TF110Line1, Nat.reduceLT, Nat.reduceEqDiff, Nat.reduceAdd, reduceCtorEq, plE, pl0])
      rfl
    rw [if_neg hn] at hQ
    have q1 : decide ((256 : Int) ≤ n) = false := by simp; omega
    obtain ⟨w, hw⟩ : ∃ w, w = l.take (l.length - 1) := ⟨_, rfl⟩
    have hwb : aM w = true := by rw [hw]; exact bytesB_take hby
    have hwl : w.length ≤ 5000 := by rw [hw, List.length_take]; omega
    have h31 := e31 hwb hwl
    rw [← hw] at h146 hQ
    unfold parseE plE at h31
    unfold plE at hQ
    obtain ⟨G, hG⟩ : ∃ G, G = (cI w).1 := ⟨_, rfl⟩
    obtain ⟨a1, ha1⟩ : ∃ a1 : Int, a1 = (((cI w).2.1 : Nat) : Int) := ⟨_, rfl⟩
    obtain ⟨a2, ha2⟩ : ∃ a2, a2 = (cI w).2.2 := ⟨_, rfl⟩
    rw [← hG, ← ha1, ← ha2] at h31
    rw [← hG, ← ha2] at hQ
    (try simp only [aG, SS, TF110Line1, aF, setRange, aA, Nat.reduceLT, Nat.reduceEqDiff, Nat.reduceAdd, reduceCtorEq, u10, h146, q1, h31])
    (refine hQ _ _ _ (aC (by first | exact .inl rfl | exact .inr rfl) ?_); simp only [SS, TF110Line1, Nat.reduceLT, Nat.reduceEqDiff, Nat.reduceAdd, reduceCtorEq])
end Go.Ev
