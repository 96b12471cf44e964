import Derived.Test.YtcmlciebgapmjaaGreatDoorHelped
import Derived.Test.YtcmlciebgapmjaaGreatDoorCopy2
import Derived.Test.YtcmlciebgapmjaaGreatDoorPlayNames
set_option linter.unusedSimpArgs false
set_option linter.unusedVariables false
namespace Go.Ev
open Go.RowKit Go.Proofs
set_option linter.defProp false
def aW := And.intro (And.intro (And.intro (And.intro (And.intro (And.intro (@Tryz.underlying3) (@sz3)) (And.intro (@bS) (And.intro (@I3s) (@I3b)))) (And.intro (And.intro (@bR) (@bU)) (And.intro (@Tryz.underlying4) (And.intro (@sz4) (@cW))))) (And.intro (And.intro (And.intro (@I4s) (@I4b)) (And.intro (@cU) (And.intro (@cX) (@Tryz.underlying9)))) (And.intro (And.intro (@sz9) (@cK)) (And.intro (@I9s) (And.intro (@I9b) (@cH)))))) (And.intro (And.intro (And.intro (And.intro (@cL) (@Tryz.underlying22)) (And.intro (@sz22) (And.intro (@info22) (@I22s)))) (And.intro (And.intro (@I22b) (@zero22)) (And.intro (@grow22) (And.intro (@Tryz.underlying24) (@sz24))))) (And.intro (And.intro (And.intro (@fok24) (@info24)) (And.intro (@I24s) (And.intro (@I24b) (@zero24)))) (And.intro (And.intro (@grow24) (And.intro (@Tryz.underlying25) (@dD))) (And.intro (@bY) (And.intro (@dE) (@dF))))))) (And.intro (And.intro (And.intro (And.intro (And.intro (@bW) (@bZ)) (And.intro (@Tryz.underlying27) (And.intro (@dM) (@dA)))) (And.intro (And.intro (@cM) (@dN)) (And.intro (@dO) (And.intro (@cJ) (@cN))))) (And.intro (And.intro (And.intro (@Tryz.underlying30) (@sz30)) (And.intro (@info30) (And.intro (@I30s) (@I30b)))) (And.intro (And.intro (@zero30) (@grow30)) (And.intro (@Tryz.underlying86) (And.intro (@sz86) (@info86)))))) (And.intro (And.intro (And.intro (And.intro (@I86s) (@I86b)) (And.intro (@zero86) (And.intro (@grow86) (@call16)))) (And.intro (And.intro (@call17) (@call19)) (And.intro (@call20) (And.intro (@call29) (@call47))))) (And.intro (And.intro (And.intro (@call57) (@call58)) (And.intro (@call59) (And.intro (@call60) (@call61)))) (And.intro (And.intro (@call62) (And.intro (@call63) (@call64))) (And.intro (@call65) (And.intro (@call66) (@Tryz.results9)))))))
set_option maxRecDepth 20000
set_option maxHeartbeats 8000000

def mv0 : Mv := ⟨0, 0, false, [], []⟩
theorem eqItems_eRow : ∀ l : List Int, eqItemsE Tryz.prog 3 (bX l) (bX l) = some true
  | [] => rfl
  | a :: l => by
    have ih := eqItems_eRow l
    show (match eqBasic Tryz.prog 3 (.int .i64 a) (.int .i64 a) with | some true => eqItemsE Tryz.prog 3 (bX l) (bX l) | some false => some false | none => none) = some true
    simp only [eqBasic, Tryz.underlying3, eqIntE, if_true, beq_self_eq_true, ih]
theorem egC86 : Tryz.prog.eqGuardType Tryz.prog.depth 86 = false := by kernel_rfl
theorem eqX86 {l : List Int} (h : l.length = 9) : eqX Tryz.prog 86 (.agg (bX l)) (.agg (bX l)) = some true := by
  simp only [eqX, Tryz.underlying86, eqAgg, egC86, sz3, eRow_length, h, and_self, if_true, eqItems_eRow]
theorem nine0_q : bX cV = [.int .i64 0, .int .i64 0, .int .i64 0, .int .i64 0, .int .i64 0, .int .i64 0, .int .i64 0, .int .i64 0, .int .i64 0] := (rfl)
theorem find_ix {c : Int} {l : List Mv} {m : Mv} (h : l.find? (fun m => m.f == c) = some m) : ∃ k : Nat, l[k]? = some m ∧ k < l.length ∧ mvIx c l = (k : Int) := by
  rw [List.find?_eq_some_iff_getElem] at h
  obtain ⟨h1, k, hk, rfl, h3⟩ := h
  refine ⟨k, List.getElem?_eq_getElem hk, hk, mvIx_hit (List.getElem?_eq_getElem hk) (fun x hx => ?_) h1⟩
  obtain ⟨j, hj, rfl⟩ := List.mem_take_iff_getElem.1 hx
  have := h3 j (by omega)
  simpa using this
theorem find_ix_none {c : Int} {l : List Mv} (h : l.find? (fun m => m.f == c) = none) : mvIx c l = -1 := by
  apply mvIx_none
  rw [List.take_length]
  intro x hx
  have := List.find?_eq_none.1 h x hx
  simpa using this
def moveR (l : List Mv) (c z : Int) : Mv × Int := if z = 0 then (match l.find? (fun m => m.f == c) with | some m => (m, 0) | none => (mv0, 7)) else (mv0, z)
theorem moveR_q {p e : List Nat} {l : List Mv} {c z : Int} (hz : cA [playE p e l, cQ c 0 3] = z) : moveOfE p e l c = .tup [.agg (eMove (moveR l c z).1), .int .i64 (moveR l c z).2] := by
  unfold moveOfE moveR moveAt
  rw [hz]
  generalize l.find? (fun m => m.f == c) = x
  split
  · cases x <;> rfl
  · rfl
def helpR (l : List Mv) (c z : Int) : List Int × Int := if z = 0 then (match l.find? (fun m => m.f == c) with | some m => if m.o = true then (helpL m.b 9, 0) else ([], 15) | none => ([], 7)) else ([], z)
theorem helpR_q {p e : List Nat} {l : List Mv} {c z : Int} (hz : cA [playE p e l, cQ c 0 3] = z) : assistsE p e l c = .tup [.lsl (bJ (helpR l c z).1), .int .i64 (helpR l c z).2] := by
  unfold assistsE helpR helpedAt
  rw [hz]
  generalize l.find? (fun m => m.f == c) = x
  split
  · cases x with
    | none => rfl
    | some m => by_cases h : m.o = true <;> simp [h, bJ]
  · rfl
def touR (l : List Mv) (z : Int) : List Int := if z = 0 then dP cV l else cV
theorem touR_q {p e : List Nat} {l : List Mv} {z : Int} (hz : playE p e l = z) : touchesE p e l = .tup [.agg (bX (touR l z)), .int .i64 z] := by
  unfold touchesE touR
  rw [hz]
  split
  · rename_i h; rw [h]
  · rfl
theorem touR_len (l : List Mv) (z : Int) : (touR l z).length = 9 := by
  unfold touR; split
  · exact tchL_len l cV
  · rfl
def putR (l : List Mv) (z : Int) : List Int := if z = 0 then potL l else []
theorem putR_q {p e : List Nat} {l : List Mv} {z : Int} (hz : playE p e l = z) : putE p e l = .tup [.lsl (bJ (putR l z)), .int .i64 z] := by
  unfold putE putR
  rw [hz]
  split
  · rename_i h; rw [h]
  · rfl
def F9 : List EVal → Option EVal
  | [.agg [.str p, .str e, .bool _, ms], .int .i64 _] => if cZ p = true ∧ cZ e = true then (bT ms).map fun _ => .bool true else none
  | _ => none
theorem fn9 : FnT 9 F9 := by
  refine Fn.intro mixed bA Tryz.func9 rfl [(16, F16), (17, F17), (19, F19), (20, F20), (29, F29), (47, F47), (57, F57), (58, F58), (59, F59), (60, F60), (61, F61), (62, F62), (63, F63), (64, F64), (65, F65), (66, F66)] (by simp only [List.forall_mem_cons]; exact ⟨fn16, fn17, fn19, fn20, fn29, fn47, fn57, fn58, fn59, fn60, fn61, fn62, fn63, fn64, fn65, fn66, fun _ h => by cases h⟩) ?_
  intro args v hF
  unfold F9 at hF
  split at hF
  rotate_left
  · cases hF
  intro Q hV
  have hQ := bL.of hV
  rename_i p e late ms c
  split at hF
  rotate_left
  · cases hF
  rename_i hb
  cases ha : bT ms with
  | none => rw [ha] at hF; cases hF
  | some l =>
  rw [ha] at hF
  cases hF
  obtain ⟨rfl, hlen, hok⟩ := bV ha
  clear ha
  dsimp only at hQ hV
  have h16 := e16
  have h17 : F17 [.agg [.str p, .str e, .bool late, .lsl (bE l)]] = some (.bool (shortB p e l)) := by simp only [F17, dMoves_e hlen hok, Option.map_some]
  refine Top.view (aY.start (n := 133) rfl (by simp)) (aS bA _ _ _ _ ?_)
  apply wp_cut
  · intro R hR
    ((try simp only [aO, SS, aW, aM, setRange, aN, aC, aB, aF, aE, aD, aA, Nat.reduceLT, Nat.reduceEqDiff, Nat.reduceAdd, Nat.reduceMul, Nat.reduceSub, Nat.reduceLeDiff, Nat.reduceBEq, reduceCtorEq]); (repeat' ((first | apply aJ | apply aI | apply aL | apply aK | apply aH | apply aG) <;> intro h <;> simp only [h, SS, aW, aM, setRange, aN, aC, aB, aF, aE, aD, aA, Nat.reduceLT, Nat.reduceEqDiff, Nat.reduceAdd, Nat.reduceMul, Nat.reduceSub, Nat.reduceLeDiff, Nat.reduceBEq, reduceCtorEq])))
    exact hR
  cases hsh : shortB p e l with
  | false =>
    ((try simp only [aO, SS, aW, aM, setRange, aN, aC, aB, aF, aE, aD, aA, Nat.reduceLT, Nat.reduceEqDiff, Nat.reduceAdd, Nat.reduceMul, Nat.reduceSub, Nat.reduceLeDiff, Nat.reduceBEq, reduceCtorEq, h16, h17, hsh]); (repeat' ((first | apply aJ | apply aI | apply aL | apply aK | apply aH | apply aG) <;> intro h <;> simp only [h, SS, aW, aM, setRange, aN, aC, aB, aF, aE, aD, aA, Nat.reduceLT, Nat.reduceEqDiff, Nat.reduceAdd, Nat.reduceMul, Nat.reduceSub, Nat.reduceLeDiff, Nat.reduceBEq, reduceCtorEq, h16, h17, hsh])))
    (refine hQ _ _ _ (aQ (by first | exact .inl rfl | exact .inr rfl) ?_); simp only [SS, aW, aM, setRange, aN, aC, aB, aF, aE, aD, aA, Nat.reduceLT, Nat.reduceEqDiff, Nat.reduceAdd, Nat.reduceMul, Nat.reduceSub, Nat.reduceLeDiff, Nat.reduceBEq, reduceCtorEq])
  | true =>
  apply wp_cut
  · intro R hR
    ((try simp only [aO, SS, aW, aM, setRange, aN, aC, aB, aF, aE, aD, aA, Nat.reduceLT, Nat.reduceEqDiff, Nat.reduceAdd, Nat.reduceMul, Nat.reduceSub, Nat.reduceLeDiff, Nat.reduceBEq, reduceCtorEq, h16, h17, hsh]); (repeat' ((first | apply aJ | apply aI | apply aL | apply aK | apply aH | apply aG) <;> intro h <;> simp only [h, SS, aW, aM, setRange, aN, aC, aB, aF, aE, aD, aA, Nat.reduceLT, Nat.reduceEqDiff, Nat.reduceAdd, Nat.reduceMul, Nat.reduceSub, Nat.reduceLeDiff, Nat.reduceBEq, reduceCtorEq, h16, h17, hsh])))
    exact hR
  have h19 := e19 (p := p) (e := e) (late := late) hlen hok (short_copy3 hsh)
  obtain ⟨zp, hzp⟩ : ∃ z, playE p e l = z := ⟨_, rfl⟩
  obtain ⟨z, hz⟩ : ∃ z, cA [playE p e l, cQ c 0 3] = z := ⟨_, rfl⟩
  have h57 : F57 [.agg [.str p, .str e, .bool late, .lsl (bE l)], .int .i64 c] = some (.tup [.agg (eMove (moveR l c z).1), .int .i64 (moveR l c z).2]) := by
    simp only [F57, dMoves_e hlen hok, Option.map_some]; rw [if_pos hb, moveR_q hz]
  have h58 : F58 [.agg [.str p, .str e, .bool late, .lsl (bE l)]] = some (.tup [.agg (bX (touR l zp)), .int .i64 zp]) := by
    simp only [F58, dMoves_e hlen hok, Option.map_some]; rw [if_pos hb, touR_q hzp]
  have h59 : F59 [.agg [.str p, .str e, .bool late, .lsl (bE l)]] = some (.tup [.lsl (bJ (putR l zp)), .int .i64 zp]) := by
    simp only [F59, dMoves_e hlen hok, Option.map_some]; rw [if_pos hb, putR_q hzp]
  have h60 : F60 [.agg [.str p, .str e, .bool late, .lsl (bE l)], .int .i64 c] = some (.tup [.lsl (bJ (helpR l c z).1), .int .i64 (helpR l c z).2]) := by
    simp only [F60, dMoves_e hlen hok, Option.map_some]; rw [if_pos hb, helpR_q hz]
  have h20 : F20 [.agg [.str p, .str e, .bool late, .lsl (bE l)]] = some (.int .i64 zp) := by simp only [F20, dMoves_e hlen hok, Option.map_some, hzp]
  have hz' : cA [zp, cQ c 0 3] = z := by rw [← hzp]; exact hz
  have hT9 := touR_len l zp
  have hMok : okMv (moveR l c z).1 := by
    unfold moveR
    split
    · split
      · rename_i hfd; exact hok _ (List.mem_of_find?_eq_some hfd)
      · show (0 : Nat) < _; omega
    · show (0 : Nat) < _; omega
  have hPl : (putR l zp).length < 9223372036854775808 := by
    unfold putR; split
    · exact Nat.lt_of_le_of_lt (potL_len l) hlen
    · simp
  have hHl : (helpR l c z).1.length < 9223372036854775808 := by
    unfold helpR
    repeat' split
    all_goals first | (simp; done) | (exact Nat.lt_of_le_of_lt (helpL_len _ 9) (by omega))
  obtain ⟨M, hM⟩ : ∃ M, M = (moveR l c z).1 := ⟨_, rfl⟩
  obtain ⟨e1, he1⟩ : ∃ x, x = (moveR l c z).2 := ⟨_, rfl⟩
  obtain ⟨T, hT⟩ : ∃ T, T = touR l zp := ⟨_, rfl⟩
  obtain ⟨Pt, hPt⟩ : ∃ T, T = putR l zp := ⟨_, rfl⟩
  obtain ⟨A, hA⟩ : ∃ T, T = (helpR l c z).1 := ⟨_, rfl⟩
  obtain ⟨e4, he4⟩ : ∃ x, x = (helpR l c z).2 := ⟨_, rfl⟩
  rw [← hM, ← he1, bB] at h57
  rw [← hM] at hMok
  rw [← hT] at h58 hT9
  rw [← hPt] at h59 hPl
  rw [← hA, ← he4] at h60
  rw [← hA] at hHl
  have hr9 : (bX T).length = 9 := by rw [eRow_length, hT9]
  have ht9 : (bX T).take 9 = bX T := by rw [← hr9, List.take_length]
  have ha9 := allOne_eRow T
  apply wp_cut
  · intro R hR
    ((try simp only [aO, SS, aW, aM, setRange, aN, aC, aB, aF, aE, aD, aA, Nat.reduceLT, Nat.reduceEqDiff, Nat.reduceAdd, Nat.reduceMul, Nat.reduceSub, Nat.reduceLeDiff, Nat.reduceBEq, reduceCtorEq, h19, h57]); (repeat' ((first | apply aJ | apply aI | apply aL | apply aK | apply aH | apply aG) <;> intro h <;> simp only [h, SS, aW, aM, setRange, aN, aC, aB, aF, aE, aD, aA, Nat.reduceLT, Nat.reduceEqDiff, Nat.reduceAdd, Nat.reduceMul, Nat.reduceSub, Nat.reduceLeDiff, Nat.reduceBEq, reduceCtorEq, h19, h57])))
    exact hR
  apply wp_cut
  · intro R hR
    ((try simp only [aO, SS, aW, aM, setRange, aN, aC, aB, aF, aE, aD, aA, Nat.reduceLT, Nat.reduceEqDiff, Nat.reduceAdd, Nat.reduceMul, Nat.reduceSub, Nat.reduceLeDiff, Nat.reduceBEq, reduceCtorEq, h19, h58, hr9, ha9]); (repeat' ((first | apply aJ | apply aI | apply aL | apply aK | apply aH | apply aG) <;> intro h <;> simp only [h, SS, aW, aM, setRange, aN, aC, aB, aF, aE, aD, aA, Nat.reduceLT, Nat.reduceEqDiff, Nat.reduceAdd, Nat.reduceMul, Nat.reduceSub, Nat.reduceLeDiff, Nat.reduceBEq, reduceCtorEq, h19, h58, hr9, ha9])))
    exact hR
  apply wp_cut
  · intro R hR
    ((try simp only [aO, SS, aW, aM, setRange, aN, aC, aB, aF, aE, aD, aA, Nat.reduceLT, Nat.reduceEqDiff, Nat.reduceAdd, Nat.reduceMul, Nat.reduceSub, Nat.reduceLeDiff, Nat.reduceBEq, reduceCtorEq, h19, h59]); (repeat' ((first | apply aJ | apply aI | apply aL | apply aK | apply aH | apply aG) <;> intro h <;> simp only [h, SS, aW, aM, setRange, aN, aC, aB, aF, aE, aD, aA, Nat.reduceLT, Nat.reduceEqDiff, Nat.reduceAdd, Nat.reduceMul, Nat.reduceSub, Nat.reduceLeDiff, Nat.reduceBEq, reduceCtorEq, h19, h59])))
    exact hR
  apply wp_cut
  · intro R hR
    ((try simp only [aO, SS, aW, aM, setRange, aN, aC, aB, aF, aE, aD, aA, Nat.reduceLT, Nat.reduceEqDiff, Nat.reduceAdd, Nat.reduceMul, Nat.reduceSub, Nat.reduceLeDiff, Nat.reduceBEq, reduceCtorEq, h19, h60]); (repeat' ((first | apply aJ | apply aI | apply aL | apply aK | apply aH | apply aG) <;> intro h <;> simp only [h, SS, aW, aM, setRange, aN, aC, aB, aF, aE, aD, aA, Nat.reduceLT, Nat.reduceEqDiff, Nat.reduceAdd, Nat.reduceMul, Nat.reduceSub, Nat.reduceLeDiff, Nat.reduceBEq, reduceCtorEq, h19, h60])))
    exact hR
  apply wp_cut
  · intro R hR
    ((try simp only [aO, SS, aW, aM, setRange, aN, aC, aB, aF, aE, aD, aA, Nat.reduceLT, Nat.reduceEqDiff, Nat.reduceAdd, Nat.reduceMul, Nat.reduceSub, Nat.reduceLeDiff, Nat.reduceBEq, reduceCtorEq, h20]); (repeat' ((first | apply aJ | apply aI | apply aL | apply aK | apply aH | apply aG) <;> intro h <;> simp only [h, SS, aW, aM, setRange, aN, aC, aB, aF, aE, aD, aA, Nat.reduceLT, Nat.reduceEqDiff, Nat.reduceAdd, Nat.reduceMul, Nat.reduceSub, Nat.reduceLeDiff, Nat.reduceBEq, reduceCtorEq, h20])))
    exact hR
  apply wp_cut
  · intro R hR
    ((try simp only [aO, SS, aW, aM, setRange, aN, aC, aB, aF, aE, aD, aA, Nat.reduceLT, Nat.reduceEqDiff, Nat.reduceAdd, Nat.reduceMul, Nat.reduceSub, Nat.reduceLeDiff, Nat.reduceBEq, reduceCtorEq]); (repeat' ((first | apply aJ | apply aI | apply aL | apply aK | apply aH | apply aG) <;> intro h <;> simp only [h, SS, aW, aM, setRange, aN, aC, aB, aF, aE, aD, aA, Nat.reduceLT, Nat.reduceEqDiff, Nat.reduceAdd, Nat.reduceMul, Nat.reduceSub, Nat.reduceLeDiff, Nat.reduceBEq, reduceCtorEq])))
    exact hR
  apply wp_cut
  · intro R hR
    ((try simp only [aO, SS, aW, aM, setRange, aN, aC, aB, aF, aE, aD, aA, Nat.reduceLT, Nat.reduceEqDiff, Nat.reduceAdd, Nat.reduceMul, Nat.reduceSub, Nat.reduceLeDiff, Nat.reduceBEq, reduceCtorEq]); (repeat' ((first | apply aJ | apply aI | apply aL | apply aK | apply aH | apply aG) <;> intro h <;> simp only [h, SS, aW, aM, setRange, aN, aC, aB, aF, aE, aD, aA, Nat.reduceLT, Nat.reduceEqDiff, Nat.reduceAdd, Nat.reduceMul, Nat.reduceSub, Nat.reduceLeDiff, Nat.reduceBEq, reduceCtorEq])))
    exact hR
  apply wp_cut
  · intro R hR
    ((try simp only [aO, SS, aW, aM, setRange, aN, aC, aB, aF, aE, aD, aA, Nat.reduceLT, Nat.reduceEqDiff, Nat.reduceAdd, Nat.reduceMul, Nat.reduceSub, Nat.reduceLeDiff, Nat.reduceBEq, reduceCtorEq]); (repeat' ((first | apply aJ | apply aI | apply aL | apply aK | apply aH | apply aG) <;> intro h <;> simp only [h, SS, aW, aM, setRange, aN, aC, aB, aF, aE, aD, aA, Nat.reduceLT, Nat.reduceEqDiff, Nat.reduceAdd, Nat.reduceMul, Nat.reduceSub, Nat.reduceLeDiff, Nat.reduceBEq, reduceCtorEq])))
    exact hR
  apply wp_cut
  · intro R hR
    ((try simp only [aO, SS, aW, aM, setRange, aN, aC, aB, aF, aE, aD, aA, Nat.reduceLT, Nat.reduceEqDiff, Nat.reduceAdd, Nat.reduceMul, Nat.reduceSub, Nat.reduceLeDiff, Nat.reduceBEq, reduceCtorEq, e61', e47two, hz']); (repeat' ((first | apply aJ | apply aI | apply aL | apply aK | apply aH | apply aG) <;> intro h <;> simp only [h, SS, aW, aM, setRange, aN, aC, aB, aF, aE, aD, aA, Nat.reduceLT, Nat.reduceEqDiff, Nat.reduceAdd, Nat.reduceMul, Nat.reduceSub, Nat.reduceLeDiff, Nat.reduceBEq, reduceCtorEq, e61', e47two, hz'])))
    exact hR
  apply wp_cut
  · intro R hR
    ((try simp only [aO, SS, aW, aM, setRange, aN, aC, aB, aF, aE, aD, aA, Nat.reduceLT, Nat.reduceEqDiff, Nat.reduceAdd, Nat.reduceMul, Nat.reduceSub, Nat.reduceLeDiff, Nat.reduceBEq, reduceCtorEq]); (repeat' ((first | apply aJ | apply aI | apply aL | apply aK | apply aH | apply aG) <;> intro h <;> simp only [h, SS, aW, aM, setRange, aN, aC, aB, aF, aE, aD, aA, Nat.reduceLT, Nat.reduceEqDiff, Nat.reduceAdd, Nat.reduceMul, Nat.reduceSub, Nat.reduceLeDiff, Nat.reduceBEq, reduceCtorEq])))
    exact hR
  have i0 : bJ [] = [] := rfl
  have hlist : ∀ (x : List Int) (y : Int), x.length < 9223372036854775808 → (y = 0 ∨ x = []) → F29 [.lsl (bJ x), .int .i64 y, .int .i64 y, .lsl (bJ x)] = some (.bool true) := by
    intro x y hx hy
    rw [e29 hx hx]
    rcases hy with rfl | rfl
    · simp [listB]
    · by_cases h : y = 0 <;> simp [listB, h]
  have h66z : F66 [.agg [.int .i64 0, .int .i64 0, .bool false, .str [], .lsl []], .agg [.int .i64 0, .int .i64 0, .bool false, .str [], .lsl []]] = some (.bool true) := by
    have := e66 (a := mv0) (b := mv0) (show (0 : Nat) < _ by omega) (show (0 : Nat) < _ by omega)
    rw [(sameMv_iff mv0 mv0).2 rfl] at this
    exact this
  cases hp0 : (zp == 0) with
  | false =>
    have hpn : ¬ zp = 0 := by simpa using hp0
    have hzz : z = zp := by rw [← hz']; simp [cA, hpn]
    subst hzz
    have m0 : M = ⟨0, 0, false, [], []⟩ := by rw [hM]; unfold moveR; rw [if_neg hpn]; rfl
    have m1 : e1 = z := by rw [he1]; unfold moveR; rw [if_neg hpn]
    have m2 : T = cV := by rw [hT]; unfold touR; rw [if_neg hpn]
    have m3 : Pt = [] := by rw [hPt]; unfold putR; rw [if_neg hpn]
    have m4 : A = [] := by rw [hA]; unfold helpR; rw [if_neg hpn]
    have m5 : e4 = z := by rw [he4]; unfold helpR; rw [if_neg hpn]
    have hl0 := hlist [] z (by simp) (.inr rfl)
    rw [i0] at hl0
    clear hM he1 hT hPt hA he4
    subst m0 m1 m2 m3 m4 m5
    have h86 := eqX86 (l := cV) rfl
    rw [nine0_q] at h86
    ((try simp only [aO, SS, aW, aM, setRange, aN, aC, aB, aF, aE, aD, aA, Nat.reduceLT, Nat.reduceEqDiff, Nat.reduceAdd, Nat.reduceMul, Nat.reduceSub, Nat.reduceLeDiff, Nat.reduceBEq, reduceCtorEq, i0, nine0_q, hp0, h66z, cO, h86, hl0]); (repeat' ((first | apply aJ | apply aI | apply aL | apply aK | apply aH | apply aG) <;> intro h <;> simp only [h, SS, aW, aM, setRange, aN, aC, aB, aF, aE, aD, aA, Nat.reduceLT, Nat.reduceEqDiff, Nat.reduceAdd, Nat.reduceMul, Nat.reduceSub, Nat.reduceLeDiff, Nat.reduceBEq, reduceCtorEq, i0, nine0_q, hp0, h66z, cO, h86, hl0])))
    (refine hQ _ _ _ (aQ (by first | exact .inl rfl | exact .inr rfl) ?_); simp only [SS, aW, aM, setRange, aN, aC, aB, aF, aE, aD, aA, Nat.reduceLT, Nat.reduceEqDiff, Nat.reduceAdd, Nat.reduceMul, Nat.reduceSub, Nat.reduceLeDiff, Nat.reduceBEq, reduceCtorEq])
  | true =>
  have hp1 : zp = 0 := by simpa using hp0
  subst hp1
  obtain ⟨h4, hmv⟩ := movesE_zero (playE_zero hzp).2.2
  have m2 : T = dP cV l := by rw [hT]; unfold touR; rw [if_pos rfl]
  have m3 : Pt = potL l := by rw [hPt]; unfold putR; rw [if_pos rfl]
  have h62 : F62 [.agg [.str p, .str e, .bool late, .lsl (bE l)]] = some (.agg (bX T)) := by
    simp only [F62, dMoves_e hlen hok, Option.bind_some]
    rw [if_pos (by simp only [List.all_eq_true]; exact fun m hm => mvE_in (hmv m hm)), m2]
  have h63 : F63 [.agg [.str p, .str e, .bool late, .lsl (bE l)]] = some (.lsl (bJ Pt)) := by
    simp only [F63, dMoves_e hlen hok, Option.bind_some]
    rw [if_pos ⟨by omega, by
      simp only [touchedB, List.all_eq_true, Bool.or_eq_true, Bool.not_eq_true', decide_eq_true_eq]
      intro m hm
      by_cases ho : m.o = true
      · exact .inr (mvE_touched (hmv m hm) ho)
      · exact .inl (by simpa using ho)⟩, m3]
  have h86 := eqX86 (l := T) hT9
  have hlP := hlist Pt 0 hPl (.inl rfl)
  have h64 : F64 [.agg [.str p, .str e, .bool late, .lsl (bE l)], .int .i64 c] = some (.int .i64 (mvIx c l)) := by simp only [F64, dMoves_e hlen hok, Option.map_some]
  clear m2 m3 hT hPt
  ((try simp only [aO, SS, aW, aM, setRange, aN, aC, aB, aF, aE, aD, aA, Nat.reduceLT, Nat.reduceEqDiff, Nat.reduceAdd, Nat.reduceMul, Nat.reduceSub, Nat.reduceLeDiff, Nat.reduceBEq, reduceCtorEq, hp0]); (repeat' ((first | apply aJ | apply aI | apply aL | apply aK | apply aH | apply aG) <;> intro h <;> simp only [h, SS, aW, aM, setRange, aN, aC, aB, aF, aE, aD, aA, Nat.reduceLT, Nat.reduceEqDiff, Nat.reduceAdd, Nat.reduceMul, Nat.reduceSub, Nat.reduceLeDiff, Nat.reduceBEq, reduceCtorEq, hp0])))
  refine wp_of_draw (Top.draw mixed bA (by kernel_rfl) ?_)
  ((try simp only [aO, SS, aW, aM, setRange, aN, aC, aB, aF, aE, aD, aA, Nat.reduceLT, Nat.reduceEqDiff, Nat.reduceAdd, Nat.reduceMul, Nat.reduceSub, Nat.reduceLeDiff, Nat.reduceBEq, reduceCtorEq, h62, h63, hr9, ha9]); (repeat' ((first | apply aJ | apply aI | apply aL | apply aK | apply aH | apply aG) <;> intro h <;> simp only [h, SS, aW, aM, setRange, aN, aC, aB, aF, aE, aD, aA, Nat.reduceLT, Nat.reduceEqDiff, Nat.reduceAdd, Nat.reduceMul, Nat.reduceSub, Nat.reduceLeDiff, Nat.reduceBEq, reduceCtorEq, h62, h63, hr9, ha9])))
  refine ⟨by kernel_rfl, ?_⟩
  cases hz0 : (z == 0) with
  | false =>
    have hzn : ¬ z = 0 := by simpa using hz0
    have m0 : M = ⟨0, 0, false, [], []⟩ := by rw [hM]; unfold moveR; rw [if_neg hzn]; rfl
    have m1 : e1 = z := by rw [he1]; unfold moveR; rw [if_neg hzn]
    have m4 : A = [] := by rw [hA]; unfold helpR; rw [if_neg hzn]
    have m5 : e4 = z := by rw [he4]; unfold helpR; rw [if_neg hzn]
    have hl0 := hlist [] z (by simp) (.inr rfl)
    rw [i0] at hl0
    clear hM he1 hA he4
    subst m0 m1 m4 m5
    ((try simp only [aO, SS, aW, aM, setRange, aN, aC, aB, aF, aE, aD, aA, Nat.reduceLT, Nat.reduceEqDiff, Nat.reduceAdd, Nat.reduceMul, Nat.reduceSub, Nat.reduceLeDiff, Nat.reduceBEq, reduceCtorEq, i0, hz0, h66z, cO, h86, hl0, hlP, hr9, ht9]); (repeat' ((first | apply aJ | apply aI | apply aL | apply aK | apply aH | apply aG) <;> intro h <;> simp only [h, SS, aW, aM, setRange, aN, aC, aB, aF, aE, aD, aA, Nat.reduceLT, Nat.reduceEqDiff, Nat.reduceAdd, Nat.reduceMul, Nat.reduceSub, Nat.reduceLeDiff, Nat.reduceBEq, reduceCtorEq, i0, hz0, h66z, cO, h86, hl0, hlP, hr9, ht9])))
    (refine hQ _ _ _ (aQ (by first | exact .inl rfl | exact .inr rfl) ?_); simp only [SS, aW, aM, setRange, aN, aC, aB, aF, aE, aD, aA, Nat.reduceLT, Nat.reduceEqDiff, Nat.reduceAdd, Nat.reduceMul, Nat.reduceSub, Nat.reduceLeDiff, Nat.reduceBEq, reduceCtorEq])
  | true =>
  have hz1 : z = 0 := by simpa using hz0
  subst hz1
  cases hfd : l.find? (fun m => m.f == c) with
  | none =>
    have m0 : M = ⟨0, 0, false, [], []⟩ := by rw [hM]; unfold moveR; rw [if_pos rfl, hfd]; rfl
    have m1 : e1 = 7 := by rw [he1]; unfold moveR; rw [if_pos rfl, hfd]
    have m4 : A = [] := by rw [hA]; unfold helpR; rw [if_pos rfl, hfd]
    have m5 : e4 = 7 := by rw [he4]; unfold helpR; rw [if_pos rfl, hfd]
    clear hM he1 hA he4
    subst m0 m1 m4 m5
    rw [find_ix_none hfd] at h64
    have hl0 := hlist [] 7 (by simp) (.inr rfl)
    rw [i0] at hl0
    have q1 : decide ((-1 : Int) < 0) = true := by decide
    ((try simp only [aO, SS, aW, aM, setRange, aN, aC, aB, aF, aE, aD, aA, Nat.reduceLT, Nat.reduceEqDiff, Nat.reduceAdd, Nat.reduceMul, Nat.reduceSub, Nat.reduceLeDiff, Nat.reduceBEq, reduceCtorEq, i0, hz0, h64, q1, h66z, cO, h86, hl0, hlP, hr9, ht9]); (repeat' ((first | apply aJ | apply aI | apply aL | apply aK | apply aH | apply aG) <;> intro h <;> simp only [h, SS, aW, aM, setRange, aN, aC, aB, aF, aE, aD, aA, Nat.reduceLT, Nat.reduceEqDiff, Nat.reduceAdd, Nat.reduceMul, Nat.reduceSub, Nat.reduceLeDiff, Nat.reduceBEq, reduceCtorEq, i0, hz0, h64, q1, h66z, cO, h86, hl0, hlP, hr9, ht9])))
    (refine hQ _ _ _ (aQ (by first | exact .inl rfl | exact .inr rfl) ?_); simp only [SS, aW, aM, setRange, aN, aC, aB, aF, aE, aD, aA, Nat.reduceLT, Nat.reduceEqDiff, Nat.reduceAdd, Nat.reduceMul, Nat.reduceSub, Nat.reduceLeDiff, Nat.reduceBEq, reduceCtorEq])
  | some m =>
    obtain ⟨k, hk, hkl, hkx⟩ := find_ix hfd
    rw [hkx] at h64
    have m0 : M = m := by rw [hM]; unfold moveR; rw [if_pos rfl, hfd]
    have m1 : e1 = 0 := by rw [he1]; unfold moveR; rw [if_pos rfl, hfd]
    have q1 : decide ((k : Int) < 0) = false := by simp
    have hmem := List.mem_of_getElem? hk
    have h66 := e66 (a := m) (b := m) (hok m hmem) (hok m hmem)
    rw [(sameMv_iff m m).2 rfl] at h66
    cases ho : m.o with
    | false =>
      have m4 : A = [] := by rw [hA]; unfold helpR; rw [if_pos rfl, hfd]; simp [ho]
      have m5 : e4 = 15 := by rw [he4]; unfold helpR; rw [if_pos rfl, hfd]; simp [ho]
      clear hM he1 hA he4
      subst m0 m1 m4 m5
      rw [ho] at h66
      have hl0 := hlist [] 15 (by simp) (.inr rfl)
      rw [i0] at hl0
      ((try simp only [aO, SS, aW, aM, setRange, aN, aC, aB, aF, aE, aD, aA, Nat.reduceLT, Nat.reduceEqDiff, Nat.reduceAdd, Nat.reduceMul, Nat.reduceSub, Nat.reduceLeDiff, Nat.reduceBEq, reduceCtorEq, i0, hz0, h64, q1, aV, bB, hk, ho, h66, cO, h86, hl0, hlP, hr9, ht9]); (repeat' ((first | apply aJ | apply aI | apply aL | apply aK | apply aH | apply aG) <;> intro h <;> simp only [h, SS, aW, aM, setRange, aN, aC, aB, aF, aE, aD, aA, Nat.reduceLT, Nat.reduceEqDiff, Nat.reduceAdd, Nat.reduceMul, Nat.reduceSub, Nat.reduceLeDiff, Nat.reduceBEq, reduceCtorEq, i0, hz0, h64, q1, aV, bB, hk, ho, h66, cO, h86, hl0, hlP, hr9, ht9])))
      (refine hQ _ _ _ (aQ (by first | exact .inl rfl | exact .inr rfl) ?_); simp only [SS, aW, aM, setRange, aN, aC, aB, aF, aE, aD, aA, Nat.reduceLT, Nat.reduceEqDiff, Nat.reduceAdd, Nat.reduceMul, Nat.reduceSub, Nat.reduceLeDiff, Nat.reduceBEq, reduceCtorEq])
    | true =>
      have m4 : A = helpL m.b 9 := by rw [hA]; unfold helpR; rw [if_pos rfl, hfd]; simp [ho]
      have m5 : e4 = 0 := by rw [he4]; unfold helpR; rw [if_pos rfl, hfd]; simp [ho]
      clear hM he1 hA he4
      subst m0 m1 m5
      rw [ho] at h66
      have hlA := hlist A 0 hHl (.inl rfl)
      have h65 : F65 [.agg [.int .i64 M.f, .int .i64 M.t, .bool true, .str M.h, .lsl (bJ M.b)]] = some (.lsl (bJ A)) := by
        simp only [F65, dInts_e (hok M hmem), Option.bind_some]
        rw [if_pos (mvE_touched (hmv M hmem) ho), m4]
      ((try simp only [aO, SS, aW, aM, setRange, aN, aC, aB, aF, aE, aD, aA, Nat.reduceLT, Nat.reduceEqDiff, Nat.reduceAdd, Nat.reduceMul, Nat.reduceSub, Nat.reduceLeDiff, Nat.reduceBEq, reduceCtorEq, hz0, h64, q1, aV, bB, hk, ho]); (repeat' ((first | apply aJ | apply aI | apply aL | apply aK | apply aH | apply aG) <;> intro h <;> simp only [h, SS, aW, aM, setRange, aN, aC, aB, aF, aE, aD, aA, Nat.reduceLT, Nat.reduceEqDiff, Nat.reduceAdd, Nat.reduceMul, Nat.reduceSub, Nat.reduceLeDiff, Nat.reduceBEq, reduceCtorEq, hz0, h64, q1, aV, bB, hk, ho])))
      refine wp_of_draw (Top.draw mixed bA (by kernel_rfl) ?_)
      ((try simp only [aO, SS, aW, aM, setRange, aN, aC, aB, aF, aE, aD, aA, Nat.reduceLT, Nat.reduceEqDiff, Nat.reduceAdd, Nat.reduceMul, Nat.reduceSub, Nat.reduceLeDiff, Nat.reduceBEq, reduceCtorEq, aV, bB, hk, ho, h65]); (repeat' ((first | apply aJ | apply aI | apply aL | apply aK | apply aH | apply aG) <;> intro h <;> simp only [h, SS, aW, aM, setRange, aN, aC, aB, aF, aE, aD, aA, Nat.reduceLT, Nat.reduceEqDiff, Nat.reduceAdd, Nat.reduceMul, Nat.reduceSub, Nat.reduceLeDiff, Nat.reduceBEq, reduceCtorEq, aV, bB, hk, ho, h65])))
      refine ⟨by kernel_rfl, ?_⟩
      ((try simp only [aO, SS, aW, aM, setRange, aN, aC, aB, aF, aE, aD, aA, Nat.reduceLT, Nat.reduceEqDiff, Nat.reduceAdd, Nat.reduceMul, Nat.reduceSub, Nat.reduceLeDiff, Nat.reduceBEq, reduceCtorEq, h66, ho, cO, h86, hlA, hlP, hr9, ht9]); (repeat' ((first | apply aJ | apply aI | apply aL | apply aK | apply aH | apply aG) <;> intro h <;> simp only [h, SS, aW, aM, setRange, aN, aC, aB, aF, aE, aD, aA, Nat.reduceLT, Nat.reduceEqDiff, Nat.reduceAdd, Nat.reduceMul, Nat.reduceSub, Nat.reduceLeDiff, Nat.reduceBEq, reduceCtorEq, h66, ho, cO, h86, hlA, hlP, hr9, ht9])))
      (refine hQ _ _ _ (aQ (by first | exact .inl rfl | exact .inr rfl) ?_); simp only [SS, aW, aM, setRange, aN, aC, aB, aF, aE, aD, aA, Nat.reduceLT, Nat.reduceEqDiff, Nat.reduceAdd, Nat.reduceMul, Nat.reduceSub, Nat.reduceLeDiff, Nat.reduceBEq, reduceCtorEq])
end Go.Ev
