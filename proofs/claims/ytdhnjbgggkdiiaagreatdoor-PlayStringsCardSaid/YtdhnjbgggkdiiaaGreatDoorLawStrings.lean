import Derived.Test.YtdhnjbgggkdiiaaGreatDoorParse
import Derived.Test.YtdhnjbgggkdiiaaGreatDoorPrint
import Derived.Test.YtdhnjbgggkdiiaaGreatDoorSame
import Derived.Test.YtdhnjbgggkdiiaaGreatDoorCopy2
import Derived.Test.YtdhnjbgggkdiiaaGreatDoorRefPlay
set_option linter.unusedSimpArgs false
set_option linter.unusedVariables false
namespace Go.Ev
open Go.RowKit Go.Proofs
set_option linter.defProp false
def TF5LawStrings := And.intro (And.intro (And.intro (And.intro (And.intro (@Tryz.underlying3) (And.intro (@sz3) (@cM))) (And.intro (And.intro (@I3s) (@I3b)) (And.intro (@cJ) (@cN)))) (And.intro (And.intro (And.intro (@Tryz.underlying4) (@sz4)) (And.intro (@dX) (@I4s))) (And.intro (And.intro (@I4b) (@dT)) (And.intro (@dZ) (@Tryz.underlying9))))) (And.intro (And.intro (And.intro (@sz9) (And.intro (@cK) (@I9s))) (And.intro (And.intro (@I9b) (@cF)) (And.intro (@cL) (@Tryz.underlying22)))) (And.intro (And.intro (And.intro (@sz22) (@info22)) (And.intro (@I22s) (@I22b))) (And.intro (And.intro (@zero22) (@grow22)) (And.intro (@Tryz.underlying24) (@sz24)))))) (And.intro (And.intro (And.intro (And.intro (@fok24) (And.intro (@info24) (@I24s))) (And.intro (And.intro (@I24b) (@zero24)) (And.intro (@grow24) (@Tryz.underlying25)))) (And.intro (And.intro (And.intro (@eL) (@dD)) (And.intro (@eM) (@eN))) (And.intro (And.intro (@cZ) (@dF)) (And.intro (@Tryz.underlying27) (@eP))))) (And.intro (And.intro (And.intro (And.intro (@eC) (@dK)) (And.intro (@eR) (@eS))) (And.intro (And.intro (@dH) (@dM)) (And.intro (@call16) (@call17)))) (And.intro (And.intro (And.intro (@call19) (@call20)) (And.intro (@call30) (@call31))) (And.intro (And.intro (@call32) (@call33)) (And.intro (@call34) (@Tryz.results5))))))
set_option maxRecDepth 20000
set_option maxHeartbeats 8000000

theorem readG_ok : ∀ {ws : List (List Nat)} {i : Nat} {q : Pl}, (∀ w ∈ ws, w.length ≤ 5000) → (∀ m ∈ q.m, eJ m) → (∀ m ∈ (cY i q ws).m, eJ m) ∧ (cY i q ws).m.length ≤ q.m.length + ws.length
  | [], _, _, _, h1 => ⟨h1, by simp [cY]⟩
  | w :: ws, i, q, hw, h1 => by
    have hwl := hw w List.mem_cons_self
    unfold cY
    have hs : (∀ m ∈ (dO i q w).m, eJ m) ∧ (dO i q w).m.length ≤ q.m.length + 1 := by
      unfold dO
      split
      · exact ⟨h1, by show q.m.length ≤ _; omega⟩
      · split
        · exact ⟨h1, by show q.m.length ≤ _; omega⟩
        · split
          · exact ⟨h1, by show q.m.length ≤ _; omega⟩
          · refine ⟨fun m hm => ?_, by simp⟩
            rcases List.mem_append.1 hm with h | h
            · exact h1 m h
            · rw [List.mem_singleton.1 h]; exact mvOk_of hwl
    obtain ⟨a, b⟩ := readG_ok (ws := ws) (i := i + 1) (q := dO i q w) (fun x hx => hw x (List.mem_cons_of_mem _ hx)) hs.1
    exact ⟨a, by rw [List.length_cons]; omega⟩
theorem parseT_ok {s : List Nat} : (∀ m ∈ (parseT s).1.m, eJ m) ∧ (parseT s).1.m.length < 9223372036854775808 := by
  unfold parseT
  split
  · simp [pl0]
  rename_i hl
  split
  · simp [pl0]
  split
  · simp [pl0]
  split
  · simp [pl0]
  have hsl := split_len (c := 32) s
  obtain ⟨a, b⟩ := readG_ok (ws := bN 32 s) (i := 0) (q := pl0) (fun w hw => by have := lenS_mem hw; have := List.length_pos_of_mem hw; omega) (by simp [pl0])
  refine ⟨a, ?_⟩
  have : pl0.m.length = 0 := rfl
  show (cY 0 pl0 (bN 32 s)).m.length < _
  omega
def F5 : List EVal → Option EVal
  | [.agg [.str p, .str e, .bool _, ms], .str s] => if (bE p = true ∧ bE e = true) ∧ bE s = true then (dJ ms).map fun _ => .bool true else none
  | _ => none
theorem fn5 : FnT 5 F5 := by
  refine Fn.intro mixed aX Tryz.func5 rfl [(16, F16), (17, F17), (19, F19), (20, F20), (30, F30), (31, F31), (32, F32), (33, F33), (34, F34)] (by simp only [List.forall_mem_cons]; exact ⟨fn16, fn17, fn19, fn20, fn30, fn31, fn32, fn33, fn34, fun _ h => by cases h⟩) ?_
  intro args v hF
  unfold F5 at hF
  split at hF
  rotate_left
  · cases hF
  intro Q hV
  have hQ := bL.of hV
  rename_i p e late ms s
  split at hF
  rotate_left
  · cases hF
  rename_i hb
  obtain ⟨hb, hbs⟩ := hb
  cases ha : dJ ms with
  | none => rw [ha] at hF; cases hF
  | some l =>
  rw [ha] at hF
  cases hF
  obtain ⟨rfl, hlen, hok⟩ := dMoves_inv ha
  clear ha
  dsimp only at hQ hV
  have h16 := e16
  have h17 : F17 [.agg [.str p, .str e, .bool late, .lsl (bP l)]] = some (.bool (shortB p e l)) := by simp only [F17, dMoves_e hlen hok, Option.map_some]
  refine Top.view (aV.start (n := 75) rfl (by simp)) (aS aX _ _ _ _ ?_)
  apply wp_cut
  · intro R hR
    ((try simp only [aO, SS, TF5LawStrings, aM, setRange, aN, aC, aB, aF, aE, aD, aA, Nat.reduceLT, Nat.reduceEqDiff, Nat.reduceAdd, Nat.reduceMul, Nat.reduceSub, Nat.reduceLeDiff, Nat.reduceBEq, reduceCtorEq]); (repeat' ((first | apply aJ | apply aI | apply aL | apply aK | apply aH | apply aG) <;> intro h <;> simp only [h, SS, TF5LawStrings, aM, setRange, aN, aC, aB, aF, aE, aD, aA, Nat.reduceLT, Nat.reduceEqDiff, Nat.reduceAdd, Nat.reduceMul, Nat.reduceSub, Nat.reduceLeDiff, Nat.reduceBEq, reduceCtorEq])))
    exact hR
  cases hsh : shortB p e l with
  | false =>
    rw [hsh] at h17
    ((try simp only [aO, SS, TF5LawStrings, aM, setRange, aN, aC, aB, aF, aE, aD, aA, Nat.reduceLT, Nat.reduceEqDiff, Nat.reduceAdd, Nat.reduceMul, Nat.reduceSub, Nat.reduceLeDiff, Nat.reduceBEq, reduceCtorEq, h16, h17]); (repeat' ((first | apply aJ | apply aI | apply aL | apply aK | apply aH | apply aG) <;> intro h <;> simp only [h, SS, TF5LawStrings, aM, setRange, aN, aC, aB, aF, aE, aD, aA, Nat.reduceLT, Nat.reduceEqDiff, Nat.reduceAdd, Nat.reduceMul, Nat.reduceSub, Nat.reduceLeDiff, Nat.reduceBEq, reduceCtorEq, h16, h17])))
    (refine hQ _ _ _ (aP (by first | exact .inl rfl | exact .inr rfl) ?_); simp only [SS, TF5LawStrings, aM, setRange, aN, aC, aB, aF, aE, aD, aA, Nat.reduceLT, Nat.reduceEqDiff, Nat.reduceAdd, Nat.reduceMul, Nat.reduceSub, Nat.reduceLeDiff, Nat.reduceBEq, reduceCtorEq])
  | true =>
  rw [hsh] at h17
  cases hs2 : decide ((200 : Int) < (s.length : Int)) with
  | true =>
    ((try simp only [aO, SS, TF5LawStrings, aM, setRange, aN, aC, aB, aF, aE, aD, aA, Nat.reduceLT, Nat.reduceEqDiff, Nat.reduceAdd, Nat.reduceMul, Nat.reduceSub, Nat.reduceLeDiff, Nat.reduceBEq, reduceCtorEq, h16, h17, hs2]); (repeat' ((first | apply aJ | apply aI | apply aL | apply aK | apply aH | apply aG) <;> intro h <;> simp only [h, SS, TF5LawStrings, aM, setRange, aN, aC, aB, aF, aE, aD, aA, Nat.reduceLT, Nat.reduceEqDiff, Nat.reduceAdd, Nat.reduceMul, Nat.reduceSub, Nat.reduceLeDiff, Nat.reduceBEq, reduceCtorEq, h16, h17, hs2])))
    (refine hQ _ _ _ (aP (by first | exact .inl rfl | exact .inr rfl) ?_); simp only [SS, TF5LawStrings, aM, setRange, aN, aC, aB, aF, aE, aD, aA, Nat.reduceLT, Nat.reduceEqDiff, Nat.reduceAdd, Nat.reduceMul, Nat.reduceSub, Nat.reduceLeDiff, Nat.reduceBEq, reduceCtorEq])
  | false =>
  have hsl : s.length ≤ 5000 := by have := of_decide_eq_false hs2; omega
  have h19 := e19 (p := p) (e := e) (late := late) hlen hok (short_copy3 hsh)
  have h20 : F20 [.agg [.str p, .str e, .bool late, .lsl (bP l)]] = some (.int .i64 (playE p e l)) := by simp only [F20, dMoves_e hlen hok, Option.map_some]
  have h30 : F30 [.agg [.str p, .str e, .bool late, .lsl (bP l)]] = some (.tup [.str (printR p e late l), .int .i64 (playE p e l)]) := by
    simp only [F30, dMoves_e hlen hok, Option.map_some]; rw [if_pos hb]
  have h31 := e31 hbs hsl
  have h32 := e32 hbs hsl
  obtain ⟨hqo, hql⟩ := parseT_ok (s := s)
  unfold parseE plE at h31 h32
  obtain ⟨G, hG⟩ : ∃ G, G = (parseT s).1 := ⟨_, rfl⟩
  obtain ⟨a1, ha1⟩ : ∃ a1 : Int, a1 = (((parseT s).2.1 : Nat) : Int) := ⟨_, rfl⟩
  obtain ⟨a2, ha2⟩ : ∃ a2, a2 = (parseT s).2.2 := ⟨_, rfl⟩
  rw [← hG, ← ha1, ← ha2] at h31 h32
  rw [← hG] at hqo hql
  have h34 : F34 [.agg [.str G.p, .str G.e, .bool G.l, .lsl (bP G.m)], .agg [.str G.p, .str G.e, .bool G.l, .lsl (bP G.m)]] = some (.bool true) := by
    simp only [F34, dMoves_e hql hqo, sameP, sameL_iff.2 rfl]; simp
  have qa1 : (a1 == a1) = true := by simp
  have qa2 : (a2 == a2) = true := by simp
  obtain ⟨z, hz⟩ : ∃ z, playE p e l = z := ⟨_, rfl⟩
  have qz : (z == z) = true := by simp
  obtain ⟨t, ht⟩ : ∃ t, printR p e late l = t := ⟨_, rfl⟩
  have qt : decide (t = t) = true := by simp
  rw [hz, ht] at h30
  rw [hz] at h20
  apply wp_cut
  · intro R hR
    ((try simp only [aO, SS, TF5LawStrings, aM, setRange, aN, aC, aB, aF, aE, aD, aA, Nat.reduceLT, Nat.reduceEqDiff, Nat.reduceAdd, Nat.reduceMul, Nat.reduceSub, Nat.reduceLeDiff, Nat.reduceBEq, reduceCtorEq, h16, h17, hs2]); (repeat' ((first | apply aJ | apply aI | apply aL | apply aK | apply aH | apply aG) <;> intro h <;> simp only [h, SS, TF5LawStrings, aM, setRange, aN, aC, aB, aF, aE, aD, aA, Nat.reduceLT, Nat.reduceEqDiff, Nat.reduceAdd, Nat.reduceMul, Nat.reduceSub, Nat.reduceLeDiff, Nat.reduceBEq, reduceCtorEq, h16, h17, hs2])))
    exact hR
  apply wp_cut
  · intro R hR
    ((try simp only [aO, SS, TF5LawStrings, aM, setRange, aN, aC, aB, aF, aE, aD, aA, Nat.reduceLT, Nat.reduceEqDiff, Nat.reduceAdd, Nat.reduceMul, Nat.reduceSub, Nat.reduceLeDiff, Nat.reduceBEq, reduceCtorEq, h19, h30]); (repeat' ((first | apply aJ | apply aI | apply aL | apply aK | apply aH | apply aG) <;> intro h <;> simp only [h, SS, TF5LawStrings, aM, setRange, aN, aC, aB, aF, aE, aD, aA, Nat.reduceLT, Nat.reduceEqDiff, Nat.reduceAdd, Nat.reduceMul, Nat.reduceSub, Nat.reduceLeDiff, Nat.reduceBEq, reduceCtorEq, h19, h30])))
    exact hR
  apply wp_cut
  · intro R hR
    ((try simp only [aO, SS, TF5LawStrings, aM, setRange, aN, aC, aB, aF, aE, aD, aA, Nat.reduceLT, Nat.reduceEqDiff, Nat.reduceAdd, Nat.reduceMul, Nat.reduceSub, Nat.reduceLeDiff, Nat.reduceBEq, reduceCtorEq, h31]); (repeat' ((first | apply aJ | apply aI | apply aL | apply aK | apply aH | apply aG) <;> intro h <;> simp only [h, SS, TF5LawStrings, aM, setRange, aN, aC, aB, aF, aE, aD, aA, Nat.reduceLT, Nat.reduceEqDiff, Nat.reduceAdd, Nat.reduceMul, Nat.reduceSub, Nat.reduceLeDiff, Nat.reduceBEq, reduceCtorEq, h31])))
    exact hR
  apply wp_cut
  · intro R hR
    ((try simp only [aO, SS, TF5LawStrings, aM, setRange, aN, aC, aB, aF, aE, aD, aA, Nat.reduceLT, Nat.reduceEqDiff, Nat.reduceAdd, Nat.reduceMul, Nat.reduceSub, Nat.reduceLeDiff, Nat.reduceBEq, reduceCtorEq, h20]); (repeat' ((first | apply aJ | apply aI | apply aL | apply aK | apply aH | apply aG) <;> intro h <;> simp only [h, SS, TF5LawStrings, aM, setRange, aN, aC, aB, aF, aE, aD, aA, Nat.reduceLT, Nat.reduceEqDiff, Nat.reduceAdd, Nat.reduceMul, Nat.reduceSub, Nat.reduceLeDiff, Nat.reduceBEq, reduceCtorEq, h20])))
    exact hR
  apply wp_cut
  · intro R hR
    ((try simp only [aO, SS, TF5LawStrings, aM, setRange, aN, aC, aB, aF, aE, aD, aA, Nat.reduceLT, Nat.reduceEqDiff, Nat.reduceAdd, Nat.reduceMul, Nat.reduceSub, Nat.reduceLeDiff, Nat.reduceBEq, reduceCtorEq, h32]); (repeat' ((first | apply aJ | apply aI | apply aL | apply aK | apply aH | apply aG) <;> intro h <;> simp only [h, SS, TF5LawStrings, aM, setRange, aN, aC, aB, aF, aE, aD, aA, Nat.reduceLT, Nat.reduceEqDiff, Nat.reduceAdd, Nat.reduceMul, Nat.reduceSub, Nat.reduceLeDiff, Nat.reduceBEq, reduceCtorEq, h32])))
    exact hR
  cases hz0 : (z == 0) with
  | false =>
    have hz1 : z ≠ 0 := by simpa using hz0
    have ht0 : t = [] := by rw [← ht, printR, hz, if_neg hz1]
    subst ht0
    ((try simp only [aO, SS, TF5LawStrings, aM, setRange, aN, aC, aB, aF, aE, aD, aA, Nat.reduceLT, Nat.reduceEqDiff, Nat.reduceAdd, Nat.reduceMul, Nat.reduceSub, Nat.reduceLeDiff, Nat.reduceBEq, reduceCtorEq, hz0, qt, qz, h34, qa1, qa2]); (repeat' ((first | apply aJ | apply aI | apply aL | apply aK | apply aH | apply aG) <;> intro h <;> simp only [h, SS, TF5LawStrings, aM, setRange, aN, aC, aB, aF, aE, aD, aA, Nat.reduceLT, Nat.reduceEqDiff, Nat.reduceAdd, Nat.reduceMul, Nat.reduceSub, Nat.reduceLeDiff, Nat.reduceBEq, reduceCtorEq, hz0, qt, qz, h34, qa1, qa2])))
    (refine hQ _ _ _ (aP (by first | exact .inl rfl | exact .inr rfl) ?_); simp only [SS, TF5LawStrings, aM, setRange, aN, aC, aB, aF, aE, aD, aA, Nat.reduceLT, Nat.reduceEqDiff, Nat.reduceAdd, Nat.reduceMul, Nat.reduceSub, Nat.reduceLeDiff, Nat.reduceBEq, reduceCtorEq])
  | true =>
    have hz1 : z = 0 := by simpa using hz0
    have h33 := e33 (late := late) hlen hok (playE_pr hb (hz.trans hz1))
    have ht0 : playStr p e late l = t := by rw [← ht, printR, hz, if_pos hz1]
    rw [ht0] at h33
    ((try simp only [aO, SS, TF5LawStrings, aM, setRange, aN, aC, aB, aF, aE, aD, aA, Nat.reduceLT, Nat.reduceEqDiff, Nat.reduceAdd, Nat.reduceMul, Nat.reduceSub, Nat.reduceLeDiff, Nat.reduceBEq, reduceCtorEq, hz0, h33, qt, qz, h34, qa1, qa2]); (repeat' ((first | apply aJ | apply aI | apply aL | apply aK | apply aH | apply aG) <;> intro h <;> simp only [h, SS, TF5LawStrings, aM, setRange, aN, aC, aB, aF, aE, aD, aA, Nat.reduceLT, Nat.reduceEqDiff, Nat.reduceAdd, Nat.reduceMul, Nat.reduceSub, Nat.reduceLeDiff, Nat.reduceBEq, reduceCtorEq, hz0, h33, qt, qz, h34, qa1, qa2])))
    (refine hQ _ _ _ (aP (by first | exact .inl rfl | exact .inr rfl) ?_); simp only [SS, TF5LawStrings, aM, setRange, aN, aC, aB, aF, aE, aD, aA, Nat.reduceLT, Nat.reduceEqDiff, Nat.reduceAdd, Nat.reduceMul, Nat.reduceSub, Nat.reduceLeDiff, Nat.reduceBEq, reduceCtorEq])
end Go.Ev
