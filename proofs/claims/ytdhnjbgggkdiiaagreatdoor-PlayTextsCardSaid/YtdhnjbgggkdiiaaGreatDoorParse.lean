import Derived.Test.YtdhnjbgggkdiiaaGreatDoorReadP
set_option linter.unusedSimpArgs false
set_option linter.unusedVariables false
namespace Go.Ev
open Go.RowKit Go.Proofs
set_option linter.defProp false
def TF31Parse := And.intro (And.intro (And.intro (And.intro (And.intro (@Tryz.underlying3) (And.intro (@sz3) (@bN))) (And.intro (And.intro (@I3s) (@I3b)) (And.intro (@bL) (@bO)))) (And.intro (And.intro (And.intro (@Tryz.underlying4) (@sz4)) (And.intro (@dC) (@I4s))) (And.intro (And.intro (@I4b) (@cY)) (And.intro (@dD) (@Tryz.underlying9))))) (And.intro (And.intro (And.intro (And.intro (@sz9) (@bI)) (And.intro (@I9s) (@I9b))) (And.intro (And.intro (@bH) (@bJ)) (And.intro (@Tryz.underlying22) (@eN)))) (And.intro (And.intro (And.intro (@dO) (@eO)) (And.intro (@eP) (@dH))) (And.intro (And.intro (@dP) (@Tryz.underlying24)) (And.intro (@sz24) (@fok24)))))) (And.intro (And.intro (And.intro (And.intro (@info24) (And.intro (@I24s) (@I24b))) (And.intro (And.intro (@zero24) (@grow24)) (And.intro (@Tryz.underlying25) (@eB)))) (And.intro (And.intro (And.intro (@cE) (@eC)) (And.intro (@eD) (@cC))) (And.intro (And.intro (@cF) (@Tryz.underlying27)) (And.intro (@eE) (@dF))))) (And.intro (And.intro (And.intro (And.intro (@cJ) (@eF)) (And.intro (@eG) (@cH))) (And.intro (And.intro (@cK) (@Tryz.underlying30)) (And.intro (@sz30) (@info30)))) (And.intro (And.intro (And.intro (@I30s) (@I30b)) (And.intro (@zero30) (@grow30))) (And.intro (And.intro (@call18) (@call99)) (And.intro (@call100) (@Tryz.results31))))))
set_option maxRecDepth 20000
set_option maxHeartbeats 8000000

/-! the program's Parse -/
theorem undash_bytes {w : List Nat} (h : aM w = true) : aM (undash w) = true := by
  unfold undash; split
  · rfl
  · exact h
theorem readG_bytes : ∀ {ws : List (List Nat)} {i : Nat} {q : Pl}, (∀ w ∈ ws, aM w = true) → aM q.p = true → aM q.e = true → aM (cL i q ws).p = true ∧ aM (cL i q ws).e = true
  | [], _, _, _, h1, h2 => ⟨h1, h2⟩
  | w :: ws, i, q, hw, h1, h2 => by
    have hwb := hw w List.mem_cons_self
    unfold cL
    refine readG_bytes (fun x hx => hw x (List.mem_cons_of_mem _ hx)) ?_ ?_
    · unfold dB
      split
      · exact undash_bytes hwb
      · split
        · exact h1
        · split <;> exact h1
    · unfold dB
      split
      · exact h2
      · split
        · exact undash_bytes hwb
        · split <;> exact h2
def F31 : List EVal → Option EVal
  | [.str s] => if aM s = true ∧ s.length ≤ 5000 then some (parseE s) else none
  | _ => none
theorem fn31 : FnT 31 F31 := by
  refine Fn.intro mixed aI Tryz.func31 rfl [(165, F165), (138, F138), (130, F130), (139, F139), (140, F140), (141, F141), (18, F18)] (by simp only [List.forall_mem_cons]; exact ⟨fn165, fn138, fn130, fn139, fn140, fn141, fn18, fun _ h => by cases h⟩) ?_
  intro args v hF
  unfold F31 at hF
  split at hF
  rotate_left
  · cases hF
  intro Q hV
  have hQ := aS.of hV
  rename_i s
  split at hF
  rotate_left
  · cases hF
  rename_i hc
  obtain ⟨hby, hlen⟩ := hc
  cases hF
  refine Top.view (aH.mode (n := 0) (m := 0) (l := []) (k := []) 128 (by omega)) ?_
  refine Top.view (aH.start (n := 32) rfl (by simp)) (aD aI _ _ _ _ ?_)
  by_cases hl : 4096 < s.length
  · have q1 : decide ((4096 : Int) < (s.length : Int)) = true := by simp; omega
    (try simp only [aG, SS, TF31Parse, setRange, aA, aO, Nat.reduceLT, Nat.reduceEqDiff, Nat.reduceAdd, reduceCtorEq, q1])
    (refine hQ _ _ _ (aC (by first | exact .inl rfl | exact .inr rfl) ?_); simp only [SS, TF31Parse, Nat.reduceLT, Nat.reduceEqDiff, Nat.reduceAdd, reduceCtorEq])
    simp only [parseE, cI, if_pos hl]; rfl
  have q1 : decide ((4096 : Int) < (s.length : Int)) = false := by simp; omega
  obtain ⟨ws, hws⟩ : ∃ ws, ws = aT 32 s := ⟨_, rfl⟩
  have hsl := split_len (c := 32) s
  rw [← hws] at hsl
  have hT : cI s = match cO 0 0 ws with
    | some a => (pl0, a, 25)
    | none => if ws.length < 2 then (pl0, s.length, 25) else
      if playE (cL 0 pl0 ws).p (cL 0 pl0 ws).e (cL 0 pl0 ws).m ≠ 0 then (pl0, s.length, playE (cL 0 pl0 ws).p (cL 0 pl0 ws).e (cL 0 pl0 ws).m)
      else (cL 0 pl0 ws, 0, 0) := by
    unfold cI
    rw [if_neg hl, ← hws]; rfl
  have hgb := readG_bytes (ws := ws) (i := 0) (q := pl0) (by rw [hws]; exact split_bytes hby) rfl rfl
  have hfw : fwE s = match cO 0 0 ws with
    | some a => .tup [.int .i64 (a : Nat), .bool true]
    | none => .tup [.int .i64 (s.length : Nat), .bool (decide (ws.length < 2))] := by rw [hws]; rfl
  (try simp only [aG, SS, TF31Parse, aA, Nat.reduceLT, Nat.reduceEqDiff, reduceCtorEq, q1, ↓bA])
  refine ct99 hby hlen ?_
  rw [hfw]
  cases hwr : cO 0 0 ws with
  | some a =>
    rw [hwr] at hT
    dsimp only at hT ⊢
    (try simp only [SS, TF31Parse, setRange, aA, aO, Nat.reduceLT, Nat.reduceEqDiff, Nat.reduceAdd, reduceCtorEq])
    (refine hQ _ _ _ (aC (by first | exact .inl rfl | exact .inr rfl) ?_); simp only [SS, TF31Parse, Nat.reduceLT, Nat.reduceEqDiff, Nat.reduceAdd, reduceCtorEq])
    simp only [parseE, hT]; rfl
  | none =>
    rw [hwr] at hT
    dsimp only at hT ⊢
    by_cases h2 : ws.length < 2
    · rw [if_pos h2] at hT
      have d2 : decide (ws.length < 2) = true := by simp [h2]
      rw [d2]
      (try simp only [SS, TF31Parse, setRange, aA, aO, Nat.reduceLT, Nat.reduceEqDiff, Nat.reduceAdd, reduceCtorEq])
      (refine hQ _ _ _ (aC (by first | exact .inl rfl | exact .inr rfl) ?_); simp only [SS, TF31Parse, Nat.reduceLT, Nat.reduceEqDiff, Nat.reduceAdd, reduceCtorEq])
      simp only [parseE, hT]; rfl
    rw [if_neg h2] at hT
    have d2 : decide (ws.length < 2) = false := by simp [h2]
    rw [d2]
    (try simp only [SS, TF31Parse, aA, Nat.reduceLT, Nat.reduceEqDiff, reduceCtorEq, ↓bA])
    refine ct100 hby hlen (by rw [← hws]; exact hwr) ?_
    rw [← hws]
    intro N hN hN2 hml hmo
    obtain ⟨G0, hG0⟩ : ∃ q, q = cL 0 pl0 ws := ⟨_, rfl⟩
    rw [← hG0] at hT hml hmo hgb ⊢
    have hN0 : N < 16000 := by omega
    have n0 : (N = 0) = False := by simp; omega
    have n0' : (0 = N) = False := by simp; omega
    have h18 : F18 [.agg [.str G0.p, .str G0.e, .bool G0.l, .lsl (aZ G0.m)]] = some (.int .i64 (playE G0.p G0.e G0.m)) := by simp only [F18]; rw [if_pos hgb, dMoves_e (show G0.m.length < 9223372036854775808 by omega) hmo, Option.map_some]
    obtain ⟨z, hz⟩ : ∃ z, playE G0.p G0.e G0.m = z := ⟨_, rfl⟩
    rw [hz] at h18 hT
    unfold plE
    cases hz0 : (z == 0) with
    | false =>
      have hz1 : z ≠ 0 := by simpa using hz0
      rw [if_pos hz1] at hT
      (try simp only [SS, TF31Parse, aF, setRange, aA, aO, Nat.reduceLT, Nat.reduceEqDiff, Nat.reduceAdd, reduceCtorEq, hN0, n0, n0', h18, hz0])
      (refine hQ _ _ _ (aC (by first | exact .inl rfl | exact .inr rfl) ?_); simp only [SS, TF31Parse, Nat.reduceLT, Nat.reduceEqDiff, Nat.reduceAdd, reduceCtorEq])
      simp only [parseE, hT]; rfl
    | true =>
      have hz1 : z = 0 := by simpa using hz0
      rw [if_neg (by simpa using hz1)] at hT
      (try simp only [SS, TF31Parse, aF, setRange, aA, Nat.reduceLT, Nat.reduceEqDiff, Nat.reduceAdd, reduceCtorEq, hN0, n0, n0', h18, hz0])
      (refine hQ _ _ _ (aC (by first | exact .inl rfl | exact .inr rfl) ?_); simp only [SS, TF31Parse, Nat.reduceLT, Nat.reduceEqDiff, Nat.reduceAdd, reduceCtorEq])
      simp only [parseE, hT, plE]; rfl
theorem e31 {s : List Nat} (h : aM s = true) (hl : s.length ≤ 5000) : F31 [.str s] = some (parseE s) := by simp only [F31]; rw [if_pos ⟨h, hl⟩]
theorem readG_ok : ∀ {ws : List (List Nat)} {i : Nat} {q : Pl}, (∀ w ∈ ws, w.length ≤ 5000) → (∀ m ∈ q.m, eI m) → (∀ m ∈ (cL i q ws).m, eI m) ∧ (cL i q ws).m.length ≤ q.m.length + ws.length
  | [], _, _, _, h1 => ⟨h1, by simp [cL]⟩
  | w :: ws, i, q, hw, h1 => by
    have hwl := hw w List.mem_cons_self
    unfold cL
    have hs : (∀ m ∈ (dB i q w).m, eI m) ∧ (dB i q w).m.length ≤ q.m.length + 1 := by
      unfold dB
      split
      · exact ⟨h1, by show q.m.length ≤ _; omega⟩
      · split
        · exact ⟨h1, by show q.m.length ≤ _; omega⟩
        · split
          · exact ⟨h1, by show q.m.length ≤ _; omega⟩
          · refine ⟨fun m hm => ?_, by simp⟩
            rcases List.mem_append.1 hm with h | h
            · exact h1 m h
            · rw [List.mem_singleton.1 h]; exact mvOk_of hwl
    obtain ⟨a, b⟩ := readG_ok (ws := ws) (i := i + 1) (q := dB i q w) (fun x hx => hw x (List.mem_cons_of_mem _ hx)) hs.1
    exact ⟨a, by rw [List.length_cons]; omega⟩
end Go.Ev
