import Derived.Test.YtcdmpceicmbckaaGreatDoorStT
set_option linter.unusedSimpArgs false
set_option linter.unusedVariables false
namespace Go.Ev
open Go.RowKit Go.Proofs
set_option linter.defProp false
def TF15StU := And.intro (And.intro (And.intro (And.intro (And.intro (And.intro (@Tryz.underlying3) (@sz3)) (And.intro (@bP) (@I3s))) (And.intro (And.intro (@I3b) (@bM)) (And.intro (@bQ) (@Tryz.underlying4)))) (And.intro (And.intro (And.intro (@sz4) (@bW)) (And.intro (@I4s) (@I4b))) (And.intro (And.intro (@bU) (@bX)) (And.intro (@Tryz.underlying22) (And.intro (@cE) (@bJ)))))) (And.intro (And.intro (And.intro (And.intro (@cH) (@cI)) (And.intro (@bH) (@bL))) (And.intro (And.intro (@Tryz.underlying23) (@cD)) (And.intro (@bI) (@cF)))) (And.intro (And.intro (And.intro (@cG) (@bG)) (And.intro (@bK) (@Tryz.underlying26))) (And.intro (And.intro (@sz26) (@fok26)) (And.intro (@info26) (And.intro (@I26s) (@I26b))))))) (And.intro (And.intro (And.intro (And.intro (And.intro (@zero26) (@grow26)) (And.intro (@Tryz.underlying27) (@sz27))) (And.intro (And.intro (@info27) (@I27s)) (And.intro (@I27b) (@zero27)))) (And.intro (And.intro (And.intro (@grow27) (@Tryz.underlying30)) (And.intro (@sz30) (@info30))) (And.intro (And.intro (@I30s) (@I30b)) (And.intro (@zero30) (And.intro (@grow30) (@Tryz.underlying37)))))) (And.intro (And.intro (And.intro (And.intro (@sz37) (@info37)) (And.intro (@I37s) (@I37b))) (And.intro (And.intro (@zero37) (@grow37)) (And.intro (@Tryz.underlying162) (@sz162)))) (And.intro (And.intro (And.intro (@info162) (@I162s)) (And.intro (@I162b) (@zero162))) (And.intro (And.intro (@grow162) (@call18)) (And.intro (@call60) (And.intro (@call61) (@Tryz.results15)))))))
def TF17StU := And.intro (And.intro (And.intro (And.intro (And.intro (@Tryz.underlying3) (And.intro (@sz3) (@bP))) (And.intro (@I3s) (And.intro (@I3b) (@bM)))) (And.intro (And.intro (@bQ) (And.intro (@Tryz.underlying4) (@sz4))) (And.intro (@bW) (And.intro (@I4s) (@I4b))))) (And.intro (And.intro (And.intro (@bU) (And.intro (@bX) (@Tryz.underlying22))) (And.intro (@cE) (And.intro (@bJ) (@cH)))) (And.intro (And.intro (@cI) (And.intro (@bH) (@bL))) (And.intro (@Tryz.underlying23) (And.intro (@cD) (@bI)))))) (And.intro (And.intro (And.intro (And.intro (@cF) (And.intro (@cG) (@bG))) (And.intro (@bK) (And.intro (@Tryz.underlying25) (@sz25)))) (And.intro (And.intro (@fok25) (And.intro (@info25) (@I25s))) (And.intro (@I25b) (And.intro (@zero25) (@grow25))))) (And.intro (And.intro (And.intro (@Tryz.underlying30) (And.intro (@sz30) (@info30))) (And.intro (@I30s) (And.intro (@I30b) (@zero30)))) (And.intro (And.intro (@grow30) (And.intro (@call64) (@call65))) (And.intro (And.intro (@call66) (@call67)) (And.intro (@call68) (@Tryz.results17))))))
def TF24StU := And.intro (And.intro (And.intro (And.intro (And.intro (@Tryz.underlying3) (@sz3)) (And.intro (@bP) (And.intro (@I3s) (@I3b)))) (And.intro (And.intro (@bM) (And.intro (@bQ) (@Tryz.underlying4))) (And.intro (@sz4) (And.intro (@bW) (@I4s))))) (And.intro (And.intro (And.intro (@I4b) (@bU)) (And.intro (@bX) (And.intro (@Tryz.underlying22) (@cE)))) (And.intro (And.intro (@bJ) (And.intro (@cH) (@cI))) (And.intro (@bH) (And.intro (@bL) (@Tryz.underlying23)))))) (And.intro (And.intro (And.intro (And.intro (@cD) (@bI)) (And.intro (@cF) (And.intro (@cG) (@bG)))) (And.intro (And.intro (@bK) (And.intro (@Tryz.underlying25) (@sz25))) (And.intro (@fok25) (And.intro (@info25) (@I25s))))) (And.intro (And.intro (And.intro (@I25b) (@zero25)) (And.intro (@grow25) (And.intro (@Tryz.underlying30) (@sz30)))) (And.intro (And.intro (@info30) (And.intro (@I30s) (@I30b))) (And.intro (@zero30) (And.intro (@grow30) (@Tryz.results24))))))
set_option maxRecDepth 20000
set_option maxHeartbeats 4000000

/-! a list of numbers under way, from nothing -/
def IV (v : EVal) (bs : List Int) (N : Nat) (l : List (Nat × Option EObj)) : Prop := (v = .nilslice ∧ bs = []) ∨ VL v bs N l
theorem eAppend_IV {v : EVal} {bs : List Int} {x : Int} {N m : Nat} {l : List (Nat × Option EObj)} {kk : List (Nat × Option (Nat × TypeId))} (h : IV v bs N l) (hN : N < 16000) (hlen : bs.length ≤ 10000) (h0 : 1 ≤ N) :
    ∃ v2 l2, eAppend Tryz.prog (mkH N l m kk) 30 v (.lsl [[.int .i64 x]]) = some (v2, mkH (N + 1) l2 m kk) ∧ IV v2 (bs ++ [x]) (N + 1) l2 ∧ aB l2 0 = aB l 0 := by
  rcases h with ⟨rfl, rfl⟩ | h
  · have g1 : decide (8 * 1 ≤ 1000000) = true := by decide
    have g2 : lensOK 1 [[EVal.int .i64 x]] = true := rfl
    refine ⟨.slice N 0 1 (.slack 0), (N, some (.row [.int .i64 x] 3 0 0 true)) :: l, ?_, .inr ⟨N, .slack 0, true, h0, by omega, rfl, .inr ⟨rfl, rfl⟩, by simp [aB, cA]⟩, ?_⟩
    · simp only [SS, TF17StU, Nat.reduceLeDiff, reduceCtorEq, g2]
    · rw [aB.eq_2, if_neg (by omega)]
  · obtain ⟨v2, l2, h1, h2, h3⟩ := eAppend_VL (x := [x]) (X := [[.int .i64 x]]) (m := m) (kk := kk) h rfl rfl rfl rfl (by simp) (by simp) hN hlen h0
    exact ⟨v2, l2, h1, .inr h2, h3⟩
def bsR (s : St) : Nat → Int
  | 0 => s.b3
  | 1 => s.b2
  | _ => s.b1
def cB (s : St) : Nat → List Int
  | 0 => []
  | k + 1 => if bsR s k = 0 then cB s k else cB s k ++ [bsR s k]
theorem runN_len (s : St) : ∀ k, (cB s k).length ≤ k
  | 0 => by simp [cB]
  | k + 1 => by
    have := runN_len s k
    unfold cB
    split
    · omega
    · simp; omega
def bT (s : St) : List Int := cB s 3
theorem sb0 : IntKind.i64.wrap ((2 : Int) - 0) = 2 := by decide
theorem sb1 : IntKind.i64.wrap ((2 : Int) - 1) = 1 := by decide
theorem sb2 : IntKind.i64.wrap ((2 : Int) - 2) = 0 := by decide
theorem sb3 : IntKind.i64.wrap ((1 : Int) - 1) = 0 := by decide
theorem sb4 : IntKind.i64.wrap ((0 : Int) - 1) = -1 := by decide
theorem w2 : IntKind.i64.wrap (2 : Int) = 2 := by decide
theorem ge0 : decide ((0 : Int) ≤ 2) = true := by decide
theorem ge1 : decide ((0 : Int) ≤ 1) = true := by decide
theorem ge2 : decide ((0 : Int) ≤ 0) = true := by decide
theorem ge3 : decide ((0 : Int) ≤ -1) = false := by decide
set_option linter.defProp false
def SB := And.intro sb0 (And.intro sb1 (And.intro sb2 (And.intro sb3 (And.intro sb4 (And.intro w2 (And.intro ge0 (And.intro ge1 (And.intro ge2 ge3))))))))
/-! the runners, for the reference -/
def F1024 : List EVal → Option EVal := cJ fun s => some (.lsl (aX (bT s)))
theorem e1024 {s : St} : F1024 [.agg (eSt s)] = some (.lsl (aX (bT s))) := rfl
theorem fn1024 : FnT 24 F1024 := by
  refine Fn.intro mixed aK Tryz.func24 rfl [] (fun _ h => by cases h) ?_
  intro args v hF0
  obtain ⟨s, rfl, hF⟩ := onSt_inv hF0
  clear hF0
  cases hF
  intro Q hV
  obtain ⟨RL, hRL⟩ : ∃ RL, RL = bT s := ⟨_, rfl⟩
  rw [← hRL] at hV
  have hQ := aY.of hV
  have u : eSt s = [.int .i64 s.inn, .int .i64 s.half, .int .i64 s.outs, .int .i64 s.balls, .int .i64 s.strikes, .int .i64 s.b1, .int .i64 s.b2, .int .i64 s.b3, .int .i64 s.n0, .int .i64 s.n1, .int .i64 s.c0, .int .i64 s.c1, .bool s.over] := rfl
  refine Top.view (aF.start (n := 22) rfl (by simp)) ?_
  refine Top.view (aF.mode (n := 0) (m := 0) (l := []) (k := []) 128 (by omega)) ?_
  refine Top.seam (σ := Unit) aK (fun _ => mkF 22 [(1, .ptr 0 0)]) (fun _ => mkH 1 [(0, some (.row [.int .i64 s.inn, .int .i64 s.half, .int .i64 s.outs, .int .i64 s.balls, .int .i64 s.strikes, .int .i64 s.b1, .int .i64 s.b2, .int .i64 s.b3, .int .i64 s.n0, .int .i64 s.n1, .int .i64 s.c0, .int .i64 s.c1, .bool s.over] 25 0 0 false))] 128 []) ?_ ?_
  · intro R hR
    (try simp only [aV, SS, aA, Nat.reduceLT, u])
    exact hR () _ _ (aF.drop (by simp [aL, below]) (by simp [aB, aG, below, aD]) (by simp [aB]))
  intro _
  refine aH aK _ _ _ _ ?_
  (try simp only [SS, aA, Nat.reduceLT])
  refine wp_of_top (Top.loop (I := fun x : { x : Nat × EVal × Nat × List (Nat × Option EObj) × Int // x.1 ≤ 3 ∧ IV x.2.1 (cB s x.1) x.2.2.1 x.2.2.2.1 ∧ 1 ≤ x.2.2.1 ∧ x.2.2.1 ≤ 1 + x.1 ∧ aB x.2.2.2.1 0 = some (.row [.int .i64 s.inn, .int .i64 s.half, .int .i64 s.outs, .int .i64 s.balls, .int .i64 s.strikes, .int .i64 s.b1, .int .i64 s.b2, .int .i64 s.b3, .int .i64 s.n0, .int .i64 s.n1, .int .i64 s.c0, .int .i64 s.c1, .bool s.over] 25 0 0 false) ∧ x.2.2.2.2 = 2 - x.1 } => (mkF 22 [(4, .int .i64 x.1.2.2.2.2), (3, x.1.2.1), (1, .ptr 0 0)], mkH x.1.2.2.1 x.1.2.2.2.1 128 [])) (μ := fun x => 3 - x.1.1) ⟨(0, .nilslice, 1, [(0, some (.row [.int .i64 s.inn, .int .i64 s.half, .int .i64 s.outs, .int .i64 s.balls, .int .i64 s.strikes, .int .i64 s.b1, .int .i64 s.b2, .int .i64 s.b3, .int .i64 s.n0, .int .i64 s.n1, .int .i64 s.c0, .int .i64 s.c1, .bool s.over] 25 0 0 false))], 2), by simp, .inl ⟨rfl, rfl⟩, by simp, by simp, by simp [aB], by simp⟩ (aF.sub (by simp [aL])) ?_)
  rintro ⟨⟨k, v, N, l, i⟩, hk, hiv, hN1, hN, hl0, hi⟩
  refine aH aK _ _ _ _ ?_
  dsimp only at hk hiv hN1 hN hl0 hi ⊢
  have hlen := runN_len s k
  obtain rfl | rfl | rfl | rfl : k = 0 ∨ k = 1 ∨ k = 2 ∨ k = 3 := by omega
  · obtain rfl : i = 2 := by omega
    have hn : cB s 1 = if s.b3 = 0 then cB s 0 else cB s 0 ++ [s.b3] := rfl
    by_cases h0 : s.b3 = 0
    · have c0 : (s.b3 == 0) = true := by simp [h0]
      rw [if_pos h0] at hn
      (try simp only [SS, TF24StU, aA, Nat.reduceLT, Nat.reduceEqDiff, Nat.reduceAdd, Nat.reduceSub, reduceCtorEq, UP, BND, SB, hl0, c0])
      exact ⟨⟨(1, v, N, l, 1), by omega, by rw [hn]; exact hiv, hN1, by show N ≤ _; omega, hl0, by show (1 : Int) = _; omega⟩, by simp, aF.sub (by simp [aL])⟩
    · have c0 : (s.b3 == 0) = false := by simp [h0]
      rw [if_neg h0] at hn
      obtain ⟨v2, l2, hap, hiv2, h02⟩ := eAppend_IV (x := s.b3) (m := 128) (kk := []) hiv (by omega) (by omega) hN1
      (try simp only [SS, TF24StU, setRange, bA, aA, aC, Nat.reduceLT, Nat.reduceEqDiff, Nat.reduceAdd, Nat.reduceSub, Nat.reduceLeDiff, reduceCtorEq, UP, BND, SB, hl0, c0, ↓hap])
      exact ⟨⟨(1, v2, N + 1, l2, 1), by omega, by rw [hn]; exact hiv2, by show 1 ≤ N + 1; omega, by show N + 1 ≤ _; omega, by rw [h02]; exact hl0, by show (1 : Int) = _; omega⟩, by simp, aF.sub (by simp [aL])⟩
  · obtain rfl : i = 1 := by omega
    have hn : cB s 2 = if s.b2 = 0 then cB s 1 else cB s 1 ++ [s.b2] := rfl
    by_cases h0 : s.b2 = 0
    · have c0 : (s.b2 == 0) = true := by simp [h0]
      rw [if_pos h0] at hn
      (try simp only [SS, TF24StU, aA, Nat.reduceLT, Nat.reduceEqDiff, Nat.reduceAdd, Nat.reduceSub, reduceCtorEq, UP, BND, SB, hl0, c0])
      exact ⟨⟨(2, v, N, l, 0), by omega, by rw [hn]; exact hiv, hN1, by show N ≤ _; omega, hl0, by show (0 : Int) = _; omega⟩, by simp, aF.sub (by simp [aL])⟩
    · have c0 : (s.b2 == 0) = false := by simp [h0]
      rw [if_neg h0] at hn
      obtain ⟨v2, l2, hap, hiv2, h02⟩ := eAppend_IV (x := s.b2) (m := 128) (kk := []) hiv (by omega) (by omega) hN1
      (try simp only [SS, TF24StU, setRange, bA, aA, aC, Nat.reduceLT, Nat.reduceEqDiff, Nat.reduceAdd, Nat.reduceSub, Nat.reduceLeDiff, reduceCtorEq, UP, BND, SB, hl0, c0, ↓hap])
      exact ⟨⟨(2, v2, N + 1, l2, 0), by omega, by rw [hn]; exact hiv2, by show 1 ≤ N + 1; omega, by show N + 1 ≤ _; omega, by rw [h02]; exact hl0, by show (0 : Int) = _; omega⟩, by simp, aF.sub (by simp [aL])⟩
  · obtain rfl : i = 0 := by omega
    have hn : cB s 3 = if s.b1 = 0 then cB s 2 else cB s 2 ++ [s.b1] := rfl
    by_cases h0 : s.b1 = 0
    · have c0 : (s.b1 == 0) = true := by simp [h0]
      rw [if_pos h0] at hn
      (try simp only [SS, TF24StU, aA, Nat.reduceLT, Nat.reduceEqDiff, Nat.reduceAdd, Nat.reduceSub, reduceCtorEq, UP, SB, hl0, c0])
      exact ⟨⟨(3, v, N, l, -1), by omega, by rw [hn]; exact hiv, hN1, by show N ≤ _; omega, hl0, by show (-1 : Int) = _; omega⟩, by simp, aF.sub (by simp [aL])⟩
    · have c0 : (s.b1 == 0) = false := by simp [h0]
      rw [if_neg h0] at hn
      obtain ⟨v2, l2, hap, hiv2, h02⟩ := eAppend_IV (x := s.b1) (m := 128) (kk := []) hiv (by omega) (by omega) hN1
      (try simp only [SS, TF24StU, setRange, bA, aA, aC, Nat.reduceLT, Nat.reduceEqDiff, Nat.reduceAdd, Nat.reduceSub, Nat.reduceLeDiff, reduceCtorEq, UP, SB, hl0, c0, ↓hap])
      exact ⟨⟨(3, v2, N + 1, l2, -1), by omega, by rw [hn]; exact hiv2, by show 1 ≤ N + 1; omega, by show N + 1 ≤ _; omega, by rw [h02]; exact hl0, by show (-1 : Int) = _; omega⟩, by simp, aF.sub (by simp [aL])⟩
  · obtain rfl : i = -1 := by omega
    replace hiv : IV v RL N l := by rw [hRL]; exact hiv
    rcases hiv with ⟨rfl, rfl⟩ | ⟨id, cap, sl, h1, h2, rfl, hc, h4⟩
    · (try simp only [SS, aA, Nat.reduceLT, Nat.reduceEqDiff, SB])
      (refine hQ _ _ _ (aJ (by first | exact .inl rfl | exact .inr rfl) ?_); simp only [SS, TF24StU, Nat.reduceLT, Nat.reduceEqDiff])
      rfl
    · (try simp only [SS, aA, Nat.reduceLT, Nat.reduceEqDiff, SB])
      have hid0 : id < 16000 := by omega
      have hcap : capOK RL.length cap = true := by rcases hc with ⟨rfl, _⟩ | ⟨rfl, _⟩ <;> simp [capOK]
      refine hV _ _ _ ⟨_, _, aF.fz (sz := 1) (len := RL.length) (fl2 := [(2, .lsl (bF 1 RL.length (cA RL)))]) (l2 := []) (k2 := []) id hid0 h4 (keepL_eRow _) (by simp [eRow_length]) ?_ (by simp) (by simp), aJ (.inl rfl) ?_⟩
      · simp only [List.mem_singleton]
        rintro p rfl
        exact ⟨by simp, _, by simp only [aL, if_true], .inr ⟨cap, rfl, hcap, rfl⟩⟩
      · rw [chunk_eRow]
        simp only [SS, TF24StU, Nat.reduceLT]

/-! the runners, for the program -/
def runT (s : St) : EVal := if onE s = 0 then .tup [.lsl (aX (bT s)), .int .i64 0] else .tup [.lsl [], .int .i64 (onE s)]
def F1015 : List EVal → Option EVal := cJ fun s => some (runT s)
theorem e1015 {s : St} : F1015 [.agg (eSt s)] = some (runT s) := rfl
theorem fn1015 : FnT 15 F1015 := by
  refine Fn.intro mixed aK Tryz.func15 rfl [(60, F1060b)] (by simp only [List.forall_mem_cons]; exact ⟨fn1060b, fun _ h => by cases h⟩) ?_
  intro args v hF0
  obtain ⟨s, rfl, hF⟩ := onSt_inv hF0
  cases hF
  clear hF0
  intro Q hV
  have u : eSt s = [.int .i64 s.inn, .int .i64 s.half, .int .i64 s.outs, .int .i64 s.balls, .int .i64 s.strikes, .int .i64 s.b1, .int .i64 s.b2, .int .i64 s.b3, .int .i64 s.n0, .int .i64 s.n1, .int .i64 s.c0, .int .i64 s.c1, .bool s.over] := rfl
  have e := e1060b (s := s)
  simp only [u] at e
  unfold runT at hV
  by_cases h0 : onE s = 0
  rotate_left
  · rw [if_neg h0] at hV
    have hQ := aY.of hV
    have c0 : (onE s == 0) = false := by simp [h0]
    refine Top.view (aF.start (n := 30) rfl (by simp)) (aH aK _ _ _ _ ?_)
    (try simp only [aV, SS, TF15StU, aI, setRange, bA, aA, aC, Nat.reduceLT, Nat.reduceEqDiff, Nat.reduceAdd, Nat.reduceLeDiff, reduceCtorEq, u, e, c0])
    (refine hQ _ _ _ (aJ (by first | exact .inl rfl | exact .inr rfl) ?_); simp only [SS, TF15StU, Nat.reduceLT, Nat.reduceEqDiff, reduceCtorEq])
  rw [if_pos h0] at hV
  obtain ⟨RL, hRL⟩ : ∃ RL, RL = bT s := ⟨_, rfl⟩
  rw [← hRL] at hV
  have hQ := aY.of hV
  have c0 : (onE s == 0) = true := by simp [h0]
  refine Top.view (aF.start (n := 30) rfl (by simp)) ?_
  refine Top.view (aF.mode (n := 0) (m := 0) (l := []) (k := []) 128 (by omega)) ?_
  refine Top.seam (σ := Unit) aK (fun _ => mkF 30 [(1, .ptr 0 0)]) (fun _ => mkH 1 [(0, some (.row [.int .i64 s.inn, .int .i64 s.half, .int .i64 s.outs, .int .i64 s.balls, .int .i64 s.strikes, .int .i64 s.b1, .int .i64 s.b2, .int .i64 s.b3, .int .i64 s.n0, .int .i64 s.n1, .int .i64 s.c0, .int .i64 s.c1, .bool s.over] 26 0 0 false))] 128 []) ?_ ?_
  · intro R hR
    (try simp only [aV, SS, aA, Nat.reduceLT, u])
    exact hR () _ _ (aF.drop (by simp [aL, below]) (by simp [aB, aG, below, aD]) (by simp [aB]))
  intro _
  refine Top.seam (σ := Unit) aK (fun _ => mkF 30 [(1, .ptr 0 0)]) (fun _ => mkH 1 [(0, some (.row [.int .i64 s.inn, .int .i64 s.half, .int .i64 s.outs, .int .i64 s.balls, .int .i64 s.strikes, .int .i64 s.b1, .int .i64 s.b2, .int .i64 s.b3, .int .i64 s.n0, .int .i64 s.n1, .int .i64 s.c0, .int .i64 s.c1, .bool s.over] 26 0 0 false))] 128 []) ?_ ?_
  · intro R hR
    (try simp only [SS, TF15StU, aI, setRange, bA, aA, aC, Nat.reduceLT, Nat.reduceEqDiff, Nat.reduceAdd, Nat.reduceLeDiff, e, c0])
    exact hR () _ _ (aF.drop (by simp [aL, below]) (by simp [aB, aG, below, aD]) (by simp [aB]))
  intro _
  refine aH aK _ _ _ _ ?_
  (try simp only [SS, aA, Nat.reduceLT])
  refine wp_of_top (Top.loop (I := fun x : { x : Nat × EVal × Nat × List (Nat × Option EObj) // x.1 ≤ 3 ∧ IV x.2.1 (cB s x.1) x.2.2.1 x.2.2.2 ∧ 1 ≤ x.2.2.1 ∧ x.2.2.1 ≤ 1 + x.1 ∧ aB x.2.2.2 0 = some (.row [.int .i64 s.inn, .int .i64 s.half, .int .i64 s.outs, .int .i64 s.balls, .int .i64 s.strikes, .int .i64 s.b1, .int .i64 s.b2, .int .i64 s.b3, .int .i64 s.n0, .int .i64 s.n1, .int .i64 s.c0, .int .i64 s.c1, .bool s.over] 26 0 0 false) } => (mkF 30 [(14, .int .i64 ((x.1.1 : Nat) : Int)), (5, x.1.2.1), (1, .ptr 0 0)], mkH x.1.2.2.1 x.1.2.2.2 128 [])) (μ := fun x => 3 - x.1.1) ⟨(0, .nilslice, 1, [(0, some (.row [.int .i64 s.inn, .int .i64 s.half, .int .i64 s.outs, .int .i64 s.balls, .int .i64 s.strikes, .int .i64 s.b1, .int .i64 s.b2, .int .i64 s.b3, .int .i64 s.n0, .int .i64 s.n1, .int .i64 s.c0, .int .i64 s.c1, .bool s.over] 26 0 0 false))]), by simp, .inl ⟨rfl, rfl⟩, by simp, by simp, by simp [aB]⟩ (aF.sub (by simp [aL])) ?_)
  rintro ⟨⟨k, v, N, l⟩, hk, hiv, hN1, hN, hl0⟩
  refine aH aK _ _ _ _ ?_
  dsimp only at hk hiv hN1 hN hl0 ⊢
  have hlen := runN_len s k
  obtain rfl | rfl | rfl | rfl : k = 0 ∨ k = 1 ∨ k = 2 ∨ k = 3 := by omega
  · have hn : cB s 1 = if s.b3 = 0 then cB s 0 else cB s 0 ++ [s.b3] := rfl
    by_cases h0 : s.b3 = 0
    · have c0 : (s.b3 == 0) = true := by simp [h0]
      rw [if_pos h0] at hn
      (try simp only [SS, TF15StU, aA, Nat.reduceLT, Nat.reduceEqDiff, Nat.reduceAdd, Nat.reduceSub, reduceCtorEq, UP, BND, SB, hl0, c0])
      exact ⟨⟨(1, v, N, l), by omega, by rw [hn]; exact hiv, hN1, by show N ≤ _; omega, hl0⟩, by simp, aF.sub (by simp [aL])⟩
    · have c0 : (s.b3 == 0) = false := by simp [h0]
      rw [if_neg h0] at hn
      obtain ⟨v2, l2, hap, hiv2, h02⟩ := eAppend_IV (x := s.b3) (m := 128) (kk := []) hiv (by omega) (by omega) hN1
      (try simp only [SS, TF15StU, setRange, bA, aA, aC, Nat.reduceLT, Nat.reduceEqDiff, Nat.reduceAdd, Nat.reduceSub, Nat.reduceLeDiff, reduceCtorEq, UP, BND, SB, hl0, c0, ↓hap])
      exact ⟨⟨(1, v2, N + 1, l2), by omega, by rw [hn]; exact hiv2, by show 1 ≤ N + 1; omega, by show N + 1 ≤ _; omega, by rw [h02]; exact hl0⟩, by simp, aF.sub (by simp [aL])⟩
  · have hn : cB s 2 = if s.b2 = 0 then cB s 1 else cB s 1 ++ [s.b2] := rfl
    by_cases h0 : s.b2 = 0
    · have c0 : (s.b2 == 0) = true := by simp [h0]
      rw [if_pos h0] at hn
      (try simp only [SS, TF15StU, aA, Nat.reduceLT, Nat.reduceEqDiff, Nat.reduceAdd, Nat.reduceSub, reduceCtorEq, UP, BND, SB, hl0, c0])
      exact ⟨⟨(2, v, N, l), by omega, by rw [hn]; exact hiv, hN1, by show N ≤ _; omega, hl0⟩, by simp, aF.sub (by simp [aL])⟩
    · have c0 : (s.b2 == 0) = false := by simp [h0]
      rw [if_neg h0] at hn
      obtain ⟨v2, l2, hap, hiv2, h02⟩ := eAppend_IV (x := s.b2) (m := 128) (kk := []) hiv (by omega) (by omega) hN1
      (try simp only [SS, TF15StU, setRange, bA, aA, aC, Nat.reduceLT, Nat.reduceEqDiff, Nat.reduceAdd, Nat.reduceSub, Nat.reduceLeDiff, reduceCtorEq, UP, BND, SB, hl0, c0, ↓hap])
      exact ⟨⟨(2, v2, N + 1, l2), by omega, by rw [hn]; exact hiv2, by show 1 ≤ N + 1; omega, by show N + 1 ≤ _; omega, by rw [h02]; exact hl0⟩, by simp, aF.sub (by simp [aL])⟩
  · have hn : cB s 3 = if s.b1 = 0 then cB s 2 else cB s 2 ++ [s.b1] := rfl
    by_cases h0 : s.b1 = 0
    · have c0 : (s.b1 == 0) = true := by simp [h0]
      rw [if_pos h0] at hn
      (try simp only [SS, TF15StU, aA, Nat.reduceLT, Nat.reduceEqDiff, Nat.reduceAdd, Nat.reduceSub, reduceCtorEq, UP, SB, hl0, c0])
      exact ⟨⟨(3, v, N, l), by omega, by rw [hn]; exact hiv, hN1, by show N ≤ _; omega, hl0⟩, by simp, aF.sub (by simp [aL])⟩
    · have c0 : (s.b1 == 0) = false := by simp [h0]
      rw [if_neg h0] at hn
      obtain ⟨v2, l2, hap, hiv2, h02⟩ := eAppend_IV (x := s.b1) (m := 128) (kk := []) hiv (by omega) (by omega) hN1
      (try simp only [SS, TF15StU, setRange, bA, aA, aC, Nat.reduceLT, Nat.reduceEqDiff, Nat.reduceAdd, Nat.reduceSub, Nat.reduceLeDiff, reduceCtorEq, UP, SB, hl0, c0, ↓hap])
      exact ⟨⟨(3, v2, N + 1, l2), by omega, by rw [hn]; exact hiv2, by show 1 ≤ N + 1; omega, by show N + 1 ≤ _; omega, by rw [h02]; exact hl0⟩, by simp, aF.sub (by simp [aL])⟩
  · replace hiv : IV v RL N l := by rw [hRL]; exact hiv
    rcases hiv with ⟨rfl, rfl⟩ | ⟨id, cap, sl, h1, h2, rfl, hc, h4⟩
    · (try simp only [SS, aA, Nat.reduceLT, Nat.reduceEqDiff, UP])
      (refine hQ _ _ _ (aJ (by first | exact .inl rfl | exact .inr rfl) ?_); simp only [SS, TF15StU, Nat.reduceLT, Nat.reduceEqDiff])
      rfl
    · (try simp only [SS, aA, Nat.reduceLT, Nat.reduceEqDiff, UP])
      have hid0 : id < 16000 := by omega
      have hcap : capOK RL.length cap = true := by rcases hc with ⟨rfl, _⟩ | ⟨rfl, _⟩ <;> simp [capOK]
      refine hV _ _ _ ⟨_, _, aF.fz (sz := 1) (len := RL.length) (fl2 := [(2, .lsl (bF 1 RL.length (cA RL))), (3, .int .i64 0)]) (l2 := []) (k2 := []) id hid0 h4 (keepL_eRow _) (by simp [eRow_length]) ?_ (by simp) (by simp), aJ (.inl rfl) ?_⟩
      · simp only [List.forall_mem_cons]
        refine ⟨⟨by simp, _, by simp only [aL, if_true, if_false, Nat.reduceEqDiff], .inr ⟨cap, rfl, hcap, rfl⟩⟩, ⟨by simp, _, by simp only [aL, if_true, if_false, Nat.reduceEqDiff], .inl rfl⟩, fun _ h => by cases h⟩
      · rw [chunk_eRow]
        simp only [SS, TF15StU, Nat.reduceLT, Nat.reduceEqDiff]
end Go.Ev
