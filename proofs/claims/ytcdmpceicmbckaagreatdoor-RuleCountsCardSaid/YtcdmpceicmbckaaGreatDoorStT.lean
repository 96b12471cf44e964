import Derived.Test.YtcdmpceicmbckaaGreatDoorStS
set_option linter.unusedSimpArgs false
set_option linter.unusedVariables false
namespace Go.Ev
open Go.RowKit Go.Proofs
set_option linter.defProp false
def aW := And.intro (And.intro (And.intro (And.intro (And.intro (@Tryz.underlying3) (And.intro (@sz3) (@bP))) (And.intro (@I3s) (And.intro (@I3b) (@bN)))) (And.intro (And.intro (@bQ) (And.intro (@Tryz.underlying4) (@sz4))) (And.intro (@info4) (And.intro (@I4s) (@I4b))))) (And.intro (And.intro (And.intro (@zero4) (And.intro (@grow4) (@Tryz.underlying22))) (And.intro (@sz22) (And.intro (@info22) (@I22s)))) (And.intro (And.intro (@I22b) (And.intro (@zero22) (@grow22))) (And.intro (@Tryz.underlying23) (And.intro (@sz23) (@info23)))))) (And.intro (And.intro (And.intro (And.intro (@I23s) (And.intro (@I23b) (@zero23))) (And.intro (@grow23) (And.intro (@Tryz.underlying25) (@sz25)))) (And.intro (And.intro (@fok25) (And.intro (@info25) (@I25s))) (And.intro (@I25b) (And.intro (@zero25) (@grow25))))) (And.intro (And.intro (And.intro (@Tryz.underlying30) (And.intro (@sz30) (@info30))) (And.intro (@I30s) (And.intro (@I30b) (@zero30)))) (And.intro (And.intro (@grow30) (And.intro (@call64) (@call65))) (And.intro (And.intro (@call66) (@call67)) (And.intro (@call68) (@Tryz.results17))))))
set_option maxRecDepth 20000
set_option maxHeartbeats 4000000

/-! a list of numbers under way: a row that was written out, or one that grows -/
def VL (v : EVal) (bs : List Int) (N : Nat) (l : List (Nat × Option EObj)) : Prop :=
  ∃ id cap sl, 1 ≤ id ∧ id < N ∧ v = .slice id 0 bs.length cap ∧ ((cap = .exact bs.length ∧ sl = false) ∨ (cap = .slack 0 ∧ sl = true)) ∧ aG l id = some (.row (cC bs) 3 0 0 sl)
theorem eRow_take (l : List Int) : (cC l).take l.length = cC l := by rw [← eRow_length l, List.take_length]
theorem eAppend_VL {v : EVal} {bs : List Int} {x : List Int} {X : List (List EVal)} {N m : Nat} {l : List (Nat × Option EObj)} {kk : List (Nat × Option (Nat × TypeId))} (h : VL v bs N l) (hX : X.flatten = cC x) (hX2 : X.length = x.length) (hX3 : lensOK 1 X = true) (hX4 : allOne (cC x) = true) (hx : 0 < x.length) (hx2 : x.length ≤ 100) (hN : N < 16000) (hlen : bs.length ≤ 10000) (h0 : 1 ≤ N) :
    ∃ v2 l2, eAppend Tryz.prog (mkH N l m kk) 30 v (.lsl X) = some (v2, mkH (N + 1) l2 m kk) ∧ VL v2 (bs ++ x) (N + 1) l2 ∧ aG l2 0 = aG l 0 := by
  have hs : cC bs ++ cC x = cC (bs ++ x) := by simp [cC]
  have hN0 : N < 16000 := hN
  have hxn : (x.length = 0) = False := eq_false (by omega)
  have g1 : decide (8 * (bs.length + x.length) ≤ 1000000) = true := by simp; omega
  have g3 : (bs.length + x.length ≤ bs.length) = False := by simp; omega
  obtain ⟨id, cap, sl, hlo, hid, rfl, hc, hl⟩ := h
  have hid0 : id < 16000 := by omega
  rcases hc with ⟨rfl, rfl⟩ | ⟨rfl, rfl⟩
  · refine ⟨.slice N 0 (bs.length + x.length) (.slack 0), (N, some (.row (cC bs ++ cC x) 3 0 0 true)) :: l, ?_, ⟨N, .slack 0, true, h0, by omega, by simp, .inr ⟨rfl, rfl⟩, by rw [hs]; simp [aG]⟩, ?_⟩
    · simp only [SS, aW, setRange, hid0, hl, g1, g3, hX, hX2, hX3, hX4, eRow_length, eRow_take]
    · rw [aG.eq_2, if_neg (by omega)]
  · refine ⟨.slice N 0 (bs.length + x.length) (.slack 0), (N, some (.row (cC bs ++ cC x) 3 0 0 true)) :: (id, none) :: l, ?_, ⟨N, .slack 0, true, h0, by omega, by simp, .inr ⟨rfl, rfl⟩, by rw [hs]; simp [aG]⟩, ?_⟩
    · simp only [SS, aW, setRange, reduceCtorEq, hid0, hl, g1, g3, hxn, hX, hX2, hX3, hX4, eRow_length, eRow_take]
    · rw [aG.eq_2, if_neg (by omega), aG.eq_2, if_neg (by omega)]

def ebs (s : St) : Nat → List Int
  | 0 => [rgC s.outs 0 2, rgC s.balls 0 3, rgC s.strikes 0 2]
  | k + 1 => ebs s k ++ [rgC (bsC s k) 0 9]
def nxC (s : St) : Nat → Int
  | 0 => s.n0
  | _ => s.n1
def scC (s : St) : Nat → Int
  | 0 => s.c0
  | _ => s.c1
def ens (s : St) : Nat → List Int
  | 0 => ebs s 3
  | k + 1 => ens s k ++ [rgC (nxC s k) 1 9, rgC (scC s k) 0 9999]
theorem firstI_rg : ∀ {l : List Int}, (∀ x ∈ l, x = 0 ∨ x = 3) → bL l = if l.all (· == 0) = true then 0 else 3
  | [], _ => rfl
  | x :: l, h => by
    have ih := firstI_rg (l := l) fun y hy => h y (by simp [hy])
    rcases h x (by simp) with rfl | rfl
    · rw [bL, if_pos rfl, ih]; simp
    · rw [bL, if_neg (by omega)]; simp
theorem rgC_or (n lo hi : Int) : rgC n lo hi = 0 ∨ rgC n lo hi = 3 := by unfold rgC; split <;> simp
theorem rgC_z (n lo hi : Int) : (rgC n lo hi == 0) = inB n lo hi := by unfold rgC; split <;> simp_all
theorem ens_first (s : St) : bL (ens s 2) = if nuB s 2 = true then 0 else 3 := by
  rw [firstI_rg]
  · have : (ens s 2).all (· == 0) = nuB s 2 := by
      simp only [ens, ebs, List.cons_append, List.nil_append, List.all_cons, List.all_nil, rgC_z, nuB, baB, cnB, nxC, scC, bsC, Bool.and_true, Bool.and_assoc]
    rw [this]
  · intro x hx
    simp only [ens, ebs, List.cons_append, List.nil_append, List.mem_cons, List.not_mem_nil, or_false] at hx
    rcases hx with rfl | rfl | rfl | rfl | rfl | rfl | rfl | rfl | rfl | rfl <;> exact rgC_or _ _ _
theorem stE_eq (s : St) : stE s = if inB s.inn 1 30 = false then 3 else if inB s.half 0 1 = false then 17 else if nuB s 2 = false then 3 else if (s.over && !overB s || !s.over && decB s) = true then 19 else if fitB s = true then 0 else 11 := by
  unfold stE vals5 innE halfE numE endE runE
  simp only [bL]
  cases inB s.inn 1 30 <;> cases inB s.half 0 1 <;> cases nuB s 2 <;> cases (s.over && !overB s || !s.over && decB s) <;> cases fitB s <;> rfl

def F1017 : List EVal → Option EVal := onSt fun s => some (.int .i64 (stE s))
theorem e1017 {s : St} : F1017 [.agg (eSt s)] = some (.int .i64 (stE s)) := rfl
theorem fn1017 : FnT 17 F1017 := by
  refine Fn.intro mixed aK Tryz.func17 rfl [(64, F1064), (65, F1065), (66, F1066), (67, F1067), (68, F1068)] (by simp only [List.forall_mem_cons]; exact ⟨fn1064, fn1065, fn1066, fn1067, fn1068, fun _ h => by cases h⟩) ?_
  intro args v hF0
  obtain ⟨s, rfl, hF⟩ := onSt_inv hF0
  clear hF0
  cases hF
  intro Q hV
  rw [stE_eq] at hV
  have hQ := aV.of hV
  have u : eSt s = [.int .i64 s.inn, .int .i64 s.half, .int .i64 s.outs, .int .i64 s.balls, .int .i64 s.strikes, .int .i64 s.b1, .int .i64 s.b2, .int .i64 s.b3, .int .i64 s.n0, .int .i64 s.n1, .int .i64 s.c0, .int .i64 s.c1, .bool s.over] := rfl
  refine Top.view (aH.start (n := 79) rfl (by simp)) ?_
  refine Top.seam (σ := Unit) aK (fun _ => mkF 79 [(2, .int .i64 0), (1, .ptr 0 0)]) (fun _ => mkH 1 [(0, some (.row [.int .i64 s.inn, .int .i64 s.half, .int .i64 s.outs, .int .i64 s.balls, .int .i64 s.strikes, .int .i64 s.b1, .int .i64 s.b2, .int .i64 s.b3, .int .i64 s.n0, .int .i64 s.n1, .int .i64 s.c0, .int .i64 s.c1, .bool s.over] 25 0 0 false))] 0 []) ?_ ?_
  · intro R hR
    (try simp only [aT, SS, aA, Nat.reduceLT, u])
    exact hR () _ _ (aH.drop (by simp [aX, below]) (by simp [aG, belowO, below, aN]) (by simp [aG]))
  intro _
  cases x1 : inB s.inn 1 30 with
  | false =>
    rw [if_pos x1] at hQ
    have c1 : (rgC s.inn 1 30 == 0) = false := by rw [rgC_z]; exact x1
    refine aC aK _ _ _ _ ?_
    (try simp only [SS, aW, aE, aA, Nat.reduceLT, Nat.reduceEqDiff, reduceCtorEq, e1064, c1])
    (refine hQ _ _ _ (aD (by first | exact .inl rfl | exact .inr rfl) ?_); simp only [SS, aW, Nat.reduceLT, Nat.reduceEqDiff])
  | true =>
  rw [if_neg (by simp [x1])] at hQ
  have c1 : (rgC s.inn 1 30 == 0) = true := by rw [rgC_z]; exact x1
  refine Top.seam (σ := Unit) aK (fun _ => mkF 79 [(2, .int .i64 0), (1, .ptr 0 0)]) (fun _ => mkH 1 [(0, some (.row [.int .i64 s.inn, .int .i64 s.half, .int .i64 s.outs, .int .i64 s.balls, .int .i64 s.strikes, .int .i64 s.b1, .int .i64 s.b2, .int .i64 s.b3, .int .i64 s.n0, .int .i64 s.n1, .int .i64 s.c0, .int .i64 s.c1, .bool s.over] 25 0 0 false))] 0 []) ?_ ?_
  · intro R hR
    (try simp only [SS, aW, aE, aA, Nat.reduceLT, Nat.reduceEqDiff, reduceCtorEq, e1064, c1])
    exact hR () _ _ (aH.drop (by simp [aX, below]) (by simp [aG, belowO, below, aN]) (by simp [aG]))
  intro _
  cases x2 : inB s.half 0 1 with
  | false =>
    rw [if_pos x2] at hQ
    simp only [inB, Bool.and_eq_false_iff, decide_eq_false_iff_not] at x2
    have c2 : (s.half == 0) = false := by simp; omega
    have c3 : (s.half == 1) = false := by simp; omega
    refine aC aK _ _ _ _ ?_
    (try simp only [SS, aW, aA, Nat.reduceLT, Nat.reduceEqDiff, reduceCtorEq, c2, c3])
    (refine hQ _ _ _ (aD (by first | exact .inl rfl | exact .inr rfl) ?_); simp only [SS, aW, Nat.reduceLT, Nat.reduceEqDiff])
  | true =>
  rw [if_neg (by simp [x2])] at hQ
  refine Top.seam (σ := Unit) aK (fun _ => mkF 79 [(2, .int .i64 0), (1, .ptr 0 0)]) (fun _ => mkH 1 [(0, some (.row [.int .i64 s.inn, .int .i64 s.half, .int .i64 s.outs, .int .i64 s.balls, .int .i64 s.strikes, .int .i64 s.b1, .int .i64 s.b2, .int .i64 s.b3, .int .i64 s.n0, .int .i64 s.n1, .int .i64 s.c0, .int .i64 s.c1, .bool s.over] 25 0 0 false))] 0 []) ?_ ?_
  · intro R hR
    have hh : s.half = 0 ∨ s.half = 1 := by simp only [inB, Bool.and_eq_true, decide_eq_true_eq] at x2; omega
    rcases hh with hh | hh
    · have c2 : (s.half == 0) = true := by simp [hh]
      (try simp only [SS, aW, aA, Nat.reduceLT, Nat.reduceEqDiff, reduceCtorEq, c2])
      exact hR () _ _ (aH.drop (by simp [aX, below]) (by simp [aG, belowO, below, aN]) (by simp [aG]))
    · have c2 : (s.half == 0) = false := by simp [hh]
      have c3 : (s.half == 1) = true := by simp [hh]
      (try simp only [SS, aW, aA, Nat.reduceLT, Nat.reduceEqDiff, reduceCtorEq, c2, c3])
      exact hR () _ _ (aH.drop (by simp [aX, below]) (by simp [aG, belowO, below, aN]) (by simp [aG]))
  intro _
  refine Top.seam (σ := { x : EVal × Nat × List (Nat × Option EObj) // VL x.1 (ebs s 0) x.2.1 x.2.2 ∧ x.2.1 = 2 ∧ aG x.2.2 0 = some (.row [.int .i64 s.inn, .int .i64 s.half, .int .i64 s.outs, .int .i64 s.balls, .int .i64 s.strikes, .int .i64 s.b1, .int .i64 s.b2, .int .i64 s.b3, .int .i64 s.n0, .int .i64 s.n1, .int .i64 s.c0, .int .i64 s.c1, .bool s.over] 25 0 0 false) }) aK (fun x => mkF 79 [(3, x.1.1), (2, .int .i64 0), (1, .ptr 0 0)]) (fun x => mkH x.1.2.1 x.1.2.2 128 []) ?_ ?_
  · intro R hR
    (try simp only [aT, SS, aW, aE, setRange, bF, aA, aF, aQ, aP, aJ, aB, Nat.reduceLT, Nat.reduceEqDiff, Nat.reduceAdd, Nat.reduceMul, Nat.reduceSub, Nat.reduceLeDiff, Nat.reduceBEq, reduceCtorEq])
    refine wp_of_draw (Top.draw mixed aK (by kernel_rfl) ?_)
    (try simp only [SS, aW, aE, setRange, bF, aB, Nat.reduceLT, Nat.reduceEqDiff, Nat.reduceAdd, Nat.reduceLeDiff, reduceCtorEq, e1064])
    refine ⟨by kernel_rfl, ?_⟩
    (try simp only [aT, SS, aW, aE, setRange, bF, aA, aF, aQ, aP, aJ, aB, Nat.reduceLT, Nat.reduceEqDiff, Nat.reduceAdd, Nat.reduceMul, Nat.reduceSub, Nat.reduceLeDiff, Nat.reduceBEq, reduceCtorEq])
    refine hR ⟨(.slice 1 0 3 (.exact 3), 2, [(1, some (.row (cC (ebs s 0)) 3 0 0 false)), (0, some (.row [.int .i64 s.inn, .int .i64 s.half, .int .i64 s.outs, .int .i64 s.balls, .int .i64 s.strikes, .int .i64 s.b1, .int .i64 s.b2, .int .i64 s.b3, .int .i64 s.n0, .int .i64 s.n1, .int .i64 s.c0, .int .i64 s.c1, .bool s.over] 25 0 0 false))]), ⟨1, .exact 3, false, Nat.le_refl 1, (show (1 : Nat) < 2 by omega), rfl, .inl ⟨rfl, rfl⟩, by simp [aG]⟩, rfl, by simp [aG]⟩ _ _ (aH.trans (aH.drop (fl2 := [(3, .slice 1 0 3 (.exact 3)), (2, .int .i64 0), (1, .ptr 0 0)]) (l2 := [(1, some (.row (cC (ebs s 0)) 3 0 0 false)), (0, some (.row [.int .i64 s.inn, .int .i64 s.half, .int .i64 s.outs, .int .i64 s.balls, .int .i64 s.strikes, .int .i64 s.b1, .int .i64 s.b2, .int .i64 s.b3, .int .i64 s.n0, .int .i64 s.n1, .int .i64 s.c0, .int .i64 s.c1, .bool s.over] 25 0 0 false))]) (k2 := []) ?_ ?_ ?_) (aH.mode 128 (by omega)))
    · simp [aX, below]
    · simp [aG, belowO, below, aN, cC, ebs]
    · simp [aG]
  rintro ⟨⟨v, N, l⟩, hvl, hN, hl0⟩
  dsimp only at hvl hN hl0 ⊢
  subst hN
  -- the bases
  refine Top.seam (σ := { x : EVal × Nat × List (Nat × Option EObj) // VL x.1 (ebs s 3) x.2.1 x.2.2 ∧ x.2.1 = 5 ∧ aG x.2.2 0 = some (.row [.int .i64 s.inn, .int .i64 s.half, .int .i64 s.outs, .int .i64 s.balls, .int .i64 s.strikes, .int .i64 s.b1, .int .i64 s.b2, .int .i64 s.b3, .int .i64 s.n0, .int .i64 s.n1, .int .i64 s.c0, .int .i64 s.c1, .bool s.over] 25 0 0 false) }) aK (fun x => mkF 79 [(3, x.1.1), (2, .int .i64 0), (1, .ptr 0 0)]) (fun x => mkH x.1.2.1 x.1.2.2 128 []) ?_ ?_
  · intro R hR
    (try simp only [SS, aA, Nat.reduceLT])
    refine wp_of_top (Top.loop (I := fun x : { x : Nat × EVal × Nat × List (Nat × Option EObj) // x.1 ≤ 3 ∧ VL x.2.1 (ebs s x.1) x.2.2.1 x.2.2.2 ∧ x.2.2.1 = 2 + x.1 ∧ aG x.2.2.2 0 = some (.row [.int .i64 s.inn, .int .i64 s.half, .int .i64 s.outs, .int .i64 s.balls, .int .i64 s.strikes, .int .i64 s.b1, .int .i64 s.b2, .int .i64 s.b3, .int .i64 s.n0, .int .i64 s.n1, .int .i64 s.c0, .int .i64 s.c1, .bool s.over] 25 0 0 false) } => (mkF 79 [(4, .int .i64 ((x.1.1 : Nat) : Int)), (3, x.1.2.1), (2, .int .i64 0), (1, .ptr 0 0)], mkH x.1.2.2.1 x.1.2.2.2 128 [])) (μ := fun x => 3 - x.1.1) ⟨(0, v, 2, l), by simp, hvl, rfl, hl0⟩ (aH.sub (by simp [aX])) ?_)
    rintro ⟨⟨k, v, N, l⟩, hk, hvl, hN, hl0⟩
    refine aC aK _ _ _ _ ?_
    dsimp only at hk hvl hN hl0 ⊢
    obtain rfl | rfl | rfl | rfl : k = 0 ∨ k = 1 ∨ k = 2 ∨ k = 3 := by omega
    · subst hN
      obtain ⟨v2, l2, hap, hvl2, h02⟩ := eAppend_VL (x := [rgC s.b1 0 9]) (X := [[.int .i64 (rgC s.b1 0 9)]]) (m := 128) (kk := []) hvl rfl rfl rfl rfl (by simp) (by simp) (by omega) (by simp [ebs]) (by omega)
      (try simp only [SS, aW, aE, setRange, bF, aA, aB, Nat.reduceLT, Nat.reduceEqDiff, Nat.reduceAdd, Nat.reduceSub, Nat.reduceLeDiff, reduceCtorEq, UP, hl0, e1064, ↓hap])
      exact ⟨⟨(1, v2, 3, l2), by omega, hvl2, rfl, by rw [h02]; exact hl0⟩, by simp, aH.sub (by simp [aX])⟩
    · subst hN
      obtain ⟨v2, l2, hap, hvl2, h02⟩ := eAppend_VL (x := [rgC s.b2 0 9]) (X := [[.int .i64 (rgC s.b2 0 9)]]) (m := 128) (kk := []) hvl rfl rfl rfl rfl (by simp) (by simp) (by omega) (by simp [ebs]) (by omega)
      (try simp only [SS, aW, aE, setRange, bF, aA, aB, Nat.reduceLT, Nat.reduceEqDiff, Nat.reduceAdd, Nat.reduceSub, Nat.reduceLeDiff, reduceCtorEq, UP, BND, hl0, e1064, ↓hap])
      exact ⟨⟨(2, v2, 4, l2), by omega, hvl2, rfl, by rw [h02]; exact hl0⟩, by simp, aH.sub (by simp [aX])⟩
    · subst hN
      obtain ⟨v2, l2, hap, hvl2, h02⟩ := eAppend_VL (x := [rgC s.b3 0 9]) (X := [[.int .i64 (rgC s.b3 0 9)]]) (m := 128) (kk := []) hvl rfl rfl rfl rfl (by simp) (by simp) (by omega) (by simp [ebs]) (by omega)
      (try simp only [SS, aW, aE, setRange, bF, aA, aB, Nat.reduceLT, Nat.reduceEqDiff, Nat.reduceAdd, Nat.reduceSub, Nat.reduceLeDiff, reduceCtorEq, UP, BND, hl0, e1064, ↓hap])
      exact ⟨⟨(3, v2, 5, l2), by omega, hvl2, rfl, by rw [h02]; exact hl0⟩, by simp, aH.sub (by simp [aX])⟩
    · subst hN
      (try simp only [SS, aA, Nat.reduceLT, Nat.reduceEqDiff, Nat.reduceAdd, UP])
      exact hR ⟨(v, 5, l), hvl, rfl, hl0⟩ _ _ (aH.sub (by simp [aX]))
  clear hvl hl0
  clear v l
  rintro ⟨⟨v, N, l⟩, hvl, hN, hl0⟩
  dsimp only at hvl hN hl0 ⊢
  subst hN
  -- the batters and the score
  refine Top.seam (σ := { x : EVal × Nat × List (Nat × Option EObj) // VL x.1 (ens s 2) x.2.1 x.2.2 ∧ x.2.1 = 7 ∧ aG x.2.2 0 = some (.row [.int .i64 s.inn, .int .i64 s.half, .int .i64 s.outs, .int .i64 s.balls, .int .i64 s.strikes, .int .i64 s.b1, .int .i64 s.b2, .int .i64 s.b3, .int .i64 s.n0, .int .i64 s.n1, .int .i64 s.c0, .int .i64 s.c1, .bool s.over] 25 0 0 false) }) aK (fun x => mkF 79 [(3, x.1.1), (2, .int .i64 0), (1, .ptr 0 0)]) (fun x => mkH x.1.2.1 x.1.2.2 128 []) ?_ ?_
  · intro R hR
    (try simp only [SS, aA, Nat.reduceLT])
    refine wp_of_top (Top.loop (I := fun x : { x : Nat × EVal × Nat × List (Nat × Option EObj) // x.1 ≤ 2 ∧ VL x.2.1 (ens s x.1) x.2.2.1 x.2.2.2 ∧ x.2.2.1 = 5 + x.1 ∧ aG x.2.2.2 0 = some (.row [.int .i64 s.inn, .int .i64 s.half, .int .i64 s.outs, .int .i64 s.balls, .int .i64 s.strikes, .int .i64 s.b1, .int .i64 s.b2, .int .i64 s.b3, .int .i64 s.n0, .int .i64 s.n1, .int .i64 s.c0, .int .i64 s.c1, .bool s.over] 25 0 0 false) } => (mkF 79 [(5, .int .i64 ((x.1.1 : Nat) : Int)), (3, x.1.2.1), (2, .int .i64 0), (1, .ptr 0 0)], mkH x.1.2.2.1 x.1.2.2.2 128 [])) (μ := fun x => 2 - x.1.1) ⟨(0, v, 5, l), by simp, hvl, rfl, hl0⟩ (aH.sub (by simp [aX])) ?_)
    rintro ⟨⟨k, v, N, l⟩, hk, hvl, hN, hl0⟩
    refine aC aK _ _ _ _ ?_
    dsimp only at hk hvl hN hl0 ⊢
    obtain rfl | rfl | rfl : k = 0 ∨ k = 1 ∨ k = 2 := by omega
    · subst hN
      obtain ⟨v2, l2, hap, hvl2, h02⟩ := eAppend_VL (x := [rgC s.n0 1 9, rgC s.c0 0 9999]) (X := [[.int .i64 (rgC s.n0 1 9)], [.int .i64 (rgC s.c0 0 9999)]]) (m := 128) (kk := []) hvl rfl rfl rfl rfl (by simp) (by simp) (by omega) (by simp [ens, ebs]) (by omega)
      (try simp only [SS, aA, Nat.reduceLT, Nat.reduceEqDiff, Nat.reduceAdd, UP])
      refine wp_of_draw (Top.draw mixed aK (by kernel_rfl) ?_)
      (try simp only [SS, aW, aE, setRange, bF, aA, aB, Nat.reduceLT, Nat.reduceEqDiff, Nat.reduceAdd, Nat.reduceSub, Nat.reduceLeDiff, reduceCtorEq, UP, hl0, e1064, ↓hap])
      refine ⟨by kernel_rfl, ?_⟩
      (try simp only [aT, SS, aW, aE, setRange, bF, aA, aF, aQ, aP, aJ, aB, Nat.reduceLT, Nat.reduceEqDiff, Nat.reduceAdd, Nat.reduceMul, Nat.reduceSub, Nat.reduceLeDiff, Nat.reduceBEq, reduceCtorEq, UP])
      exact ⟨⟨(1, v2, 6, l2), by omega, hvl2, rfl, by rw [h02]; exact hl0⟩, by simp, aH.sub (by simp [aX])⟩
    · subst hN
      obtain ⟨v2, l2, hap, hvl2, h02⟩ := eAppend_VL (x := [rgC s.n1 1 9, rgC s.c1 0 9999]) (X := [[.int .i64 (rgC s.n1 1 9)], [.int .i64 (rgC s.c1 0 9999)]]) (m := 128) (kk := []) hvl rfl rfl rfl rfl (by simp) (by simp) (by omega) (by simp [ens, ebs]) (by omega)
      (try simp only [SS, aA, Nat.reduceLT, Nat.reduceEqDiff, Nat.reduceAdd, UP])
      refine wp_of_draw (Top.draw mixed aK (by kernel_rfl) ?_)
      (try simp only [SS, aW, aE, setRange, bF, aA, aB, Nat.reduceLT, Nat.reduceEqDiff, Nat.reduceAdd, Nat.reduceSub, Nat.reduceLeDiff, reduceCtorEq, UP, BND, hl0, e1064, ↓hap])
      refine ⟨by kernel_rfl, ?_⟩
      (try simp only [aT, SS, aW, aE, setRange, bF, aA, aF, aQ, aP, aJ, aB, Nat.reduceLT, Nat.reduceEqDiff, Nat.reduceAdd, Nat.reduceMul, Nat.reduceSub, Nat.reduceLeDiff, Nat.reduceBEq, reduceCtorEq, UP])
      exact ⟨⟨(2, v2, 7, l2), by omega, hvl2, rfl, by rw [h02]; exact hl0⟩, by simp, aH.sub (by simp [aX])⟩
    · subst hN
      (try simp only [SS, aA, Nat.reduceLT, Nat.reduceEqDiff, Nat.reduceAdd, UP])
      exact hR ⟨(v, 7, l), hvl, rfl, hl0⟩ _ _ (aH.sub (by simp [aX]))
  clear hvl hl0
  clear v l
  rintro ⟨⟨v, N, l⟩, hvl, hN, hl0⟩
  dsimp only at hvl hN hl0 ⊢
  subst hN
  have h65 := e1065 (l := ens s 2) (by simp [ens, ebs])
  rw [ens_first] at h65
  obtain ⟨id, cap, sl, hid1, hid2, rfl, hcap, hrow⟩ := hvl
  have hid0 : id < 16000 := by omega
  have hcp : capOK (ens s 2).length cap = true := by rcases hcap with ⟨rfl, _⟩ | ⟨rfl, _⟩ <;> simp [capOK]
  have hk10 : keepL (cC (ens s 2)) = some (cC (ens s 2)) := keepL_eRow _
  have hch : bI 1 (ens s 2).length (cC (ens s 2)) = eInts (ens s 2) := chunk_eRow (ens s 2)
  have ht : List.take (ens s 2).length (cC (ens s 2)) = cC (ens s 2) := eRow_take (ens s 2)
  have hel : (cC (ens s 2)).length = (ens s 2).length := eRow_length _
  generalize ens s 2 = E at *
  cases x3 : nuB s 2 with
  | false =>
    rw [if_pos x3] at hQ
    rw [x3, if_neg (by simp)] at h65
    have c3 : ((3 : Int) == 0) = false := by decide
    refine aC aK _ _ _ _ ?_
    (try simp only [SS, aW, aE, aA, Nat.reduceLT, Nat.reduceEqDiff, reduceCtorEq, hid0, hrow, hcp, hk10, hch, ht, hel, h65, c3])
    (refine hQ _ _ _ (aD (by first | exact .inl rfl | exact .inr rfl) ?_); simp only [SS, aW, Nat.reduceLT, Nat.reduceEqDiff])
  | true =>
  rw [if_neg (by simp [x3])] at hQ
  rw [x3, if_pos rfl] at h65
  have c3 : ((0 : Int) == 0) = true := by decide
  refine Top.seam (σ := Unit) aK (fun _ => mkF 79 [(2, .int .i64 0), (1, .ptr 0 0)]) (fun _ => mkH 7 l 128 []) ?_ ?_
  · intro R hR
    (try simp only [SS, aW, aE, aA, Nat.reduceLT, Nat.reduceEqDiff, reduceCtorEq, hid0, hrow, hcp, hk10, hch, ht, hel, h65])
    exact hR () _ _ (aH.sub (by simp [aX]))
  intro _
  have e6 := e1066 (s := s)
  have e7 := e1067 (s := s)
  have e8 := e1068 (s := s) (by simp only [goodS, x3, Bool.and_true, halfOK, Bool.or_eq_true, decide_eq_true_eq]; simp only [inB, Bool.and_eq_true, decide_eq_true_eq] at x2; omega)
  simp only [u] at e6 e7 e8
  refine aC aK _ _ _ _ ?_
  cases y1 : s.over with
  | true =>
    rw [y1] at hl0 e6 e7 e8 hQ
    cases y2 : overB s with
    | false =>
      rw [y2] at e6 hQ
      (try simp only [SS, aW, aE, aA, Nat.reduceLT, Nat.reduceEqDiff, Nat.reduceAdd, reduceCtorEq, hl0, e6])
      (refine hQ _ _ _ (aD (by first | exact .inl rfl | exact .inr rfl) ?_); simp only [SS, aW, Nat.reduceLT, Nat.reduceEqDiff])
    | true =>
      rw [y2] at e6 hQ
      cases y3 : fitB s with
      | true =>
        rw [y3] at e8 hQ
        (try simp only [SS, aW, aE, aA, Nat.reduceLT, Nat.reduceEqDiff, Nat.reduceAdd, reduceCtorEq, hl0, e6, e7, e8])
        (refine hQ _ _ _ (aD (by first | exact .inl rfl | exact .inr rfl) ?_); simp only [SS, aW, Nat.reduceLT, Nat.reduceEqDiff])
      | false =>
        rw [y3] at e8 hQ
        (try simp only [SS, aW, aE, aA, Nat.reduceLT, Nat.reduceEqDiff, Nat.reduceAdd, reduceCtorEq, hl0, e6, e7, e8])
        (refine hQ _ _ _ (aD (by first | exact .inl rfl | exact .inr rfl) ?_); simp only [SS, aW, Nat.reduceLT, Nat.reduceEqDiff])
  | false =>
    rw [y1] at hl0 e6 e7 e8 hQ
    cases y2 : decB s with
    | true =>
      rw [y2] at e7 hQ
      (try simp only [SS, aW, aE, aA, Nat.reduceLT, Nat.reduceEqDiff, Nat.reduceAdd, reduceCtorEq, hl0, e6, e7])
      (refine hQ _ _ _ (aD (by first | exact .inl rfl | exact .inr rfl) ?_); simp only [SS, aW, Nat.reduceLT, Nat.reduceEqDiff])
    | false =>
      rw [y2] at e7 hQ
      cases y3 : fitB s with
      | true =>
        rw [y3] at e8 hQ
        (try simp only [SS, aW, aE, aA, Nat.reduceLT, Nat.reduceEqDiff, Nat.reduceAdd, reduceCtorEq, hl0, e6, e7, e8])
        (refine hQ _ _ _ (aD (by first | exact .inl rfl | exact .inr rfl) ?_); simp only [SS, aW, Nat.reduceLT, Nat.reduceEqDiff])
      | false =>
        rw [y3] at e8 hQ
        (try simp only [SS, aW, aE, aA, Nat.reduceLT, Nat.reduceEqDiff, Nat.reduceAdd, reduceCtorEq, hl0, e6, e7, e8])
        (refine hQ _ _ _ (aD (by first | exact .inl rfl | exact .inr rfl) ?_); simp only [SS, aW, Nat.reduceLT, Nat.reduceEqDiff])
end Go.Ev
