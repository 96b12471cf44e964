import Derived.Test.YtdhnjbgggkdiiaaGreatDoorEvC
import Derived.Test.YtdhnjbgggkdiiaaGreatDoorRefPit
set_option linter.unusedSimpArgs false
set_option linter.unusedVariables false
namespace Go.Ev
open Go.RowKit Go.Proofs
set_option linter.defProp false
def TF141RdMove := And.intro (And.intro (And.intro (And.intro (And.intro (@Tryz.underlying3) (And.intro (@sz3) (@bN))) (And.intro (@I3s) (And.intro (@I3b) (@bL)))) (And.intro (And.intro (@bO) (And.intro (@Tryz.underlying4) (@sz4))) (And.intro (And.intro (@dC) (@I4s)) (And.intro (@I4b) (@cY))))) (And.intro (And.intro (And.intro (@dD) (And.intro (@Tryz.underlying5) (@sz5))) (And.intro (@dK) (And.intro (@I5s) (@I5b)))) (And.intro (And.intro (@dG) (And.intro (@dL) (@Tryz.underlying9))) (And.intro (And.intro (@sz9) (@bI)) (And.intro (@I9s) (@I9b)))))) (And.intro (And.intro (And.intro (And.intro (@bH) (And.intro (@bJ) (@Tryz.underlying21))) (And.intro (@sz21) (And.intro (@info21) (@I21s)))) (And.intro (And.intro (@I21b) (And.intro (@zero21) (@grow21))) (And.intro (And.intro (@Tryz.underlying25) (@eB)) (And.intro (@cE) (@eC))))) (And.intro (And.intro (And.intro (@eD) (And.intro (@cC) (@cF))) (And.intro (And.intro (@Tryz.underlying27) (@eE)) (And.intro (@dF) (@cJ)))) (And.intro (And.intro (@eF) (And.intro (@eG) (@cH))) (And.intro (And.intro (@cK) (@call167)) (And.intro (@call168) (@Tryz.results141))))))
set_option maxRecDepth 20000
set_option maxHeartbeats 8000000

/-! a move read from its word -/
def eL : List Nat → Mv
  | a :: b :: c :: d :: r => ⟨bT a, bT c, b == 120, [d], (r.drop 1).map bT⟩
  | _ => ⟨0, 0, false, [], []⟩
/-- a list of numbers under way, in a cell -/
def IL (lo : Nat) (v : EVal) (bs : List Int) (N : Nat) (l : List (Nat × Option EObj)) : Prop :=
  (v = .nilslice ∧ bs = []) ∨ ∃ id, lo ≤ id ∧ id < N ∧ v = .slice id 0 bs.length (.slack 0) ∧ aB l id = some (.row (eRow bs) 3 0 0 true)
theorem eRow_take (l : List Int) : (eRow l).take l.length = eRow l := by rw [← eRow_length l, List.take_length]
theorem eAppend_IL {lo : Nat} {v : EVal} {bs : List Int} {x : Int} {N m : Nat} {l : List (Nat × Option EObj)} {kk : List (Nat × Option (Nat × TypeId))} (h : IL lo v bs N l) (hlo : lo ≤ N) (hN : N < 16000) (hlen : bs.length ≤ 10000) :
    ∃ v2 l2, eAppend Tryz.prog (mkH N l m kk) 25 v (.lsl [[.int .i64 x]]) = some (v2, mkH (N + 1) l2 m kk) ∧ IL lo v2 (bs ++ [x]) (N + 1) l2 ∧ ∀ i, i < lo → aB l2 i = aB l i := by
  have hs : eRow bs ++ [.int .i64 x] = eRow (bs ++ [x]) := by simp [eRow]
  have g2 : dN 1 [[EVal.int .i64 x]] = true := rfl
  have hN0 : N < 16000 := hN
  rcases h with ⟨rfl, rfl⟩ | ⟨id, hlo2, hid, rfl, hl⟩
  · have g1 : decide (8 * 1 ≤ 1000000) = true := by decide
    refine ⟨.slice N 0 1 (.slack 0), (N, some (.row [.int .i64 x] 3 0 0 true)) :: l, ?_, .inr ⟨N, hlo, by omega, rfl, by simp [aB, eRow]⟩, ?_⟩
    · simp only [SS, TF141RdMove, Nat.reduceLeDiff, reduceCtorEq, g2]
    · intro i hi
      rw [aB.eq_2, if_neg (by omega)]
  · have hid0 : id < 16000 := by omega
    have g1 : decide (8 * (bs.length + 1) ≤ 1000000) = true := by simp; omega
    have g3 : (bs.length + 1 ≤ bs.length) = False := by simp
    refine ⟨.slice N 0 (bs.length + 1) (.slack 0), (N, some (.row (eRow bs ++ [.int .i64 x]) 3 0 0 true)) :: (id, none) :: l, ?_, .inr ⟨N, hlo, by omega, by simp, by rw [hs]; simp [aB]⟩, ?_⟩
    · simp only [SS, TF141RdMove, setRange, reduceCtorEq, hid0, hl, g1, g2, g3, eRow_length, eRow_take]
    · intro i hi
      rw [aB.eq_2, if_neg (by omega), aB.eq_2, if_neg (by omega)]
theorem IL_one {lo : Nat} {v : EVal} {bs : List Int} {N : Nat} {l : List (Nat × Option EObj)} (h : IL lo v bs N l) : v.cells = [v] ∧ v.one = true ∧ allOne [v] = true := by
  rcases h with ⟨rfl, _⟩ | ⟨id, _, _, rfl, _⟩ <;> exact ⟨rfl, rfl, rfl⟩
def F141 : List EVal → Option EVal
  | [.str w] => if (aM w = true ∧ w.length ≤ 5000) ∧ mvW w = true then some (.agg (dR (eL w))) else none
  | _ => none
theorem wrapB {x : Nat} (h : x < 256) : IntKind.i32.wrap (x : Int) = x := by
  have : ∀ x : Nat, x < 256 → IntKind.i32.wrap (x : Int) = x := by decide +kernel
  exact this x h
theorem mvW_inv {w : List Nat} (h : mvW w = true) : ∃ a b c d r, w = a :: b :: c :: d :: r ∧ dQ a = true ∧ dQ c = true ∧ eJ d = true ∧ ((b == 45) || (b == 120)) = true ∧ (r = [] ∨ ∃ r2, r = 58 :: r2 ∧ r2 ≠ [] ∧ r2.all dQ = true) := by
  match w, h with
  | a :: b :: c :: d :: r, h =>
    simp only [mvW, Bool.and_eq_true, Bool.or_eq_true (decide (r = [])), decide_eq_true_eq] at h
    obtain ⟨⟨h1, h2, h3, h4⟩, h5⟩ := h
    refine ⟨a, b, c, d, r, rfl, h2, h3, h4, h1, ?_⟩
    rcases h5 with h5 | h5
    · exact .inl h5
    · cases r with
      | nil => exact .inl rfl
      | cons e r2 =>
        simp only [Bool.and_eq_true, beq_iff_eq, cS, decide_eq_true_eq] at h5
        obtain ⟨rfl, h6, h7⟩ := h5
        exact .inr ⟨r2, rfl, h7, h6⟩
theorem fn141 : FnT 141 F141 := by
  refine Fn.intro mixed aI Tryz.func141 rfl [(167, F167), (168, F168)] (by simp only [List.forall_mem_cons]; exact ⟨fn167, fn168, fun _ h => by cases h⟩) ?_
  intro args v hF
  unfold F141 at hF
  split at hF
  rotate_left
  · cases hF
  intro Q hV
  have hQ := aS.of hV
  rename_i w
  split at hF
  rotate_left
  · cases hF
  rename_i hc
  obtain ⟨⟨hby, hlen⟩, hw⟩ := hc
  cases hF
  obtain ⟨a, b, c, d, r, rfl, ha, hcd, hd, hb, hr⟩ := mvW_inv hw
  obtain ⟨r2, hr2, hr2d, hr2b⟩ : ∃ r2, trimE r = r2 ∧ r.drop 1 = r2 ∧ r2.all dQ = true := by
    rcases hr with rfl | ⟨r2, rfl, _, h⟩
    · exact ⟨[], rfl, rfl, rfl⟩
    · exact ⟨r2, rfl, rfl, h⟩
  have hmv : eL (a :: b :: c :: d :: r) = ⟨bT a, bT c, b == 120, [d], r2.map bT⟩ := by simp only [eL, hr2d]
  rw [hmv] at hQ hV
  clear hmv
  simp only [aM, List.all_cons, Bool.and_eq_true, decide_eq_true_eq] at hby
  obtain ⟨ba, bb, bc, bd, br⟩ := hby
  have d1 := e167 (x := a) (by omega)
  have d2 := e167 (x := c) (by omega)
  have w1 := wrapB ba
  have w2 := wrapB bc
  have q120 : ((b : Int) == 120) = (b == 120) := by rw [Bool.eq_iff_iff, beq_iff_eq, beq_iff_eq]; omega
  have l4 : ((4 : Int) ≤ ((r.length + 1 + 1 + 1 + 1 : Nat) : Int)) = True := by simp only [eq_iff_iff, iff_true]; omega
  have l34 : ((3 : Int) ≤ ((4 : Nat) : Int)) = True := by decide
  have u58 : UInt8.toNat 58 = 58 := rfl
  have h168 := e168 (l := r) (by simp at hlen; omega)
  rw [hr2] at h168
  have htk : r.take r.length = r := List.take_length
  refine Top.view (aH.mode (n := 0) (m := 0) (l := []) (k := []) 128 (by omega)) ?_
  refine Top.view (aH.start (n := 35) rfl (by simp)) (aD aI _ _ _ _ ?_)
  (try simp only [aG, SS, TF141RdMove, aA, Nat.reduceLT])
  refine aX (Top.draw mixed aI (by kernel_rfl) ?_)
  (try simp only [SS, TF141RdMove, aF, setRange, aA, aL, aQ, aO, Nat.reduceLT, Nat.reduceEqDiff, Nat.reduceAdd, reduceCtorEq, d1, d2, w1, w2, q120, l4, l34, Int.reduceLE, Int.reduceToNat])
  refine ⟨by kernel_rfl, ?_⟩
  (try simp only [SS, TF141RdMove, aA, Nat.reduceLT, Nat.reduceEqDiff, Nat.reduceAdd, reduceCtorEq, u58, h168, htk])
  refine aU (Top.loop (I := fun s : { x : Nat × EVal × Nat × List (Nat × Option EObj) // x.1 ≤ r2.length ∧ x.2.2.1 ≤ 3 + x.1 ∧ 3 ≤ x.2.2.1 ∧ IL 3 x.2.1 ((r2.take x.1).map bT) x.2.2.1 x.2.2.2 ∧ aB x.2.2.2 2 = some (.iter r2 x.1) ∧ aB x.2.2.2 1 = some (.row [.int .i64 (bT a), .int .i64 (bT c), .bool (b == 120), .str [d], x.2.1] 27 0 0 false) ∧ aB x.2.2.2 0 = some (.row [.int .i64 0, .int .i64 0, .bool false, .str [], .nilslice] 27 0 0 false) } => (mkF 35 [(23, .ptr 2 0), (3, .ptr 1 0), (2, .ptr 0 0)], mkH s.1.2.2.1 s.1.2.2.2 128 [])) (μ := fun s => r2.length - s.1.1) ⟨(0, .nilslice, 3, _), by simp, by simp, by simp, .inl ⟨rfl, rfl⟩, rfl, rfl, rfl⟩ (aH.sub (by simp [look])) ?_)
  rintro ⟨⟨k, v, N, l⟩, hk, hN, hN3, I1, A2, A1, A0⟩
  dsimp only at hk hN hN3 I1 A2 A1 A0
  have hr5 : r2.length ≤ 5000 := by
    have : r2.length ≤ r.length := by rw [← hr2d]; simp
    simp at hlen; omega
  refine aD aI _ _ _ _ ?_
  dsimp only
  by_cases hlt : k < r2.length
  · obtain ⟨x, hx⟩ : ∃ x, r2[k]? = some x := ⟨r2[k], List.getElem?_eq_getElem hlt⟩
    have hxd : dQ x = true := List.all_eq_true.1 hr2b x (List.mem_of_getElem? hx)
    have hx128 : x < 128 := by
      apply Classical.byContradiction
      intro h
      rw [digN_high (by omega)] at hxd; cases hxd
    have c4 := next_ascii hx hx128
    have d3 := e167 (x := x) (by omega)
    obtain ⟨v2, l2, hap, I2, S2⟩ := eAppend_IL (x := bT x) (m := 128) (kk := []) (show IL 3 v ((r2.take k).map bT) N ((2, some (.iter r2 (k + 1))) :: l) from by
      rcases I1 with h | ⟨id, h1, h2, h3, h4⟩
      · exact .inl h
      · exact .inr ⟨id, h1, h2, h3, by rw [aB.eq_2, if_neg (by omega)]; exact h4⟩) hN3 (by omega) (by simp; omega)
    have B2 : aB l2 2 = some (.iter r2 (k + 1)) := by rw [S2 2 (by omega)]; simp [aB]
    have B1 : aB l2 1 = some (.row [.int .i64 (bT a), .int .i64 (bT c), .bool (b == 120), .str [d], v] 27 0 0 false) := by rw [S2 1 (by omega), aB.eq_2, if_neg (by omega)]; exact A1
    have B0 : aB l2 0 = some (.row [.int .i64 0, .int .i64 0, .bool false, .str [], .nilslice] 27 0 0 false) := by rw [S2 0 (by omega), aB.eq_2, if_neg (by omega)]; exact A0
    (try simp only [SS, aA, Nat.reduceLT, Nat.reduceEqDiff, hlt, c4, A2])
    refine aX (Top.draw mixed aI (by kernel_rfl) ?_)
    obtain ⟨o1, o2, o3⟩ := IL_one I2
    (try simp only [SS, TF141RdMove, aF, setRange, bQ, aE, Nat.reduceLT, Nat.reduceEqDiff, Nat.reduceAdd, Nat.reduceLeDiff, reduceCtorEq, ↓hap, A1, B1, d3, o1, o3])
    refine ⟨by kernel_rfl, ?_⟩
    (try simp only [aG, SS, TF141RdMove, aF, setRange, bQ, aA, aL, bB, aQ, aO, aE, Nat.reduceLT, Nat.reduceEqDiff, Nat.reduceAdd, Nat.reduceMul, Nat.reduceSub, Nat.reduceLeDiff, Nat.reduceBEq, reduceCtorEq])
    refine ⟨⟨(k + 1, v2, N + 1, (1, some (.row [.int .i64 (bT a), .int .i64 (bT c), .bool (b == 120), .str [d], v2] 27 0 0 false)) :: l2), hlt, by show N + 1 ≤ 3 + (k + 1); omega, by show 3 ≤ N + 1; omega, ?_, ?_, ?_, ?_⟩, by simp; omega, aH.sub (by simp [look])⟩
    · have e : (r2.take (k + 1)).map bT = (r2.take k).map bT ++ [bT x] := by rw [List.take_add_one, hx, List.map_append]; rfl
      show IL 3 v2 ((r2.take (k + 1)).map bT) (N + 1) _
      rw [e]
      rcases I2 with h | ⟨id, h1, h2, h3, h4⟩
      · exact .inl h
      · exact .inr ⟨id, h1, h2, h3, by rw [aB.eq_2, if_neg (by omega)]; exact h4⟩
    · show aB ((1, _) :: l2) 2 = _
      rw [aB.eq_2, if_neg (by omega)]; exact B2
    · simp [aB]
    · show aB ((1, _) :: l2) 0 = _
      rw [aB.eq_2, if_neg (by omega)]; exact B0
  have hkl : k = r2.length := by omega
  rw [hkl, List.take_length] at I1
  obtain ⟨o1, o2, o3⟩ := IL_one I1
  (try simp only [SS, TF141RdMove, setRange, aA, Nat.reduceLT, Nat.reduceEqDiff, Nat.reduceAdd, hlt, A2, A1, A0, o3])
  rcases I1 with ⟨rfl, hn⟩ | ⟨id, h1, h2, rfl, h4⟩
  · (refine hQ _ _ _ (aC (by first | exact .inl rfl | exact .inr rfl) ?_); simp only [SS, TF141RdMove, Nat.reduceLT, Nat.reduceEqDiff, Nat.reduceAdd])
    have : r2.map bT = [] := hn
    rw [this]; rfl
  · have hid0 : id < 16000 := by omega
    refine hV _ _ _ ⟨_, _, aH.fz (sz := 1) (len := (r2.map bT).length) (fl2 := [(2, .ptr 0 0)]) (l2 := [(0, some (.row [.int .i64 (bT a), .int .i64 (bT c), .bool (b == 120), .str [d], .lsl (cP 1 (r2.map bT).length (eRow (r2.map bT)))] 27 0 0 false))]) (k2 := []) id hid0 (by rw [aB.eq_2, if_neg (by omega)]; exact h4) (keepL_eRow _) (by simp [eRow_length]) ?_ ?_ (by simp), aC (.inl rfl) ?_⟩
    · simp [look, fzR]
    · intro p hp
      rw [List.mem_singleton] at hp
      subst hp
      refine ⟨by simp, by show 0 ≠ id; omega, _, rfl, .inr ⟨[.int .i64 (bT a), .int .i64 (bT c), .bool (b == 120), .str [d], .slice id 0 (r2.map bT).length (.slack 0)], _, _, _, _, _, by simp [aB], rfl, ?_⟩⟩
      exact ⟨.inl rfl, .inl rfl, .inl rfl, .inl rfl, .inr ⟨.slack 0, rfl, rfl, rfl⟩, trivial⟩
    · rw [chunk_eRow]
      simp only [SS, TF141RdMove, Nat.reduceLT, Nat.reduceAdd]
      rfl
theorem e141 {w : List Nat} (h1 : aM w = true) (h2 : w.length ≤ 5000) (h3 : mvW w = true) : F141 [.str w] = some (.agg (dR (eL w))) := by simp only [F141]; rw [if_pos ⟨⟨h1, h2⟩, h3⟩]
end Go.Ev
