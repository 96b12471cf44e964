import Derived.Test.YtdhnjbgggkdiiaaGreatDoorPlaysC
set_option linter.unusedSimpArgs false
set_option linter.unusedVariables false
namespace Go.Ev
open Go.RowKit Go.Proofs
set_option linter.defProp false
def TF39PaV := And.intro (And.intro (And.intro (And.intro (And.intro (And.intro (@Tryz.underlying3) (@sz3)) (And.intro (@bN) (@I3s))) (And.intro (And.intro (@I3b) (@bL)) (And.intro (@bO) (@Tryz.underlying4)))) (And.intro (And.intro (And.intro (@sz4) (@dC)) (And.intro (@I4s) (@I4b))) (And.intro (And.intro (@cY) (@dD)) (And.intro (@Tryz.underlying9) (And.intro (@sz9) (@bI)))))) (And.intro (And.intro (And.intro (And.intro (@I9s) (@I9b)) (And.intro (@bH) (@bJ))) (And.intro (And.intro (@Tryz.underlying22) (@eN)) (And.intro (@dO) (@eO)))) (And.intro (And.intro (And.intro (@eP) (@dH)) (And.intro (@dP) (@Tryz.underlying24))) (And.intro (And.intro (@sz24) (@fok24)) (And.intro (@info24) (And.intro (@I24s) (@I24b))))))) (And.intro (And.intro (And.intro (And.intro (And.intro (@zero24) (@grow24)) (And.intro (@Tryz.underlying25) (@eB))) (And.intro (And.intro (@cE) (@eC)) (And.intro (@eD) (@cC)))) (And.intro (And.intro (And.intro (@cF) (@Tryz.underlying27)) (And.intro (@eE) (@dF))) (And.intro (And.intro (@cJ) (@eF)) (And.intro (@eG) (And.intro (@cH) (@cK)))))) (And.intro (And.intro (And.intro (And.intro (@Tryz.underlying30) (@sz30)) (And.intro (@info30) (@I30s))) (And.intro (And.intro (@I30b) (@zero30)) (And.intro (@grow30) (@Tryz.underlying54)))) (And.intro (And.intro (And.intro (@sz54) (@info54)) (And.intro (@I54s) (@I54b))) (And.intro (And.intro (@zero54) (@grow54)) (And.intro (@call109) (And.intro (@call110) (@Tryz.results39)))))))
set_option maxRecDepth 20000
set_option maxHeartbeats 8000000

/-! what a text is read as -/
def paG : Nat → List Pl → List (List Nat) → List Pl × Nat × Int
  | _, acc, [] => (acc, 0, 0)
  | n, acc, [w] => if w = [] then (acc, 0, 0) else ([], n, 25)
  | n, acc, w :: v :: r => if 256 ≤ n then ([], n, 5) else if (cI w).2.2 ≠ 0 then ([], n, (cI w).2.2) else paG (n + 1) (acc ++ [(cI w).1]) (v :: r)
def paT (s : List Nat) : List Pl × Nat × Int := paG 0 [] (aT 10 s)
def paE (s : List Nat) : EVal := .tup [.lsl (cX (paT s).1), .int .i64 ((paT s).2.1 : Nat), .int .i64 (paT s).2.2]
theorem paG_more {n : Nat} {acc : List Pl} {w : List Nat} {r : List (List Nat)} (hr : r ≠ []) : paG n acc (w :: r) = if 256 ≤ n then ([], n, 5) else if (cI w).2.2 ≠ 0 then ([], n, (cI w).2.2) else paG (n + 1) (acc ++ [(cI w).1]) r := by
  cases r with
  | nil => exact absurd rfl hr
  | cons v r => rfl
theorem paG_yes {n : Nat} {acc : List Pl} {T : List Nat} (h : hasN 10 T = true) : paG n acc (aT 10 T) = if 256 ≤ n then ([], n, 5) else if (cI (dY 10 T)).2.2 ≠ 0 then ([], n, (cI (dY 10 T)).2.2) else paG (n + 1) (acc ++ [(cI (dY 10 T)).1]) (aT 10 (tailN 10 T)) := by
  rw [splitC_yes h]; exact paG_more (splitC_ne _)
theorem paG_no {n : Nat} {acc : List Pl} {T : List Nat} (h : hasN 10 T = false) (h0 : T ≠ []) : paG n acc (aT 10 T) = ([], n, 25) := by
  rw [splitC_no h]; simp [paG, h0]
theorem endsC_no {T : List Nat} (h : hasN 10 T = false) : endsC T = false := by
  cases he : endsC T with
  | false => rfl
  | true =>
    simp only [endsC, Bool.and_eq_true, decide_eq_true_eq] at he
    have : (10 : Nat) ∈ T := List.mem_of_mem_drop (i := T.length - 1) (by rw [he.2]; simp)
    have h2 : hasN 10 T = true := List.any_eq_true.2 ⟨10, this, by simp⟩
    rw [h] at h2; cases h2
theorem lineT_yes {w : List Nat} {n : Int} : lineT (w ++ [10]) n = if 256 ≤ n then (pl0, 5) else ((cI w).1, (cI w).2.2) := by
  have h1 : endsC (w ++ [10]) = true := by simp [endsC]
  have h2 : (w ++ [10]).take ((w ++ [10]).length - 1) = w := by simp
  simp only [lineT, h1, if_true, h2]
theorem lineT_no {T : List Nat} {n : Int} (h : hasN 10 T = false) : lineT T n = (pl0, 25) := by simp [lineT, endsC_no h]
theorem parsePl_ok {w : List Nat} (h : w.length ≤ 5000) : eM (cI w).1 := by
  have hz : eM pl0 := ⟨by show 0 < _; omega, by simp [pl0]⟩
  unfold cI
  split
  · exact hz
  split
  · exact hz
  split
  · exact hz
  split
  · exact hz
  have hsl := split_len (c := 32) w
  obtain ⟨a, b⟩ := readG_ok (ws := aT 32 w) (i := 0) (q := pl0) (fun x hx => by have := lenS_mem hx; have := List.length_pos_of_mem hx; omega) (by simp [pl0])
  have h0 : pl0.m.length = 0 := rfl
  exact ⟨by show (cL 0 pl0 (aT 32 w)).m.length < _; omega, a⟩
theorem paG_ok : ∀ {ws : List (List Nat)} {n : Nat} {acc : List Pl}, (∀ w ∈ ws, w.length ≤ 5000) → (∀ q ∈ acc, eM q) → (∀ q ∈ (paG n acc ws).1, eM q) ∧ (paG n acc ws).1.length ≤ acc.length + ws.length
  | [], n, acc, _, ha => ⟨ha, by simp [paG]⟩
  | [w], n, acc, _, ha => by
    unfold paG
    split
    · exact ⟨ha, by simp⟩
    · exact ⟨by simp, by simp⟩
  | w :: v :: r, n, acc, hw, ha => by
    unfold paG
    split
    · exact ⟨by simp, by simp⟩
    split
    · exact ⟨by simp, by simp⟩
    obtain ⟨h1, h2⟩ := paG_ok (ws := v :: r) (n := n + 1) (acc := acc ++ [(cI w).1]) (fun x hx => hw x (List.mem_cons_of_mem _ hx)) (by
      intro q hq
      rcases List.mem_append.1 hq with h | h
      · exact ha q h
      · rw [List.mem_singleton.1 h]; exact parsePl_ok (hw w List.mem_cons_self))
    refine ⟨h1, ?_⟩
    simp only [List.length_append, List.length_cons, List.length_nil] at h2 ⊢; omega
theorem paT_ok {s : List Nat} (h : s.length ≤ 5000) : (∀ q ∈ (paT s).1, eM q) ∧ (paT s).1.length < 9223372036854775808 := by
  have hsl := split_len (c := 10) s
  obtain ⟨a, b⟩ := paG_ok (ws := aT 10 s) (n := 0) (acc := []) (fun x hx => by have := lenS_mem hx; have := List.length_pos_of_mem hx; omega) (by simp)
  refine ⟨a, ?_⟩
  unfold paT
  simp only [List.length_nil] at b
  omega

/-- a list of plays under way, in a cell -/
def cellP (ps : List Pl) : List EVal := (ps.map ePl).flatten
theorem cellP_length (ps : List Pl) : (cellP ps).length = ps.length * 4 := by
  induction ps with
  | nil => rfl
  | cons q ps ih => simp only [cellP, List.map_cons, List.flatten_cons, List.length_append, List.length_cons] at ih ⊢; rw [ih]; simp [ePl]; omega
theorem cellP_take (ps : List Pl) : (cellP ps).take (ps.length * 4) = cellP ps := by rw [← cellP_length ps, List.take_length]
theorem keepL_cellP (ps : List Pl) : dX (cellP ps) = some (cellP ps) := by
  induction ps with
  | nil => rfl
  | cons q ps ih =>
    have e : cellP (q :: ps) = ePl q ++ cellP ps := by simp [cellP]
    rw [e]
    exact keepL_append rfl ih
theorem chunk_cellP (ps : List Pl) : cP 4 ps.length (cellP ps) = cX ps := by
  induction ps with
  | nil => rfl
  | cons q ps ih =>
    have e : cellP (q :: ps) = ePl q ++ cellP ps := by simp [cellP]
    rw [e]
    show (ePl q ++ cellP ps).take 4 :: cP 4 ps.length ((ePl q ++ cellP ps).drop 4) = _
    have h5 : (ePl q).length = 4 := rfl
    rw [List.take_left' h5, List.drop_left' h5, ih]; rfl
def PL (lo : Nat) (v : EVal) (ps : List Pl) (N : Nat) (l : List (Nat × Option EObj)) : Prop :=
  (v = .nilslice ∧ ps = []) ∨ ∃ id, lo ≤ id ∧ id < N ∧ v = .slice id 0 ps.length (.slack 0) ∧ aB l id = some (.row (cellP ps) 24 0 0 true)
theorem PL_one {lo : Nat} {v : EVal} {ps : List Pl} {N : Nat} {l : List (Nat × Option EObj)} (h : PL lo v ps N l) : v.cells = [v] ∧ v.one = true ∧ allOne [v] = true ∧ ∀ h, eLen Tryz.prog h 54 v = some (.int .i64 (ps.length : Nat)) := by
  rcases h with ⟨rfl, rfl⟩ | ⟨id, _, _, rfl, _⟩ <;> exact ⟨rfl, rfl, rfl, fun h => by simp only [SS, TF39PaV]⟩
theorem PL_cons {lo : Nat} {v : EVal} {ps : List Pl} {N j : Nat} {l : List (Nat × Option EObj)} {x : Option EObj} (hj : j < lo) (h : PL lo v ps N l) : PL lo v ps N ((j, x) :: l) := by
  rcases h with h | ⟨id, h1, h2, h3, h4⟩
  · exact .inl h
  · exact .inr ⟨id, h1, h2, h3, by rw [aB.eq_2, if_neg (by omega)]; exact h4⟩
theorem eAppend_PL {lo : Nat} {v : EVal} {ps : List Pl} {q : Pl} {N m : Nat} {l : List (Nat × Option EObj)} {kk : List (Nat × Option (Nat × TypeId))} (h : PL lo v ps N l) (hlo : lo ≤ N) (hN : N < 16000) (hlen : ps.length ≤ 10000) :
    ∃ v2 l2, eAppend Tryz.prog (mkH N l m kk) 54 v (.lsl [[.str q.p, .str q.e, .bool q.l, .lsl (aZ q.m)]]) = some (v2, mkH (N + 1) l2 m kk) ∧ PL lo v2 (ps ++ [q]) (N + 1) l2 ∧ ∀ i, i < lo → aB l2 i = aB l i := by
  have hs : cellP ps ++ [.str q.p, .str q.e, .bool q.l, .lsl (aZ q.m)] = cellP (ps ++ [q]) := by simp [cellP, ePl]
  have g2 : dN 4 [[EVal.str q.p, .str q.e, .bool q.l, .lsl (aZ q.m)]] = true := rfl
  rcases h with ⟨rfl, rfl⟩ | ⟨id, hlo2, hid, rfl, hl⟩
  · have g1 : decide (64 * 1 ≤ 1000000) = true := by decide
    refine ⟨.slice N 0 1 (.slack 0), (N, some (.row [.str q.p, .str q.e, .bool q.l, .lsl (aZ q.m)] 24 0 0 true)) :: l, ?_, .inr ⟨N, hlo, by omega, rfl, by simp [aB, cellP, ePl]⟩, ?_⟩
    · simp only [SS, TF39PaV, Nat.reduceLeDiff, reduceCtorEq, g2]
    · intro i hi
      rw [aB.eq_2, if_neg (by omega)]
  · have hid0 : id < 16000 := by omega
    have g1 : decide (64 * (ps.length + 1) ≤ 1000000) = true := by simp; omega
    have g3 : ((ps.length + 1) * 4 ≤ ps.length * 4) = False := by simp only [eq_iff_iff, iff_false]; omega
    refine ⟨.slice N 0 (ps.length + 1) (.slack 0), (N, some (.row (cellP ps ++ [.str q.p, .str q.e, .bool q.l, .lsl (aZ q.m)]) 24 0 0 true)) :: (id, none) :: l, ?_, .inr ⟨N, hlo, by omega, by simp, by rw [hs]; simp [aB]⟩, ?_⟩
    · simp only [SS, TF39PaV, setRange, Nat.reduceAdd, reduceCtorEq, hid0, hl, g1, g2, g3, cellP_length, cellP_take]
    · intro i hi
      rw [aB.eq_2, if_neg (by omega), aB.eq_2, if_neg (by omega)]
end Go.Ev
