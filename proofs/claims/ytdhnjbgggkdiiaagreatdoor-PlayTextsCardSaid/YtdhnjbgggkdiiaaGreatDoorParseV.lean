import Derived.Test.YtdhnjbgggkdiiaaGreatDoorRefMove
import Derived.Test.YtdhnjbgggkdiiaaGreatDoorForm6
set_option linter.unusedSimpArgs false
set_option linter.unusedVariables false
namespace Go.Ev
open Go.RowKit Go.Proofs
set_option linter.defProp false
def TF32ParseV := And.intro (And.intro (And.intro (And.intro (And.intro (And.intro (@Tryz.underlying3) (@sz3)) (And.intro (@bN) (@I3s))) (And.intro (And.intro (@I3b) (@bL)) (And.intro (@bO) (@Tryz.underlying4)))) (And.intro (And.intro (And.intro (@sz4) (@dC)) (And.intro (@I4s) (@I4b))) (And.intro (And.intro (@cY) (@dD)) (And.intro (@Tryz.underlying5) (And.intro (@sz5) (@dK)))))) (And.intro (And.intro (And.intro (And.intro (@I5s) (@I5b)) (And.intro (@dG) (@dL))) (And.intro (And.intro (@Tryz.underlying9) (@sz9)) (And.intro (@bI) (And.intro (@I9s) (@I9b))))) (And.intro (And.intro (And.intro (@bH) (@bJ)) (And.intro (@Tryz.underlying22) (@eN))) (And.intro (And.intro (@dO) (@eO)) (And.intro (@eP) (And.intro (@dH) (@dP))))))) (And.intro (And.intro (And.intro (And.intro (And.intro (@Tryz.underlying24) (@sz24)) (And.intro (@fok24) (@info24))) (And.intro (And.intro (@I24s) (@I24b)) (And.intro (@zero24) (And.intro (@grow24) (@Tryz.underlying25))))) (And.intro (And.intro (And.intro (@eB) (@cE)) (And.intro (@eC) (@eD))) (And.intro (And.intro (@cC) (@cF)) (And.intro (@Tryz.underlying27) (And.intro (@eE) (@dF)))))) (And.intro (And.intro (And.intro (And.intro (@cJ) (@eF)) (And.intro (@eG) (@cH))) (And.intro (And.intro (@cK) (@Tryz.underlying56)) (And.intro (@sz56) (And.intro (@info56) (@I56s))))) (And.intro (And.intro (And.intro (@I56b) (@zero56)) (And.intro (@grow56) (@call20))) (And.intro (And.intro (@call36) (@call85)) (And.intro (@call101) (And.intro (@call102) (@Tryz.results32)))))))
set_option maxRecDepth 20000
set_option maxHeartbeats 8000000

/-! what a string is read as -/
def lateB : List Nat := [108, 97, 116, 101]
def cR (i : Nat) (w : List Nat) : Bool := if i = 0 then pitW w else if i = 1 then (decide (w = [45]) || isEv w) else if i = 2 then (decide (w = lateB) || mvW w) else mvW w
/-- the place of the first wrong word -/
def cO : Nat → Nat → List (List Nat) → Option Nat
  | _, _, [] => none
  | i, at0, w :: r => if cR i w = true then cO (i + 1) (at0 + w.length + 1) r else some at0
structure Pl where
  p : List Nat
  e : List Nat
  l : Bool
  m : List Mv
def pl0 : Pl := ⟨[], [], false, []⟩
def dB (i : Nat) (s : Pl) (w : List Nat) : Pl :=
  if i = 0 then ⟨undash w, s.e, s.l, s.m⟩ else if i = 1 then ⟨s.p, undash w, s.l, s.m⟩ else if i = 2 ∧ w = lateB then ⟨s.p, s.e, true, s.m⟩ else ⟨s.p, s.e, s.l, s.m ++ [eL w]⟩
def cL : Nat → Pl → List (List Nat) → Pl
  | _, s, [] => s
  | i, s, w :: r => cL (i + 1) (dB i s w) r
def plE (q : Pl) : EVal := .agg [.str q.p, .str q.e, .bool q.l, .lsl (aZ q.m)]
def cI (s : List Nat) : Pl × Nat × Int :=
  if 4096 < s.length then (pl0, 0, 26) else match cO 0 0 (aT 32 s) with
  | some a => (pl0, a, 25)
  | none => if (aT 32 s).length < 2 then (pl0, s.length, 25) else
    if playE (cL 0 pl0 (aT 32 s)).p (cL 0 pl0 (aT 32 s)).e (cL 0 pl0 (aT 32 s)).m ≠ 0 then (pl0, s.length, playE (cL 0 pl0 (aT 32 s)).p (cL 0 pl0 (aT 32 s)).e (cL 0 pl0 (aT 32 s)).m)
    else (cL 0 pl0 (aT 32 s), 0, 0)
def parseE (s : List Nat) : EVal := .tup [plE (cI s).1, .int .i64 ((cI s).2.1 : Nat), .int .i64 (cI s).2.2]
theorem wrongAt_drop {i a : Nat} {ws : List (List Nat)} {w : List Nat} (h : ws[i]? = some w) : cO i a (ws.drop i) = if cR i w = true then cO (i + 1) (a + w.length + 1) (ws.drop (i + 1)) else some a := by
  obtain ⟨hk, rfl⟩ := List.getElem?_eq_some_iff.1 h
  rw [List.drop_eq_getElem_cons hk]; rfl
theorem readG_drop {i : Nat} {s : Pl} {ws : List (List Nat)} {w : List Nat} (h : ws[i]? = some w) : cL i s (ws.drop i) = cL (i + 1) (dB i s w) (ws.drop (i + 1)) := by
  obtain ⟨hk, rfl⟩ := List.getElem?_eq_some_iff.1 h
  rw [List.drop_eq_getElem_cons hk]; rfl
theorem split_len {c : Nat} : ∀ l : List Nat, dT (aT c l) + (aT c l).length = l.length + 1
  | [] => rfl
  | b :: l => by
    have ih := split_len (c := c) l
    simp only [aT]
    split
    · simp only [dT, List.flatten_cons, List.length_append, List.length_nil, List.length_cons] at ih ⊢; omega
    · cases hx : aT c l with
      | nil => exact absurd hx (splitC_ne l)
      | cons w r =>
        rw [hx] at ih
        simp only [dT, List.flatten_cons, List.length_append, List.length_cons] at ih ⊢; omega
theorem split_bytes {c : Nat} : ∀ {l : List Nat}, aM l = true → ∀ w ∈ aT c l, aM w = true
  | [], _, w, hw => by simp [aT] at hw; subst hw; rfl
  | b :: l, h, w, hw => by
    simp only [aM, List.all_cons, Bool.and_eq_true, decide_eq_true_eq] at h
    have ih := split_bytes (c := c) (l := l) (by simpa [aM] using h.2)
    simp only [aT] at hw
    split at hw
    · rcases List.mem_cons.1 hw with rfl | hw
      · rfl
      · exact ih w hw
    · cases hx : aT c l with
      | nil => exact absurd hx (splitC_ne l)
      | cons w' r =>
        rw [hx] at hw ih
        rcases List.mem_cons.1 hw with rfl | hw
        · have := ih w' List.mem_cons_self
          simp only [aM, List.all_cons, Bool.and_eq_true, decide_eq_true_eq] at this ⊢
          exact ⟨h.1, this⟩
        · exact ih w (List.mem_cons_of_mem _ hw)
theorem lenS_mem {ws : List (List Nat)} {w : List Nat} (h : w ∈ ws) : w.length ≤ dT ws := by
  induction ws with
  | nil => cases h
  | cons a ws ih =>
    simp only [dT, List.flatten_cons, List.length_append]
    rcases List.mem_cons.1 h with rfl | h
    · omega
    · have := ih h; unfold dT at this; omega
/-- a list of moves under way, in a cell -/
def cellM (ms : List Mv) : List EVal := (ms.map dR).flatten
theorem cellM_length (ms : List Mv) : (cellM ms).length = ms.length * 5 := by
  induction ms with
  | nil => rfl
  | cons m ms ih => simp only [cellM, List.map_cons, List.flatten_cons, List.length_append, List.length_cons] at ih ⊢; rw [ih]; simp [dR]; omega
theorem cellM_take (ms : List Mv) : (cellM ms).take (ms.length * 5) = cellM ms := by rw [← cellM_length ms, List.take_length]
theorem keepL_append : ∀ {a b c d : List EVal}, dX a = some c → dX b = some d → dX (a ++ b) = some (c ++ d)
  | [], b, c, d, h1, h2 => by simp only [dX, Option.some.injEq] at h1; subst h1; exact h2
  | x :: a, b, c, d, h1, h2 => by
    simp only [dX] at h1
    split at h1
    · rename_i y z hy hz
      cases h1
      simp only [List.cons_append, dX, hy, keepL_append hz h2]
    · cases h1
theorem keepL_cellM (ms : List Mv) : dX (cellM ms) = some (cellM ms) := by
  induction ms with
  | nil => rfl
  | cons m ms ih =>
    have e : cellM (m :: ms) = dR m ++ cellM ms := by simp [cellM]
    rw [e]
    exact keepL_append rfl ih
theorem chunk_cellM (ms : List Mv) : cP 5 ms.length (cellM ms) = aZ ms := by
  induction ms with
  | nil => rfl
  | cons m ms ih =>
    have e : cellM (m :: ms) = dR m ++ cellM ms := by simp [cellM]
    rw [e]
    show (dR m ++ cellM ms).take 5 :: cP 5 ms.length ((dR m ++ cellM ms).drop 5) = _
    have h5 : (dR m).length = 5 := rfl
    rw [List.take_left' h5, List.drop_left' h5, ih]; rfl
def ML (lo : Nat) (v : EVal) (ms : List Mv) (N : Nat) (l : List (Nat × Option EObj)) : Prop :=
  (v = .nilslice ∧ ms = []) ∨ ∃ id, lo ≤ id ∧ id < N ∧ v = .slice id 0 ms.length (.slack 0) ∧ aB l id = some (.row (cellM ms) 27 0 0 true)
theorem ML_one {lo : Nat} {v : EVal} {bs : List Mv} {N : Nat} {l : List (Nat × Option EObj)} (h : ML lo v bs N l) : v.cells = [v] ∧ v.one = true ∧ allOne [v] = true := by
  rcases h with ⟨rfl, _⟩ | ⟨id, _, _, rfl, _⟩ <;> exact ⟨rfl, rfl, rfl⟩
theorem eAppend_ML {lo : Nat} {v : EVal} {ms : List Mv} {x : Mv} {N m : Nat} {l : List (Nat × Option EObj)} {kk : List (Nat × Option (Nat × TypeId))} (h : ML lo v ms N l) (hlo : lo ≤ N) (hN : N < 16000) (hlen : ms.length ≤ 10000) :
    ∃ v2 l2, eAppend Tryz.prog (mkH N l m kk) 22 v (.lsl [[.int .i64 x.f, .int .i64 x.t, .bool x.o, .str x.h, .lsl (bU x.b)]]) = some (v2, mkH (N + 1) l2 m kk) ∧ ML lo v2 (ms ++ [x]) (N + 1) l2 ∧ ∀ i, i < lo → aB l2 i = aB l i := by
  have hs : cellM ms ++ [.int .i64 x.f, .int .i64 x.t, .bool x.o, .str x.h, .lsl (bU x.b)] = cellM (ms ++ [x]) := by simp [cellM, dR]
  have g2 : dN 5 [[EVal.int .i64 x.f, .int .i64 x.t, .bool x.o, .str x.h, .lsl (bU x.b)]] = true := rfl
  rcases h with ⟨rfl, rfl⟩ | ⟨id, hlo2, hid, rfl, hl⟩
  · have g1 : decide (64 * 1 ≤ 1000000) = true := by decide
    refine ⟨.slice N 0 1 (.slack 0), (N, some (.row [.int .i64 x.f, .int .i64 x.t, .bool x.o, .str x.h, .lsl (bU x.b)] 27 0 0 true)) :: l, ?_, .inr ⟨N, hlo, by omega, rfl, by simp [aB, cellM, dR]⟩, ?_⟩
    · simp only [SS, TF32ParseV, Nat.reduceLeDiff, reduceCtorEq, g2]
    · intro i hi
      rw [aB.eq_2, if_neg (by omega)]
  · have hid0 : id < 16000 := by omega
    have g1 : decide (64 * (ms.length + 1) ≤ 1000000) = true := by simp; omega
    have g3 : ((ms.length + 1) * 5 ≤ ms.length * 5) = False := by simp only [eq_iff_iff, iff_false]; omega
    refine ⟨.slice N 0 (ms.length + 1) (.slack 0), (N, some (.row (cellM ms ++ [.int .i64 x.f, .int .i64 x.t, .bool x.o, .str x.h, .lsl (bU x.b)]) 27 0 0 true)) :: (id, none) :: l, ?_, .inr ⟨N, hlo, by omega, by simp, by rw [hs]; simp [aB]⟩, ?_⟩
    · simp only [SS, TF32ParseV, setRange, Nat.reduceAdd, reduceCtorEq, hid0, hl, g1, g2, g3, cellM_length, cellM_take]
    · intro i hi
      rw [aB.eq_2, if_neg (by omega), aB.eq_2, if_neg (by omega)]
end Go.Ev
