import Derived.Test.YtdhnjbgggkdiiaaGreatDoorRdMove
import Derived.Test.YtdhnjbgggkdiiaaGreatDoorForm6
set_option linter.unusedSimpArgs false
set_option linter.unusedVariables false
namespace Go.Ev
open Go.RowKit Go.Proofs
set_option linter.defProp false
set_option maxRecDepth 20000
set_option maxHeartbeats 8000000

/-! a move's word, by the reference -/
end Go.Ev
namespace Go.Ev
open Go.RowKit Go.Proofs
set_option linter.defProp false
def TF32ParseV := And.intro (And.intro (And.intro (And.intro (And.intro (And.intro (@Tryz.underlying3) (@sz3)) (And.intro (@cE) (@I3s))) (And.intro (And.intro (@I3b) (@cA)) (And.intro (@cF) (@Tryz.underlying4)))) (And.intro (And.intro (And.intro (@sz4) (@eA)) (And.intro (@I4s) (@I4b))) (And.intro (And.intro (@dW) (@eB)) (And.intro (@Tryz.underlying5) (And.intro (@sz5) (@eF)))))) (And.intro (And.intro (And.intro (And.intro (@I5s) (@I5b)) (And.intro (@dY) (@eG))) (And.intro (And.intro (@Tryz.underlying9) (@sz9)) (And.intro (@cB) (And.intro (@I9s) (@I9b))))) (And.intro (And.intro (And.intro (@bY) (@cC)) (And.intro (@Tryz.underlying22) (@sz22))) (And.intro (And.intro (@info22) (@I22s)) (And.intro (@I22b) (And.intro (@zero22) (@grow22))))))) (And.intro (And.intro (And.intro (And.intro (And.intro (@Tryz.underlying24) (@sz24)) (And.intro (@fok24) (@info24))) (And.intro (And.intro (@I24s) (@I24b)) (And.intro (@zero24) (And.intro (@grow24) (@Tryz.underlying25))))) (And.intro (And.intro (And.intro (@eO) (@dE)) (And.intro (@eQ) (@eR))) (And.intro (And.intro (@dC) (@dF)) (And.intro (@Tryz.underlying27) (And.intro (@eS) (@eH)))))) (And.intro (And.intro (And.intro (And.intro (@dL) (@eU)) (And.intro (@eV) (@dH))) (And.intro (And.intro (@dM) (@Tryz.underlying56)) (And.intro (@sz56) (And.intro (@info56) (@I56s))))) (And.intro (And.intro (And.intro (@I56b) (@zero56)) (And.intro (@grow56) (@call20))) (And.intro (And.intro (@call36) (@call85)) (And.intro (@call101) (And.intro (@call102) (@Tryz.results32)))))))
set_option maxRecDepth 20000
set_option maxHeartbeats 8000000

/-! what a string is read as -/
def lateB : List Nat := [108, 97, 116, 101]
def dP (i : Nat) (w : List Nat) : Bool := if i = 0 then pitW w else if i = 1 then (decide (w = [45]) || isEv w) else if i = 2 then (decide (w = lateB) || mvW w) else mvW w
/-- the place of the first wrong word -/
def cW : Nat → Nat → List (List Nat) → Option Nat
  | _, _, [] => none
  | i, at0, w :: r => if dP i w = true then cW (i + 1) (at0 + w.length + 1) r else some at0
structure Pl where
  p : List Nat
  e : List Nat
  l : Bool
  m : List Mv
def pl0 : Pl := ⟨[], [], false, []⟩
def stepP (i : Nat) (s : Pl) (w : List Nat) : Pl :=
  if i = 0 then ⟨cO w, s.e, s.l, s.m⟩ else if i = 1 then ⟨s.p, cO w, s.l, s.m⟩ else if i = 2 ∧ w = lateB then ⟨s.p, s.e, true, s.m⟩ else ⟨s.p, s.e, s.l, s.m ++ [eW w]⟩
def cV : Nat → Pl → List (List Nat) → Pl
  | _, s, [] => s
  | i, s, w :: r => cV (i + 1) (stepP i s w) r
def plE (q : Pl) : EVal := .agg [.str q.p, .str q.e, .bool q.l, .lsl (bG q.m)]
def cK (s : List Nat) : Pl × Nat × Int :=
  if 4096 < s.length then (pl0, 0, 26) else match cW 0 0 (bI 32 s) with
  | some a => (pl0, a, 25)
  | none => if (bI 32 s).length < 2 then (pl0, s.length, 25) else
    if playE (cV 0 pl0 (bI 32 s)).p (cV 0 pl0 (bI 32 s)).e (cV 0 pl0 (bI 32 s)).m ≠ 0 then (pl0, s.length, playE (cV 0 pl0 (bI 32 s)).p (cV 0 pl0 (bI 32 s)).e (cV 0 pl0 (bI 32 s)).m)
    else (cV 0 pl0 (bI 32 s), 0, 0)
def parseE (s : List Nat) : EVal := .tup [plE (cK s).1, .int .i64 ((cK s).2.1 : Nat), .int .i64 (cK s).2.2]
theorem wrongAt_drop {i a : Nat} {ws : List (List Nat)} {w : List Nat} (h : ws[i]? = some w) : cW i a (ws.drop i) = if dP i w = true then cW (i + 1) (a + w.length + 1) (ws.drop (i + 1)) else some a := by
  obtain ⟨hk, rfl⟩ := List.getElem?_eq_some_iff.1 h
  rw [List.drop_eq_getElem_cons hk]; rfl
theorem readG_drop {i : Nat} {s : Pl} {ws : List (List Nat)} {w : List Nat} (h : ws[i]? = some w) : cV i s (ws.drop i) = cV (i + 1) (stepP i s w) (ws.drop (i + 1)) := by
  obtain ⟨hk, rfl⟩ := List.getElem?_eq_some_iff.1 h
  rw [List.drop_eq_getElem_cons hk]; rfl
theorem split_len {c : Nat} : ∀ l : List Nat, eK (bI c l) + (bI c l).length = l.length + 1
  | [] => rfl
  | b :: l => by
    have ih := split_len (c := c) l
    simp only [bI]
    split
    · simp only [eK, List.flatten_cons, List.length_append, List.length_nil, List.length_cons] at ih ⊢; omega
    · cases hx : bI c l with
      | nil => exact absurd hx (splitC_ne l)
      | cons w r =>
        rw [hx] at ih
        simp only [eK, List.flatten_cons, List.length_append, List.length_cons] at ih ⊢; omega
theorem split_bytes {c : Nat} : ∀ {l : List Nat}, aZ l = true → ∀ w ∈ bI c l, aZ w = true
  | [], _, w, hw => by simp [bI] at hw; subst hw; rfl
  | b :: l, h, w, hw => by
    simp only [aZ, List.all_cons, Bool.and_eq_true, decide_eq_true_eq] at h
    have ih := split_bytes (c := c) (l := l) (by simpa [aZ] using h.2)
    simp only [bI] at hw
    split at hw
    · rcases List.mem_cons.1 hw with rfl | hw
      · rfl
      · exact ih w hw
    · cases hx : bI c l with
      | nil => exact absurd hx (splitC_ne l)
      | cons w' r =>
        rw [hx] at hw ih
        rcases List.mem_cons.1 hw with rfl | hw
        · have := ih w' List.mem_cons_self
          simp only [aZ, List.all_cons, Bool.and_eq_true, decide_eq_true_eq] at this ⊢
          exact ⟨h.1, this⟩
        · exact ih w (List.mem_cons_of_mem _ hw)
theorem lenS_mem {ws : List (List Nat)} {w : List Nat} (h : w ∈ ws) : w.length ≤ eK ws := by
  induction ws with
  | nil => cases h
  | cons a ws ih =>
    simp only [eK, List.flatten_cons, List.length_append]
    rcases List.mem_cons.1 h with rfl | h
    · omega
    · have := ih h; unfold eK at this; omega
/-- a list of moves under way, in a cell -/
def cellM (ms : List Mv) : List EVal := (ms.map eM).flatten
theorem cellM_length (ms : List Mv) : (cellM ms).length = ms.length * 5 := by
  induction ms with
  | nil => rfl
  | cons m ms ih => simp only [cellM, List.map_cons, List.flatten_cons, List.length_append, List.length_cons] at ih ⊢; rw [ih]; simp [eM]; omega
theorem cellM_take (ms : List Mv) : (cellM ms).take (ms.length * 5) = cellM ms := by rw [← cellM_length ms, List.take_length]
theorem keepL_append : ∀ {a b c d : List EVal}, eI a = some c → eI b = some d → eI (a ++ b) = some (c ++ d)
  | [], b, c, d, h1, h2 => by simp only [eI, Option.some.injEq] at h1; subst h1; exact h2
  | x :: a, b, c, d, h1, h2 => by
    simp only [eI] at h1
    split at h1
    · rename_i y z hy hz
      cases h1
      simp only [List.cons_append, eI, hy, keepL_append hz h2]
    · cases h1
theorem keepL_cellM (ms : List Mv) : eI (cellM ms) = some (cellM ms) := by
  induction ms with
  | nil => rfl
  | cons m ms ih =>
    have e : cellM (m :: ms) = eM m ++ cellM ms := by simp [cellM]
    rw [e]
    exact keepL_append rfl ih
theorem chunk_cellM (ms : List Mv) : dD 5 ms.length (cellM ms) = bG ms := by
  induction ms with
  | nil => rfl
  | cons m ms ih =>
    have e : cellM (m :: ms) = eM m ++ cellM ms := by simp [cellM]
    rw [e]
    show (eM m ++ cellM ms).take 5 :: dD 5 ms.length ((eM m ++ cellM ms).drop 5) = _
    have h5 : (eM m).length = 5 := rfl
    rw [List.take_left' h5, List.drop_left' h5, ih]; rfl
def ML (lo : Nat) (v : EVal) (ms : List Mv) (N : Nat) (l : List (Nat × Option EObj)) : Prop :=
  (v = .nilslice ∧ ms = []) ∨ ∃ id, lo ≤ id ∧ id < N ∧ v = .slice id 0 ms.length (.slack 0) ∧ aP l id = some (.row (cellM ms) 27 0 0 true)
theorem ML_one {lo : Nat} {v : EVal} {bs : List Mv} {N : Nat} {l : List (Nat × Option EObj)} (h : ML lo v bs N l) : v.cells = [v] ∧ v.one = true ∧ allOne [v] = true := by
  rcases h with ⟨rfl, _⟩ | ⟨id, _, _, rfl, _⟩ <;> exact ⟨rfl, rfl, rfl⟩
theorem eAppend_ML {lo : Nat} {v : EVal} {ms : List Mv} {x : Mv} {N m : Nat} {l : List (Nat × Option EObj)} {kk : List (Nat × Option (Nat × TypeId))} (h : ML lo v ms N l) (hlo : lo ≤ N) (hN : N < 16000) (hlen : ms.length ≤ 10000) :
    ∃ v2 l2, eAppend Tryz.prog (mkH N l m kk) 22 v (.lsl [[.int .i64 x.f, .int .i64 x.t, .bool x.o, .str x.h, .lsl (cM x.b)]]) = some (v2, mkH (N + 1) l2 m kk) ∧ ML lo v2 (ms ++ [x]) (N + 1) l2 ∧ ∀ i, i < lo → aP l2 i = aP l i := by
  have hs : cellM ms ++ [.int .i64 x.f, .int .i64 x.t, .bool x.o, .str x.h, .lsl (cM x.b)] = cellM (ms ++ [x]) := by simp [cellM, eM]
  have g2 : dU 5 [[EVal.int .i64 x.f, .int .i64 x.t, .bool x.o, .str x.h, .lsl (cM x.b)]] = true := rfl
  rcases h with ⟨rfl, rfl⟩ | ⟨id, hlo2, hid, rfl, hl⟩
  · have g1 : decide (64 * 1 ≤ 1000000) = true := by decide
    refine ⟨.slice N 0 1 (.slack 0), (N, some (.row [.int .i64 x.f, .int .i64 x.t, .bool x.o, .str x.h, .lsl (cM x.b)] 27 0 0 true)) :: l, ?_, .inr ⟨N, hlo, by omega, rfl, by simp [aP, cellM, eM]⟩, ?_⟩
    · simp only [SS, TF32ParseV, aM, setRange, aN, aC, aB, aF, aE, aD, aA, Nat.reduceLT, Nat.reduceEqDiff, Nat.reduceAdd, Nat.reduceMul, Nat.reduceSub, Nat.reduceLeDiff, Nat.reduceBEq, reduceCtorEq, g1, g2]
    · intro i hi
      rw [aP.eq_2, if_neg (by omega)]
  · have hid0 : id < 16000 := by omega
    have g1 : decide (64 * (ms.length + 1) ≤ 1000000) = true := by simp; omega
    have g3 : ((ms.length + 1) * 5 ≤ ms.length * 5) = False := by simp only [eq_iff_iff, iff_false]; omega
    refine ⟨.slice N 0 (ms.length + 1) (.slack 0), (N, some (.row (cellM ms ++ [.int .i64 x.f, .int .i64 x.t, .bool x.o, .str x.h, .lsl (cM x.b)]) 27 0 0 true)) :: (id, none) :: l, ?_, .inr ⟨N, hlo, by omega, by simp, by rw [hs]; simp [aP]⟩, ?_⟩
    · simp only [SS, TF32ParseV, aM, setRange, aN, aC, aB, aF, aE, aD, aA, Nat.reduceLT, Nat.reduceEqDiff, Nat.reduceAdd, Nat.reduceMul, Nat.reduceSub, Nat.reduceLeDiff, Nat.reduceBEq, reduceCtorEq, hid0, hl, g1, g2, g3, cellM_length, cellM_take]
    · intro i hi
      rw [aP.eq_2, if_neg (by omega), aP.eq_2, if_neg (by omega)]
end Go.Ev
