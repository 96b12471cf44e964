import Derived.Test.YtdhnjbgggkdiiaaGreatDoorEvC
import Derived.Test.YtdhnjbgggkdiiaaGreatDoorForm2
import Derived.Test.YtdhnjbgggkdiiaaGreatDoorNamesB
import Derived.Test.YtdhnjbgggkdiiaaGreatDoorRefPr
import Derived.Test.YtdhnjbgggkdiiaaGreatDoorForm6
set_option linter.unusedSimpArgs false
set_option linter.unusedVariables false
namespace Go.Ev
open Go.RowKit Go.Proofs
set_option linter.defProp false
set_option maxRecDepth 20000
set_option maxHeartbeats 8000000

/-! what words are made of -/
def madeOf (f : Nat → Bool) (l : List Nat) : Bool := l.all f && decide (l ≠ [])
def digN (x : Nat) : Bool := digitB (x : Int)
def lowN (x : Nat) : Bool := lowerB (x : Int)
end Go.Ev
namespace Go.Ev
open Go.RowKit Go.Proofs
set_option linter.defProp false
set_option maxRecDepth 20000
set_option maxHeartbeats 8000000

/-! the words of a play, and of a move -/
def pitW (l : List Nat) : Bool := decide (l = [45]) || madeOf isP l
def undash (l : List Nat) : List Nat := if l = [45] then [] else l
/-- the form of a move's word -/
def mvW : List Nat → Bool
  | a :: b :: c :: d :: r => ((b == 45) || (b == 120)) && (digN a && (digN c && lowN d)) && (decide (r = []) || match r with | e :: r2 => (e == 58) && madeOf digN r2 | [] => true)
  | _ => false
end Go.Ev
namespace Go.Ev
open Go.RowKit Go.Proofs
set_option linter.defProp false
set_option maxRecDepth 20000
set_option maxHeartbeats 8000000

/-! the first blank of a string, and what stands bV and behind it -/
end Go.Ev
namespace Go.Ev
open Go.RowKit Go.Proofs
set_option linter.defProp false
set_option maxRecDepth 20000
set_option maxHeartbeats 8000000

/-! the parts of a string between a byte -/
def cY (c : Nat) : List Nat → List (List Nat)
  | [] => [[]]
  | b :: l => if b = c then [] :: cY c l else match cY c l with
    | w :: r => (b :: w) :: r
    | [] => [[b]]
theorem splitC_word {c : Nat} : ∀ {w : List Nat}, (∀ x ∈ w, x ≠ c) → cY c w = [w]
  | [], _ => rfl
  | b :: w, h => by
    have ih := splitC_word (w := w) fun x hx => h x (List.mem_cons_of_mem _ hx)
    simp only [cY, if_neg (h b List.mem_cons_self), ih]
theorem splitC_cut {c : Nat} {r : List Nat} : ∀ {w : List Nat}, (∀ x ∈ w, x ≠ c) → cY c (w ++ c :: r) = w :: cY c r
  | [], _ => by simp [cY]
  | b :: w, h => by
    have ih := splitC_cut (r := r) (w := w) fun x hx => h x (List.mem_cons_of_mem _ hx)
    simp only [List.cons_append, cY, if_neg (h b List.mem_cons_self), ih]
theorem splitC_ne {c : Nat} (l : List Nat) : cY c l ≠ [] := by
  cases l with
  | nil => simp [cY]
  | cons b l =>
    simp only [cY]
    split
    · simp
    · split <;> simp
end Go.Ev
namespace Go.Ev
open Go.RowKit Go.Proofs
set_option linter.defProp false
set_option maxRecDepth 20000
set_option maxHeartbeats 8000000

/-! the words of the reference -/
/-! digits read -/
def valN (x : Nat) : Int := (x : Int) - 48
end Go.Ev
namespace Go.Ev
open Go.RowKit Go.Proofs
set_option linter.defProp false
set_option maxRecDepth 20000
set_option maxHeartbeats 8000000

/-! a move read from its word -/
def mvOf : List Nat → Mv
  | a :: b :: c :: d :: r => ⟨valN a, valN c, b == 120, [d], (r.drop 1).map valN⟩
  | _ => ⟨0, 0, false, [], []⟩
end Go.Ev
namespace Go.Ev
open Go.RowKit Go.Proofs
set_option linter.defProp false
set_option maxRecDepth 20000
set_option maxHeartbeats 8000000

/-! a move's word, by the reference -/
end Go.Ev
namespace Go.Ev
open Go.RowKit Go.Proofs
set_option linter.defProp false
set_option maxRecDepth 20000
set_option maxHeartbeats 8000000

/-! what a string is read as -/
def lateB : List Nat := [108, 97, 116, 101]
def rightW (i : Nat) (w : List Nat) : Bool := if i = 0 then pitW w else if i = 1 then (decide (w = [45]) || isEv w) else if i = 2 then (decide (w = lateB) || mvW w) else mvW w
/-- the place of the first wrong word -/
def wrongAt : Nat → Nat → List (List Nat) → Option Nat
  | _, _, [] => none
  | i, at0, w :: r => if rightW i w = true then wrongAt (i + 1) (at0 + w.length + 1) r else some at0
structure Pl where
  p : List Nat
  e : List Nat
  l : Bool
  m : List Mv
def pl0 : Pl := ⟨[], [], false, []⟩
def stepP (i : Nat) (s : Pl) (w : List Nat) : Pl :=
  if i = 0 then ⟨undash w, s.e, s.l, s.m⟩ else if i = 1 then ⟨s.p, undash w, s.l, s.m⟩ else if i = 2 ∧ w = lateB then ⟨s.p, s.e, true, s.m⟩ else ⟨s.p, s.e, s.l, s.m ++ [mvOf w]⟩
def readG : Nat → Pl → List (List Nat) → Pl
  | _, s, [] => s
  | i, s, w :: r => readG (i + 1) (stepP i s w) r
def plE (q : Pl) : EVal := .agg [.str q.p, .str q.e, .bool q.l, .lsl (aG q.m)]
def parseT (s : List Nat) : Pl × Nat × Int :=
  if 4096 < s.length then (pl0, 0, 26) else match wrongAt 0 0 (cY 32 s) with
  | some a => (pl0, a, 25)
  | none => if (cY 32 s).length < 2 then (pl0, s.length, 25) else
    if playE (readG 0 pl0 (cY 32 s)).p (readG 0 pl0 (cY 32 s)).e (readG 0 pl0 (cY 32 s)).m ≠ 0 then (pl0, s.length, playE (readG 0 pl0 (cY 32 s)).p (readG 0 pl0 (cY 32 s)).e (readG 0 pl0 (cY 32 s)).m)
    else (readG 0 pl0 (cY 32 s), 0, 0)
theorem split_len {c : Nat} : ∀ l : List Nat, dS (cY c l) + (cY c l).length = l.length + 1
  | [] => rfl
  | b :: l => by
    have ih := split_len (c := c) l
    simp only [cY]
    split
    · simp only [dS, List.flatten_cons, List.length_append, List.length_nil, List.length_cons] at ih ⊢; omega
    · cases hx : cY c l with
      | nil => exact absurd hx (splitC_ne l)
      | cons w r =>
        rw [hx] at ih
        simp only [dS, List.flatten_cons, List.length_append, List.length_cons] at ih ⊢; omega
/-- a list of moves under way, in a cell -/
def aV (ms : List Mv) : List EVal := (ms.map dE).flatten
theorem cellM_length (ms : List Mv) : (aV ms).length = ms.length * 5 := by
  induction ms with
  | nil => rfl
  | cons m ms ih => simp only [aV, List.map_cons, List.flatten_cons, List.length_append, List.length_cons] at ih ⊢; rw [ih]; simp [dE]; omega
theorem cellM_take (ms : List Mv) : (aV ms).take (ms.length * 5) = aV ms := by rw [← cellM_length ms, List.take_length]
theorem keepL_append : ∀ {a b c d : List EVal}, dL a = some c → dL b = some d → dL (a ++ b) = some (c ++ d)
  | [], b, c, d, h1, h2 => by simp only [dL, Option.some.injEq] at h1; subst h1; exact h2
  | x :: a, b, c, d, h1, h2 => by
    simp only [dL] at h1
    split at h1
    · rename_i y z hy hz
      cases h1
      simp only [List.cons_append, dL, hy, keepL_append hz h2]
    · cases h1
theorem keepL_cellM (ms : List Mv) : dL (aV ms) = some (aV ms) := by
  induction ms with
  | nil => rfl
  | cons m ms ih =>
    have e : aV (m :: ms) = dE m ++ aV ms := by simp [aV]
    rw [e]
    exact keepL_append rfl ih
theorem chunk_cellM (ms : List Mv) : cJ 5 ms.length (aV ms) = aG ms := by
  induction ms with
  | nil => rfl
  | cons m ms ih =>
    have e : aV (m :: ms) = dE m ++ aV ms := by simp [aV]
    rw [e]
    show (dE m ++ aV ms).take 5 :: cJ 5 ms.length ((dE m ++ aV ms).drop 5) = _
    have h5 : (dE m).length = 5 := rfl
    rw [List.take_left' h5, List.drop_left' h5, ih]; rfl
def ML (lo : Nat) (v : EVal) (ms : List Mv) (N : Nat) (l : List (Nat × Option EObj)) : Prop :=
  (v = .nilslice ∧ ms = []) ∨ ∃ id, lo ≤ id ∧ id < N ∧ v = .slice id 0 ms.length (.slack 0) ∧ aB l id = some (.row (aV ms) 27 0 0 true)
theorem ML_one {lo : Nat} {v : EVal} {bs : List Mv} {N : Nat} {l : List (Nat × Option EObj)} (h : ML lo v bs N l) : v.cells = [v] ∧ v.one = true ∧ allOne [v] = true := by
  rcases h with ⟨rfl, _⟩ | ⟨id, _, _, rfl, _⟩ <;> exact ⟨rfl, rfl, rfl⟩
end Go.Ev
