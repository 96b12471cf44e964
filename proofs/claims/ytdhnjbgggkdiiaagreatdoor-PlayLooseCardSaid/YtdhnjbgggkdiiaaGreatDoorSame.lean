import Derived.Test.YtdhnjbgggkdiiaaGreatDoorForm6
import Derived.Test.YtdhnjbgggkdiiaaGreatDoorNamesB
set_option linter.unusedSimpArgs false
set_option linter.unusedVariables false
namespace Go.Ev
open Go.RowKit Go.Proofs
set_option linter.defProp false
def TF34Same := And.intro (And.intro (And.intro (And.intro (And.intro (@Tryz.underlying3) (And.intro (@sz3) (@bK))) (And.intro (@I3s) (And.intro (@I3b) (@bJ)))) (And.intro (And.intro (@bL) (And.intro (@Tryz.underlying4) (@sz4))) (And.intro (And.intro (@cT) (@I4s)) (And.intro (@I4b) (@cS))))) (And.intro (And.intro (And.intro (@cU) (And.intro (@Tryz.underlying9) (@sz9))) (And.intro (@bZ) (And.intro (@I9s) (@I9b)))) (And.intro (And.intro (@bX) (And.intro (@cA) (@Tryz.underlying22))) (And.intro (And.intro (@dX) (@cZ)) (And.intro (@dY) (@dZ)))))) (And.intro (And.intro (And.intro (And.intro (@cX) (And.intro (@dA) (@Tryz.underlying24))) (And.intro (@sz24) (And.intro (@fok24) (@info24)))) (And.intro (And.intro (@I24s) (And.intro (@I24b) (@zero24))) (And.intro (And.intro (@grow24) (@Tryz.underlying25)) (And.intro (@dI) (@bQ))))) (And.intro (And.intro (And.intro (@dJ) (And.intro (@dK) (@bP))) (And.intro (And.intro (@bR) (@Tryz.underlying27)) (And.intro (@dN) (@cV)))) (And.intro (And.intro (@cF) (And.intro (@dO) (@dP))) (And.intro (And.intro (@cC) (@cG)) (And.intro (@call66) (@Tryz.results34))))))
def TF66Same := And.intro (And.intro (And.intro (And.intro (And.intro (@Tryz.underlying3) (@sz3)) (And.intro (@bK) (@I3s))) (And.intro (And.intro (@I3b) (@bJ)) (And.intro (@bL) (And.intro (@Tryz.underlying4) (@sz4))))) (And.intro (And.intro (And.intro (@cT) (@I4s)) (And.intro (@I4b) (And.intro (@cS) (@cU)))) (And.intro (And.intro (@Tryz.underlying9) (@sz9)) (And.intro (@bZ) (And.intro (@I9s) (@I9b)))))) (And.intro (And.intro (And.intro (And.intro (@bX) (@cA)) (And.intro (@Tryz.underlying25) (@dI))) (And.intro (And.intro (@bQ) (@dJ)) (And.intro (@dK) (And.intro (@bP) (@bR))))) (And.intro (And.intro (And.intro (@Tryz.underlying27) (@dN)) (And.intro (@cV) (And.intro (@cF) (@dO)))) (And.intro (And.intro (@dP) (@cC)) (And.intro (@cG) (And.intro (@call78) (@Tryz.results66))))))
set_option maxRecDepth 20000
set_option maxHeartbeats 8000000

/-! moves and plays, compared -/
def sameMv (a b : Mv) : Bool := (a.f == b.f) && ((a.t == b.t) && ((a.o == b.o) && (decide (a.h = b.h) && decide (a.b = b.b))))
theorem sameMv_iff (a b : Mv) : sameMv a b = true ↔ a = b := by
  obtain ⟨f, t, o, h, l⟩ := a
  obtain ⟨f2, t2, o2, h2, l2⟩ := b
  simp [sameMv]
def dMv : EVal → Option Mv
  | .agg x => dMove x
  | _ => none
def F66 : List EVal → Option EVal
  | [x, y] => match dMv x, dMv y with
    | some a, some b => some (.bool (sameMv a b))
    | _, _ => none
  | _ => none
theorem dMv_inv {x : EVal} {m : Mv} (h : dMv x = some m) : x = .agg (dE m) ∧ eA m := by
  unfold dMv at h
  split at h
  · obtain ⟨rfl, h2⟩ := dMove_inv h; exact ⟨rfl, h2⟩
  · cases h
theorem e66 {a b : Mv} (ha : eA a) (hb : eA b) : F66 [.agg [.int .i64 a.f, .int .i64 a.t, .bool a.o, .str a.h, .lsl (aS a.b)], .agg [.int .i64 b.f, .int .i64 b.t, .bool b.o, .str b.h, .lsl (aS b.b)]] = some (.bool (sameMv a b)) := by
  have h1 := dMove_e ha
  have h2 := dMove_e hb
  unfold dE at h1 h2
  simp only [F66, dMv, h1, h2]
theorem eqXs4 {a b : Bool} : eqX Tryz.prog 4 (.bool a) (.bool b) = some (a == b) := eqXb
theorem fn66 : FnT 66 F66 := by
  refine Fn.intro mixed aJ Tryz.func66 rfl [(78, F78)] (by simp only [List.forall_mem_cons]; exact ⟨fn78, fun _ h => by cases h⟩) ?_
  intro args v hF
  unfold F66 at hF
  split at hF
  rotate_left
  · cases hF
  intro Q hV
  have hQ := aW.of hV
  rename_i x y
  split at hF
  rotate_left
  · cases hF
  rename_i a b ha hb
  cases hF
  obtain ⟨rfl, oka⟩ := dMv_inv ha
  obtain ⟨rfl, okb⟩ := dMv_inv hb
  clear ha hb
  have h78 := e78 oka okb
  refine Top.view (aF.start (n := 38) rfl (by simp)) (aD aJ _ _ _ _ ?_)
  cases h1 : (a.f == b.f) with
  | false =>
    (try simp only [aI, SS, TF66Same, aA, Nat.reduceLT, Nat.reduceEqDiff, Nat.reduceAdd, reduceCtorEq, bT, h1])
    (refine hQ _ _ _ (aC (by first | exact .inl rfl | exact .inr rfl) ?_); simp only [SS, TF66Same, Nat.reduceLT, Nat.reduceEqDiff, reduceCtorEq])
    simp [sameMv, h1]
  | true =>
  cases h2 : (a.t == b.t) with
  | false =>
    (try simp only [aI, SS, TF66Same, aA, Nat.reduceLT, Nat.reduceEqDiff, Nat.reduceAdd, reduceCtorEq, bT, h1, h2])
    (refine hQ _ _ _ (aC (by first | exact .inl rfl | exact .inr rfl) ?_); simp only [SS, TF66Same, Nat.reduceLT, Nat.reduceEqDiff, reduceCtorEq])
    simp [sameMv, h1, h2]
  | true =>
  cases h3 : (a.o == b.o) with
  | false =>
    (try simp only [aI, SS, TF66Same, aA, Nat.reduceLT, Nat.reduceEqDiff, Nat.reduceAdd, reduceCtorEq, bT, h1, h2, eOther, eqXs4, h3])
    (refine hQ _ _ _ (aC (by first | exact .inl rfl | exact .inr rfl) ?_); simp only [SS, TF66Same, Nat.reduceLT, Nat.reduceEqDiff, reduceCtorEq])
    simp [sameMv, h1, h2, h3]
  | true =>
  cases h4 : decide (a.h = b.h) with
  | false =>
    (try simp only [aI, SS, TF66Same, aA, Nat.reduceLT, Nat.reduceEqDiff, Nat.reduceAdd, reduceCtorEq, bT, h1, h2, eOther, eqXs4, h3, h4])
    (refine hQ _ _ _ (aC (by first | exact .inl rfl | exact .inr rfl) ?_); simp only [SS, TF66Same, Nat.reduceLT, Nat.reduceEqDiff, reduceCtorEq])
    simp [sameMv, h1, h2, h3, h4]
  | true =>
    (try simp only [aI, SS, TF66Same, aH, aA, Nat.reduceLT, Nat.reduceEqDiff, Nat.reduceAdd, reduceCtorEq, bT, h1, h2, eOther, eqXs4, h3, h4, h78])
    (refine hQ _ _ _ (aC (by first | exact .inl rfl | exact .inr rfl) ?_); simp only [SS, TF66Same, Nat.reduceLT, Nat.reduceEqDiff, reduceCtorEq])
    simp only [sameMv, h1, h2, h3, h4, Bool.true_and]

def sameL : List Mv → List Mv → Bool
  | [], [] => true
  | a :: l, b :: m => sameMv a b && sameL l m
  | _, _ => false
theorem sameL_iff : ∀ {l m : List Mv}, sameL l m = true ↔ l = m
  | [], [] => by simp [sameL]
  | [], _ :: _ => by simp [sameL]
  | _ :: _, [] => by simp [sameL]
  | a :: l, b :: m => by simp [sameL, sameMv_iff, sameL_iff]
theorem sameL_len {l m : List Mv} (h : l.length ≠ m.length) : sameL l m = false := by
  rw [Bool.eq_false_iff]
  intro e
  exact h (by rw [sameL_iff.1 e])
theorem sameL_drop {l m : List Mv} {k : Nat} {a b : Mv} (h1 : l[k]? = some a) (h2 : m[k]? = some b) : sameL (l.drop k) (m.drop k) = (sameMv a b && sameL (l.drop (k + 1)) (m.drop (k + 1))) := by
  obtain ⟨hk, rfl⟩ := List.getElem?_eq_some_iff.1 h1
  obtain ⟨hk2, rfl⟩ := List.getElem?_eq_some_iff.1 h2
  rw [List.drop_eq_getElem_cons hk, List.drop_eq_getElem_cons hk2]; rfl
def sameP (p e : List Nat) (late : Bool) (l : List Mv) (p2 e2 : List Nat) (late2 : Bool) (l2 : List Mv) : Bool := decide (p = p2) && (decide (e = e2) && ((late == late2) && sameL l l2))
def F34 : List EVal → Option EVal
  | [.agg [.str p, .str e, .bool late, ms], .agg [.str p2, .str e2, .bool late2, ms2]] => match bH ms, bH ms2 with
    | some l, some l2 => some (.bool (sameP p e late l p2 e2 late2 l2))
    | _, _ => none
  | _ => none
theorem fn34 : FnT 34 F34 := by
  refine Fn.intro mixed aJ Tryz.func34 rfl [(66, F66)] (by simp only [List.forall_mem_cons]; exact ⟨fn66, fun _ h => by cases h⟩) ?_
  intro args v hF
  unfold F34 at hF
  split at hF
  rotate_left
  · cases hF
  intro Q hV
  have hQ := aW.of hV
  rename_i p e late ms p2 e2 late2 ms2
  split at hF
  rotate_left
  · cases hF
  rename_i l l2 ha hb
  cases hF
  obtain ⟨rfl, hlen, hok⟩ := bE ha
  obtain ⟨rfl, hlen2, hok2⟩ := bE hb
  clear ha hb
  refine Top.view (aF.start (n := 53) rfl (by simp)) (aD aJ _ _ _ _ ?_)
  cases h1 : decide (p = p2) with
  | false =>
    (try simp only [aI, SS, TF34Same, aA, Nat.reduceLT, Nat.reduceEqDiff, Nat.reduceAdd, reduceCtorEq, h1])
    (refine hQ _ _ _ (aC (by first | exact .inl rfl | exact .inr rfl) ?_); simp only [SS, TF34Same, Nat.reduceLT, Nat.reduceEqDiff, reduceCtorEq])
    simp [sameP, h1]
  | true =>
  cases h2 : decide (e = e2) with
  | false =>
    (try simp only [aI, SS, TF34Same, aA, Nat.reduceLT, Nat.reduceEqDiff, Nat.reduceAdd, reduceCtorEq, h1, h2])
    (refine hQ _ _ _ (aC (by first | exact .inl rfl | exact .inr rfl) ?_); simp only [SS, TF34Same, Nat.reduceLT, Nat.reduceEqDiff, reduceCtorEq])
    simp [sameP, h1, h2]
  | true =>
  cases h3 : (late == late2) with
  | false =>
    (try simp only [aI, SS, TF34Same, aA, Nat.reduceLT, Nat.reduceEqDiff, Nat.reduceAdd, reduceCtorEq, h1, h2, eOther, eqXs4, h3])
    (refine hQ _ _ _ (aC (by first | exact .inl rfl | exact .inr rfl) ?_); simp only [SS, TF34Same, Nat.reduceLT, Nat.reduceEqDiff, reduceCtorEq])
    simp [sameP, h1, h2, h3]
  | true =>
  by_cases h4 : l.length = l2.length
  rotate_left
  · have c4 : ((l.length : Int) == (l2.length : Int)) = false := by simp only [beq_eq_false_iff_ne]; omega
    (try simp only [aI, SS, TF34Same, aA, Nat.reduceLT, Nat.reduceEqDiff, Nat.reduceAdd, reduceCtorEq, h1, h2, eOther, eqXs4, h3, aL, c4])
    (refine hQ _ _ _ (aC (by first | exact .inl rfl | exact .inr rfl) ?_); simp only [SS, TF34Same, Nat.reduceLT, Nat.reduceEqDiff, reduceCtorEq])
    simp [sameP, h1, h2, h3, sameL_len h4]
  have c4 : ((l.length : Int) == (l2.length : Int)) = true := by rw [h4]; simp
  have hE : sameP p e late l p2 e2 late2 l2 = sameL l l2 := by simp [sameP, h1, h2, h3]
  rw [hE] at hQ
  clear hE
  (try simp only [aI, SS, TF34Same, aA, Nat.reduceLT, Nat.reduceEqDiff, Nat.reduceAdd, reduceCtorEq, h1, h2, eOther, eqXs4, h3, aL, c4])
  refine aT (Top.loop (I := fun s : { k : Nat // k ≤ l.length ∧ sameL l l2 = sameL (l.drop k) (l2.drop k) } => (mkF 53 [(5, .int .i64 (s.1 : Nat)), (2, .ptr 0 0), (3, .ptr 1 0)], mkH 2 [(1, some (.row [.str p2, .str e2, .bool late2, .lsl (aG l2)] 24 0 0 false)), (0, some (.row [.str p, .str e, .bool late, .lsl (aG l)] 24 0 0 false))] 0 [])) (μ := fun s => l.length - s.1) ⟨0, by simp, rfl⟩ (aF.drop (by simp [look, below]) (by simp [aB, aR, below, aX]) (by simp [aB])) ?_)
  rintro ⟨k, hk, hf⟩
  refine aD aJ _ _ _ _ ?_
  by_cases hlt : k < l.length
  rotate_left
  · have q1 : decide ((k : Int) < (l.length : Int)) = false := by simp; omega
    (try simp only [SS, TF34Same, aA, Nat.reduceLT, Nat.reduceEqDiff, reduceCtorEq, aL, q1])
    (refine hQ _ _ _ (aC (by first | exact .inl rfl | exact .inr rfl) ?_); simp only [SS, TF34Same, Nat.reduceLT, Nat.reduceEqDiff])
    have e1 : l.drop k = [] := List.drop_eq_nil_of_le (by omega)
    have e2 : l2.drop k = [] := List.drop_eq_nil_of_le (by omega)
    rw [hf, e1, e2]; rfl
  obtain ⟨a, hx⟩ : ∃ a, l[k]? = some a := ⟨l[k], List.getElem?_eq_getElem hlt⟩
  obtain ⟨b, hy⟩ : ∃ b, l2[k]? = some b := ⟨l2[k]'(by omega), List.getElem?_eq_getElem (by omega)⟩
  have hfd := sameL_drop hx hy
  have h66 := e66 (hok a (List.mem_of_getElem? hx)) (hok2 b (List.mem_of_getElem? hy))
  have q1 : decide ((k : Int) < (l.length : Int)) = true := by simp; omega
  have q2 : IntKind.i64.wrap ((k : Int) + 1) = ((k + 1 : Nat) : Int) := by rw [aP] <;> omega
  (try simp only [SS, TF34Same, aA, Nat.reduceLT, Nat.reduceEqDiff, reduceCtorEq, aL, q1])
  refine bA (Top.draw mixed aJ (by kernel_rfl) ?_)
  (try simp only [SS, TF34Same, aH, Nat.reduceLT, Nat.reduceEqDiff, Nat.reduceAdd, reduceCtorEq, aZ, bT, hx, hy, h66])
  refine ⟨by kernel_rfl, ?_⟩
  cases h5 : sameMv a b with
  | false =>
    (try simp only [SS, aA, Nat.reduceLT])
    (refine hQ _ _ _ (aC (by first | exact .inl rfl | exact .inr rfl) ?_); simp only [SS, TF34Same, Nat.reduceLT, Nat.reduceEqDiff])
    rw [hf, hfd, h5]; rfl
  | true =>
    (try simp only [SS, aA, Nat.reduceLT, Nat.reduceEqDiff, q2])
    exact ⟨⟨k + 1, hlt, by rw [hf, hfd, h5]; rfl⟩, by simp; omega, (aF.drop (by simp [look, below]) (by simp [aB, aR, below, aX]) (by simp [aB]))⟩

/-! a number in a list; a runner's move -/
end Go.Ev
