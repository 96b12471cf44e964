import Derived.Test.YtdhnjbgggkdiiaaGreatDoorEvC
import Derived.Test.YtdhnjbgggkdiiaaGreatDoorRef2
import Derived.Test.YtdhnjbgggkdiiaaGreatDoorLines
set_option linter.unusedSimpArgs false
set_option linter.unusedVariables false
namespace Go.Ev
open Go.RowKit Go.Proofs
set_option linter.defProp false
def TF22Copy := And.intro (And.intro (And.intro (And.intro (And.intro (@Tryz.underlying3) (@sz3)) (And.intro (@bN) (And.intro (@I3s) (@I3b)))) (And.intro (And.intro (@bL) (And.intro (@bO) (@Tryz.underlying4))) (And.intro (@sz4) (And.intro (@dC) (@I4s))))) (And.intro (And.intro (And.intro (@I4b) (@cY)) (And.intro (@dD) (And.intro (@Tryz.underlying9) (@sz9)))) (And.intro (And.intro (@bI) (And.intro (@I9s) (@I9b))) (And.intro (@bH) (And.intro (@bJ) (@Tryz.underlying22)))))) (And.intro (And.intro (And.intro (And.intro (@eN) (@dO)) (And.intro (@eO) (And.intro (@eP) (@dH)))) (And.intro (And.intro (@dP) (And.intro (@Tryz.underlying25) (@eB))) (And.intro (@cE) (And.intro (@eC) (@eD))))) (And.intro (And.intro (And.intro (@cC) (@cF)) (And.intro (@Tryz.underlying27) (And.intro (@eE) (@dF)))) (And.intro (And.intro (@cJ) (And.intro (@eF) (@eG))) (And.intro (@cH) (And.intro (@cK) (@Tryz.results22))))))
set_option maxRecDepth 20000
set_option maxHeartbeats 4000000

/-! copies -/
def copyOK (l : List Mv) : Bool := decide (l.length ≤ 300) && l.all fun m => decide (m.b.length ≤ 1000)
def F22 : List EVal → Option EVal
  | [a] => (dI a).bind fun l => if copyOK l = true then some (.lsl (aZ l)) else none
  | _ => none
theorem fn22 : FnT 22 F22 := by
  refine Fn.intro mixed aI Tryz.func22 rfl [] (fun _ h => by cases h) ?_
  intro args v hF
  unfold F22 at hF
  split at hF
  rotate_left
  · cases hF
  intro Q hV
  have hQ := aS.of hV
  rename_i a
  cases ha : dI a with
  | none => rw [ha] at hF; cases hF
  | some l =>
  rw [ha] at hF
  simp only [Option.bind_some] at hF
  split at hF
  rotate_left
  · cases hF
  rename_i hc
  cases hF
  obtain ⟨rfl, hlen, hok⟩ := dMoves_inv ha
  clear ha
  simp only [copyOK, Bool.and_eq_true, decide_eq_true_eq, List.all_eq_true] at hc
  obtain ⟨h300, hb1000⟩ := hc
  refine Top.view (aH.start (n := 26) rfl (by simp)) (aD aI _ _ _ _ ?_)
  (try simp only [aG, SS, aA, Nat.reduceLT])
  refine aU (Top.loop (I := fun s : { k : Nat // k ≤ l.length } => (mkF 26 [(4, .int .i64 (s.1 : Nat)), (3, .gsl 0 (aZ (l.take s.1))), (0, .lsl (aZ l))], mkH 0 [] 1 [(0, some ((l.take s.1).length, 27))])) (μ := fun s => l.length - s.1) ⟨0, by omega⟩ (aH.trans (aH.grow 3 27 (by omega) (by omega) (by simp [look])) (aH.sub (by simp [look, aZ]))) ?_)
  rintro ⟨k, hk⟩
  have htl : (l.take k).length = k := by rw [List.length_take]; omega
  simp only [htl]
  by_cases hlt : k < l.length
  rotate_left
  · refine aD aI _ _ _ _ ?_
    obtain rfl : k = l.length := by omega
    have q1 : decide ((l.length : Int) < (l.length : Int)) = false := by simp
    rw [List.take_length]
    (try simp only [SS, TF22Copy, aA, Nat.reduceLT, Nat.reduceEqDiff, reduceCtorEq, aV, q1])
    (refine hQ _ _ _ (aC (by first | exact .inl rfl | exact .inr rfl) ?_); simp only [SS, TF22Copy, Nat.reduceLT, Nat.reduceEqDiff, reduceCtorEq])
  obtain ⟨m, hx⟩ : ∃ m, l[k]? = some m := ⟨l[k], List.getElem?_eq_getElem hlt⟩
  have hmb := hb1000 m (List.mem_of_getElem? hx)
  have q1 : decide ((k : Int) < (l.length : Int)) = true := by simp; omega
  have q2 : IntKind.i64.wrap ((k : Int) + 1) = ((k + 1 : Nat) : Int) := by rw [aR] <;> omega
  have q3 : 64 * (k + 1) ≤ 1000000 := by omega
  have htk : l.take (k + 1) = l.take k ++ [m] := by rw [List.take_add_one, hx]; rfl
  have fin : ∀ f h, aH none Tryz.prog f h (mkF 26 [(4, .int .i64 ((k + 1 : Nat) : Int)), (3, .gsl 0 (aZ (l.take k ++ [m]))), (0, .lsl (aZ l))]) (mkH 0 [] 1 [(0, some (k + 1, 27))]) → ∃ s' : { k : Nat // k ≤ l.length }, (fun s : { k : Nat // k ≤ l.length } => l.length - s.1) s' < l.length - k ∧ aH none Tryz.prog f h (mkF 26 [(4, .int .i64 (s'.1 : Nat)), (3, .gsl 0 (aZ (l.take s'.1))), (0, .lsl (aZ l))]) (mkH 0 [] 1 [(0, some ((l.take s'.1).length, 27))]) := by
    intro f h v
    refine ⟨⟨k + 1, hlt⟩, by simp; omega, ?_⟩
    have e : (l.take (k + 1)).length = k + 1 := by rw [List.length_take]; omega
    simp only [e]
    rw [htk]
    exact v
  apply Top.cut aI
  · intro R hR
    (try simp only [SS, TF22Copy, aA, Nat.reduceLT, Nat.reduceEqDiff, reduceCtorEq, aV, q1])
    exact hR
  · exact aH.refl
  apply Top.cutT (f1 := mkF 26 [(4, .int .i64 (k : Nat)), (3, .gsl 0 (aZ (l.take k ++ [m]))), (0, .lsl (aZ l))]) (h1 := mkH 0 [] 1 [(0, some (k + 1, 27))])
  · intro R hR
    apply Top.block
    apply Top.cut aI
    · intro R2 hR2
      (try simp only [SS, TF22Copy, setRange, aA, Nat.reduceLT, Nat.reduceEqDiff, Nat.reduceAdd, reduceCtorEq, eMoves_get, eMove_q, hx])
      exact hR2
    · exact aH.refl
    by_cases hb0 : m.b.length = 0
    · have hb : m.b = [] := List.eq_nil_of_length_eq_zero hb0
      have hi : bU m.b = [] := by rw [hb]; rfl
      have zl : dN 1 ([] : List (List EVal)) = true := rfl
      have hL : cP 1 0 ([] : List EVal) = [] := rfl
      apply Top.cut aI
      · intro R2 hR2
        (try simp only [SS, TF22Copy, setRange, bQ, aA, aE, Nat.reduceLT, Nat.reduceEqDiff, Nat.reduceAdd, Nat.reduceMul, Nat.reduceLeDiff, reduceCtorEq, hi, zl])
        exact hR2
      · exact aH.fz (sz := 1) (len := 0) (cells := []) (cells' := []) (e := 3) (lo := 0) (hi := 0) (sl := false) 1 (by omega) (by simp [aB]) (rfl) (rfl)
          (fl2 := [(4, .int .i64 (k : Nat)), (3, .gsl 0 (aZ (l.take k))), (5, .ptr 0 0), (0, .lsl (aZ l))])
          (l2 := [(0, some (.row [.int .i64 m.f, .int .i64 m.t, .bool m.o, .str m.h, .lsl (bU m.b)] 27 0 0 false))]) (k2 := [(0, some (k, 27))])
          (by simp [look, fzR]) (by
            simp only [List.forall_mem_cons]
            refine ⟨⟨by omega, by omega, _, rfl, .inr ⟨_, _, 27, 0, 0, false, by simp [aB]; rfl, rfl, ?_⟩⟩, fun _ h => by cases h⟩
            simp [fzL, fzR, capOK, hL, hi]) (by simp [aB])
      refine Top.unview (aD aI _ _ _ _ ?_)
      (try simp only [SS, TF22Copy, setRange, bQ, aA, aE, Nat.reduceLT, Nat.reduceEqDiff, Nat.reduceAdd, Nat.reduceMul, Nat.reduceLeDiff, reduceCtorEq, q3, aV, htl, lensOK_eMoves, eMoves_snoc])
      exact ⟨_, _, (aH.drop (by simp [look, below]) (by simp [aB, bG]) (by simp [aB])), hR⟩
    · have q4 : (m.b.length ≤ 0) = False := by simp only [eq_iff_iff, iff_false]; omega
      have q5 : 8 * m.b.length ≤ 1000000 := by omega
      have hL : cP 1 m.b.length (eRow m.b) = bU m.b := chunk_eRow _
      apply Top.cut aI
      · intro R2 hR2
        (try simp only [SS, TF22Copy, setRange, bQ, aA, aE, Nat.reduceLT, Nat.reduceEqDiff, Nat.reduceAdd, Nat.reduceLeDiff, reduceCtorEq, lensOK_eInts, aP, eInts_flatten, eRow_length, q4, q5])
        exact hR2
      · exact aH.fz (sz := 1) (len := m.b.length) (cells := eRow m.b) (cells' := eRow m.b) (e := 3) (lo := 0) (hi := 0) (sl := true) 2 (by omega) (by simp [aB]) (keepL_eRow _) (by simp [eRow_length])
          (fl2 := [(4, .int .i64 (k : Nat)), (3, .gsl 0 (aZ (l.take k))), (5, .ptr 0 0), (0, .lsl (aZ l))])
          (l2 := [(0, some (.row [.int .i64 m.f, .int .i64 m.t, .bool m.o, .str m.h, .lsl (bU m.b)] 27 0 0 false))]) (k2 := [(0, some (k, 27))])
          (by simp [look, fzR]) (by
            simp only [List.forall_mem_cons]
            refine ⟨⟨by omega, by omega, _, rfl, .inr ⟨_, _, 27, 0, 0, false, by simp [aB]; rfl, rfl, ?_⟩⟩, fun _ h => by cases h⟩
            simp [fzL, fzR, capOK, hL]) (by simp [aB])
      refine Top.unview (aD aI _ _ _ _ ?_)
      (try simp only [SS, TF22Copy, setRange, bQ, aA, aE, Nat.reduceLT, Nat.reduceEqDiff, Nat.reduceAdd, Nat.reduceMul, Nat.reduceLeDiff, reduceCtorEq, q3, aV, htl, lensOK_eMoves, eMoves_snoc])
      exact ⟨_, _, (aH.drop (by simp [look, below]) (by simp [aB, bG]) (by simp [aB])), hR⟩
  · exact aH.refl
  refine aD aI _ _ _ _ ?_
  (try simp only [SS, aA, Nat.reduceLT, Nat.reduceEqDiff, reduceCtorEq, q2])
  exact fin _ _ (aH.drop (by simp [look, below]) (by simp [aB, bG]) (by simp [aB]))
end Go.Ev
namespace Go.Ev
open Go.RowKit Go.Proofs
set_option linter.defProp false
def TF83Copy2 := And.intro (And.intro (And.intro (And.intro (And.intro (@Tryz.underlying3) (And.intro (@sz3) (@bN))) (And.intro (@I3s) (And.intro (@I3b) (@bL)))) (And.intro (And.intro (@bO) (And.intro (@Tryz.underlying4) (@sz4))) (And.intro (And.intro (@dC) (@I4s)) (And.intro (@I4b) (@cY))))) (And.intro (And.intro (And.intro (@dD) (And.intro (@Tryz.underlying9) (@sz9))) (And.intro (@bI) (And.intro (@I9s) (@I9b)))) (And.intro (And.intro (@bH) (And.intro (@bJ) (@Tryz.underlying22))) (And.intro (And.intro (@eN) (@dO)) (And.intro (@eO) (@eP)))))) (And.intro (And.intro (And.intro (And.intro (@dH) (And.intro (@dP) (@Tryz.underlying24))) (And.intro (@sz24) (And.intro (@fok24) (@info24)))) (And.intro (And.intro (@I24s) (And.intro (@I24b) (@zero24))) (And.intro (And.intro (@grow24) (@Tryz.underlying25)) (And.intro (@eB) (@cE))))) (And.intro (And.intro (And.intro (@eC) (And.intro (@eD) (@cC))) (And.intro (And.intro (@cF) (@Tryz.underlying27)) (And.intro (@eE) (@dF)))) (And.intro (And.intro (@cJ) (And.intro (@eF) (@eG))) (And.intro (And.intro (@cH) (@cK)) (And.intro (@call22) (@Tryz.results83))))))
set_option maxRecDepth 20000
set_option maxHeartbeats 8000000

def F83 : List EVal → Option EVal
  | [.agg [.str p, .str e, .bool late, ms]] => (dI ms).bind fun l => if copyOK l = true then some (.agg [.str p, .str e, .bool late, .lsl (aZ l)]) else none
  | _ => none
theorem e22 {l : List Mv} (hlen : l.length < 9223372036854775808) (hok : ∀ m ∈ l, eI m) (hc : copyOK l = true) : F22 [.lsl (aZ l)] = some (.lsl (aZ l)) := by
  simp only [F22, dMoves_e hlen hok, Option.bind_some]; rw [if_pos hc]
theorem fn83 : FnT 83 F83 := by
  refine Fn.intro mixed aI Tryz.func83 rfl [(22, F22)] (by simp only [List.forall_mem_cons]; exact ⟨fn22, fun _ h => by cases h⟩) ?_
  intro args v hF
  unfold F83 at hF
  split at hF
  rotate_left
  · cases hF
  intro Q hV
  have hQ := aS.of hV
  rename_i p e late ms
  cases ha : dI ms with
  | none => rw [ha] at hF; cases hF
  | some l =>
  rw [ha] at hF
  simp only [Option.bind_some] at hF
  split at hF
  rotate_left
  · cases hF
  rename_i hc
  cases hF
  obtain ⟨rfl, hlen, hok⟩ := dMoves_inv ha
  clear ha
  have h22 := e22 hlen hok hc
  refine Top.view (aH.start (n := 8) rfl (by simp)) (aD aI _ _ _ _ ?_)
  (try simp only [aG, SS, TF83Copy2, aF, setRange, aA, Nat.reduceLT, Nat.reduceEqDiff, Nat.reduceAdd, reduceCtorEq, h22])
  (refine hQ _ _ _ (aC (by first | exact .inl rfl | exact .inr rfl) ?_); simp only [SS, TF83Copy2, Nat.reduceLT, Nat.reduceEqDiff, Nat.reduceAdd, reduceCtorEq])
theorem e83 {p e : List Nat} {late : Bool} {l : List Mv} (hlen : l.length < 9223372036854775808) (hok : ∀ m ∈ l, eI m) (hc : copyOK l = true) : F83 [.agg [.str p, .str e, .bool late, .lsl (aZ l)]] = some (.agg [.str p, .str e, .bool late, .lsl (aZ l)]) := by
  simp only [F83, dMoves_e hlen hok, Option.bind_some]; rw [if_pos hc]
theorem short_copy3 {p e : List Nat} {l : List Mv} (h : shortB p e l = true) : copyOK l = true := by
  simp only [shortB, Bool.and_eq_true, decide_eq_true_eq, List.all_eq_true] at h
  obtain ⟨⟨_, h1⟩, h2⟩ := h
  simp only [copyOK, Bool.and_eq_true, decide_eq_true_eq, List.all_eq_true]
  refine ⟨by omega, fun m hm => ?_⟩
  have := h2 m hm
  simp only [shortMv, Bool.and_eq_true, decide_eq_true_eq] at this
  omega
end Go.Ev
namespace Go.Ev
open Go.RowKit Go.Proofs
set_option linter.defProp false
def TF38PlaysC := And.intro (And.intro (And.intro (And.intro (And.intro (@Tryz.underlying3) (And.intro (@sz3) (@bN))) (And.intro (And.intro (@I3s) (@I3b)) (And.intro (@bL) (@bO)))) (And.intro (And.intro (And.intro (@Tryz.underlying4) (@sz4)) (And.intro (@dC) (@I4s))) (And.intro (And.intro (@I4b) (@cY)) (And.intro (@dD) (@Tryz.underlying9))))) (And.intro (And.intro (And.intro (@sz9) (And.intro (@bI) (@I9s))) (And.intro (And.intro (@I9b) (@bH)) (And.intro (@bJ) (@Tryz.underlying22)))) (And.intro (And.intro (And.intro (@eN) (@dO)) (And.intro (@eO) (@eP))) (And.intro (And.intro (@dH) (@dP)) (And.intro (@Tryz.underlying24) (@sz24)))))) (And.intro (And.intro (And.intro (And.intro (@fok24) (And.intro (@info24) (@I24s))) (And.intro (And.intro (@I24b) (@zero24)) (And.intro (@grow24) (@Tryz.underlying25)))) (And.intro (And.intro (And.intro (@eB) (@cE)) (And.intro (@eC) (@eD))) (And.intro (And.intro (@cC) (@cF)) (And.intro (@Tryz.underlying27) (@eE))))) (And.intro (And.intro (And.intro (@dF) (And.intro (@cJ) (@eF))) (And.intro (And.intro (@eG) (@cH)) (And.intro (@cK) (@Tryz.underlying54)))) (And.intro (And.intro (And.intro (@sz54) (@info54)) (And.intro (@I54s) (@I54b))) (And.intro (And.intro (@zero54) (@grow54)) (And.intro (@call83) (@Tryz.results38))))))
def TF43PlaysC := And.intro (And.intro (And.intro (And.intro (And.intro (@Tryz.underlying3) (And.intro (@sz3) (@bN))) (And.intro (And.intro (@I3s) (@I3b)) (And.intro (@bL) (@bO)))) (And.intro (And.intro (And.intro (@Tryz.underlying4) (@sz4)) (And.intro (@dC) (@I4s))) (And.intro (And.intro (@I4b) (@cY)) (And.intro (@dD) (@Tryz.underlying9))))) (And.intro (And.intro (And.intro (@sz9) (And.intro (@bI) (@I9s))) (And.intro (And.intro (@I9b) (@bH)) (And.intro (@bJ) (@Tryz.underlying22)))) (And.intro (And.intro (And.intro (@eN) (@dO)) (And.intro (@eO) (@eP))) (And.intro (And.intro (@dH) (@dP)) (And.intro (@Tryz.underlying24) (@sz24)))))) (And.intro (And.intro (And.intro (And.intro (@fok24) (And.intro (@info24) (@I24s))) (And.intro (And.intro (@I24b) (@zero24)) (And.intro (@grow24) (@Tryz.underlying25)))) (And.intro (And.intro (And.intro (@eB) (@cE)) (And.intro (@eC) (@eD))) (And.intro (And.intro (@cC) (@cF)) (And.intro (@Tryz.underlying27) (@eE))))) (And.intro (And.intro (And.intro (@dF) (And.intro (@cJ) (@eF))) (And.intro (And.intro (@eG) (@cH)) (And.intro (@cK) (@Tryz.underlying54)))) (And.intro (And.intro (And.intro (@sz54) (@info54)) (And.intro (@I54s) (@I54b))) (And.intro (And.intro (@zero54) (@grow54)) (And.intro (@call34) (@Tryz.results43))))))
set_option maxRecDepth 20000
set_option maxHeartbeats 8000000

/-! lists of plays: copied, compared, short -/
theorem lensOK_ePls (l : List Pl) : dN 4 (cX l) = true := by
  induction l with
  | nil => rfl
  | cons q l ih => simp [dN, cX, ePl]
theorem ePls_snoc (l : List Pl) (q : Pl) : cX l ++ [[.str q.p, .str q.e, .bool q.l, .lsl (aZ q.m)]] = cX (l ++ [q]) := by simp [cX, ePl]
def copyL (l : List Pl) : Bool := decide (l.length ≤ 300) && l.all fun q => copyOK q.m
def F38 : List EVal → Option EVal
  | [v] => (dPls v).bind fun l => if copyL l = true then some (.lsl (cX l)) else none
  | _ => none
theorem fn38 : FnT 38 F38 := by
  refine Fn.intro mixed aI Tryz.func38 rfl [(83, F83)] (by simp only [List.forall_mem_cons]; exact ⟨fn83, fun _ h => by cases h⟩) ?_
  intro args v hF
  unfold F38 at hF
  split at hF
  rotate_left
  · cases hF
  intro Q hV
  have hQ := aS.of hV
  rename_i v
  cases ha : dPls v with
  | none => rw [ha] at hF; cases hF
  | some l =>
  rw [ha] at hF
  simp only [Option.bind_some] at hF
  split at hF
  rotate_left
  · cases hF
  rename_i hc
  cases hF
  obtain ⟨rfl, hlen, hok⟩ := dPls_inv ha
  clear ha
  simp only [copyL, Bool.and_eq_true, decide_eq_true_eq, List.all_eq_true] at hc
  obtain ⟨h300, hcp⟩ := hc
  refine Top.view (aH.start (n := 20) rfl (by simp)) (aD aI _ _ _ _ ?_)
  (try simp only [aG, SS, aA, Nat.reduceLT])
  refine aU (Top.loop (I := fun s : { k : Nat // k ≤ l.length } => (mkF 20 [(4, .int .i64 (s.1 : Nat)), (3, .gsl 0 (cX (l.take s.1))), (0, .lsl (cX l))], mkH 0 [] 1 [(0, some ((l.take s.1).length, 24))])) (μ := fun s => l.length - s.1) ⟨0, by omega⟩ (aH.trans (aH.grow 3 24 (by omega) (by omega) (by simp [look])) (aH.sub (by simp [look, cX]))) ?_)
  rintro ⟨k, hk⟩
  have htl : (l.take k).length = k := by rw [List.length_take]; omega
  simp only [htl]
  refine aD aI _ _ _ _ ?_
  by_cases hlt : k < l.length
  rotate_left
  · obtain rfl : k = l.length := by omega
    have q1 : decide ((l.length : Int) < (l.length : Int)) = false := by simp
    rw [List.take_length]
    (try simp only [SS, TF38PlaysC, aA, Nat.reduceLT, Nat.reduceEqDiff, reduceCtorEq, bE, q1])
    (refine hQ _ _ _ (aC (by first | exact .inl rfl | exact .inr rfl) ?_); simp only [SS, TF38PlaysC, Nat.reduceLT, Nat.reduceEqDiff, reduceCtorEq])
  obtain ⟨q, hx⟩ : ∃ q, l[k]? = some q := ⟨l[k], List.getElem?_eq_getElem hlt⟩
  have hq := hok q (List.mem_of_getElem? hx)
  have h83 := e83 (p := q.p) (e := q.e) (late := q.l) hq.1 hq.2 (hcp q (List.mem_of_getElem? hx))
  have q1 : decide ((k : Int) < (l.length : Int)) = true := by simp; omega
  have q2 : IntKind.i64.wrap ((k : Int) + 1) = ((k + 1 : Nat) : Int) := by rw [aR] <;> omega
  have q3 : 64 * (k + 1) ≤ 1000000 := by omega
  have htk : l.take (k + 1) = l.take k ++ [q] := by rw [List.take_add_one, hx]; rfl
  have htl2 : (l.take (k + 1)).length = k + 1 := by rw [List.length_take]; omega
  (try simp only [SS, TF38PlaysC, aF, setRange, bQ, aA, aE, Nat.reduceLT, Nat.reduceEqDiff, Nat.reduceAdd, Nat.reduceMul, Nat.reduceLeDiff, reduceCtorEq, bE, ePls_get, ePl_q, hx, q1, h83, q2, q3, htl, lensOK_ePls, ePls_snoc])
  refine ⟨⟨k + 1, hlt⟩, by simp; omega, ?_⟩
  simp only [htk]
  exact aH.drop (by simp [look, below]) (by simp [aB]) (by simp [aB] <;> omega)
theorem e38 {l : List Pl} (hlen : l.length < 9223372036854775808) (hok : ∀ q ∈ l, eM q) (hc : copyL l = true) : F38 [.lsl (cX l)] = some (.lsl (cX l)) := by
  simp only [F38, dPls_e hlen hok, Option.bind_some]; rw [if_pos hc]
def samePl (a b : Pl) : Bool := sameP a.p a.e a.l a.m b.p b.e b.l b.m
def samePls : List Pl → List Pl → Bool
  | [], [] => true
  | a :: l, b :: m => samePl a b && samePls l m
  | _, _ => false
theorem samePls_drop {l m : List Pl} {k : Nat} {a b : Pl} (h1 : l[k]? = some a) (h2 : m[k]? = some b) : samePls (l.drop k) (m.drop k) = (samePl a b && samePls (l.drop (k + 1)) (m.drop (k + 1))) := by
  obtain ⟨hk, rfl⟩ := List.getElem?_eq_some_iff.1 h1
  obtain ⟨hk2, rfl⟩ := List.getElem?_eq_some_iff.1 h2
  rw [List.drop_eq_getElem_cons hk, List.drop_eq_getElem_cons hk2]; rfl
theorem samePl_rfl (a : Pl) : samePl a a = true := by simp [samePl, sameP, sameL_iff.2 rfl]
theorem samePls_rfl : ∀ l : List Pl, samePls l l = true
  | [] => rfl
  | a :: l => by rw [samePls, samePl_rfl, samePls_rfl l]; rfl
theorem samePls_len : ∀ {l m : List Pl}, l.length ≠ m.length → samePls l m = false
  | [], [], h => absurd rfl h
  | [], _ :: _, _ => rfl
  | _ :: _, [], _ => rfl
  | a :: l, b :: m, h => by rw [samePls, samePls_len (l := l) (m := m) (by simpa using h), Bool.and_false]
def F43 : List EVal → Option EVal
  | [x, y] => match dPls x, dPls y with
    | some l, some m => some (.bool (samePls l m))
    | _, _ => none
  | _ => none
theorem e34 {a b : Pl} (ha : eM a) (hb : eM b) : F34 [.agg [.str a.p, .str a.e, .bool a.l, .lsl (aZ a.m)], .agg [.str b.p, .str b.e, .bool b.l, .lsl (aZ b.m)]] = some (.bool (samePl a b)) := by
  simp only [F34, dMoves_e ha.1 ha.2, dMoves_e hb.1 hb.2]; rfl
theorem fn43 : FnT 43 F43 := by
  refine Fn.intro mixed aI Tryz.func43 rfl [(34, F34)] (by simp only [List.forall_mem_cons]; exact ⟨fn34, fun _ h => by cases h⟩) ?_
  intro args v hF
  unfold F43 at hF
  split at hF
  rotate_left
  · cases hF
  intro Q hV
  have hQ := aS.of hV
  rename_i x y
  split at hF
  rotate_left
  · cases hF
  rename_i l l2 ha hb
  cases hF
  obtain ⟨rfl, hlen, hok⟩ := dPls_inv ha
  obtain ⟨rfl, hlen2, hok2⟩ := dPls_inv hb
  clear ha hb
  refine Top.view (aH.start (n := 27) rfl (by simp)) (aD aI _ _ _ _ ?_)
  by_cases h4 : l.length = l2.length
  rotate_left
  · have c4 : ((l.length : Int) == (l2.length : Int)) = false := by simp only [beq_eq_false_iff_ne]; omega
    (try simp only [aG, SS, TF43PlaysC, aA, Nat.reduceLT, Nat.reduceEqDiff, reduceCtorEq, bE, c4])
    (refine hQ _ _ _ (aC (by first | exact .inl rfl | exact .inr rfl) ?_); simp only [SS, TF43PlaysC, Nat.reduceLT, Nat.reduceEqDiff, reduceCtorEq])
    rw [samePls_len h4]
  have c4 : ((l.length : Int) == (l2.length : Int)) = true := by rw [h4]; simp
  (try simp only [aG, SS, TF43PlaysC, aA, Nat.reduceLT, Nat.reduceEqDiff, reduceCtorEq, bE, c4])
  refine aU (Top.loop (I := fun s : { k : Nat // k ≤ l.length ∧ samePls l l2 = samePls (l.drop k) (l2.drop k) } => (mkF 27 [(5, .int .i64 (s.1 : Nat)), (0, .lsl (cX l)), (1, .lsl (cX l2))], H.start)) (μ := fun s => l.length - s.1) ⟨0, by simp, rfl⟩ (aH.sub (by simp [look])) ?_)
  rintro ⟨k, hk, hf⟩
  refine aD aI _ _ _ _ ?_
  by_cases hlt : k < l.length
  rotate_left
  · have q1 : decide ((k : Int) < (l.length : Int)) = false := by simp; omega
    (try simp only [SS, TF43PlaysC, aA, Nat.reduceLT, Nat.reduceEqDiff, reduceCtorEq, bE, q1])
    (refine hQ _ _ _ (aC (by first | exact .inl rfl | exact .inr rfl) ?_); simp only [SS, TF43PlaysC, Nat.reduceLT, Nat.reduceEqDiff, reduceCtorEq])
    have e1 : l.drop k = [] := List.drop_eq_nil_of_le (by omega)
    have e2 : l2.drop k = [] := List.drop_eq_nil_of_le (by omega)
    rw [hf, e1, e2]; rfl
  obtain ⟨a, hx⟩ : ∃ a, l[k]? = some a := ⟨l[k], List.getElem?_eq_getElem hlt⟩
  obtain ⟨b, hy⟩ : ∃ b, l2[k]? = some b := ⟨l2[k]'(by omega), List.getElem?_eq_getElem (by omega)⟩
  have hfd := samePls_drop hx hy
  have h34 := e34 (hok a (List.mem_of_getElem? hx)) (hok2 b (List.mem_of_getElem? hy))
  have q1 : decide ((k : Int) < (l.length : Int)) = true := by simp; omega
  have q2 : IntKind.i64.wrap ((k : Int) + 1) = ((k + 1 : Nat) : Int) := by rw [aR] <;> omega
  (try simp only [SS, TF43PlaysC, aA, Nat.reduceLT, Nat.reduceEqDiff, reduceCtorEq, bE, q1])
  refine aX (Top.draw mixed aI (by kernel_rfl) ?_)
  (try simp only [SS, TF43PlaysC, aF, Nat.reduceLT, Nat.reduceEqDiff, Nat.reduceAdd, reduceCtorEq, ePls_get, ePl_q, hx, hy, h34])
  refine ⟨by kernel_rfl, ?_⟩
  cases h5 : samePl a b with
  | false =>
    (try simp only [SS, aA, Nat.reduceLT])
    (refine hQ _ _ _ (aC (by first | exact .inl rfl | exact .inr rfl) ?_); simp only [SS, TF43PlaysC, Nat.reduceLT, Nat.reduceEqDiff, reduceCtorEq])
    rw [hf, hfd, h5]; rfl
  | true =>
    (try simp only [SS, aA, Nat.reduceLT, Nat.reduceEqDiff, reduceCtorEq, q2])
    exact ⟨⟨k + 1, hlt, by rw [hf, hfd, h5]; rfl⟩, by simp; omega, aH.sub (by simp [look])⟩
theorem e43 {l m : List Pl} (h1 : l.length < 9223372036854775808) (h2 : ∀ q ∈ l, eM q) (h3 : m.length < 9223372036854775808) (h4 : ∀ q ∈ m, eM q) : F43 [.lsl (cX l), .lsl (cX m)] = some (.bool (samePls l m)) := by
  simp only [F43, dPls_e h1 h2, dPls_e h3 h4]
end Go.Ev
