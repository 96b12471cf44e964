import Derived.Test.YtdhnjbgggkdiiaaGreatDoorCopy
import Derived.Test.YtdhnjbgggkdiiaaGreatDoorLines
set_option linter.unusedSimpArgs false
set_option linter.unusedVariables false
namespace Go.Ev
open Go.RowKit Go.Proofs
set_option linter.defProp false
def TF19Copy2 := And.intro (And.intro (And.intro (And.intro (And.intro (@Tryz.underlying3) (And.intro (@sz3) (@cE))) (And.intro (@I3s) (And.intro (@I3b) (@cA)))) (And.intro (And.intro (@cF) (And.intro (@Tryz.underlying4) (@sz4))) (And.intro (And.intro (@eA) (@I4s)) (And.intro (@I4b) (@dW))))) (And.intro (And.intro (And.intro (@eB) (And.intro (@Tryz.underlying9) (@sz9))) (And.intro (@cB) (And.intro (@I9s) (@I9b)))) (And.intro (And.intro (@bY) (And.intro (@cC) (@Tryz.underlying22))) (And.intro (And.intro (@sz22) (@info22)) (And.intro (@I22s) (@I22b)))))) (And.intro (And.intro (And.intro (And.intro (@zero22) (And.intro (@grow22) (@Tryz.underlying24))) (And.intro (@sz24) (And.intro (@fok24) (@info24)))) (And.intro (And.intro (@I24s) (And.intro (@I24b) (@zero24))) (And.intro (And.intro (@grow24) (@Tryz.underlying25)) (And.intro (@eO) (@dE))))) (And.intro (And.intro (And.intro (@eQ) (And.intro (@eR) (@dC))) (And.intro (And.intro (@dF) (@Tryz.underlying27)) (And.intro (@eS) (@eH)))) (And.intro (And.intro (@dL) (And.intro (@eU) (@eV))) (And.intro (And.intro (@dH) (@dM)) (And.intro (@call83) (@Tryz.results19))))))
def TF83Copy2 := And.intro (And.intro (And.intro (And.intro (And.intro (@Tryz.underlying3) (And.intro (@sz3) (@cE))) (And.intro (@I3s) (And.intro (@I3b) (@cA)))) (And.intro (And.intro (@cF) (And.intro (@Tryz.underlying4) (@sz4))) (And.intro (And.intro (@eA) (@I4s)) (And.intro (@I4b) (@dW))))) (And.intro (And.intro (And.intro (@eB) (And.intro (@Tryz.underlying9) (@sz9))) (And.intro (@cB) (And.intro (@I9s) (@I9b)))) (And.intro (And.intro (@bY) (And.intro (@cC) (@Tryz.underlying22))) (And.intro (And.intro (@sz22) (@info22)) (And.intro (@I22s) (@I22b)))))) (And.intro (And.intro (And.intro (And.intro (@zero22) (And.intro (@grow22) (@Tryz.underlying24))) (And.intro (@sz24) (And.intro (@fok24) (@info24)))) (And.intro (And.intro (@I24s) (And.intro (@I24b) (@zero24))) (And.intro (And.intro (@grow24) (@Tryz.underlying25)) (And.intro (@eO) (@dE))))) (And.intro (And.intro (And.intro (@eQ) (And.intro (@eR) (@dC))) (And.intro (And.intro (@dF) (@Tryz.underlying27)) (And.intro (@eS) (@eH)))) (And.intro (And.intro (@dL) (And.intro (@eU) (@eV))) (And.intro (And.intro (@dH) (@dM)) (And.intro (@call22) (@Tryz.results83))))))
set_option maxRecDepth 20000
set_option maxHeartbeats 8000000

def F83 : List EVal → Option EVal
  | [.agg [.str p, .str e, .bool late, ms]] => (dS ms).bind fun l => if copyOK l = true then some (.agg [.str p, .str e, .bool late, .lsl (bG l)]) else none
  | _ => none
theorem e22 {l : List Mv} (hlen : l.length < 9223372036854775808) (hok : ∀ m ∈ l, eP m) (hc : copyOK l = true) : F22 [.lsl (bG l)] = some (.lsl (bG l)) := by
  simp only [F22, dMoves_e hlen hok, Option.bind_some]; rw [if_pos hc]
theorem fn83 : FnT 83 F83 := by
  refine Fn.intro mixed aV Tryz.func83 rfl [(22, F22)] (by simp only [List.forall_mem_cons]; exact ⟨fn22, fun _ h => by cases h⟩) ?_
  intro args v hF
  unfold F83 at hF
  split at hF
  rotate_left
  · cases hF
  intro Q hV
  have hQ := bM.of hV
  rename_i p e late ms
  cases ha : dS ms with
  | none => rw [ha] at hF; cases hF
  | some l =>
  rw [ha] at hF
  simp only [Option.bind_some] at hF
  split at hF
  rotate_left
  · cases hF
  rename_i hc
  cases hF
  obtain ⟨rfl, hlen, hok⟩ := dMoves_inv ha
  clear ha
  have h22 := e22 hlen hok hc
  refine Top.view (aT.start (n := 8) rfl (by simp)) (aR aV _ _ _ _ ?_)
  ((try simp only [aO, SS, TF83Copy2, aM, setRange, aN, aC, aB, aF, aE, aD, aA, Nat.reduceLT, Nat.reduceEqDiff, Nat.reduceAdd, Nat.reduceMul, Nat.reduceSub, Nat.reduceLeDiff, Nat.reduceBEq, reduceCtorEq, h22]); (repeat' ((first | apply aJ | apply aI | apply aL | apply aK | apply aH | apply aG) <;> intro h <;> simp only [h, SS, TF83Copy2, aM, setRange, aN, aC, aB, aF, aE, aD, aA, Nat.reduceLT, Nat.reduceEqDiff, Nat.reduceAdd, Nat.reduceMul, Nat.reduceSub, Nat.reduceLeDiff, Nat.reduceBEq, reduceCtorEq, h22])))
  (refine hQ _ _ _ (aQ (by first | exact .inl rfl | exact .inr rfl) ?_); simp only [SS, TF83Copy2, aM, setRange, aN, aC, aB, aF, aE, aD, aA, Nat.reduceLT, Nat.reduceEqDiff, Nat.reduceAdd, Nat.reduceMul, Nat.reduceSub, Nat.reduceLeDiff, Nat.reduceBEq, reduceCtorEq])
theorem e83 {p e : List Nat} {late : Bool} {l : List Mv} (hlen : l.length < 9223372036854775808) (hok : ∀ m ∈ l, eP m) (hc : copyOK l = true) : F83 [.agg [.str p, .str e, .bool late, .lsl (bG l)]] = some (.agg [.str p, .str e, .bool late, .lsl (bG l)]) := by
  simp only [F83, dMoves_e hlen hok, Option.bind_some]; rw [if_pos hc]
def F19 : List EVal → Option EVal
  | [.agg [.str p, .str e, .bool late, ms]] => (dS ms).bind fun l => if copyOK l = true then some (.agg [.str p, .str e, .bool late, .lsl (bG l)]) else none
  | _ => none
theorem fn19 : FnT 19 F19 := by
  refine Fn.intro mixed aV Tryz.func19 rfl [(83, F83)] (by simp only [List.forall_mem_cons]; exact ⟨fn83, fun _ h => by cases h⟩) ?_
  intro args v hF
  unfold F19 at hF
  split at hF
  rotate_left
  · cases hF
  intro Q hV
  have hQ := bM.of hV
  rename_i p e late ms
  cases ha : dS ms with
  | none => rw [ha] at hF; cases hF
  | some l =>
  rw [ha] at hF
  simp only [Option.bind_some] at hF
  split at hF
  rotate_left
  · cases hF
  rename_i hc
  cases hF
  obtain ⟨rfl, hlen, hok⟩ := dMoves_inv ha
  clear ha
  have h83 := e83 (p := p) (e := e) (late := late) hlen hok hc
  refine Top.view (aT.start (n := 5) rfl (by simp)) (aR aV _ _ _ _ ?_)
  ((try simp only [aO, SS, TF19Copy2, aM, setRange, aN, aC, aB, aF, aE, aD, aA, Nat.reduceLT, Nat.reduceEqDiff, Nat.reduceAdd, Nat.reduceMul, Nat.reduceSub, Nat.reduceLeDiff, Nat.reduceBEq, reduceCtorEq, h83]); (repeat' ((first | apply aJ | apply aI | apply aL | apply aK | apply aH | apply aG) <;> intro h <;> simp only [h, SS, TF19Copy2, aM, setRange, aN, aC, aB, aF, aE, aD, aA, Nat.reduceLT, Nat.reduceEqDiff, Nat.reduceAdd, Nat.reduceMul, Nat.reduceSub, Nat.reduceLeDiff, Nat.reduceBEq, reduceCtorEq, h83])))
  (refine hQ _ _ _ (aQ (by first | exact .inl rfl | exact .inr rfl) ?_); simp only [SS, TF19Copy2, aM, setRange, aN, aC, aB, aF, aE, aD, aA, Nat.reduceLT, Nat.reduceEqDiff, Nat.reduceAdd, Nat.reduceMul, Nat.reduceSub, Nat.reduceLeDiff, Nat.reduceBEq, reduceCtorEq])
theorem e19 {p e : List Nat} {late : Bool} {l : List Mv} (hlen : l.length < 9223372036854775808) (hok : ∀ m ∈ l, eP m) (hc : copyOK l = true) : F19 [.agg [.str p, .str e, .bool late, .lsl (bG l)]] = some (.agg [.str p, .str e, .bool late, .lsl (bG l)]) := by
  simp only [F19, dMoves_e hlen hok, Option.bind_some]; rw [if_pos hc]

end Go.Ev
namespace Go.Ev
open Go.RowKit Go.Proofs
set_option linter.defProp false
def TF38PlaysC := And.intro (And.intro (And.intro (And.intro (And.intro (@Tryz.underlying3) (And.intro (@sz3) (@cE))) (And.intro (And.intro (@I3s) (@I3b)) (And.intro (@cA) (@cF)))) (And.intro (And.intro (And.intro (@Tryz.underlying4) (@sz4)) (And.intro (@eA) (@I4s))) (And.intro (And.intro (@I4b) (@dW)) (And.intro (@eB) (@Tryz.underlying9))))) (And.intro (And.intro (And.intro (@sz9) (And.intro (@cB) (@I9s))) (And.intro (And.intro (@I9b) (@bY)) (And.intro (@cC) (@Tryz.underlying22)))) (And.intro (And.intro (And.intro (@sz22) (@info22)) (And.intro (@I22s) (@I22b))) (And.intro (And.intro (@zero22) (@grow22)) (And.intro (@Tryz.underlying24) (@sz24)))))) (And.intro (And.intro (And.intro (And.intro (@fok24) (And.intro (@info24) (@I24s))) (And.intro (And.intro (@I24b) (@zero24)) (And.intro (@grow24) (@Tryz.underlying25)))) (And.intro (And.intro (And.intro (@eO) (@dE)) (And.intro (@eQ) (@eR))) (And.intro (And.intro (@dC) (@dF)) (And.intro (@Tryz.underlying27) (@eS))))) (And.intro (And.intro (And.intro (@eH) (And.intro (@dL) (@eU))) (And.intro (And.intro (@eV) (@dH)) (And.intro (@dM) (@Tryz.underlying54)))) (And.intro (And.intro (And.intro (@sz54) (@info54)) (And.intro (@I54s) (@I54b))) (And.intro (And.intro (@zero54) (@grow54)) (And.intro (@call83) (@Tryz.results38))))))
def TF43PlaysC := And.intro (And.intro (And.intro (And.intro (And.intro (@Tryz.underlying3) (And.intro (@sz3) (@cE))) (And.intro (And.intro (@I3s) (@I3b)) (And.intro (@cA) (@cF)))) (And.intro (And.intro (And.intro (@Tryz.underlying4) (@sz4)) (And.intro (@eA) (@I4s))) (And.intro (And.intro (@I4b) (@dW)) (And.intro (@eB) (@Tryz.underlying9))))) (And.intro (And.intro (And.intro (@sz9) (And.intro (@cB) (@I9s))) (And.intro (And.intro (@I9b) (@bY)) (And.intro (@cC) (@Tryz.underlying22)))) (And.intro (And.intro (And.intro (@sz22) (@info22)) (And.intro (@I22s) (@I22b))) (And.intro (And.intro (@zero22) (@grow22)) (And.intro (@Tryz.underlying24) (@sz24)))))) (And.intro (And.intro (And.intro (And.intro (@fok24) (And.intro (@info24) (@I24s))) (And.intro (And.intro (@I24b) (@zero24)) (And.intro (@grow24) (@Tryz.underlying25)))) (And.intro (And.intro (And.intro (@eO) (@dE)) (And.intro (@eQ) (@eR))) (And.intro (And.intro (@dC) (@dF)) (And.intro (@Tryz.underlying27) (@eS))))) (And.intro (And.intro (And.intro (@eH) (And.intro (@dL) (@eU))) (And.intro (And.intro (@eV) (@dH)) (And.intro (@dM) (@Tryz.underlying54)))) (And.intro (And.intro (And.intro (@sz54) (@info54)) (And.intro (@I54s) (@I54b))) (And.intro (And.intro (@zero54) (@grow54)) (And.intro (@call34) (@Tryz.results43))))))
set_option maxRecDepth 20000
set_option maxHeartbeats 8000000

/-! lists of plays: copied, compared, short -/
theorem lensOK_ePls (l : List Pl) : dU 4 (dQ l) = true := by
  induction l with
  | nil => rfl
  | cons q l ih => simp [dU, dQ, ePl]
theorem ePls_snoc (l : List Pl) (q : Pl) : dQ l ++ [[.str q.p, .str q.e, .bool q.l, .lsl (bG q.m)]] = dQ (l ++ [q]) := by simp [dQ, ePl]
def copyL (l : List Pl) : Bool := decide (l.length ≤ 300) && l.all fun q => copyOK q.m
def F38 : List EVal → Option EVal
  | [v] => (dPls v).bind fun l => if copyL l = true then some (.lsl (dQ l)) else none
  | _ => none
theorem fn38 : FnT 38 F38 := by
  refine Fn.intro mixed aV Tryz.func38 rfl [(83, F83)] (by simp only [List.forall_mem_cons]; exact ⟨fn83, fun _ h => by cases h⟩) ?_
  intro args v hF
  unfold F38 at hF
  split at hF
  rotate_left
  · cases hF
  intro Q hV
  have hQ := bM.of hV
  rename_i v
  cases ha : dPls v with
  | none => rw [ha] at hF; cases hF
  | some l =>
  rw [ha] at hF
  simp only [Option.bind_some] at hF
  split at hF
  rotate_left
  · cases hF
  rename_i hc
  cases hF
  obtain ⟨rfl, hlen, hok⟩ := dPls_inv ha
  clear ha
  simp only [copyL, Bool.and_eq_true, decide_eq_true_eq, List.all_eq_true] at hc
  obtain ⟨h300, hcp⟩ := hc
  refine Top.view (aT.start (n := 20) rfl (by simp)) (aR aV _ _ _ _ ?_)
  ((try simp only [aO, SS, TF38PlaysC, aM, setRange, aN, aC, aB, aF, aE, aD, aA, Nat.reduceLT, Nat.reduceEqDiff, Nat.reduceAdd, Nat.reduceMul, Nat.reduceSub, Nat.reduceLeDiff, Nat.reduceBEq, reduceCtorEq]); (repeat' ((first | apply aJ | apply aI | apply aL | apply aK | apply aH | apply aG) <;> intro h <;> simp only [h, SS, TF38PlaysC, aM, setRange, aN, aC, aB, aF, aE, aD, aA, Nat.reduceLT, Nat.reduceEqDiff, Nat.reduceAdd, Nat.reduceMul, Nat.reduceSub, Nat.reduceLeDiff, Nat.reduceBEq, reduceCtorEq])))
  refine bR (Top.loop (I := fun s : { k : Nat // k ≤ l.length } => (mkF 20 [(4, .int .i64 (s.1 : Nat)), (3, .gsl 0 (dQ (l.take s.1))), (0, .lsl (dQ l))], mkH 0 [] 1 [(0, some ((l.take s.1).length, 24))])) (μ := fun s => l.length - s.1) ⟨0, by omega⟩ (aT.trans (aT.grow 3 24 (by omega) (by omega) (by simp [look])) (aT.sub (by simp [look, dQ]))) ?_)
  rintro ⟨k, hk⟩
  have htl : (l.take k).length = k := by rw [List.length_take]; omega
  simp only [htl]
  refine aR aV _ _ _ _ ?_
  by_cases hlt : k < l.length
  rotate_left
  · obtain rfl : k = l.length := by omega
    have q1 : decide ((l.length : Int) < (l.length : Int)) = false := by simp
    rw [List.take_length]
    ((try simp only [aO, SS, TF38PlaysC, aM, setRange, aN, aC, aB, aF, aE, aD, aA, Nat.reduceLT, Nat.reduceEqDiff, Nat.reduceAdd, Nat.reduceMul, Nat.reduceSub, Nat.reduceLeDiff, Nat.reduceBEq, reduceCtorEq, bH, q1]); (repeat' ((first | apply aJ | apply aI | apply aL | apply aK | apply aH | apply aG) <;> intro h <;> simp only [h, SS, TF38PlaysC, aM, setRange, aN, aC, aB, aF, aE, aD, aA, Nat.reduceLT, Nat.reduceEqDiff, Nat.reduceAdd, Nat.reduceMul, Nat.reduceSub, Nat.reduceLeDiff, Nat.reduceBEq, reduceCtorEq, bH, q1])))
    (refine hQ _ _ _ (aQ (by first | exact .inl rfl | exact .inr rfl) ?_); simp only [SS, TF38PlaysC, aM, setRange, aN, aC, aB, aF, aE, aD, aA, Nat.reduceLT, Nat.reduceEqDiff, Nat.reduceAdd, Nat.reduceMul, Nat.reduceSub, Nat.reduceLeDiff, Nat.reduceBEq, reduceCtorEq])
  obtain ⟨q, hx⟩ : ∃ q, l[k]? = some q := ⟨l[k], List.getElem?_eq_getElem hlt⟩
  have hq := hok q (List.mem_of_getElem? hx)
  have h83 := e83 (p := q.p) (e := q.e) (late := q.l) hq.1 hq.2 (hcp q (List.mem_of_getElem? hx))
  have q1 : decide ((k : Int) < (l.length : Int)) = true := by simp; omega
  have q2 : IntKind.i64.wrap ((k : Int) + 1) = ((k + 1 : Nat) : Int) := by rw [bN] <;> omega
  have q3 : 64 * (k + 1) ≤ 1000000 := by omega
  have htk : l.take (k + 1) = l.take k ++ [q] := by rw [List.take_add_one, hx]; rfl
  have htl2 : (l.take (k + 1)).length = k + 1 := by rw [List.length_take]; omega
  ((try simp only [aO, SS, TF38PlaysC, aM, setRange, aN, aC, aB, aF, aE, aD, aA, Nat.reduceLT, Nat.reduceEqDiff, Nat.reduceAdd, Nat.reduceMul, Nat.reduceSub, Nat.reduceLeDiff, Nat.reduceBEq, reduceCtorEq, bH, ePls_get, ePl_q, hx, q1, h83, q2, q3, htl, lensOK_ePls, ePls_snoc]); (repeat' ((first | apply aJ | apply aI | apply aL | apply aK | apply aH | apply aG) <;> intro h <;> simp only [h, SS, TF38PlaysC, aM, setRange, aN, aC, aB, aF, aE, aD, aA, Nat.reduceLT, Nat.reduceEqDiff, Nat.reduceAdd, Nat.reduceMul, Nat.reduceSub, Nat.reduceLeDiff, Nat.reduceBEq, reduceCtorEq, bH, ePls_get, ePl_q, hx, q1, h83, q2, q3, htl, lensOK_ePls, ePls_snoc])))
  refine ⟨⟨k + 1, hlt⟩, by simp; omega, ?_⟩
  simp only [htl2, htk]
  exact aT.drop (by simp [look, below]) (by simp [aP]) (by simp [aP] <;> omega)
theorem e38 {l : List Pl} (hlen : l.length < 9223372036854775808) (hok : ∀ q ∈ l, eZ q) (hc : copyL l = true) : F38 [.lsl (dQ l)] = some (.lsl (dQ l)) := by
  simp only [F38, dPls_e hlen hok, Option.bind_some]; rw [if_pos hc]
def samePl (a b : Pl) : Bool := sameP a.p a.e a.l a.m b.p b.e b.l b.m
def samePls : List Pl → List Pl → Bool
  | [], [] => true
  | a :: l, b :: m => samePl a b && samePls l m
  | _, _ => false
theorem samePls_drop {l m : List Pl} {k : Nat} {a b : Pl} (h1 : l[k]? = some a) (h2 : m[k]? = some b) : samePls (l.drop k) (m.drop k) = (samePl a b && samePls (l.drop (k + 1)) (m.drop (k + 1))) := by
  obtain ⟨hk, rfl⟩ := List.getElem?_eq_some_iff.1 h1
  obtain ⟨hk2, rfl⟩ := List.getElem?_eq_some_iff.1 h2
  rw [List.drop_eq_getElem_cons hk, List.drop_eq_getElem_cons hk2]; rfl
theorem samePl_rfl (a : Pl) : samePl a a = true := by simp [samePl, sameP, sameL_iff.2 rfl]
theorem samePls_rfl : ∀ l : List Pl, samePls l l = true
  | [] => rfl
  | a :: l => by rw [samePls, samePl_rfl, samePls_rfl l]; rfl
theorem samePls_len : ∀ {l m : List Pl}, l.length ≠ m.length → samePls l m = false
  | [], [], h => absurd rfl h
  | [], _ :: _, _ => rfl
  | _ :: _, [], _ => rfl
  | a :: l, b :: m, h => by rw [samePls, samePls_len (l := l) (m := m) (by simpa using h), Bool.and_false]
def F43 : List EVal → Option EVal
  | [x, y] => match dPls x, dPls y with
    | some l, some m => some (.bool (samePls l m))
    | _, _ => none
  | _ => none
theorem e34 {a b : Pl} (ha : eZ a) (hb : eZ b) : F34 [.agg [.str a.p, .str a.e, .bool a.l, .lsl (bG a.m)], .agg [.str b.p, .str b.e, .bool b.l, .lsl (bG b.m)]] = some (.bool (samePl a b)) := by
  simp only [F34, dMoves_e ha.1 ha.2, dMoves_e hb.1 hb.2]; rfl
theorem fn43 : FnT 43 F43 := by
  refine Fn.intro mixed aV Tryz.func43 rfl [(34, F34)] (by simp only [List.forall_mem_cons]; exact ⟨fn34, fun _ h => by cases h⟩) ?_
  intro args v hF
  unfold F43 at hF
  split at hF
  rotate_left
  · cases hF
  intro Q hV
  have hQ := bM.of hV
  rename_i x y
  split at hF
  rotate_left
  · cases hF
  rename_i l l2 ha hb
  cases hF
  obtain ⟨rfl, hlen, hok⟩ := dPls_inv ha
  obtain ⟨rfl, hlen2, hok2⟩ := dPls_inv hb
  clear ha hb
  refine Top.view (aT.start (n := 27) rfl (by simp)) (aR aV _ _ _ _ ?_)
  by_cases h4 : l.length = l2.length
  rotate_left
  · have c4 : ((l.length : Int) == (l2.length : Int)) = false := by simp only [beq_eq_false_iff_ne]; omega
    ((try simp only [aO, SS, TF43PlaysC, aM, setRange, aN, aC, aB, aF, aE, aD, aA, Nat.reduceLT, Nat.reduceEqDiff, Nat.reduceAdd, Nat.reduceMul, Nat.reduceSub, Nat.reduceLeDiff, Nat.reduceBEq, reduceCtorEq, bH, c4]); (repeat' ((first | apply aJ | apply aI | apply aL | apply aK | apply aH | apply aG) <;> intro h <;> simp only [h, SS, TF43PlaysC, aM, setRange, aN, aC, aB, aF, aE, aD, aA, Nat.reduceLT, Nat.reduceEqDiff, Nat.reduceAdd, Nat.reduceMul, Nat.reduceSub, Nat.reduceLeDiff, Nat.reduceBEq, reduceCtorEq, bH, c4])))
    (refine hQ _ _ _ (aQ (by first | exact .inl rfl | exact .inr rfl) ?_); simp only [SS, TF43PlaysC, aM, setRange, aN, aC, aB, aF, aE, aD, aA, Nat.reduceLT, Nat.reduceEqDiff, Nat.reduceAdd, Nat.reduceMul, Nat.reduceSub, Nat.reduceLeDiff, Nat.reduceBEq, reduceCtorEq])
    rw [samePls_len h4]
  have c4 : ((l.length : Int) == (l2.length : Int)) = true := by rw [h4]; simp
  ((try simp only [aO, SS, TF43PlaysC, aM, setRange, aN, aC, aB, aF, aE, aD, aA, Nat.reduceLT, Nat.reduceEqDiff, Nat.reduceAdd, Nat.reduceMul, Nat.reduceSub, Nat.reduceLeDiff, Nat.reduceBEq, reduceCtorEq, bH, c4]); (repeat' ((first | apply aJ | apply aI | apply aL | apply aK | apply aH | apply aG) <;> intro h <;> simp only [h, SS, TF43PlaysC, aM, setRange, aN, aC, aB, aF, aE, aD, aA, Nat.reduceLT, Nat.reduceEqDiff, Nat.reduceAdd, Nat.reduceMul, Nat.reduceSub, Nat.reduceLeDiff, Nat.reduceBEq, reduceCtorEq, bH, c4])))
  refine bR (Top.loop (I := fun s : { k : Nat // k ≤ l.length ∧ samePls l l2 = samePls (l.drop k) (l2.drop k) } => (mkF 27 [(5, .int .i64 (s.1 : Nat)), (0, .lsl (dQ l)), (1, .lsl (dQ l2))], H.start)) (μ := fun s => l.length - s.1) ⟨0, by simp, rfl⟩ (aT.sub (by simp [look])) ?_)
  rintro ⟨k, hk, hf⟩
  refine aR aV _ _ _ _ ?_
  by_cases hlt : k < l.length
  rotate_left
  · have q1 : decide ((k : Int) < (l.length : Int)) = false := by simp; omega
    ((try simp only [aO, SS, TF43PlaysC, aM, setRange, aN, aC, aB, aF, aE, aD, aA, Nat.reduceLT, Nat.reduceEqDiff, Nat.reduceAdd, Nat.reduceMul, Nat.reduceSub, Nat.reduceLeDiff, Nat.reduceBEq, reduceCtorEq, bH, q1]); (repeat' ((first | apply aJ | apply aI | apply aL | apply aK | apply aH | apply aG) <;> intro h <;> simp only [h, SS, TF43PlaysC, aM, setRange, aN, aC, aB, aF, aE, aD, aA, Nat.reduceLT, Nat.reduceEqDiff, Nat.reduceAdd, Nat.reduceMul, Nat.reduceSub, Nat.reduceLeDiff, Nat.reduceBEq, reduceCtorEq, bH, q1])))
    (refine hQ _ _ _ (aQ (by first | exact .inl rfl | exact .inr rfl) ?_); simp only [SS, TF43PlaysC, aM, setRange, aN, aC, aB, aF, aE, aD, aA, Nat.reduceLT, Nat.reduceEqDiff, Nat.reduceAdd, Nat.reduceMul, Nat.reduceSub, Nat.reduceLeDiff, Nat.reduceBEq, reduceCtorEq])
    have e1 : l.drop k = [] := List.drop_eq_nil_of_le (by omega)
    have e2 : l2.drop k = [] := List.drop_eq_nil_of_le (by omega)
    rw [hf, e1, e2]; rfl
  obtain ⟨a, hx⟩ : ∃ a, l[k]? = some a := ⟨l[k], List.getElem?_eq_getElem hlt⟩
  obtain ⟨b, hy⟩ : ∃ b, l2[k]? = some b := ⟨l2[k]'(by omega), List.getElem?_eq_getElem (by omega)⟩
  have hfd := samePls_drop hx hy
  have h34 := e34 (hok a (List.mem_of_getElem? hx)) (hok2 b (List.mem_of_getElem? hy))
  have q1 : decide ((k : Int) < (l.length : Int)) = true := by simp; omega
  have q2 : IntKind.i64.wrap ((k : Int) + 1) = ((k + 1 : Nat) : Int) := by rw [bN] <;> omega
  ((try simp only [aO, SS, TF43PlaysC, aM, setRange, aN, aC, aB, aF, aE, aD, aA, Nat.reduceLT, Nat.reduceEqDiff, Nat.reduceAdd, Nat.reduceMul, Nat.reduceSub, Nat.reduceLeDiff, Nat.reduceBEq, reduceCtorEq, bH, q1]); (repeat' ((first | apply aJ | apply aI | apply aL | apply aK | apply aH | apply aG) <;> intro h <;> simp only [h, SS, TF43PlaysC, aM, setRange, aN, aC, aB, aF, aE, aD, aA, Nat.reduceLT, Nat.reduceEqDiff, Nat.reduceAdd, Nat.reduceMul, Nat.reduceSub, Nat.reduceLeDiff, Nat.reduceBEq, reduceCtorEq, bH, q1])))
  refine bV (Top.draw mixed aV (by kernel_rfl) ?_)
  ((try simp only [aO, SS, TF43PlaysC, aM, setRange, aN, aC, aB, aF, aE, aD, aA, Nat.reduceLT, Nat.reduceEqDiff, Nat.reduceAdd, Nat.reduceMul, Nat.reduceSub, Nat.reduceLeDiff, Nat.reduceBEq, reduceCtorEq, ePls_get, ePl_q, hx, hy, h34]); (repeat' ((first | apply aJ | apply aI | apply aL | apply aK | apply aH | apply aG) <;> intro h <;> simp only [h, SS, TF43PlaysC, aM, setRange, aN, aC, aB, aF, aE, aD, aA, Nat.reduceLT, Nat.reduceEqDiff, Nat.reduceAdd, Nat.reduceMul, Nat.reduceSub, Nat.reduceLeDiff, Nat.reduceBEq, reduceCtorEq, ePls_get, ePl_q, hx, hy, h34])))
  refine ⟨by kernel_rfl, ?_⟩
  cases h5 : samePl a b with
  | false =>
    ((try simp only [aO, SS, TF43PlaysC, aM, setRange, aN, aC, aB, aF, aE, aD, aA, Nat.reduceLT, Nat.reduceEqDiff, Nat.reduceAdd, Nat.reduceMul, Nat.reduceSub, Nat.reduceLeDiff, Nat.reduceBEq, reduceCtorEq, h5]); (repeat' ((first | apply aJ | apply aI | apply aL | apply aK | apply aH | apply aG) <;> intro h <;> simp only [h, SS, TF43PlaysC, aM, setRange, aN, aC, aB, aF, aE, aD, aA, Nat.reduceLT, Nat.reduceEqDiff, Nat.reduceAdd, Nat.reduceMul, Nat.reduceSub, Nat.reduceLeDiff, Nat.reduceBEq, reduceCtorEq, h5])))
    (refine hQ _ _ _ (aQ (by first | exact .inl rfl | exact .inr rfl) ?_); simp only [SS, TF43PlaysC, aM, setRange, aN, aC, aB, aF, aE, aD, aA, Nat.reduceLT, Nat.reduceEqDiff, Nat.reduceAdd, Nat.reduceMul, Nat.reduceSub, Nat.reduceLeDiff, Nat.reduceBEq, reduceCtorEq])
    rw [hf, hfd, h5]; rfl
  | true =>
    ((try simp only [aO, SS, TF43PlaysC, aM, setRange, aN, aC, aB, aF, aE, aD, aA, Nat.reduceLT, Nat.reduceEqDiff, Nat.reduceAdd, Nat.reduceMul, Nat.reduceSub, Nat.reduceLeDiff, Nat.reduceBEq, reduceCtorEq, h5, q2]); (repeat' ((first | apply aJ | apply aI | apply aL | apply aK | apply aH | apply aG) <;> intro h <;> simp only [h, SS, TF43PlaysC, aM, setRange, aN, aC, aB, aF, aE, aD, aA, Nat.reduceLT, Nat.reduceEqDiff, Nat.reduceAdd, Nat.reduceMul, Nat.reduceSub, Nat.reduceLeDiff, Nat.reduceBEq, reduceCtorEq, h5, q2])))
    exact ⟨⟨k + 1, hlt, by rw [hf, hfd, h5]; rfl⟩, by simp; omega, aT.sub (by simp [look])⟩
theorem e43 {l m : List Pl} (h1 : l.length < 9223372036854775808) (h2 : ∀ q ∈ l, eZ q) (h3 : m.length < 9223372036854775808) (h4 : ∀ q ∈ m, eZ q) : F43 [.lsl (dQ l), .lsl (dQ m)] = some (.bool (samePls l m)) := by
  simp only [F43, dPls_e h1 h2, dPls_e h3 h4]
end Go.Ev
