import Derived.Test.YtdhnjbgggkdiiaaGreatDoorFindW
import Derived.Test.YtdhnjbgggkdiiaaGreatDoorRefParse
set_option linter.unusedSimpArgs false
set_option linter.unusedVariables false
namespace Go.Ev
open Go.RowKit Go.Proofs
set_option linter.defProp false
def TF100ReadP := And.intro (And.intro (And.intro (And.intro (And.intro (@Tryz.underlying3) (And.intro (@sz3) (@bN))) (And.intro (@I3s) (And.intro (@I3b) (@bL)))) (And.intro (And.intro (@bO) (And.intro (@Tryz.underlying4) (@sz4))) (And.intro (And.intro (@dC) (@I4s)) (And.intro (@I4b) (@cY))))) (And.intro (And.intro (And.intro (@dD) (And.intro (@Tryz.underlying9) (@sz9))) (And.intro (And.intro (@bI) (@I9s)) (And.intro (@I9b) (@bH)))) (And.intro (And.intro (@bJ) (And.intro (@Tryz.underlying22) (@eN))) (And.intro (And.intro (@dO) (@eO)) (And.intro (@eP) (@dH)))))) (And.intro (And.intro (And.intro (And.intro (@dP) (And.intro (@Tryz.underlying24) (@sz24))) (And.intro (And.intro (@fok24) (@info24)) (And.intro (@I24s) (@I24b)))) (And.intro (And.intro (@zero24) (And.intro (@grow24) (@Tryz.underlying25))) (And.intro (And.intro (@eB) (@cE)) (And.intro (@eC) (@eD))))) (And.intro (And.intro (And.intro (@cC) (And.intro (@cF) (@Tryz.underlying27))) (And.intro (And.intro (@eE) (@dF)) (And.intro (@cJ) (@eF)))) (And.intro (And.intro (@eG) (And.intro (@cH) (@cK))) (And.intro (And.intro (@call137) (@call140)) (And.intro (@call141) (@Tryz.results100))))))
set_option maxRecDepth 20000
set_option maxHeartbeats 8000000

/-! a play, read -/
def zeroP : EObj := .row [.str [], .str [], .bool false, .nilslice] 24 0 0 false
structure RInv (lp o : EObj) (S : List Nat) (G0 : Pl) (i : Nat) (q : Pl) (v : EVal) (N : Nat) (l : List (Nat × Option EObj)) : Prop where
  rd : G0 = cL i q ((aT 32 S).drop i)
  wr : ∃ a, cO i a ((aT 32 S).drop i) = none
  len : q.m.length ≤ i
  ok : ∀ m ∈ q.m, eI m
  hN : N ≤ 12 + i
  hN2 : 12 ≤ N
  ml : ML 12 v q.m N l
  l11 : aB l 11 = some lp
  l10 : aB l 10 = some (.deferred false)
  l9 : aB l 9 = some (.row [.str S] 9 0 0 false)
  l8 : aB l 8 = some (.row [.int .i64 (i : Nat)] 3 0 0 false)
  l7 : aB l 7 = some (.row [.str q.p, .str q.e, .bool q.l, v] 24 0 0 false)
  l6 : aB l 6 = some zeroP
  l0 : aB l 0 = some o
theorem ML_cons {lo : Nat} {v : EVal} {ms : List Mv} {N j : Nat} {l : List (Nat × Option EObj)} {x : Option EObj} (hj : j < lo) (h : ML lo v ms N l) : ML lo v ms N ((j, x) :: l) := by
  rcases h with h | ⟨id, h1, h2, h3, h4⟩
  · exact .inl h
  · exact .inr ⟨id, h1, h2, h3, by rw [aB.eq_2, if_neg (by omega)]; exact h4⟩
theorem rightW_late {i : Nat} (hi : 2 ≤ i) (h : cR i lateB = true) : i = 2 := by
  apply Classical.byContradiction
  intro hn
  unfold cR at h
  rw [if_neg (by omega), if_neg (by omega), if_neg hn] at h
  exact absurd h (by decide)
theorem ct100 {S : List Nat} {o : EObj} {k : EVal → H → Prop} (hby : aM S = true) (hS : S.length ≤ 5000) (hw0 : cO 0 0 (aT 32 S) = none)
    (hk : ∀ N, N ≤ 12000 → 12 ≤ N → (cL 0 pl0 (aT 32 S)).m.length ≤ 5001 → (∀ m ∈ (cL 0 pl0 (aT 32 S)).m, eI m) → k (plE (cL 0 pl0 (aT 32 S))) (mkH N [(0, some o)] 128 [])) :
    bS Tryz.prog gT (dU KW) 100 [.str S] (mkH 6 [(0, some o)] 128 []) k := by
  refine bS.out (bS.intro Tryz.func100 rfl (Top.unview ?_))
  refine Top.view (aH.start (n := 37) rfl (by simp)) (aD aI _ _ _ _ ?_)
  (try simp only [aG, SS, TF100ReadP, setRange, aA, Nat.reduceLT, Nat.reduceEqDiff, Nat.reduceAdd, reduceCtorEq, ↓bA])
  refine ct137 (by omega) ?_
  (try simp only [SS, Nat.reduceLT, Nat.reduceAdd])
  refine wp_of_range (Top.rangeFunc (kf := 164) (caps := [.ptr 9 0]) aI (by simp only [ev_tmp, T.get_ofL, look, Nat.reduceLT, Nat.reduceEqDiff, if_true, if_false]) (by kernel_rfl) ?_)
  simp only [mkH_n, mkH_new, Nat.reduceAdd]
  refine bS.capture fun lp hlp hb hx0 => ?_
  have hsl := split_len (c := 32) S
  obtain ⟨G0, hG0⟩ : ∃ G0, G0 = cL 0 pl0 (aT 32 S) := ⟨_, rfl⟩
  rw [← hG0] at hk
  refine ct164 (S := S) (INV := fun i a N l => ∃ q v, RInv lp o S G0 i q v N l) (STOP := fun N l => False)
    hS (by omega) ?_ ⟨pl0, .nilslice, hG0, ⟨0, hw0⟩, by simp [pl0], by simp [pl0], by omega, by omega, .inl ⟨rfl, rfl⟩, by simp [aB], by simp [aB], by simp [aB], by simp [aB], by simp [aB, pl0], by simp [aB, zeroP], by simp [aB]⟩ ?_ (fun _ _ h => h.elim) ?_
  · rintro i a N l ⟨q, v, hI⟩
    exact hI.l9
  · rintro i a N l w k ⟨q, v, hI⟩ ha hia hwi hkT -
    obtain ⟨hrd, ⟨a', hwr⟩, hlen, hok, hN, hN2, hml, l11, l10, l9, l8, l7, l6, l0⟩ := hI
    have hrt : cR i w = true := by
      rw [wrongAt_drop hwi] at hwr
      apply Classical.byContradiction
      intro h; rw [if_neg h] at hwr; cases hwr
    rw [wrongAt_drop hwi, if_pos hrt] at hwr
    rw [readG_drop hwi] at hrd
    have hmem : w ∈ aT 32 S := List.mem_of_getElem? hwi
    have hwb := split_bytes hby w hmem
    have hi5 : i < 5001 := by
      have := (List.getElem?_eq_some_iff.1 hwi).1; omega
    have hwl : w.length ≤ 5000 := by
      have := lenS_mem hmem
      have := List.length_pos_of_mem hmem
      omega
    have hT : ∀ (fl : List (Nat × EVal)) (N' : Nat) (L : List (Nat × Option EObj)) (q' : Pl) (v' : EVal), dB i q w = q' → q'.m.length ≤ i + 1 → (∀ m ∈ q'.m, eI m) → N' ≤ N + 1 → N ≤ N' → ML 12 v' q'.m N' L →
        aB L 11 = some (cN .busy none lp) → aB L 10 = some (.deferred false) → aB L 9 = some (.row [.str S] 9 0 0 false) → aB L 8 = some (.row [.int .i64 ((i + 1 : Nat) : Int)] 3 0 0 false) → aB L 7 = some (.row [.str q'.p, .str q'.e, .bool q'.l, v'] 24 0 0 false) → aB L 6 = some zeroP → aB L 0 = some o →
        aS (some N) Tryz.prog (roundEnd 11 k) .normal (mkD 37 fl [] (some 11)) (mkH N' L 128 []) := by
      intro fl N' L q' v' hs a1 a2 a3 a4 a5 b11 b10 b9 b8 b7 b6 b0
      rw [hs] at hrd
      refine ⟨_, _, aH.subD (l2 := []) (by simp), roundEnd_of (by rw [cB (by omega), b11]; rw [hb]) ?_⟩
      simp only [mkH_put, ← hlp]
      refine hkT _ _ ⟨q', v', hrd, ⟨_, hwr⟩, a1, a2, by omega, by omega, ML_cons (by omega) a5, ?_, ?_, ?_, ?_, ?_, ?_, ?_⟩ <;> simp [aB, *]
    refine RoundT.intro (by rw [cB (by omega), l11, hlp]) (setParams_two (by omega) (by omega)) ?_
    simp only [mkD_eq, mkH_n]
    refine aD aI _ _ _ _ ?_
    (try simp only [SS, aA, Nat.reduceLT, Nat.reduceEqDiff, reduceCtorEq])
    refine roundMid_of (by rw [cB (by omega), l11, hlp]) ?_
    simp only [mkH_put, ← hb]
    refine Top.unview (aD aI _ _ _ _ ?_)
    have w1 : IntKind.i64.wrap ((i : Int) + 1) = ((i + 1 : Nat) : Int) := by rw [aR] <;> omega
    have h140 : F140 [.str w] = some (.str (undash w)) := rfl
    have hb11 : aB ((11, some (cN .busy none lp)) :: l) 11 = some (cN .busy none lp) := by simp [aB]
    obtain ⟨o1, o2, o3⟩ := ML_one hml
    by_cases h0 : i = 0
    · have q0 : ((i : Int) == 0) = true := by simp [h0]
      (try simp only [SS, TF100ReadP, aF, setRange, aA, Nat.reduceLT, Nat.reduceEqDiff, Nat.reduceAdd, Nat.reduceLeDiff, reduceCtorEq, q0, h140, l8, l7, w1])
      refine hT _ N _ ⟨undash w, q.e, q.l, q.m⟩ v (by simp [dB, h0]) (by show q.m.length ≤ _; omega) hok (by omega) (by omega) (ML_cons (by omega) (ML_cons (by omega) (ML_cons (by omega) hml))) ?_ ?_ ?_ ?_ ?_ ?_ ?_ <;> simp [aB, *]
    have q0 : ((i : Int) == 0) = false := by simp; omega
    by_cases h1 : i = 1
    · have q1 : ((i : Int) == 1) = true := by simp [h1]
      (try simp only [SS, TF100ReadP, aF, setRange, aA, Nat.reduceLT, Nat.reduceEqDiff, Nat.reduceAdd, Nat.reduceLeDiff, reduceCtorEq, q0, q1, h140, l8, l7, w1])
      refine hT _ N _ ⟨q.p, undash w, q.l, q.m⟩ v (by simp [dB, h1]) (by show q.m.length ≤ _; omega) hok (by omega) (by omega) (ML_cons (by omega) (ML_cons (by omega) (ML_cons (by omega) hml))) ?_ ?_ ?_ ?_ ?_ ?_ ?_ <;> simp [aB, *]
    have q1 : ((i : Int) == 1) = false := by simp; omega
    have v1 : UInt8.toNat 108 = 108 := rfl
    have v2 : UInt8.toNat 97 = 97 := rfl
    have v3 : UInt8.toNat 116 = 116 := rfl
    have v4 : UInt8.toNat 101 = 101 := rfl
    cases hd : decide (w = [108, 97, 116, 101]) with
    | true =>
      have hwl : w = lateB := of_decide_eq_true hd
      have h2 : i = 2 := rightW_late (by omega) (hwl ▸ hrt)
      (try simp only [SS, TF100ReadP, setRange, aA, Nat.reduceLT, Nat.reduceEqDiff, Nat.reduceAdd, Nat.reduceLeDiff, reduceCtorEq, q0, q1, v1, v2, v3, v4, hd, l8, l7, w1])
      refine hT _ N _ ⟨q.p, q.e, true, q.m⟩ v (by simp [dB, h2, hwl]) (by show q.m.length ≤ _; omega) hok (by omega) (by omega) (ML_cons (by omega) (ML_cons (by omega) (ML_cons (by omega) hml))) ?_ ?_ ?_ ?_ ?_ ?_ ?_ <;> simp [aB, *]
    | false =>
      have hne : w ≠ lateB := of_decide_eq_false hd
      have hmv : mvW w = true := by
        unfold cR at hrt
        rw [if_neg h0, if_neg h1] at hrt
        split at hrt
        · simpa [hne] using hrt
        · exact hrt
      have hs : dB i q w = ⟨q.p, q.e, q.l, q.m ++ [eL w]⟩ := by unfold dB; rw [if_neg h0, if_neg h1, if_neg (by rintro ⟨_, h⟩; exact hne h)]
      have hmo : eI (eL w) := mvOk_of (by omega)
      have h141 : F141 [.str w] = some (.agg [.int .i64 (eL w).f, .int .i64 (eL w).t, .bool (eL w).o, .str (eL w).h, .lsl (bU (eL w).b)]) := e141 hwb hwl hmv
      generalize eL w = M at hs hmo h141
      obtain ⟨v2', l2, hap, M2, S2⟩ := eAppend_ML (x := M) (m := 128) (kk := []) (ML_cons (j := 11) (x := some (cN .busy none lp)) (by omega) hml) (by omega) (by omega) (by omega)
      have c : ∀ j, j < 11 → aB l2 j = aB l j := fun j hj => by rw [S2 j (by omega), aB.eq_2, if_neg (by omega)]
      have c11 : aB l2 11 = some (cN .busy none lp) := by rw [S2 11 (by omega), hb11]
      have c10 := (c 10 (by omega)).trans l10
      have c9 := (c 9 (by omega)).trans l9
      have c8 := (c 8 (by omega)).trans l8
      have c7 := (c 7 (by omega)).trans l7
      have c6 := (c 6 (by omega)).trans l6
      have c0 := (c 0 (by omega)).trans l0
      obtain ⟨p1, p2, p3⟩ := ML_one M2
      (try simp only [SS, TF100ReadP, aA, Nat.reduceLT, Nat.reduceEqDiff, reduceCtorEq, q0, q1, v1, v2, v3, v4, hd, l8])
      refine aX (Top.draw mixed aI (by kernel_rfl) ?_)
      (try simp only [SS, TF100ReadP, aF, setRange, bQ, aA, aE, Nat.reduceLT, Nat.reduceEqDiff, Nat.reduceAdd, Nat.reduceMul, Nat.reduceLeDiff, reduceCtorEq, ↓hap, h141, l7, c7, p1, p3])
      refine ⟨by kernel_rfl, ?_⟩
      (try simp only [SS, TF100ReadP, setRange, aA, Nat.reduceLT, Nat.reduceEqDiff, reduceCtorEq, c8, w1])
      refine hT _ (N + 1) _ ⟨q.p, q.e, q.l, q.m ++ [M]⟩ v2' hs (by show (q.m ++ [M]).length ≤ _; simp; omega) (by
          intro m hm
          rcases List.mem_append.1 hm with h | h
          · exact hok m h
          · rw [List.mem_singleton.1 h]; exact hmo) (by omega) (by omega) (ML_cons (by omega) (ML_cons (by omega) M2)) ?_ ?_ ?_ ?_ ?_ ?_ ?_ <;> simp [aB, *]
  · rintro a N l ⟨q, v, hI⟩
    obtain ⟨hrd, -, hlen, hok, hN, hN2, hml, l11, l10, l9, l8, l7, l6, l0⟩ := hI
    rw [List.drop_length] at hrd
    have hGq : G0 = q := hrd
    subst hGq
    obtain ⟨o1, o2, o3⟩ := ML_one hml
    refine rangeEnd_of (by rw [cB (by omega), l11, hlp]) ?_
    simp only [mkH_put, mkD_eq, ← hx0]
    unfold zeroP at l6
    (try simp only [SS, TF100ReadP, setRange, aA, Nat.reduceLT, Nat.reduceEqDiff, Nat.reduceAdd, reduceCtorEq, l7, l6, o3])
    have e10 : aB ((6, some (.row [.str G0.p, .str G0.e, .bool G0.l, v] 24 0 0 false)) :: (11, some (cN .exhausted none lp)) :: l) 10 = some (.deferred false) := by rw [aB.eq_2, if_neg (by omega), aB.eq_2, if_neg (by omega)]; exact l10
    have e0 : aB ((6, some (.row [.str G0.p, .str G0.e, .bool G0.l, v] 24 0 0 false)) :: (11, some (cN .exhausted none lp)) :: l) 0 = some o := by rw [aB.eq_2, if_neg (by omega), aB.eq_2, if_neg (by omega)]; exact l0
    have e6 : aB ((6, some (.row [.str G0.p, .str G0.e, .bool G0.l, v] 24 0 0 false)) :: (11, some (cN .exhausted none lp)) :: l) 6 = some (.row [.str G0.p, .str G0.e, .bool G0.l, v] 24 0 0 false) := by rw [aB.eq_2, if_pos rfl]
    have hsl5 : (aT 32 S).length ≤ 5001 := by omega
    have hk2 := hk N (by omega) (by omega) (by omega) hok
    have hend : ∀ fl : List (Nat × EVal), look fl 2 = some (.ptr 6 0) → Ends2 Tryz.prog gT Tryz.f100 (fun v h' => ∃ h2, HV Tryz.prog h' h2 ∧ k v h2) .ret (mkD 37 [(2, .ptr 6 0)] [10] none) (mkH N [(6, some (.row [.str G0.p, .str G0.e, .bool G0.l, .lsl (aZ G0.m)] 24 0 0 false)), (10, some (.deferred false)), (0, some o)] 128 []) := by
      intro fl _
      refine bX (es := [plE G0]) (.inl rfl) (by simp only [mkD_defers, takeAll, cB, aB, Nat.reduceLT, Nat.reduceEqDiff, if_true, if_false, mkH_put]; rfl) (by simp only [SS, TF100ReadP, Nat.reduceLT, Nat.reduceEqDiff, Nat.reduceAdd, reduceCtorEq]; rfl) ?_
      refine ⟨_, HV.of ?_, hk2⟩
      simp [aB]
    rcases hml with ⟨rfl, hn⟩ | ⟨id, h1, h2, rfl, h4⟩
    · have hv : aZ G0.m = [] := by rw [hn]; rfl
      rw [hv] at hend
      refine ⟨_, _, aH.told (ds := [10]) (r := none) (fl2 := [(2, .ptr 6 0)]) (l2 := [(6, some (.row [.str G0.p, .str G0.e, .bool G0.l, .lsl []] 24 0 0 false)), (10, some (.deferred false)), (0, some o)]) (by simp [look, toldR]) ?_, hend [(2, .ptr 6 0)] rfl⟩
      intro p hp
      rcases List.mem_cons.1 hp with rfl | hp
      · exact ⟨by simp, _, rfl, .inr ⟨_, _, _, _, _, _, e6, rfl, .inl rfl, .inl rfl, .inl rfl, .inr ⟨rfl, rfl⟩, trivial⟩⟩
      rcases List.mem_cons.1 hp with rfl | hp
      · exact ⟨by simp, _, rfl, .inl e10⟩
      rw [List.mem_singleton] at hp
      subst hp
      exact ⟨by simp, _, rfl, .inl e0⟩
    · have hid0 : id < 16000 := by omega
      refine ⟨_, _, aH.fzD (ds := [10]) (r := none) (sz := 5) (len := G0.m.length) (fl2 := [(2, .ptr 6 0)]) (l2 := [(6, some (.row [.str G0.p, .str G0.e, .bool G0.l, .lsl (aZ G0.m)] 24 0 0 false)), (10, some (.deferred false)), (0, some o)]) (k2 := []) id hid0 (by rw [aB.eq_2, if_neg (by omega), aB.eq_2, if_neg (by omega)]; exact h4) (keepL_cellM _) (cellM_length _) ?_ ?_ (by simp), hend [(2, .ptr 6 0)] rfl⟩
      · simp [look, fzR]
      · rw [chunk_cellM]
        intro p hp
        rcases List.mem_cons.1 hp with rfl | hp
        · exact ⟨by simp, by show 6 ≠ id; omega, _, rfl, .inr ⟨_, _, _, _, _, _, e6, rfl, .inl rfl, .inl rfl, .inl rfl, .inr ⟨.slack 0, rfl, rfl, rfl⟩, trivial⟩⟩
        rcases List.mem_cons.1 hp with rfl | hp
        · exact ⟨by simp, by show 10 ≠ id; omega, _, rfl, .inl e10⟩
        rw [List.mem_singleton] at hp
        subst hp
        exact ⟨by simp, by show 0 ≠ id; omega, _, rfl, .inl e0⟩
end Go.Ev
