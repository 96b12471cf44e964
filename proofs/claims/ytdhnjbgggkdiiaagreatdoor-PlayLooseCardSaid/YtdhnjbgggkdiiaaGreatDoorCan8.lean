import Derived.Test.YtdhnjbgggkdiiaaGreatDoorCan7
import Derived.Test.YtdhnjbgggkdiiaaGreatDoorBackL
set_option linter.unusedSimpArgs false
set_option linter.unusedVariables false
namespace Go.Ev
open Go.RowKit Go.Proofs
set_option linter.defProp false
def TF44Can8 := And.intro (And.intro (And.intro (And.intro (And.intro (And.intro (@Tryz.underlying3) (@sz3)) (And.intro (@bK) (@I3s))) (And.intro (And.intro (@I3b) (@bJ)) (And.intro (@bL) (@Tryz.underlying4)))) (And.intro (And.intro (And.intro (@sz4) (@cT)) (And.intro (@I4s) (@I4b))) (And.intro (And.intro (@cS) (@cU)) (And.intro (@Tryz.underlying9) (And.intro (@sz9) (@bZ)))))) (And.intro (And.intro (And.intro (And.intro (@I9s) (@I9b)) (And.intro (@bX) (@cA))) (And.intro (And.intro (@Tryz.underlying22) (@dX)) (And.intro (@cZ) (And.intro (@dY) (@dZ))))) (And.intro (And.intro (And.intro (@cX) (@dA)) (And.intro (@Tryz.underlying24) (@sz24))) (And.intro (And.intro (@fok24) (@info24)) (And.intro (@I24s) (And.intro (@I24b) (@zero24))))))) (And.intro (And.intro (And.intro (And.intro (And.intro (@grow24) (@Tryz.underlying25)) (And.intro (@dI) (@bQ))) (And.intro (And.intro (@dJ) (@dK)) (And.intro (@bP) (And.intro (@bR) (@Tryz.underlying27))))) (And.intro (And.intro (And.intro (@dN) (@cV)) (And.intro (@cF) (@dO))) (And.intro (And.intro (@dP) (@cC)) (And.intro (@cG) (And.intro (@Tryz.underlying30) (@sz30)))))) (And.intro (And.intro (And.intro (And.intro (@info30) (@I30s)) (And.intro (@I30b) (@zero30))) (And.intro (And.intro (@grow30) (@Tryz.underlying158)) (And.intro (@sz158) (And.intro (@info158) (@I158s))))) (And.intro (And.intro (And.intro (@I158b) (@zero158)) (And.intro (@grow158) (@call18))) (And.intro (And.intro (@call79) (@call111)) (And.intro (@call112) (And.intro (@call113) (@Tryz.results44)))))))
def TF45Can8 := And.intro (And.intro (And.intro (And.intro (And.intro (And.intro (@Tryz.underlying3) (@sz3)) (And.intro (@bK) (@I3s))) (And.intro (And.intro (@I3b) (@bJ)) (And.intro (@bL) (@Tryz.underlying4)))) (And.intro (And.intro (And.intro (@sz4) (@cT)) (And.intro (@I4s) (@I4b))) (And.intro (And.intro (@cS) (@cU)) (And.intro (@Tryz.underlying9) (And.intro (@sz9) (@bZ)))))) (And.intro (And.intro (And.intro (And.intro (@I9s) (@I9b)) (And.intro (@bX) (@cA))) (And.intro (And.intro (@Tryz.underlying22) (@dX)) (And.intro (@cZ) (@dY)))) (And.intro (And.intro (And.intro (@dZ) (@cX)) (And.intro (@dA) (@Tryz.underlying24))) (And.intro (And.intro (@sz24) (@fok24)) (And.intro (@info24) (And.intro (@I24s) (@I24b))))))) (And.intro (And.intro (And.intro (And.intro (And.intro (@zero24) (@grow24)) (And.intro (@Tryz.underlying25) (@dI))) (And.intro (And.intro (@bQ) (@dJ)) (And.intro (@dK) (@bP)))) (And.intro (And.intro (And.intro (@bR) (@Tryz.underlying27)) (And.intro (@dN) (@cV))) (And.intro (And.intro (@cF) (@dO)) (And.intro (@dP) (And.intro (@cC) (@cG)))))) (And.intro (And.intro (And.intro (And.intro (@Tryz.underlying30) (@sz30)) (And.intro (@info30) (@I30s))) (And.intro (And.intro (@I30b) (@zero30)) (And.intro (@grow30) (And.intro (@Tryz.underlying158) (@sz158))))) (And.intro (And.intro (And.intro (@info158) (@I158s)) (And.intro (@I158b) (@zero158))) (And.intro (And.intro (@grow158) (@call44)) (And.intro (@call79) (And.intro (@call98) (@Tryz.results45)))))))
set_option maxRecDepth 20000
set_option maxHeartbeats 8000000

/-! the canonical form of a loose play, and the error -/
def looseE (q : Pl) : Int := cH [sizeE q.p q.m, twiceE q.m]
def tidyP (q : Pl) : Pl := ⟨q.p, q.e, lateT q.l q.m, tidyM q.m⟩
def bU (q : Pl) : Pl × Int := if looseE q ≠ 0 then (pl0, looseE q) else if dV (tidyP q) ≠ 0 then (pl0, dV (tidyP q)) else (tidyP q, 0)
theorem sizeE_zero {p : List Nat} {l : List Mv} (h : sizeE p l = 0) : p.length ≤ 24 ∧ l.length ≤ 4 ∧ ∀ m ∈ l, m.b.length ≤ 36 := by
  unfold sizeE at h
  split at h
  · cases h
  · rename_i hc
    simp only [Bool.or_eq_true, decide_eq_true_eq, not_or, List.any_eq_true, bigM, not_exists, not_and] at hc
    exact ⟨by omega, by omega, fun m hm => by have := hc.2 m hm; omega⟩
theorem looseE_zero {q : Pl} (h : looseE q = 0) : sizeE q.p q.m = 0 ∧ twiceE q.m = 0 := by
  unfold looseE at h
  simp only [cH] at h
  split at h
  · rename_i h1; exact absurd h h1
  · rename_i h1
    split at h
    · rename_i h2; exact absurd h h2
    · rename_i h2; exact ⟨Classical.not_not.1 h1, Classical.not_not.1 h2⟩
theorem looseE_small {q : Pl} (h : looseE q = 0) : smallM q.m = true := by
  obtain ⟨_, h1, h2⟩ := sizeE_zero (looseE_zero h).1
  simp only [smallM, Bool.and_eq_true, decide_eq_true_eq, List.all_eq_true]
  exact ⟨by omega, fun m hm => by have := h2 m hm; omega⟩
theorem tidy_ok {q : Pl} (h : looseE q = 0) : okPl (tidyP q) := by
  obtain ⟨_, h1, h2⟩ := sizeE_zero (looseE_zero h).1
  have hl : (tidyM q.m).length ≤ 4 := by
    unfold tidyM
    rw [List.length_map]
    have := List.length_filter_le keepM (sortM q.m)
    rw [sortM_len] at this
    omega
  refine ⟨by show (tidyM q.m).length < _; omega, fun m hm => ?_⟩
  have hm' : m ∈ ((sortM q.m).filter keepM).map compM := hm
  obtain ⟨x, hx, rfl⟩ := List.mem_map.1 hm'
  have h3 := sortM_mem (q := fun m => m.b.length ≤ 36) h2 x (List.mem_filter.1 hx).1
  have h4 := comp_len x.b
  show (comp x.b).length < _
  have : x.b.length ≤ 36 := h3
  omega
def F44 : List EVal → Option EVal
  | [.agg [.str p, .str e, .bool late, ms]] => if aU p = true ∧ aU e = true then (bH ms).map fun l => .tup [plE (bU ⟨p, e, late, l⟩).1, .int .i64 (bU ⟨p, e, late, l⟩).2] else none
  | _ => none
theorem e44 {q : Pl} (hb : plB q = true) (hq : okPl q) : F44 [.agg [.str q.p, .str q.e, .bool q.l, .lsl (aG q.m)]] = some (.tup [plE (bU q).1, .int .i64 (bU q).2]) := by
  simp only [plB, Bool.and_eq_true] at hb
  simp only [F44, cB hq.1 hq.2, Option.map_some]; rw [if_pos hb]
theorem fn44 : FnT 44 F44 := by
  refine Fn.intro mixed aJ Tryz.func44 rfl [(18, F18), (79, F79), (111, F111), (112, F112), (113, F113)] (by simp only [List.forall_mem_cons]; exact ⟨fn18, fn79, fn111, fn112, fn113, fun _ h => by cases h⟩) ?_
  intro args v hF
  unfold F44 at hF
  split at hF
  rotate_left
  · cases hF
  intro Q hV
  have hQ := aW.of hV
  rename_i p e late ms
  split at hF
  rotate_left
  · cases hF
  rename_i hb
  cases ha : bH ms with
  | none => rw [ha] at hF; cases hF
  | some l =>
  rw [ha] at hF
  cases hF
  obtain ⟨rfl, hlen, hok⟩ := bE ha
  clear ha
  have h111 : F111 [.agg [.str p, .str e, .bool late, .lsl (aG l)]] = some (.int .i64 (sizeE p l)) := by simp only [F111, cB hlen hok, Option.map_some]
  have h112 : F112 [.lsl (aG l)] = some (.int .i64 (twiceE l)) := by simp only [F112, cB hlen hok, Option.map_some]
  have h79 := e79two (a := sizeE p l) (b := twiceE l)
  obtain ⟨q, hq⟩ : ∃ q : Pl, q = ⟨p, e, late, l⟩ := ⟨_, rfl⟩
  rw [show cH [sizeE p l, twiceE l] = looseE q by rw [hq]; rfl] at h79
  have hT : bU ⟨p, e, late, l⟩ = bU q := by rw [hq]
  dsimp only at hQ hV
  rw [hT] at hQ hV
  clear hT
  have ht : looseE q = 0 → F113 [.agg [.str p, .str e, .bool late, .lsl (aG l)]] = some (.agg [.str (tidyP q).p, .str (tidyP q).e, .bool (tidyP q).l, .lsl (aG (tidyP q).m)]) := by
    intro h
    have := e113 (p := p) (e := e) (late := late) hlen hok (by have := looseE_small h; rw [hq] at this; exact this)
    rw [this, hq]; rfl
  have h18 : looseE q = 0 → F18 [.agg [.str (tidyP q).p, .str (tidyP q).e, .bool (tidyP q).l, .lsl (aG (tidyP q).m)]] = some (.int .i64 (dV (tidyP q))) := by
    intro h
    have ho := tidy_ok h
    exact e18 (by rw [hq]; exact hb) ho.1 ho.2
  clear hq
  generalize sizeE p l = x1 at *
  generalize twiceE l = x2 at *
  unfold bU at hQ
  obtain ⟨z, hz⟩ : ∃ z, z = looseE q := ⟨_, rfl⟩
  obtain ⟨c, hc⟩ : ∃ c, c = tidyP q := ⟨_, rfl⟩
  rw [← hz] at hQ ht h18 h79
  rw [← hc] at hQ ht h18
  obtain ⟨y, hy⟩ : ∃ y, y = dV c := ⟨_, rfl⟩
  rw [← hy] at hQ h18
  refine Top.view (aF.start (n := 27) rfl (by simp)) (aD aJ _ _ _ _ ?_)
  (try simp only [aI, SS, TF44Can8, aA, Nat.reduceLT, Nat.reduceAdd])
  refine bA (Top.draw mixed aJ (by kernel_rfl) ?_)
  (try simp only [SS, TF44Can8, aH, setRange, bS, aA, aE, Nat.reduceLT, Nat.reduceEqDiff, Nat.reduceAdd, Nat.reduceLeDiff, reduceCtorEq, h111, h112, h79])
  refine ⟨by kernel_rfl, ?_⟩
  cases z0 : (z == 0) with
  | false =>
    have z1 : z ≠ 0 := by simpa using z0
    rw [if_pos z1] at hQ
    (try simp only [SS, TF44Can8, setRange, aA, aY, Nat.reduceLT, Nat.reduceEqDiff, Nat.reduceAdd, reduceCtorEq])
    (refine hQ _ _ _ (aC (by first | exact .inl rfl | exact .inr rfl) ?_); simp only [SS, TF44Can8, Nat.reduceLT, Nat.reduceEqDiff, Nat.reduceAdd, reduceCtorEq, plE, pl0])
    rfl
  | true =>
  have z1 : z = 0 := by simpa using z0
  rw [if_neg (by simpa using z1)] at hQ
  have ht := ht z1
  have h18 := h18 z1
  cases y0 : (y == 0) with
  | false =>
    have y1 : y ≠ 0 := by simpa using y0
    rw [if_pos y1] at hQ
    (try simp only [SS, TF44Can8, aH, setRange, aA, aY, Nat.reduceLT, Nat.reduceEqDiff, Nat.reduceAdd, reduceCtorEq, ht, h18, y0])
    (refine hQ _ _ _ (aC (by first | exact .inl rfl | exact .inr rfl) ?_); simp only [SS, TF44Can8, Nat.reduceLT, Nat.reduceEqDiff, Nat.reduceAdd, reduceCtorEq, plE, pl0])
    rfl
  | true =>
    have y1 : y = 0 := by simpa using y0
    rw [if_neg (by simpa using y1)] at hQ
    (try simp only [SS, TF44Can8, aH, setRange, aA, Nat.reduceLT, Nat.reduceEqDiff, Nat.reduceAdd, reduceCtorEq, ht, h18, y0])
    (refine hQ _ _ _ (aC (by first | exact .inl rfl | exact .inr rfl) ?_); simp only [SS, TF44Can8, Nat.reduceLT, Nat.reduceEqDiff, Nat.reduceAdd, reduceCtorEq, plE])
theorem canonT_valid {q : Pl} (h : (bU q).2 = 0) : dV (bU q).1 = 0 ∧ okPl (bU q).1 ∧ (bU q).1 = tidyP q := by
  unfold bU at h ⊢
  split at h
  · rename_i h1; exact absurd h h1
  · rename_i h1
    rw [if_neg h1]
    split at h
    · rename_i h2; exact absurd h h2
    · rename_i h2
      rw [if_neg h2]
      exact ⟨Classical.not_not.1 h2, tidy_ok (Classical.not_not.1 h1), rfl⟩
def bothE (a b : Pl) : Int := cH [(bU a).2, (bU b).2]
theorem bothE_zero {a b : Pl} (h : bothE a b = 0) : (bU a).2 = 0 ∧ (bU b).2 = 0 := by
  unfold bothE at h
  simp only [cH] at h
  split at h
  · rename_i h1; exact absurd h h1
  · rename_i h1
    split at h
    · rename_i h2; exact absurd h h2
    · rename_i h2; exact ⟨Classical.not_not.1 h1, Classical.not_not.1 h2⟩
def equalE (a b : Pl) : EVal := .tup [.bool (decide (bothE a b = 0) && samePl (bU a).1 (bU b).1), .int .i64 (bothE a b)]
def F45 : List EVal → Option EVal
  | [.agg [.str p, .str e, .bool late, ms], .agg [.str p2, .str e2, .bool late2, ms2]] => match bH ms, bH ms2 with
    | some l, some l2 => if (aU p = true ∧ aU e = true) ∧ aU p2 = true ∧ aU e2 = true then some (equalE ⟨p, e, late, l⟩ ⟨p2, e2, late2, l2⟩) else none
    | _, _ => none
  | _ => none
theorem e45 {a b : Pl} (h1 : plB a = true) (h2 : okPl a) (h3 : plB b = true) (h4 : okPl b) : F45 [.agg [.str a.p, .str a.e, .bool a.l, .lsl (aG a.m)], .agg [.str b.p, .str b.e, .bool b.l, .lsl (aG b.m)]] = some (equalE a b) := by
  simp only [plB, Bool.and_eq_true] at h1 h3
  simp only [F45, cB h2.1 h2.2, cB h4.1 h4.2]; rw [if_pos ⟨h1, h3⟩]
theorem fn45 : FnT 45 F45 := by
  refine Fn.intro mixed aJ Tryz.func45 rfl [(44, F44), (79, F79), (98, F98)] (by simp only [List.forall_mem_cons]; exact ⟨fn44, fn79, fn98, fun _ h => by cases h⟩) ?_
  intro args v hF
  unfold F45 at hF
  split at hF
  rotate_left
  · cases hF
  intro Q hV
  have hQ := aW.of hV
  rename_i p e late ms p2 e2 late2 ms2
  split at hF
  rotate_left
  · cases hF
  rename_i l l2 ha ha2
  split at hF
  rotate_left
  · cases hF
  rename_i hb
  obtain ⟨hb, hb2⟩ := hb
  cases hF
  obtain ⟨rfl, hlen, hok⟩ := bE ha
  obtain ⟨rfl, hlen2, hok2⟩ := bE ha2
  clear ha ha2
  obtain ⟨q, hq⟩ : ∃ q : Pl, q = ⟨p, e, late, l⟩ := ⟨_, rfl⟩
  obtain ⟨o, ho⟩ : ∃ q : Pl, q = ⟨p2, e2, late2, l2⟩ := ⟨_, rfl⟩
  have okq : okPl q := by rw [hq]; exact ⟨hlen, hok⟩
  have oko : okPl o := by rw [ho]; exact ⟨hlen2, hok2⟩
  have bq : plB q = true := by rw [hq]; simp [plB, hb]
  have bo : plB o = true := by rw [ho]; simp [plB, hb2]
  rw [← hq, ← ho] at hQ hV
  rw [show p = q.p by rw [hq], show e = q.e by rw [hq], show late = q.l by rw [hq], show l = q.m by rw [hq], show p2 = o.p by rw [ho], show e2 = o.e by rw [ho], show late2 = o.l by rw [ho], show l2 = o.m by rw [ho]]
  clear hq ho hb hb2 hok hok2 hlen hlen2
  have h44q := e44 bq okq
  have h44o := e44 bo oko
  have h79 := e79two (a := (bU q).2) (b := (bU o).2)
  rw [show cH [(bU q).2, (bU o).2] = bothE q o from rfl] at h79
  have h98q : bothE q o = 0 → F98 [.agg [.str (bU q).1.p, .str (bU q).1.e, .bool (bU q).1.l, .lsl (aG (bU q).1.m)]] = some (.str (plStr (bU q).1)) := by
    intro h
    obtain ⟨v, ok, ht⟩ := canonT_valid (bothE_zero h).1
    simp only [F98, cB ok.1 ok.2, Option.bind_some]
    rw [if_pos (playE_pr (by rw [ht]; show aU q.p = true ∧ aU q.e = true; simpa [plB] using bq) v)]; rfl
  have h98o : bothE q o = 0 → F98 [.agg [.str (bU o).1.p, .str (bU o).1.e, .bool (bU o).1.l, .lsl (aG (bU o).1.m)]] = some (.str (plStr (bU o).1)) := by
    intro h
    obtain ⟨v, ok, ht⟩ := canonT_valid (bothE_zero h).2
    simp only [F98, cB ok.1 ok.2, Option.bind_some]
    rw [if_pos (playE_pr (by rw [ht]; show aU o.p = true ∧ aU o.e = true; simpa [plB] using bo) v)]; rfl
  have hqd : bothE q o = 0 → decide (plStr (bU q).1 = plStr (bU o).1) = samePl (bU q).1 (bU o).1 := by
    intro h
    rw [Bool.eq_iff_iff, decide_eq_true_eq, samePl_iff]
    exact plStr_inj (canonT_valid (bothE_zero h).1).1 (canonT_valid (bothE_zero h).2).1
  unfold plE at h44q h44o
  unfold equalE at hQ
  obtain ⟨A, hA⟩ : ∃ A, A = (bU q).1 := ⟨_, rfl⟩
  obtain ⟨B, hB⟩ : ∃ B, B = (bU o).1 := ⟨_, rfl⟩
  obtain ⟨x, hx⟩ : ∃ x, x = (bU q).2 := ⟨_, rfl⟩
  obtain ⟨y, hy⟩ : ∃ y, y = (bU o).2 := ⟨_, rfl⟩
  obtain ⟨z, hz⟩ : ∃ z, z = bothE q o := ⟨_, rfl⟩
  rw [← hA, ← hx] at h44q
  rw [← hB, ← hy] at h44o
  rw [← hx, ← hy, ← hz] at h79
  rw [← hz, ← hA] at h98q
  rw [← hz, ← hB] at h98o
  rw [← hz, ← hA, ← hB] at hqd hQ
  clear hA hB hx hy hz
  refine Top.view (aF.start (n := 33) rfl (by simp)) (aD aJ _ _ _ _ ?_)
  cases z0 : (z == 0) with
  | false =>
    have z1 : z ≠ 0 := by simpa using z0
    rw [decide_eq_false z1] at hQ
    (try simp only [aI, SS, TF45Can8, aH, setRange, bS, aA, aE, Nat.reduceLT, Nat.reduceEqDiff, Nat.reduceAdd, Nat.reduceLeDiff, reduceCtorEq, h44q, h44o, h79, z0])
    (refine hQ _ _ _ (aC (by first | exact .inl rfl | exact .inr rfl) ?_); simp only [SS, TF45Can8, Nat.reduceLT, Nat.reduceEqDiff, reduceCtorEq])
  | true =>
    have z1 : z = 0 := by simpa using z0
    rw [decide_eq_true z1, Bool.true_and] at hQ
    have h1 := h98q z1
    have h2 := h98o z1
    have h3 := hqd z1
    rw [z1] at hQ
    rw [z1] at h79
    (try simp only [aI, SS, TF45Can8, aH, setRange, bS, aA, aE, Nat.reduceLT, Nat.reduceEqDiff, Nat.reduceAdd, Nat.reduceLeDiff, reduceCtorEq, h44q, h44o, h79])
    refine bA (Top.draw mixed aJ (by kernel_rfl) ?_)
    (try simp only [SS, TF45Can8, aH, Nat.reduceLT, Nat.reduceEqDiff, Nat.reduceAdd, reduceCtorEq, h1, h2, h3])
    refine ⟨by kernel_rfl, ?_⟩
    (try simp only [aI, SS, TF45Can8, aH, setRange, bS, aA, aO, bN, bG, aY, aE, Nat.reduceLT, Nat.reduceEqDiff, Nat.reduceAdd, Nat.reduceMul, Nat.reduceSub, Nat.reduceLeDiff, Nat.reduceBEq, reduceCtorEq])
    (refine hQ _ _ _ (aC (by first | exact .inl rfl | exact .inr rfl) ?_); simp only [SS, TF45Can8, Nat.reduceLT, Nat.reduceEqDiff, reduceCtorEq])
end Go.Ev
