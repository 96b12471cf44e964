import Derived.Test.YtdhnjbgggkdiiaaGreatDoorLoose3
import Derived.Test.YtdhnjbgggkdiiaaGreatDoorPaV
import Derived.Test.YtdhnjbgggkdiiaaGreatDoorCanB
import Derived.Test.YtdhnjbgggkdiiaaGreatDoorAwake
set_option linter.unusedSimpArgs false
set_option linter.unusedVariables false
namespace Go.Ev
open Go.RowKit Go.Proofs
set_option linter.defProp false
def TF120Loose4 := And.intro (And.intro (And.intro (And.intro (And.intro (@Tryz.underlying3) (@sz3)) (And.intro (@bK) (And.intro (@I3s) (@I3b)))) (And.intro (And.intro (@bJ) (And.intro (@bL) (@Tryz.underlying4))) (And.intro (@sz4) (And.intro (@cT) (@I4s))))) (And.intro (And.intro (And.intro (@I4b) (@cS)) (And.intro (@cU) (And.intro (@Tryz.underlying9) (@sz9)))) (And.intro (And.intro (@bZ) (And.intro (@I9s) (@I9b))) (And.intro (@bX) (And.intro (@cA) (@Tryz.underlying22)))))) (And.intro (And.intro (And.intro (And.intro (@dX) (@cZ)) (And.intro (@dY) (And.intro (@dZ) (@cX)))) (And.intro (And.intro (@dA) (And.intro (@Tryz.underlying25) (@dI))) (And.intro (@bQ) (And.intro (@dJ) (@dK))))) (And.intro (And.intro (And.intro (@bP) (@bR)) (And.intro (@Tryz.underlying27) (And.intro (@dN) (@cV)))) (And.intro (And.intro (@cF) (And.intro (@dO) (@dP))) (And.intro (@cC) (And.intro (@cG) (@Tryz.results120))))))
set_option maxRecDepth 20000
set_option maxHeartbeats 4000000

/-! a runner who stays -/
theorem mvIx_neg {c : Int} {l : List Mv} : decide (mvIx c l < 0) = !(l.any fun m => m.f == c) := by
  unfold mvIx
  cases h : l.findIdx? (fun m => m.f == c) with
  | none =>
    rw [List.findIdx?_eq_none_iff] at h
    have : (l.any fun m => m.f == c) = false := List.any_eq_false.2 fun x hx => by rw [h x hx]; simp
    rw [this]; rfl
  | some k =>
    have : (l.any fun m => m.f == c) = true := by
      cases ha : (l.any fun m => m.f == c) with
      | true => rfl
      | false =>
        rw [List.any_eq_false] at ha
        have h2 : l.findIdx? (fun m => m.f == c) = none := List.findIdx?_eq_none_iff.2 fun x hx => by have := ha x hx; simpa using this
        rw [h2] at h; cases h
    rw [this]
    simp
theorem stL_hit {l : List Mv} {c : Nat} (h1 : 1 ≤ c) (h3 : c ≤ 3) (hn : (l.any fun m => m.f == (c : Int)) = false) (hb : ∀ d : Nat, 1 ≤ d → d < c → (l.any fun m => m.f == (d : Int)) = true) : stL l = [⟨c, c, false, [116], []⟩] := by
  unfold stL
  rcases (show c = 1 ∨ c = 2 ∨ c = 3 by omega) with rfl | rfl | rfl
  · have e1 : (l.any fun m => m.f == (1 : Int)) = false := hn
    rw [List.find?_cons, e1]; rfl
  · have e1 : (l.any fun m => m.f == (1 : Int)) = true := hb 1 (by omega) (by omega)
    have e2 : (l.any fun m => m.f == (2 : Int)) = false := hn
    rw [List.find?_cons, e1, List.find?_cons, e2]; rfl
  · have e1 : (l.any fun m => m.f == (1 : Int)) = true := hb 1 (by omega) (by omega)
    have e2 : (l.any fun m => m.f == (2 : Int)) = true := hb 2 (by omega) (by omega)
    have e3 : (l.any fun m => m.f == (3 : Int)) = false := hn
    rw [List.find?_cons, e1, List.find?_cons, e2, List.find?_cons, e3]; rfl
theorem stL_none {l : List Mv} (hb : ∀ d : Nat, 1 ≤ d → d < 4 → (l.any fun m => m.f == (d : Int)) = true) : stL l = [] := by
  unfold stL
  have e1 : (l.any fun m => m.f == (1 : Int)) = true := hb 1 (by omega) (by omega)
  have e2 : (l.any fun m => m.f == (2 : Int)) = true := hb 2 (by omega) (by omega)
  have e3 : (l.any fun m => m.f == (3 : Int)) = true := hb 3 (by omega) (by omega)
  rw [List.find?_cons, e1, List.find?_cons, e2, List.find?_cons, e3]; rfl
theorem toldL_app : ∀ (l : List EVal) {a b : List EVal}, toldL a b → toldL (l ++ a) (l ++ b)
  | [], _, _, h => h
  | _ :: l, _, _, h => ⟨.inl rfl, toldL_app l h⟩
theorem told_stay (ms : List Mv) (c : Int) : toldL (aV ms ++ [.int .i64 c, .int .i64 c, .bool false, .str [116], .nilslice]) (aV (ms ++ [⟨c, c, false, [116], []⟩])) := by
  have : aV (ms ++ [⟨c, c, false, [116], []⟩]) = aV ms ++ [.int .i64 c, .int .i64 c, .bool false, .str [116], .lsl []] := by simp [aV, dE, aS]
  rw [this]
  exact toldL_app _ ⟨.inl rfl, .inl rfl, .inl rfl, .inl rfl, .inr ⟨rfl, rfl⟩, trivial⟩
theorem eAppend_MN {lo : Nat} {v : EVal} {ms : List Mv} {c : Int} {N m : Nat} {l : List (Nat × Option EObj)} {kk : List (Nat × Option (Nat × TypeId))} (h : ML lo v ms N l) (hlo : lo ≤ N) (hN : N + 1 < 16000) (hlen : ms.length ≤ 10000) :
    ∃ id l2, eAppend Tryz.prog (mkH (N + 1) ((N, some (.row [.int .i64 c, .int .i64 c, .bool false, .str [116], .nilslice] 27 0 0 false)) :: l) m kk) 22 v (.slice N 0 1 (.exact 1)) = some (.slice id 0 (ms.length + 1) (.slack 0), mkH (N + 1 + 1) l2 m kk) ∧ lo ≤ id ∧ id < N + 1 + 1 ∧ aB l2 id = some (.row (aV ms ++ [.int .i64 c, .int .i64 c, .bool false, .str [116], .nilslice]) 27 0 0 true) ∧ ∀ i, i < lo → aB l2 i = aB l i := by
  have hn0 : N < 16000 := by omega
  rcases h with ⟨rfl, rfl⟩ | ⟨id, hlo2, hid, rfl, hl⟩
  · have g1 : decide (64 * 1 ≤ 1000000) = true := by decide
    refine ⟨N + 1, (N + 1, some (.row [.int .i64 c, .int .i64 c, .bool false, .str [116], .nilslice] 27 0 0 true)) :: (N, some (.row [.int .i64 c, .int .i64 c, .bool false, .str [116], .nilslice] 27 0 0 false)) :: l, ?_, by omega, by omega, by rw [aB.eq_2, if_pos rfl]; rfl, ?_⟩
    · simp only [SS, TF120Loose4, Nat.reduceAdd, Nat.reduceMul, Nat.reduceLeDiff, reduceCtorEq, hn0]
    · intro i hi
      rw [aB.eq_2, if_neg (by omega), aB.eq_2, if_neg (by omega)]
  · have hid0 : id < 16000 := by omega
    have hne : (N = id) = False := by simp only [eq_iff_iff, iff_false]; omega
    have g1 : decide (64 * (ms.length + 1) ≤ 1000000) = true := by simp; omega
    have g3 : ((ms.length + 1) * 5 ≤ ms.length * 5) = False := by simp only [eq_iff_iff, iff_false]; omega
    refine ⟨N + 1, (N + 1, some (.row (aV ms ++ [.int .i64 c, .int .i64 c, .bool false, .str [116], .nilslice]) 27 0 0 true)) :: (id, none) :: (N, some (.row [.int .i64 c, .int .i64 c, .bool false, .str [116], .nilslice] 27 0 0 false)) :: l, ?_, by omega, by omega, by rw [aB.eq_2, if_pos rfl], ?_⟩
    · simp only [SS, TF120Loose4, setRange, Nat.reduceAdd, Nat.reduceMul, reduceCtorEq, hid0, hn0, hne, hl, g1, g3, cellM_length, cellM_take]
    · intro i hi
      rw [aB.eq_2, if_neg (by omega), aB.eq_2, if_neg (by omega), aB.eq_2, if_neg (by omega)]
theorem run_pos {l : List Mv} (h : l.any isR = true) : 0 < dU runM l := by
  refine any_pos (p := isR) (fun m => ?_) (fun m hm => ?_) h
  · unfold runM; split <;> omega
  · simp only [isR, Bool.and_eq_true, Bool.not_eq_true', beq_iff_eq] at hm
    unfold runM; rw [if_pos hm]; omega
theorem out_pos {l : List Mv} (h : l.any isO = true) : 0 < dU outM l := by
  refine any_pos (p := isO) (fun m => ?_) (fun m hm => ?_) h
  · unfold outM; split <;> omega
  · unfold outM; rw [if_pos (show m.o = true from hm)]; omega
end Go.Ev
namespace Go.Ev
open Go.RowKit Go.Proofs
set_option linter.defProp false
set_option maxRecDepth 20000
set_option maxHeartbeats 8000000

/-! short plays; the reference's reading of a text -/
end Go.Ev
namespace Go.Ev
open Go.RowKit Go.Proofs
set_option linter.defProp false
set_option maxRecDepth 20000
set_option maxHeartbeats 8000000

end Go.Ev
namespace Go.Ev
open Go.RowKit Go.Proofs
set_option linter.defProp false
def aQ := And.intro (And.intro (And.intro (And.intro (And.intro (And.intro (@Tryz.underlying3) (@sz3)) (And.intro (@bK) (@I3s))) (And.intro (And.intro (@I3b) (@bJ)) (And.intro (@bL) (And.intro (@Tryz.underlying4) (@sz4))))) (And.intro (And.intro (And.intro (@cT) (@I4s)) (And.intro (@I4b) (@cS))) (And.intro (And.intro (@cU) (@Tryz.underlying9)) (And.intro (@sz9) (And.intro (@bZ) (@I9s)))))) (And.intro (And.intro (And.intro (And.intro (@I9b) (@bX)) (And.intro (@cA) (@Tryz.underlying22))) (And.intro (And.intro (@dX) (@cZ)) (And.intro (@dY) (And.intro (@dZ) (@cX))))) (And.intro (And.intro (And.intro (@dA) (@Tryz.underlying24)) (And.intro (@sz24) (@fok24))) (And.intro (And.intro (@info24) (@I24s)) (And.intro (@I24b) (And.intro (@zero24) (@grow24))))))) (And.intro (And.intro (And.intro (And.intro (And.intro (@Tryz.underlying25) (@dI)) (And.intro (@bQ) (@dJ))) (And.intro (And.intro (@dK) (@bP)) (And.intro (@bR) (And.intro (@Tryz.underlying27) (@dN))))) (And.intro (And.intro (And.intro (@cV) (@cF)) (And.intro (@dO) (@dP))) (And.intro (And.intro (@cC) (@cG)) (And.intro (@Tryz.underlying30) (And.intro (@sz30) (@info30)))))) (And.intro (And.intro (And.intro (And.intro (@I30s) (@I30b)) (And.intro (@zero30) (@grow30))) (And.intro (And.intro (@call16) (@call19)) (And.intro (@call20) (And.intro (@call25) (@call26))))) (And.intro (And.intro (And.intro (@call30) (@call34)) (And.intro (@call44) (And.intro (@call45) (@call50)))) (And.intro (And.intro (@call51) (@call53)) (And.intro (@call54) (And.intro (@call64) (@Tryz.results12)))))))
set_option maxRecDepth 20000
set_option maxHeartbeats 8000000

def F12 : List EVal → Option EVal
  | [.agg [.str p, .str e, .bool _, ms], .agg [.str p2, .str e2, .bool _, ms2], .int .i64 _] => match bH ms, bH ms2 with
    | some _, some _ => if (aU p = true ∧ aU e = true) ∧ aU p2 = true ∧ aU e2 = true then some (.bool true) else none
    | _, _ => none
  | _ => none
theorem ML_of {lo : Nat} {v : EVal} {ms : List Mv} {N N2 : Nat} {l l2 : List (Nat × Option EObj)} (h : ML lo v ms N l) (hN : N ≤ N2) (hl : ∀ i, i < N → aB l2 i = aB l i) : ML lo v ms N2 l2 := by
  rcases h with h | ⟨id, h1, h2, h3, h4⟩
  · exact .inl h
  · exact .inr ⟨id, h1, by omega, h3, by rw [hl id h2]; exact h4⟩
theorem eInts_snoc2 (l : List Int) (x : Int) : aS l ++ [[.int .i64 x], [.int .i64 x]] = aS (l ++ [x, x]) := by simp [aS]
theorem looseX_take {l : List Mv} {D : List Int} {k j : Nat} {m : Mv} (h : D[k]? = some ((j : Nat) : Int)) (hm : l[j]? = some m) : looseX l (D.take (k + 1)) = looseX l (D.take k) ++ [dblM m] := by
  obtain ⟨hj, rfl⟩ := List.getElem?_eq_some_iff.1 hm
  rw [List.take_add_one, h]
  simp [looseX, mAt, hj]
theorem fn12 : FnT 12 F12 := by
  refine Fn.intro mixed aJ Tryz.func12 rfl [(16, F16), (19, F19), (20, F20), (25, F25), (26, F26), (30, F30), (34, F34), (44, F44), (45, F45), (50, F50), (51, F51), (53, F53), (54, F54), (64, F64)] (by simp only [List.forall_mem_cons]; exact ⟨fn16, fn19, fn20, fn25, fn26, fn30, fn34, fn44, fn45, fn50, fn51, fn53, fn54, fn64, fun _ h => by cases h⟩) ?_
  intro args v hF
  unfold F12 at hF
  split at hF
  rotate_left
  · cases hF
  intro Q hV
  have hQ := aW.of hV
  rename_i p e late ms p2 e2 late2 ms2 key
  split at hF
  rotate_left
  · cases hF
  rename_i l l2 ha ha2
  split at hF
  rotate_left
  · cases hF
  rename_i hb
  obtain ⟨hb, hb2⟩ := hb
  cases hF
  obtain ⟨rfl, hlen, hok⟩ := bE ha
  obtain ⟨rfl, hlen2, hok2⟩ := bE ha2
  clear ha ha2
  obtain ⟨q, hq⟩ : ∃ q : Pl, q = ⟨p, e, late, l⟩ := ⟨_, rfl⟩
  obtain ⟨o, ho⟩ : ∃ q : Pl, q = ⟨p2, e2, late2, l2⟩ := ⟨_, rfl⟩
  have okq : okPl q := by rw [hq]; exact ⟨hlen, hok⟩
  have oko : okPl o := by rw [ho]; exact ⟨hlen2, hok2⟩
  have bq : plB q = true := by rw [hq]; simp [plB, hb]
  have bo : plB o = true := by rw [ho]; simp [plB, hb2]
  rw [show p = q.p by rw [hq], show e = q.e by rw [hq], show late = q.l by rw [hq], show l = q.m by rw [hq], show p2 = o.p by rw [ho], show e2 = o.e by rw [ho], show late2 = o.l by rw [ho], show l2 = o.m by rw [ho]]
  clear hq ho hb hb2 hok hok2 hlen hlen2
  have h16 := e16
  have h20 : ∀ x : Pl, okPl x → F20 [.agg [.str x.p, .str x.e, .bool x.l, .lsl (aG x.m)]] = some (.int .i64 (dV x)) := fun x hx => by simp only [F20, cB hx.1 hx.2, Option.map_some]; rfl
  have h20q := h20 q okq
  have h20o := h20 o oko
  have h25 := e25 (a := key) (b := (q.m.length : Int))
  obtain ⟨z1, hz1⟩ : ∃ z, dV q = z := ⟨_, rfl⟩
  obtain ⟨z2, hz2⟩ : ∃ z, dV o = z := ⟨_, rfl⟩
  obtain ⟨z3, hz3⟩ : ∃ z, cH [rangeE key 1 2147483398, rangeE (q.m.length : Int) 0 256] = z := ⟨_, rfl⟩
  rw [hz1] at h20q
  rw [hz2] at h20o
  rw [hz3] at h25
  refine Top.view (aF.start (n := 289) rfl (by simp)) ?_
  refine Top.join (σ := Unit) aJ (fun _ => mkF 289 [(2, .int .i64 key), (3, .ptr 0 0), (4, .ptr 1 0)]) (fun _ => mkH 2 [(1, some (.row [.str o.p, .str o.e, .bool o.l, .lsl (aG o.m)] 24 0 0 false)), (0, some (.row [.str q.p, .str q.e, .bool q.l, .lsl (aG q.m)] 24 0 0 false))] 0 []) ?_ ?_
  · intro R hR
    (try simp only [aI, SS, aA, Nat.reduceLT, Nat.reduceEqDiff, Nat.reduceAdd, reduceCtorEq])
    exact hR () _ _ (aF.drop (by simp [look, below]) (by simp [aB, aR, below, aX]) (by simp [aB]))
  intro _
  refine Top.joinR (σ := { _u : Unit // z1 = 0 ∧ z2 = 0 ∧ z3 = 0 }) aJ (fun _ => mkF 289 [(2, .int .i64 key), (3, .ptr 0 0), (4, .ptr 1 0)]) (fun _ => mkH 2 [(1, some (.row [.str o.p, .str o.e, .bool o.l, .lsl (aG o.m)] 24 0 0 false)), (0, some (.row [.str q.p, .str q.e, .bool q.l, .lsl (aG q.m)] 24 0 0 false))] 0 []) ?_ ?_
  · intro R hR hRr
    cases y1 : (z1 == 0) with
    | false =>
      (try simp only [SS, aQ, aH, aA, Nat.reduceLT, Nat.reduceEqDiff, Nat.reduceAdd, reduceCtorEq, h16, h20q, y1])
      refine hRr _ _ (hQ _ _ _ (aC (.inl rfl) ?_))
      simp only [SS, aQ, Nat.reduceLT, Nat.reduceEqDiff]
    | true =>
    cases y2 : (z2 == 0) with
    | false =>
      (try simp only [SS, aQ, aH, aA, Nat.reduceLT, Nat.reduceEqDiff, Nat.reduceAdd, reduceCtorEq, h16, h20q, y1, h20o, y2])
      refine hRr _ _ (hQ _ _ _ (aC (.inl rfl) ?_))
      simp only [SS, aQ, Nat.reduceLT, Nat.reduceEqDiff]
    | true =>
    cases y3 : (z3 == 0) with
    | false =>
      (try simp only [SS, aQ, aH, aA, Nat.reduceLT, Nat.reduceEqDiff, Nat.reduceAdd, reduceCtorEq, h16, h20q, y1, h20o, y2, aL, h25, y3])
      refine hRr _ _ (hQ _ _ _ (aC (.inl rfl) ?_))
      simp only [SS, aQ, Nat.reduceLT, Nat.reduceEqDiff]
    | true =>
      (try simp only [SS, aQ, aH, aA, Nat.reduceLT, Nat.reduceEqDiff, Nat.reduceAdd, reduceCtorEq, h16, h20q, y1, h20o, y2, aL, h25, y3])
      exact hR ⟨(), by simpa using y1, by simpa using y2, by simpa using y3⟩ _ _ (aF.drop (by simp [look, below]) (by simp [aB, aR, below, aX]) (by simp [aB]))
  rintro ⟨_, y1, y2, y3⟩
  have vq : dV q = 0 := hz1.trans y1
  have vo : dV o = 0 := hz2.trans y2
  have hkey : 1 ≤ key ∧ key ≤ 2147483398 := by
    by_cases h : 1 ≤ key ∧ key ≤ 2147483398
    · exact h
    · rw [y3] at hz3; unfold cH at hz3; rw [rangeE_out h] at hz3; simp at hz3
  clear h20q h20o h25 hz1 hz2 hz3 y1 y2 y3 h16
  have hm4 := (movesE_zero (playE_zero vq).2.2).1
  have hmv := (movesE_zero (playE_zero vq).2.2).2
  have h19q := e19 (p := q.p) (e := q.e) (late := q.l) okq.1 okq.2 (valid_copy vq)
  have h19o := e19 (p := o.p) (e := o.e) (late := o.l) oko.1 oko.2 (valid_copy vo)
  have h44q := e44 bq okq
  rw [canT_valid vq] at h44q
  -- the canonical form
  obtain ⟨C, hC⟩ : ∃ C, C = canQ q := ⟨_, rfl⟩
  have Cp : C.p = q.p := by rw [hC]; rfl
  have Ce : C.e = q.e := by rw [hC]; rfl
  have Cm : C.m = q.m := by rw [hC]; rfl
  have Cl : C.l = (q.l && (q.m.any isR && q.m.any isO)) := by rw [hC]; rfl
  have vC : dV C = 0 := by rw [hC]; exact vq
  have okC : okPl C := by rw [hC]; exact okq
  have bC : plB C = true := by rw [hC]; exact bq
  have CC : canQ C = C := by
    rw [hC]; unfold canQ; dsimp only
    cases q.l <;> cases q.m.any isR <;> cases q.m.any isO <;> rfl
  have h19C := e19 (p := C.p) (e := C.e) (late := C.l) okC.1 okC.2 (valid_copy vC)
  have h44C := e44 bC okC
  rw [canT_valid vC, CC] at h44C
  have h20C := h20 C okC
  rw [vC] at h20C
  have h34C := e34 okC okC
  rw [samePl_rfl] at h34C
  have h34D := e34 (a := ⟨C.p, C.e, false, C.m⟩) (b := ⟨q.p, q.e, false, q.m⟩) okC okq
  rw [show samePl ⟨C.p, C.e, false, C.m⟩ ⟨q.p, q.e, false, q.m⟩ = true by rw [Cp, Ce, Cm]; exact samePl_rfl _] at h34D
  rw [← hC] at h44q
  unfold plE at h44q h44C
  dsimp only at h44q h44C h34D
  refine Top.join (σ := Unit) aJ (fun _ => mkF 289 [(2, .int .i64 key), (3, .ptr 0 0), (4, .ptr 1 0), (7, .ptr 2 0), (8, .int .i64 0)]) (fun _ => mkH 3 [(2, some (.row [.str C.p, .str C.e, .bool C.l, .lsl (aG C.m)] 24 0 0 false)), (1, some (.row [.str o.p, .str o.e, .bool o.l, .lsl (aG o.m)] 24 0 0 false)), (0, some (.row [.str q.p, .str q.e, .bool q.l, .lsl (aG q.m)] 24 0 0 false))] 0 []) ?_ ?_
  · intro R hR
    (try simp only [SS, aQ, aH, setRange, aA, Nat.reduceLT, Nat.reduceEqDiff, Nat.reduceAdd, reduceCtorEq, h19q, h44q])
    exact hR () _ _ (aF.drop (by simp [look, below]) (by simp [aB, aR, below, aX]) (by simp [aB]))
  intro _
  refine Top.join (σ := Unit) aJ (fun _ => mkF 289 [(2, .int .i64 key), (3, .ptr 0 0), (4, .ptr 1 0), (7, .ptr 2 0), (8, .int .i64 0), (9, .ptr 3 0), (10, .int .i64 0)]) (fun _ => mkH 4 [(3, some (.row [.str C.p, .str C.e, .bool C.l, .lsl (aG C.m)] 24 0 0 false)), (2, some (.row [.str C.p, .str C.e, .bool C.l, .lsl (aG C.m)] 24 0 0 false)), (1, some (.row [.str o.p, .str o.e, .bool o.l, .lsl (aG o.m)] 24 0 0 false)), (0, some (.row [.str q.p, .str q.e, .bool q.l, .lsl (aG q.m)] 24 0 0 false))] 0 []) ?_ ?_
  · intro R hR
    (try simp only [SS, aQ, aH, setRange, aA, Nat.reduceLT, Nat.reduceEqDiff, Nat.reduceAdd, reduceCtorEq, h19C, h44C])
    exact hR () _ _ (aF.drop (by simp [look, below]) (by simp [aB, aR, below, aX]) (by simp [aB]))
  intro _
  have z0 : ((0 : Int) == 0) = true := by decide
  refine Top.join (σ := Unit) aJ (fun _ => mkF 289 [(2, .int .i64 key), (3, .ptr 0 0), (4, .ptr 1 0), (7, .ptr 2 0)]) (fun _ => mkH 3 [(2, some (.row [.str C.p, .str C.e, .bool C.l, .lsl (aG C.m)] 24 0 0 false)), (1, some (.row [.str o.p, .str o.e, .bool o.l, .lsl (aG o.m)] 24 0 0 false)), (0, some (.row [.str q.p, .str q.e, .bool q.l, .lsl (aG q.m)] 24 0 0 false))] 0 []) ?_ ?_
  · intro R hR
    (try simp only [SS, aQ, aH, setRange, aA, aY, Nat.reduceLT, Nat.reduceEqDiff, Nat.reduceAdd, reduceCtorEq, h34C, h20C, h34D])
    exact hR () _ _ (aF.drop (by simp [look, below]) (by simp [aB, aR, below, aX]) (by simp [aB]))
  intro _
  refine Top.join (σ := Unit) aJ (fun _ => mkF 289 [(2, .int .i64 key), (3, .ptr 0 0), (4, .ptr 1 0), (7, .ptr 2 0), (11, .ptr 3 0)]) (fun _ => mkH 4 [(3, some (.row [.str q.p, .str q.e, .bool q.l, .nilslice] 24 0 0 false)), (2, some (.row [.str C.p, .str C.e, .bool C.l, .lsl (aG C.m)] 24 0 0 false)), (1, some (.row [.str o.p, .str o.e, .bool o.l, .lsl (aG o.m)] 24 0 0 false)), (0, some (.row [.str q.p, .str q.e, .bool q.l, .lsl (aG q.m)] 24 0 0 false))] 0 []) ?_ ?_
  · intro R hR
    (try simp only [SS, aQ, setRange, aA, aY, Nat.reduceLT, Nat.reduceEqDiff, Nat.reduceAdd, reduceCtorEq])
    exact hR () _ _ (aF.drop (by simp [look, below]) (by simp [aB, aR, below, aX]) (by simp [aB]))
  intro _
  clear h19q h44q h19C h44C h20C h34C h34D
  -- the moves in the drawn order, each touch twice
  have h26 : F26 [.int .i64 key, .int .i64 (q.m.length : Int)] = some (.lsl (aS (drawn key q.m.length))) := by
    simp only [F26]; rw [if_pos (by omega)]; simp
  obtain ⟨D, hD⟩ : ∃ D, D = drawn key q.m.length := ⟨_, rfl⟩
  have hDl : D.length = q.m.length := by rw [hD, drawn_length]
  have hDm : ∀ x ∈ D, ∃ j : Nat, j < q.m.length ∧ x = (j : Int) := fun x hx => drawn_mem (hD ▸ hx)
  rw [← hD] at h26
  obtain ⟨rq, hrq⟩ : ∃ x : EObj, x = .row [.str q.p, .str q.e, .bool q.l, .lsl (aG q.m)] 24 0 0 false := ⟨_, rfl⟩
  obtain ⟨ro, hro⟩ : ∃ x : EObj, x = .row [.str o.p, .str o.e, .bool o.l, .lsl (aG o.m)] 24 0 0 false := ⟨_, rfl⟩
  obtain ⟨rC, hrC⟩ : ∃ x : EObj, x = .row [.str C.p, .str C.e, .bool C.l, .lsl (aG C.m)] 24 0 0 false := ⟨_, rfl⟩
  rw [← hrq, ← hro, ← hrC]
  refine Top.join (σ := { x : EVal × Nat × List (Nat × Option EObj) × Nat × List (Nat × Option (Nat × TypeId)) // ML 4 x.1 (looseX q.m D) x.2.1 x.2.2.1 ∧ 4 ≤ x.2.1 ∧ x.2.1 ≤ 200 ∧ aB x.2.2.1 0 = some rq ∧ aB x.2.2.1 1 = some ro ∧ aB x.2.2.1 2 = some rC ∧ aB x.2.2.1 3 = some (.row [.str q.p, .str q.e, .bool q.l, x.1] 24 0 0 false) ∧ x.2.2.2.1 ≤ 10 }) aJ (fun _ => mkF 289 [(3, .ptr 0 0), (4, .ptr 1 0), (7, .ptr 2 0), (11, .ptr 3 0)]) (fun x => mkH x.1.2.1 x.1.2.2.1 x.1.2.2.2.1 x.1.2.2.2.2) ?_ ?_
  · intro R hR
    rw [hrq]
    (try simp only [SS, aQ, aH, aA, Nat.reduceLT, Nat.reduceEqDiff, reduceCtorEq, h26, aL, aM])
    refine aT (Top.loop (I := fun s : { x : Nat × EVal × Nat × List (Nat × Option EObj) × Nat × List (Nat × Option (Nat × TypeId)) // x.1 ≤ D.length ∧ ML 4 x.2.1 (looseX q.m (D.take x.1)) x.2.2.1 x.2.2.2.1 ∧ 4 ≤ x.2.2.1 ∧ x.2.2.1 ≤ 4 + 30 * x.1 ∧ aB x.2.2.2.1 0 = some rq ∧ aB x.2.2.2.1 1 = some ro ∧ aB x.2.2.2.1 2 = some rC ∧ aB x.2.2.2.1 3 = some (.row [.str q.p, .str q.e, .bool q.l, x.2.1] 24 0 0 false) ∧ x.2.2.2.2.1 ≤ x.1 } => (mkF 289 [(116, .int .i64 (s.1.1 : Nat)), (115, .int .i64 (D.length : Int)), (114, .lsl (aS D)), (3, .ptr 0 0), (4, .ptr 1 0), (7, .ptr 2 0), (11, .ptr 3 0)], mkH s.1.2.2.1 s.1.2.2.2.1 s.1.2.2.2.2.1 s.1.2.2.2.2.2)) (μ := fun s => D.length - s.1.1) ⟨(0, .nilslice, 4, _, 0, []), by simp, .inl ⟨rfl, rfl⟩, by simp, by simp, by simp [aB, hrq], by simp [aB], by simp [aB], by simp [aB], by simp⟩ (aF.sub (by simp [look])) ?_)
    rintro ⟨⟨k, v, N, L, m, kk⟩, hk, M1, hN1, hN2, L0, L1, L2, L3, hm⟩
    dsimp only at hk M1 hN1 hN2 L0 L1 L2 L3 hm
    refine aD aJ _ _ _ _ ?_
    dsimp only
    by_cases hlt : k < D.length
    rotate_left
    · have q1 : decide ((k : Int) < (D.length : Int)) = false := by simp; omega
      rw [List.take_of_length_le (by omega)] at M1
      (try simp only [SS, aA, Nat.reduceLT, Nat.reduceEqDiff, q1])
      exact hR ⟨(v, N, L, m, kk), M1, hN1, by show N ≤ 200; omega, L0, L1, L2, L3, by show m ≤ 10; omega⟩ _ _ (aF.sub (by simp [look]))
    obtain ⟨j, hj, hxD⟩ : ∃ j : Nat, j < q.m.length ∧ D[k]? = some (j : Int) := by
      obtain ⟨j, hj, e⟩ := hDm D[k] (List.getElem_mem hlt)
      exact ⟨j, hj, by rw [List.getElem?_eq_getElem hlt, e]⟩
    obtain ⟨⟨mf, mt, mo, mh, mb⟩, hxM⟩ : ∃ m, q.m[j]? = some m := ⟨q.m[j], List.getElem?_eq_getElem hj⟩
    have hmb : mb.length ≤ 9 := by
      have := mvE_short (hmv _ (List.mem_of_getElem? hxM))
      exact this
    have hX := looseX_take hxD hxM
    have q1 : decide ((k : Int) < (D.length : Int)) = true := by simp; omega
    have w1 : IntKind.i64.wrap ((k : Int) + 1) = ((k + 1 : Nat) : Int) := by rw [aP] <;> omega
    have qm : decide (127 ≤ m) = false := by simp; omega
    have qm2 : decide (128 ≤ m) = false := by simp; omega
    have hN0 : N < 16000 := by omega
    have n1 : (N = 0) = False := by simp only [eq_iff_iff, iff_false]; omega
    have n2 : (N = 3) = False := by simp only [eq_iff_iff, iff_false]; omega
    have L0' := L0
    rw [hrq] at L0'
    have jl : ((j : Int) < (q.m.length : Int)) = True := by simp only [eq_iff_iff, iff_true]; omega
    (try simp only [SS, aQ, setRange, aA, Nat.reduceLT, Nat.reduceEqDiff, Nat.reduceAdd, reduceCtorEq, q1, bM, hxD, aZ, bT, hxM, hN0, L0', aM])
    obtain ⟨L5, hL5⟩ : ∃ L5, L5 = (N, some (.row [.int .i64 mf, .int .i64 mt, .bool mo, .str mh, .lsl (aS mb)] 27 0 0 false)) :: (N, some (.row [.int .i64 0, .int .i64 0, .bool false, .str [], .nilslice] 27 0 0 false)) :: L := ⟨_, rfl⟩
    rw [← hL5]
    refine aT (Top.loop (I := fun s : { y : Nat × Nat × List (Nat × Option EObj) × List (Nat × Option (Nat × TypeId)) × List Int // y.1 ≤ mb.length ∧ N + 1 ≤ y.2.1 ∧ y.2.1 ≤ N + 1 + y.1 ∧ (∀ i, i < N + 1 → aB y.2.2.1 i = aB L5 i) ∧ y.2.2.2.2 = dblI (mb.take y.1) ∧ aB y.2.2.2.1 m = some (y.2.2.2.2.length, 3) } => (mkF 289 [(128, .int .i64 (s.1.1 : Nat)), (127, .int .i64 (mb.length : Int)), (126, .lsl (aS mb)), (15, .gsl m (aS s.1.2.2.2.2)), (14, .ptr N 0), (116, .int .i64 (k : Nat)), (115, .int .i64 (D.length : Int)), (114, .lsl (aS D)), (3, .ptr 0 0), (4, .ptr 1 0), (7, .ptr 2 0), (11, .ptr 3 0)], mkH s.1.2.1 s.1.2.2.1 (m + 1) s.1.2.2.2.1)) (μ := fun s => mb.length - s.1.1) ⟨(0, N + 1, L5, (m, some (0, 3)) :: kk, []), by simp, by simp, by simp, fun _ _ => rfl, rfl, by rw [aB.eq_2, if_pos rfl]; rfl⟩ (aF.trans (aF.grow 15 3 (by omega) (by omega) (by simp [look])) (aF.sub (by simp [look, aS]))) ?_)
    rintro ⟨⟨t, N2, L6, k6, B⟩, ht, hM1, hM2, hL6, hB, hk6⟩
    dsimp only at ht hM1 hM2 hL6 hB hk6
    dsimp only
    by_cases hlt2 : t < mb.length
    rotate_left
    · obtain rfl : t = mb.length := by omega
      rw [List.take_length] at hB
      subst hB
      refine Top.view (aF.keep (m := m) (els := aS (dblI mb)) 15 (by omega) (by simp [look])) (aD aJ _ _ _ _ ?_)
      have q2 : decide ((mb.length : Int) < (mb.length : Int)) = false := by simp
      have hN20 : N2 < 16000 := by omega
      have n4 : (N2 = N) = False := by simp only [eq_iff_iff, iff_false]; omega
      have n5 : (N2 = 3) = False := by simp only [eq_iff_iff, iff_false]; omega
      have hLN := hL6 N (by omega)
      rw [hL5, aB.eq_2, if_pos rfl] at hLN
      have hlow : ∀ i, i < N → aB L6 i = aB L i := fun i hi => by
        rw [hL6 i (by omega), hL5, aB.eq_2, if_neg (by omega), aB.eq_2, if_neg (by omega)]
      have hL3 := hlow 3 (by omega)
      rw [L3] at hL3
      have MM : ML 4 v (looseX q.m (D.take k)) N2 ((N, some (.row [.int .i64 mf, .int .i64 mt, .bool mo, .str mh, .lsl (aS (dblI mb))] 27 0 0 false)) :: L6) := ML_of M1 (by omega) fun i hi => by rw [aB.eq_2, if_neg (by omega)]; exact hlow i hi
      have hXl : (looseX q.m (D.take k)).length ≤ 10000 := by
        unfold looseX; rw [List.length_map, List.length_take]; omega
      obtain ⟨v2, l2, hap, M2, hL⟩ := eAppend_MT (x := dblM ⟨mf, mt, mo, mh, mb⟩) (m := m + 1) (kk := k6) MM (by omega) (by omega) hXl
      have H0 := hL 0 (by omega) (ML_ne M1 0 (by omega))
      have H1 := hL 1 (by omega) (ML_ne M1 1 (by omega))
      have H2 := hL 2 (by omega) (ML_ne M1 2 (by omega))
      have H3 := hL 3 (by omega) (ML_ne M1 3 (by omega))
      rw [aB.eq_2, if_neg (by omega), hlow 0 (by omega), L0] at H0
      rw [aB.eq_2, if_neg (by omega), hlow 1 (by omega), L1] at H1
      rw [aB.eq_2, if_neg (by omega), hlow 2 (by omega), L2] at H2
      rw [aB.eq_2, if_neg (by omega), hL3] at H3
      unfold dblM at hap
      dsimp only at hap
      obtain ⟨o1, o2, o3⟩ := ML_one M2
      (try simp only [SS, aQ, setRange, bS, aA, aE, Nat.reduceLT, Nat.reduceEqDiff, Nat.reduceAdd, Nat.reduceMul, Nat.reduceLeDiff, reduceCtorEq, q2, w1, qm, hN0, n2, hLN, hL3, ↓hap, H3, o1, o3])
      refine ⟨⟨(k + 1, v2, N2 + 1 + 1, (3, some (.row [.str q.p, .str q.e, .bool q.l, v2] 24 0 0 false)) :: l2, m + 1, k6), hlt, by rw [hX]; exact MLc (by omega) M2, by show 4 ≤ N2 + 1 + 1; omega, by show N2 + 1 + 1 ≤ 4 + 30 * (k + 1); omega, ?_, ?_, ?_, ?_, by show m + 1 ≤ k + 1; omega⟩, by simp; omega, aF.sub (by simp [look])⟩
      · rw [aB.eq_2, if_neg (by omega)]; exact H0
      · rw [aB.eq_2, if_neg (by omega)]; exact H1
      · rw [aB.eq_2, if_neg (by omega)]; exact H2
      · rw [aB.eq_2, if_pos rfl]
    refine aD aJ _ _ _ _ ?_
    have q2 : decide ((t : Int) < (mb.length : Int)) = true := by simp; omega
    have w2 : IntKind.i64.wrap ((t : Int) + 1) = ((t + 1 : Nat) : Int) := by rw [aP] <;> omega
    have hxb : mb[t]? = some mb[t] := List.getElem?_eq_getElem hlt2
    have hdt : dblI (mb.take (t + 1)) = dblI (mb.take t) ++ [mb[t], mb[t]] := by
      rw [List.take_add_one, hxb]; exact dblI_snoc _ _
    generalize mb[t] = x at hxb hdt
    have hdl : B.length ≤ 18 := by rw [hB, dblI_len, List.length_take]; omega
    rw [← hB] at hdt
    have q3 : 8 * (B.length + 2) ≤ 1000000 := by omega
    have hm250 : m < 250 := by omega
    have hN20 : N2 < 16000 := by omega
    (try simp only [SS, aQ, setRange, bS, aA, aE, Nat.reduceLT, Nat.reduceEqDiff, Nat.reduceAdd, Nat.reduceLeDiff, reduceCtorEq, q2, w2, qm, aM, bM, hxb, q3, hm250, hN20, hk6, lensOK_eInts, eInts_snoc2])
    exact ⟨⟨(t + 1, N2 + 1, _, _, B ++ [x, x]), hlt2, by show N + 1 ≤ N2 + 1; omega, by show N2 + 1 ≤ N + 1 + (t + 1); omega, fun i hi => by rw [aB.eq_2, if_neg (by omega)]; exact hL6 i hi, hdt.symm, by rw [aB.eq_2, if_pos rfl]; simp⟩, by simp; omega, aF.sub (by simp [look])⟩
  rintro ⟨⟨v, N, L, m, kk⟩, M1, hN1, hN2, L0, L1, L2, L3, hm⟩
  dsimp only at M1 hN1 hN2 L0 L1 L2 L3 hm
  dsimp only
  obtain ⟨X, hX⟩ : ∃ X, X = looseX q.m D := ⟨_, rfl⟩
  rw [← hX] at M1
  have hXl : X.length ≤ 10000 := by rw [hX]; unfold looseX; rw [List.length_map]; omega
  have hPm : (looseP q key).m = X ++ stL q.m := by rw [hX, hD]; rfl
  have bL' : aR 4 (.row [.str q.p, .str q.e, .bool q.l, .lsl (aG (looseP q key).m)] 24 0 0 false) = true := by simp [aR, below, aX]
  have bq' : aR 4 rq = true := by rw [hrq]; simp [aR, below, aX]
  have bo' : aR 4 ro = true := by rw [hro]; simp [aR, below, aX]
  have bC' : aR 4 rC = true := by rw [hrC]; simp [aR, below, aX]
  -- a runner who stays, if there is room
  refine Top.join (σ := { m : Nat // m ≤ 10 }) aJ (fun _ => mkF 289 [(3, .ptr 0 0), (4, .ptr 1 0), (7, .ptr 2 0), (11, .ptr 3 0)]) (fun m => mkH 4 [(3, some (.row [.str q.p, .str q.e, .bool q.l, .lsl (aG (looseP q key).m)] 24 0 0 false)), (2, some rC), (1, some ro), (0, some rq)] m.1 []) ?_ ?_
  · intro R hR
    have fin : ∀ (f1 : EFr) (g1 : H) (id N2 : Nat) (Y : List Mv) (L7 : List (Nat × Option EObj)), aF none Tryz.prog f1 g1 (mkF 289 [(3, .ptr 0 0), (4, .ptr 1 0), (7, .ptr 2 0), (11, .ptr 3 0)]) (mkH N2 L7 m kk) → 4 ≤ id → id < 16000 → Y = (looseP q key).m → aB L7 id = some (.row (aV Y) 27 0 0 true) → aB L7 0 = some rq → aB L7 1 = some ro → aB L7 2 = some rC → aB L7 3 = some (.row [.str q.p, .str q.e, .bool q.l, .slice id 0 Y.length (.slack 0)] 24 0 0 false) → R .normal f1 g1 := by
      intro f1 g1 id N2 Y L7 v0 h1 h2 hY h4 e0 e1 e2 e3
      refine hR ⟨m, hm⟩ _ _ (aF.trans (aF.trans v0 (aF.fz (sz := 5) (len := Y.length) (fl2 := [(3, .ptr 0 0), (4, .ptr 1 0), (7, .ptr 2 0), (11, .ptr 3 0)]) (l2 := [(3, some (.row [.str q.p, .str q.e, .bool q.l, .lsl (aG (looseP q key).m)] 24 0 0 false)), (2, some rC), (1, some ro), (0, some rq)]) (k2 := []) id h2 h4 (keepL_cellM _) (cellM_length _) ?_ ?_ (by simp))) (aF.drop (by simp [look, below]) (by simp [aB, bL', bq', bo', bC']) (by simp)))
      · simp [look, fzR] <;> omega
      · rw [chunk_cellM]
        intro x hx
        simp only [List.mem_cons, List.not_mem_nil, or_false] at hx
        rcases hx with rfl | rfl | rfl | rfl
        · exact ⟨by simp, by show 3 ≠ id; omega, _, rfl, .inr ⟨_, _, _, _, _, _, e3, rfl, .inl rfl, .inl rfl, .inl rfl, .inr ⟨.slack 0, rfl, rfl, by rw [hY]⟩, trivial⟩⟩
        · exact ⟨by simp, by show 2 ≠ id; omega, _, rfl, .inl e2⟩
        · exact ⟨by simp, by show 1 ≠ id; omega, _, rfl, .inl e1⟩
        · exact ⟨by simp, by show 0 ≠ id; omega, _, rfl, .inl e0⟩
    (try simp only [SS, aA, Nat.reduceLT])
    refine aT (Top.loop (I := fun s : { c : Nat // 1 ≤ c ∧ c ≤ 4 ∧ ∀ d : Nat, 1 ≤ d → d < c → (q.m.any fun m => m.f == (d : Int)) = true } => (mkF 289 [(18, .int .i64 (s.1 : Nat)), (3, .ptr 0 0), (4, .ptr 1 0), (7, .ptr 2 0), (11, .ptr 3 0)], mkH N L m kk)) (μ := fun s => 4 - s.1) ⟨1, by omega, by omega, fun d h1 h2 => by omega⟩ (aF.sub (by simp [look])) ?_)
    rintro ⟨c, h1, h4, hb⟩
    refine aD aJ _ _ _ _ ?_
    dsimp only
    by_cases h3 : c ≤ 3
    rotate_left
    · obtain rfl : c = 4 := by omega
      have q1 : decide (((4 : Nat) : Int) ≤ 3) = false := by decide
      rw [stL_none hb, List.append_nil] at hPm
      (try simp only [SS, aA, Nat.reduceLT, Nat.reduceEqDiff, q1])
      rcases M1 with ⟨rfl, hn⟩ | ⟨id, i1, i2, rfl, i4⟩
      · refine hR ⟨m, hm⟩ _ _ (aF.trans (aF.told (ds := []) (r := none) (fl2 := [(3, .ptr 0 0), (4, .ptr 1 0), (7, .ptr 2 0), (11, .ptr 3 0)]) (l2 := [(3, some (.row [.str q.p, .str q.e, .bool q.l, .lsl (aG (looseP q key).m)] 24 0 0 false)), (2, some rC), (1, some ro), (0, some rq)]) (by simp [look, toldR]) ?_) (aF.drop (by simp [look, below]) (by simp [aB, bL', bq', bo', bC']) (by simp)))
        have hv : aG (looseP q key).m = [] := by rw [hPm, hn]; rfl
        intro x hx
        simp only [List.mem_cons, List.not_mem_nil, or_false] at hx
        rcases hx with rfl | rfl | rfl | rfl
        · exact ⟨by simp, _, rfl, .inr ⟨_, _, _, _, _, _, L3, rfl, .inl rfl, .inl rfl, .inl rfl, .inr ⟨rfl, by rw [hv]⟩, trivial⟩⟩
        · exact ⟨by simp, _, rfl, .inl L2⟩
        · exact ⟨by simp, _, rfl, .inl L1⟩
        · exact ⟨by simp, _, rfl, .inl L0⟩
      · exact fin _ _ id N X L (aF.sub (by simp [look])) i1 (by omega) hPm.symm i4 L0 L1 L2 L3
    have q1 : decide ((c : Int) ≤ 3) = true := by simp; omega
    have w1 : IntKind.i64.wrap ((c : Int) + 1) = ((c + 1 : Nat) : Int) := by rw [aP] <;> omega
    have h64 : F64 [.agg [.str q.p, .str q.e, .bool q.l, .lsl (aG q.m)], .int .i64 (c : Int)] = some (.int .i64 (mvIx (c : Int) q.m)) := by simp only [F64, cB okq.1 okq.2, Option.map_some]
    have hneg := mvIx_neg (c := (c : Int)) (l := q.m)
    have L0' := L0
    rw [hrq] at L0'
    cases ha : (q.m.any fun m => m.f == (c : Int)) with
    | true =>
      rw [ha] at hneg
      (try simp only [SS, aQ, aH, aA, Nat.reduceLT, Nat.reduceEqDiff, Nat.reduceAdd, q1, w1, L0', h64, hneg])
      refine ⟨⟨c + 1, by omega, by omega, fun d d1 d2 => ?_⟩, by simp; omega, aF.sub (by simp [look])⟩
      by_cases e : d = c
      · subst e; exact ha
      · exact hb d d1 (by omega)
    | false =>
      rw [ha] at hneg
      rw [stL_hit h1 h3 ha hb] at hPm
      have qm : decide (128 ≤ m) = false := by simp; omega
      have hN0 : N < 16000 := by omega
      have n2 : (N = 3) = False := by simp only [eq_iff_iff, iff_false]; omega
      obtain ⟨o1, o2, o3⟩ := ML_one M1
      obtain ⟨id, l2, hap, i1, i2, i4, hL⟩ := eAppend_MN (c := (c : Int)) (m := m) (kk := kk) M1 (by omega) (by omega) hXl
      have H3 := hL 3 (by omega)
      rw [L3] at H3
      have u116 : UInt8.toNat 116 = 116 := rfl
      (try simp only [SS, aQ, aH, setRange, bS, aA, aY, aE, Nat.reduceLT, Nat.reduceEqDiff, Nat.reduceAdd, Nat.reduceMul, Nat.reduceLeDiff, reduceCtorEq, q1, w1, qm, L0', L3, h64, hneg, u116, ↓hap, H3])
      have H0 := hL 0 (by omega)
      have H1 := hL 1 (by omega)
      have H2 := hL 2 (by omega)
      rw [L0] at H0
      rw [L1] at H1
      rw [L2] at H2
      have hid0 : id < 16000 := by omega
      have hYl : (X ++ [(⟨(c : Int), (c : Int), false, [116], []⟩ : Mv)]).length = X.length + 1 := by simp
      refine fin _ _ id (N + 1 + 1) (X ++ [(⟨(c : Int), (c : Int), false, [116], []⟩ : Mv)]) [(id, some (.row (aV (X ++ [(⟨(c : Int), (c : Int), false, [116], []⟩ : Mv)])) 27 0 0 true)), (3, some (.row [.str q.p, .str q.e, .bool q.l, .slice id 0 (X ++ [(⟨(c : Int), (c : Int), false, [116], []⟩ : Mv)]).length (.slack 0)] 24 0 0 false)), (2, some rC), (1, some ro), (0, some rq)] (aF.told (ds := []) (r := none) (by simp [look, toldR]) ?_) i1 hid0 hPm.symm (by rw [aB.eq_2, if_pos rfl]) (by rw [aB.eq_2, if_neg (by omega)]; simp [aB]) (by rw [aB.eq_2, if_neg (by omega)]; simp [aB]) (by rw [aB.eq_2, if_neg (by omega)]; simp [aB]) (by rw [aB.eq_2, if_neg (by omega)]; simp [aB])
      intro x hx
      simp only [List.mem_cons, List.not_mem_nil, or_false] at hx
      rcases hx with rfl | rfl | rfl | rfl | rfl
      · exact ⟨hid0, _, rfl, .inr ⟨_, _, _, _, _, _, by rw [aB.eq_2, if_neg (by omega)]; exact i4, rfl, told_stay _ _⟩⟩
      · exact ⟨by simp, _, rfl, .inl (by rw [aB.eq_2, if_pos rfl, hYl])⟩
      · exact ⟨by simp, _, rfl, .inl (by rw [aB.eq_2, if_neg (by omega)]; exact H2)⟩
      · exact ⟨by simp, _, rfl, .inl (by rw [aB.eq_2, if_neg (by omega)]; exact H1)⟩
      · exact ⟨by simp, _, rfl, .inl (by rw [aB.eq_2, if_neg (by omega)]; exact H0)⟩
  rintro ⟨m, hm⟩
  dsimp only
  rw [hrq, hro, hrC]
  clear hrq hro hrC M1 L0 L1 L2 L3 bq' bo' bC' bL' hDm hDl h26 hPm hX hXl hmv
  obtain ⟨okW, cW⟩ := loose_ok (key := key) vq
  have hWq := loose_eq (key := key) vq
  have hWc := loose_can (key := key) vq
  have bW : plB (looseP q key) = true := bq
  have hqo := both_eq vq vo
  obtain ⟨W, hW⟩ : ∃ W, W = looseP q key := ⟨_, rfl⟩
  rw [← hW] at okW cW hWq hWc bW ⊢
  obtain ⟨O, hO⟩ : ∃ O, O = canQ o := ⟨_, rfl⟩
  have vO : dV O = 0 := by rw [hO]; exact vo
  have okO : okPl O := by rw [hO]; exact oko
  have bO : plB O = true := by rw [hO]; exact bo
  have h19W := e19 (p := q.p) (e := q.e) (late := q.l) okW.1 okW.2 cW
  have h19q := e19 (p := q.p) (e := q.e) (late := q.l) okq.1 okq.2 (valid_copy vq)
  have h19C := e19 (p := C.p) (e := C.e) (late := C.l) okC.1 okC.2 (valid_copy vC)
  have h19O := e19 (p := O.p) (e := O.e) (late := O.l) okO.1 okO.2 (valid_copy vO)
  have h44W := e44 bW okW
  rw [hWc, ← hC] at h44W
  have h44o := e44 bo oko
  rw [canT_valid vo, ← hO] at h44o
  have h45W := e45 bW okW bq okq
  rw [hWq] at h45W
  have h45o := e45 bq okq bo oko
  rw [hqo, ← hC, ← hO] at h45o
  unfold plE at h44W h44o
  dsimp only at h44W h44o
  rw [show W.p = q.p by rw [hW]; rfl, show W.e = q.e by rw [hW]; rfl, show W.l = q.l by rw [hW]; rfl] at h44W h45W
  have h30C := e30z bC okC vC
  have h30O := e30z bO okO vO
  have h34C := e34 okC okC
  rw [samePl_rfl] at h34C
  have hst : decide (plStr C = plStr O) = samePl C O := by
    rw [Bool.eq_iff_iff, decide_eq_true_eq, samePl_iff]
    exact plStr_inj vC vO
  have bC2 := bC
  simp only [plB, Bool.and_eq_true] at bC2
  have h51 : F51 [.agg [.str C.p, .str C.e, .bool C.l, .lsl (aG C.m)]] = some (.tup [.int .i64 (dU runM q.m), .int .i64 0]) := by
    simp only [F51, cB okC.1 okC.2, Option.map_some, cntP]; rw [if_pos bC2, if_pos (show playE C.p C.e C.m = 0 from vC), Cm]
  have h50 : F50 [.agg [.str C.p, .str C.e, .bool C.l, .lsl (aG C.m)]] = some (.tup [.int .i64 (dU outM q.m), .int .i64 0]) := by
    simp only [F50, cB okC.1 okC.2, Option.map_some, cntP]; rw [if_pos bC2, if_pos (show playE C.p C.e C.m = 0 from vC), Cm]
  have h54 : F54 [.agg [.str q.p, .str q.e, .bool q.l, .lsl (aG q.m)]] = some (.int .i64 (dU runM q.m)) := by
    simp only [F54, cB okq.1 okq.2, Option.bind_some]; rw [if_pos (by omega)]
  have h53 : F53 [.agg [.str q.p, .str q.e, .bool q.l, .lsl (aG q.m)]] = some (.int .i64 (dU outM q.m)) := by
    simp only [F53, cB okq.1 okq.2, Option.bind_some]; rw [if_pos (by omega)]
  have hlate : C.l = true → q.l = true ∧ decide (0 < dU runM q.m) = true ∧ decide (0 < dU outM q.m) = true := by
    intro h
    rw [Cl] at h
    simp only [Bool.and_eq_true] at h
    exact ⟨h.1, decide_eq_true (run_pos h.2.1), decide_eq_true (out_pos h.2.2)⟩
  obtain ⟨rn, hrn⟩ : ∃ x, x = dU runM q.m := ⟨_, rfl⟩
  obtain ⟨on, hon⟩ : ∃ x, x = dU outM q.m := ⟨_, rfl⟩
  rw [← hrn] at h51 h54 hlate
  rw [← hon] at h50 h53 hlate
  obtain ⟨sC, hsC⟩ : ∃ x, x = plStr C := ⟨_, rfl⟩
  obtain ⟨sO, hsO⟩ : ∃ x, x = plStr O := ⟨_, rfl⟩
  rw [← hsC] at h30C hst
  rw [← hsO] at h30O hst
  obtain ⟨sm, hsm⟩ : ∃ x, x = samePl C O := ⟨_, rfl⟩
  rw [← hsm] at h45o hst
  clear hrn hon hsC hsO hsm hqo hWq hWc hW hO hC Cp Ce Cm Cl vC vO vq vo CC bC bC2 bO bW bq bo okC okO okW okq oko cW hkey hm4 h20 hD
  refine Top.join (σ := Unit) aJ (fun _ => mkF 289 [(3, .ptr 0 0), (4, .ptr 1 0), (7, .ptr 2 0), (11, .ptr 3 0), (19, .ptr 4 0), (20, .int .i64 0)]) (fun _ => mkH 5 [(4, some (.row [.str C.p, .str C.e, .bool C.l, .lsl (aG C.m)] 24 0 0 false)), (3, some (.row [.str q.p, .str q.e, .bool q.l, .lsl (aG W.m)] 24 0 0 false)), (2, some (.row [.str C.p, .str C.e, .bool C.l, .lsl (aG C.m)] 24 0 0 false)), (1, some (.row [.str o.p, .str o.e, .bool o.l, .lsl (aG o.m)] 24 0 0 false)), (0, some (.row [.str q.p, .str q.e, .bool q.l, .lsl (aG q.m)] 24 0 0 false))] m []) ?_ ?_
  · intro R hR
    (try simp only [SS, aQ, aH, setRange, aA, Nat.reduceLT, Nat.reduceEqDiff, Nat.reduceAdd, reduceCtorEq, h19W, h44W])
    exact hR () _ _ (aF.drop (by simp [look, below]) (by simp [aB, aR, below, aX]) (by simp [aB]))
  intro _
  refine Top.join (σ := Unit) aJ (fun _ => mkF 289 [(3, .ptr 0 0), (4, .ptr 1 0), (7, .ptr 2 0), (19, .ptr 4 0), (20, .int .i64 0), (21, .bool true), (22, .int .i64 0)]) (fun _ => mkH 5 [(4, some (.row [.str C.p, .str C.e, .bool C.l, .lsl (aG C.m)] 24 0 0 false)), (2, some (.row [.str C.p, .str C.e, .bool C.l, .lsl (aG C.m)] 24 0 0 false)), (1, some (.row [.str o.p, .str o.e, .bool o.l, .lsl (aG o.m)] 24 0 0 false)), (0, some (.row [.str q.p, .str q.e, .bool q.l, .lsl (aG q.m)] 24 0 0 false))] m []) ?_ ?_
  · intro R hR
    (try simp only [aI, SS, aQ, aH, setRange, bS, aA, aO, bN, bG, aY, aE, Nat.reduceLT, Nat.reduceEqDiff, Nat.reduceAdd, Nat.reduceMul, Nat.reduceSub, Nat.reduceLeDiff, Nat.reduceBEq, reduceCtorEq])
    refine bA (Top.draw mixed aJ (by kernel_rfl) ?_)
    (try simp only [SS, aQ, aH, Nat.reduceLT, Nat.reduceEqDiff, Nat.reduceAdd, reduceCtorEq, h19W, h19q, h45W])
    refine ⟨by kernel_rfl, ?_⟩
    (try simp only [aI, SS, aQ, aH, setRange, bS, aA, aO, bN, bG, aY, aE, Nat.reduceLT, Nat.reduceEqDiff, Nat.reduceAdd, Nat.reduceMul, Nat.reduceSub, Nat.reduceLeDiff, Nat.reduceBEq, reduceCtorEq])
    exact hR () _ _ (aF.drop (by simp [look, below]) (by simp [aB, aR, below, aX]) (by simp [aB]))
  intro _
  refine Top.join (σ := Unit) aJ (fun _ => mkF 289 [(3, .ptr 0 0), (4, .ptr 1 0), (7, .ptr 2 0), (19, .ptr 4 0), (20, .int .i64 0), (21, .bool true), (22, .int .i64 0), (23, .bool sm), (24, .int .i64 0)]) (fun _ => mkH 5 [(4, some (.row [.str C.p, .str C.e, .bool C.l, .lsl (aG C.m)] 24 0 0 false)), (2, some (.row [.str C.p, .str C.e, .bool C.l, .lsl (aG C.m)] 24 0 0 false)), (1, some (.row [.str o.p, .str o.e, .bool o.l, .lsl (aG o.m)] 24 0 0 false)), (0, some (.row [.str q.p, .str q.e, .bool q.l, .lsl (aG q.m)] 24 0 0 false))] m []) ?_ ?_
  · intro R hR
    (try simp only [aI, SS, aQ, aH, setRange, bS, aA, aO, bN, bG, aY, aE, Nat.reduceLT, Nat.reduceEqDiff, Nat.reduceAdd, Nat.reduceMul, Nat.reduceSub, Nat.reduceLeDiff, Nat.reduceBEq, reduceCtorEq])
    refine bA (Top.draw mixed aJ (by kernel_rfl) ?_)
    (try simp only [SS, aQ, aH, Nat.reduceLT, Nat.reduceEqDiff, Nat.reduceAdd, reduceCtorEq, h19q, h19o, h45o])
    refine ⟨by kernel_rfl, ?_⟩
    (try simp only [aI, SS, aQ, aH, setRange, bS, aA, aO, bN, bG, aY, aE, Nat.reduceLT, Nat.reduceEqDiff, Nat.reduceAdd, Nat.reduceMul, Nat.reduceSub, Nat.reduceLeDiff, Nat.reduceBEq, reduceCtorEq])
    exact hR () _ _ (aF.drop (by simp [look, below]) (by simp [aB, aR, below, aX]) (by simp [aB]))
  intro _
  refine Top.join (σ := Unit) aJ (fun _ => mkF 289 [(3, .ptr 0 0), (7, .ptr 2 0), (19, .ptr 4 0), (20, .int .i64 0), (21, .bool true), (22, .int .i64 0), (23, .bool sm), (24, .int .i64 0), (25, .ptr 5 0), (26, .int .i64 0)]) (fun _ => mkH 6 [(5, some (.row [.str O.p, .str O.e, .bool O.l, .lsl (aG O.m)] 24 0 0 false)), (4, some (.row [.str C.p, .str C.e, .bool C.l, .lsl (aG C.m)] 24 0 0 false)), (2, some (.row [.str C.p, .str C.e, .bool C.l, .lsl (aG C.m)] 24 0 0 false)), (0, some (.row [.str q.p, .str q.e, .bool q.l, .lsl (aG q.m)] 24 0 0 false))] m []) ?_ ?_
  · intro R hR
    (try simp only [SS, aQ, aH, setRange, aA, Nat.reduceLT, Nat.reduceEqDiff, Nat.reduceAdd, reduceCtorEq, h19o, h44o])
    exact hR () _ _ (aF.drop (by simp [look, below]) (by simp [aB, aR, below, aX]) (by simp [aB]))
  intro _
  refine Top.join (σ := Unit) aJ (fun _ => mkF 289 [(3, .ptr 0 0), (7, .ptr 2 0), (19, .ptr 4 0), (20, .int .i64 0), (21, .bool true), (22, .int .i64 0), (23, .bool sm), (24, .int .i64 0), (25, .ptr 5 0), (26, .int .i64 0), (27, .str sC), (28, .int .i64 0)]) (fun _ => mkH 6 [(5, some (.row [.str O.p, .str O.e, .bool O.l, .lsl (aG O.m)] 24 0 0 false)), (4, some (.row [.str C.p, .str C.e, .bool C.l, .lsl (aG C.m)] 24 0 0 false)), (2, some (.row [.str C.p, .str C.e, .bool C.l, .lsl (aG C.m)] 24 0 0 false)), (0, some (.row [.str q.p, .str q.e, .bool q.l, .lsl (aG q.m)] 24 0 0 false))] m []) ?_ ?_
  · intro R hR
    (try simp only [SS, aQ, aH, aA, Nat.reduceLT, Nat.reduceEqDiff, Nat.reduceAdd, reduceCtorEq, h19C, h30C])
    exact hR () _ _ (aF.drop (by simp [look, below]) (by simp [aB, aR, below, aX]) (by simp [aB]))
  intro _
  refine Top.join (σ := Unit) aJ (fun _ => mkF 289 [(3, .ptr 0 0), (7, .ptr 2 0), (19, .ptr 4 0), (20, .int .i64 0), (21, .bool true), (22, .int .i64 0), (23, .bool sm), (24, .int .i64 0), (26, .int .i64 0), (27, .str sC), (28, .int .i64 0), (29, .str sO), (30, .int .i64 0)]) (fun _ => mkH 5 [(4, some (.row [.str C.p, .str C.e, .bool C.l, .lsl (aG C.m)] 24 0 0 false)), (2, some (.row [.str C.p, .str C.e, .bool C.l, .lsl (aG C.m)] 24 0 0 false)), (0, some (.row [.str q.p, .str q.e, .bool q.l, .lsl (aG q.m)] 24 0 0 false))] m []) ?_ ?_
  · intro R hR
    (try simp only [SS, aQ, aH, aA, Nat.reduceLT, Nat.reduceEqDiff, Nat.reduceAdd, reduceCtorEq, h19O, h30O])
    exact hR () _ _ (aF.drop (by simp [look, below]) (by simp [aB, aR, below, aX]) (by simp [aB]))
  intro _
  refine Top.join (σ := Unit) aJ (fun _ => mkF 289 [(3, .ptr 0 0), (7, .ptr 2 0), (19, .ptr 4 0), (20, .int .i64 0), (21, .bool true), (22, .int .i64 0), (23, .bool sm), (24, .int .i64 0), (26, .int .i64 0), (27, .str sC), (28, .int .i64 0), (29, .str sO), (30, .int .i64 0), (31, .int .i64 rn), (32, .int .i64 0)]) (fun _ => mkH 5 [(4, some (.row [.str C.p, .str C.e, .bool C.l, .lsl (aG C.m)] 24 0 0 false)), (2, some (.row [.str C.p, .str C.e, .bool C.l, .lsl (aG C.m)] 24 0 0 false)), (0, some (.row [.str q.p, .str q.e, .bool q.l, .lsl (aG q.m)] 24 0 0 false))] m []) ?_ ?_
  · intro R hR
    (try simp only [SS, aQ, aH, aA, Nat.reduceLT, Nat.reduceEqDiff, Nat.reduceAdd, reduceCtorEq, h19C, h51])
    exact hR () _ _ (aF.drop (by simp [look, below]) (by simp [aB, aR, below, aX]) (by simp [aB]))
  intro _
  refine Top.join (σ := Unit) aJ (fun _ => mkF 289 [(3, .ptr 0 0), (7, .ptr 2 0), (19, .ptr 4 0), (20, .int .i64 0), (21, .bool true), (22, .int .i64 0), (23, .bool sm), (24, .int .i64 0), (26, .int .i64 0), (27, .str sC), (28, .int .i64 0), (29, .str sO), (30, .int .i64 0), (31, .int .i64 rn), (32, .int .i64 0), (33, .int .i64 on), (34, .int .i64 0)]) (fun _ => mkH 5 [(4, some (.row [.str C.p, .str C.e, .bool C.l, .lsl (aG C.m)] 24 0 0 false)), (2, some (.row [.str C.p, .str C.e, .bool C.l, .lsl (aG C.m)] 24 0 0 false)), (0, some (.row [.str q.p, .str q.e, .bool q.l, .lsl (aG q.m)] 24 0 0 false))] m []) ?_ ?_
  · intro R hR
    (try simp only [SS, aQ, aH, aA, Nat.reduceLT, Nat.reduceEqDiff, Nat.reduceAdd, reduceCtorEq, h19C, h50])
    exact hR () _ _ (aF.drop (by simp [look, below]) (by simp [aB, aR, below, aX]) (by simp [aB]))
  intro _
  refine Top.join (σ := Unit) aJ (fun _ => mkF 289 [(3, .ptr 0 0), (7, .ptr 2 0), (31, .int .i64 rn), (33, .int .i64 on)]) (fun _ => mkH 3 [(2, some (.row [.str C.p, .str C.e, .bool C.l, .lsl (aG C.m)] 24 0 0 false)), (0, some (.row [.str q.p, .str q.e, .bool q.l, .lsl (aG q.m)] 24 0 0 false))] m []) ?_ ?_
  · intro R hR
    cases sm <;> ((try simp only [SS, aQ, aH, aA, Nat.reduceLT, Nat.reduceEqDiff, Nat.reduceAdd, reduceCtorEq, h34C, hst, eOther, eqX, ndEq, eqBoolE]); exact hR () _ _ (aF.drop (by simp [look, below]) (by simp [aB, aR, below, aX]) (by simp [aB])))
  intro _
  refine aD aJ _ _ _ _ ?_
  have qr : (rn == rn) = true := by simp
  have qo : (on == on) = true := by simp
  cases hcl : C.l with
  | false =>
    (try simp only [SS, aQ, aH, aA, Nat.reduceLT, Nat.reduceEqDiff, Nat.reduceAdd, reduceCtorEq, h54, h53])
    (refine hQ _ _ _ (aC (by first | exact .inl rfl | exact .inr rfl) ?_); simp only [SS, aQ, Nat.reduceLT, Nat.reduceEqDiff])
  | true =>
    obtain ⟨hql, hr1, ho1⟩ := hlate hcl
    rw [hql] at h54 h53
    (try simp only [SS, aQ, aH, aA, Nat.reduceLT, Nat.reduceEqDiff, Nat.reduceAdd, reduceCtorEq, h54, h53, hql, hr1, ho1])
    (refine hQ _ _ _ (aC (by first | exact .inl rfl | exact .inr rfl) ?_); simp only [SS, aQ, Nat.reduceLT, Nat.reduceEqDiff])
end Go.Ev
