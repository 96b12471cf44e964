import Derived.Test.YtcdmpceicmbckaaGreatDoorCnt2
set_option linter.unusedSimpArgs false
set_option linter.unusedVariables false
namespace Go.Ev
open Go.RowKit Go.Proofs
set_option linter.defProp false
def TF81Cnt3 := And.intro (And.intro (And.intro (And.intro (And.intro (@Tryz.underlying3) (@sz3)) (And.intro (@bP) (@I3s))) (And.intro (And.intro (@I3b) (@bN)) (And.intro (@bQ) (@Tryz.underlying9)))) (And.intro (And.intro (And.intro (@sz9) (@info9)) (And.intro (@I9s) (@I9b))) (And.intro (And.intro (@zero9) (@grow9)) (And.intro (@Tryz.underlying21) (@sz21))))) (And.intro (And.intro (And.intro (And.intro (@info21) (@I21s)) (And.intro (@I21b) (@zero21))) (And.intro (And.intro (@grow21) (@Tryz.underlying23)) (And.intro (@sz23) (@info23)))) (And.intro (And.intro (And.intro (@I23s) (@I23b)) (And.intro (@zero23) (@grow23))) (And.intro (And.intro (@call136) (@call137)) (And.intro (@call138) (And.intro (@call139) (@Tryz.results81))))))
set_option maxRecDepth 20000
set_option maxHeartbeats 4000000

/-! the count -/
def cntE (c : Cnt) (l : List Nat) : EVal := match cnt c false l with
  | .inl (c', _) => .tup [.agg [.int .i64 c'.1, .int .i64 c'.2], .int .i64 0, .int .i64 0]
  | .inr k => .tup [.agg [.int .i64 0, .int .i64 0], .int .i64 (k : Nat), .int .i64 14]
def F48 : List EVal → Option EVal
  | [.int .i64 a, .int .i64 b, .str l] => if bytesB l = true then
      (if (0 ≤ a ∧ a ≤ 3) ∧ (0 ≤ b ∧ b ≤ 2) then (if l.length ≤ 24 then some (cntE (a, b) l) else some (.tup [.agg [.int .i64 0, .int .i64 0], .int .i64 0, .int .i64 5]))
       else some (.tup [.agg [.int .i64 0, .int .i64 0], .int .i64 0, .int .i64 3]))
      else none
  | _ => none
theorem e117 {x : Nat} : F117 [.int .i32 (x : Int)] = some (.bool (isP x)) := by
  simp only [F117]
  rw [if_pos (by omega), Int.toNat_natCast]
theorem e118 {c : Cnt} {x : Nat} (h : okC c false) : F118 [.agg [.int .i64 c.1, .int .i64 c.2], .int .i32 (x : Int)] = some (.agg [.int .i64 (bG c x).1, .int .i64 (bG c x).2]) := by
  obtain ⟨h1, h2, h3, h4, _⟩ := h
  show (if _ then _ else _) = _
  rw [if_pos (by omega), Int.toNat_natCast]
theorem cnt_take_err {c0 c : Cnt} {d : Bool} {l : List Nat} {k x : Nat} (h : cnt c0 false (l.take k) = .inl (c, d)) (hx : l[k]? = some x) (hd : d = true ∨ isP x = false) : cnt c0 false l = .inr k := by
  obtain ⟨hk, rfl⟩ := List.getElem?_eq_some_iff.1 hx
  have e := cnt_append c0 false (l.take k) (l.drop k)
  rw [List.take_append_drop, h] at e
  rw [List.drop_eq_getElem_cons hk] at e
  have hb : (d || !isP l[k]) = true := by rcases hd with rfl | hd <;> simp [*]
  simp only [cnt, hb, if_true] at e
  rw [e, List.length_take]
  congr 1
  omega
theorem cnt_take_step {c0 c : Cnt} {l : List Nat} {k x : Nat} (h : cnt c0 false (l.take k) = .inl (c, false)) (hx : l[k]? = some x) (hd : isP x = true) : cnt c0 false (l.take (k + 1)) = .inl (bG c x, doneC c x) := by
  rw [List.take_add_one, hx, cnt_append, h]
  simp [cnt, hd]
set_option maxHeartbeats 8000000 in
theorem fn48 : FnT 81 F48 := by
  refine Fn.intro mixed aK Tryz.func81 rfl [(136, F93), (137, F117), (138, F118), (139, F119)] (by simp only [List.forall_mem_cons]; exact ⟨fn93, fn117, fn118, fn119, fun _ h => by cases h⟩) ?_
  intro args v hF
  unfold F48 at hF
  split at hF
  rotate_left
  · cases hF
  intro Q hV
  have hQ := aV.of hV
  rename_i a b l
  split at hF
  rotate_left
  · cases hF
  rename_i hby
  have z0 : ((0 : Int) < ((2 : Nat) : Int)) = True := by simp
  have z1 : ((1 : Int) < ((2 : Nat) : Int)) = True := by simp
  by_cases hin : (0 ≤ a ∧ a ≤ 3) ∧ (0 ≤ b ∧ b ≤ 2)
  rotate_left
  · rw [if_neg hin] at hF
    cases hF
    refine Top.view (aH.start (n := 59) rfl (by simp)) (aC aK _ _ _ _ ?_)
    by_cases h1 : 0 ≤ a ∧ a ≤ 3
    · have c1 := withinC_t h1
      have c2 := withinC_f (fun h => hin ⟨h1, h⟩)
      (try simp only [aT, SS, TF81Cnt3, aE, setRange, aA, aJ, Nat.reduceLT, Nat.reduceEqDiff, Nat.reduceAdd, reduceCtorEq, e93, c1, c2])
      (refine hQ _ _ _ (aD (by first | exact .inl rfl | exact .inr rfl) ?_); simp only [SS, TF81Cnt3, Nat.reduceLT, Nat.reduceEqDiff, Nat.reduceAdd, reduceCtorEq])
    · have c1 := withinC_f h1
      (try simp only [aT, SS, TF81Cnt3, aE, setRange, aA, aJ, Nat.reduceLT, Nat.reduceEqDiff, Nat.reduceAdd, reduceCtorEq, e93, c1])
      (refine hQ _ _ _ (aD (by first | exact .inl rfl | exact .inr rfl) ?_); simp only [SS, TF81Cnt3, Nat.reduceLT, Nat.reduceEqDiff, Nat.reduceAdd, reduceCtorEq])
  rw [if_pos hin] at hF
  have c1 := withinC_t hin.1
  have c2 := withinC_t hin.2
  by_cases hl : l.length ≤ 24
  rotate_left
  · rw [if_neg hl] at hF
    cases hF
    refine Top.view (aH.start (n := 59) rfl (by simp)) (aC aK _ _ _ _ ?_)
    have c3 : decide ((24 : Int) < (l.length : Int)) = true := by simp; omega
    (try simp only [aT, SS, TF81Cnt3, aE, setRange, aA, aJ, Nat.reduceLT, Nat.reduceEqDiff, Nat.reduceAdd, reduceCtorEq, e93, c1, c2, c3])
    (refine hQ _ _ _ (aD (by first | exact .inl rfl | exact .inr rfl) ?_); simp only [SS, TF81Cnt3, Nat.reduceLT, Nat.reduceEqDiff, Nat.reduceAdd, reduceCtorEq])
  rw [if_pos hl] at hF
  cases hF
  refine Top.view (aH.start (n := 59) rfl (by simp)) (aC aK _ _ _ _ ?_)
  have c3 : decide ((24 : Int) < (l.length : Int)) = false := by simp; omega
  have ok0 : okC (a, b) false := ⟨hin.1.1, hin.2.1, by have := hin.1.2; show a ≤ 4; omega, by have := hin.2.2; show b ≤ 3; omega, fun _ => ⟨hin.1.2, hin.2.2⟩⟩
  (try simp only [aT, SS, TF81Cnt3, aE, setRange, aA, aJ, Nat.reduceLT, Nat.reduceEqDiff, Nat.reduceAdd, reduceCtorEq, e93, c1, c2, c3])
  refine wp_of_top (Top.loop (I := fun s : { p : Nat × Cnt × Bool // p.1 ≤ l.length ∧ cnt (a, b) false (l.take p.1) = .inl p.2 } => (mkF 59 [(30, .ptr 2 0), (10, .bool s.1.2.2), (9, .ptr 1 0), (8, .int .i64 0), (7, .int .i64 0), (6, .ptr 0 0)], mkH 3 [(2, some (.iter l s.1.1)), (1, some (.row [.int .i64 s.1.2.1.1, .int .i64 s.1.2.1.2] 23 0 0 false)), (0, some (.row [.int .i64 0, .int .i64 0] 23 0 0 false))] 0 [])) (μ := fun s => l.length - s.1.1) ⟨(0, (a, b), false), by simp, rfl⟩ (aH.drop (by simp [aX, below]) (by simp [aG, belowO, below, aN]) (by simp [aG])) ?_)
  rintro ⟨⟨k, c, d⟩, hk, hq⟩
  simp only at hk hq
  have okc := cnt_ok ok0 hq
  refine aC aK _ _ _ _ ?_
  by_cases hlt : k < l.length
  rotate_left
  · obtain rfl : k = l.length := by omega
    rw [List.take_length] at hq
    (try simp only [SS, TF81Cnt3, setRange, aA, Nat.reduceLT, Nat.reduceEqDiff, Nat.reduceAdd, reduceCtorEq, hlt])
    (refine hQ _ _ _ (aD (by first | exact .inl rfl | exact .inr rfl) ?_); simp only [SS, TF81Cnt3, Nat.reduceLT, Nat.reduceEqDiff, Nat.reduceAdd, reduceCtorEq])
    simp only [cntE, hq]
  obtain ⟨x, hx⟩ : ∃ x, l[k]? = some x := ⟨l[k], List.getElem?_eq_getElem hlt⟩
  cases d with
  | true =>
    have he := cnt_take_err hq hx (.inl rfl)
    by_cases ha : x < 128
    · have c4 := next_ascii hx ha
      (try simp only [SS, TF81Cnt3, setRange, aA, aJ, Nat.reduceLT, Nat.reduceEqDiff, Nat.reduceAdd, reduceCtorEq, hlt, c4])
      (refine hQ _ _ _ (aD (by first | exact .inl rfl | exact .inr rfl) ?_); simp only [SS, TF81Cnt3, Nat.reduceLT, Nat.reduceEqDiff, Nat.reduceAdd, reduceCtorEq])
      simp only [cntE, he]
    · obtain ⟨r, w, c4, hr⟩ := next_high hby hx ha
      (try simp only [SS, TF81Cnt3, setRange, aA, aJ, Nat.reduceLT, Nat.reduceEqDiff, Nat.reduceAdd, reduceCtorEq, hlt, c4])
      (refine hQ _ _ _ (aD (by first | exact .inl rfl | exact .inr rfl) ?_); simp only [SS, TF81Cnt3, Nat.reduceLT, Nat.reduceEqDiff, Nat.reduceAdd, reduceCtorEq])
      simp only [cntE, he]
  | false =>
  by_cases ha : x < 128
  rotate_left
  · have hp := isP_high (n := x) (by omega)
    have he := cnt_take_err hq hx (.inr hp)
    obtain ⟨r, w, c4, hr⟩ := next_high hby hx ha
    have hp2 := isP_high hr
    (try simp only [SS, TF81Cnt3, aE, setRange, aA, aJ, Nat.reduceLT, Nat.reduceEqDiff, Nat.reduceAdd, reduceCtorEq, hlt, c4, e117, hp2])
    (refine hQ _ _ _ (aD (by first | exact .inl rfl | exact .inr rfl) ?_); simp only [SS, TF81Cnt3, Nat.reduceLT, Nat.reduceEqDiff, Nat.reduceAdd, reduceCtorEq])
    simp only [cntE, he]
  have c4 := next_ascii hx ha
  cases hp : isP x with
  | false =>
    have he := cnt_take_err hq hx (.inr hp)
    (try simp only [SS, TF81Cnt3, aE, setRange, aA, aJ, Nat.reduceLT, Nat.reduceEqDiff, Nat.reduceAdd, reduceCtorEq, hlt, c4, e117, hp])
    (refine hQ _ _ _ (aD (by first | exact .inl rfl | exact .inr rfl) ?_); simp only [SS, TF81Cnt3, Nat.reduceLT, Nat.reduceEqDiff, Nat.reduceAdd, reduceCtorEq])
    simp only [cntE, he]
  | true =>
  have hs := cnt_take_step hq hx hp
  have h118 := e118 (x := x) okc
  have hdn : doneC c x = ((((bG c x).1 == 4) || ((bG c x).2 == 3)) || lastP x) := rfl
  refine wp_gen fun R hR => ?_
  cases h4 : ((bG c x).1 == 4) with
  | true =>
    (try simp only [SS, TF81Cnt3, aE, setRange, aA, Nat.reduceLT, Nat.reduceEqDiff, Nat.reduceAdd, reduceCtorEq, hlt, c4, e117, hp, h118, h4, z0])
    subst hR
    simp only [loopQ_normal]
    exact ⟨⟨(k + 1, bG c x, true), hlt, by rw [hs, hdn, h4]; rfl⟩, show l.length - (k + 1) < l.length - k by omega, (aH.drop (by simp [aX, below]) (by simp [aG, belowO, below, aN]) (by simp [aG]))⟩
  | false =>
  cases h5 : ((bG c x).2 == 3) with
  | true =>
    (try simp only [SS, TF81Cnt3, aE, setRange, aA, Nat.reduceLT, Nat.reduceEqDiff, Nat.reduceAdd, reduceCtorEq, hlt, c4, e117, hp, h118, h4, h5, z0, z1, Int.reduceLE, Int.reduceToNat])
    subst hR
    simp only [loopQ_normal]
    exact ⟨⟨(k + 1, bG c x, true), hlt, by rw [hs, hdn, h4, h5]; rfl⟩, show l.length - (k + 1) < l.length - k by omega, (aH.drop (by simp [aX, below]) (by simp [aG, belowO, below, aN]) (by simp [aG]))⟩
  | false =>
    (try simp only [SS, TF81Cnt3, aE, setRange, aA, Nat.reduceLT, Nat.reduceEqDiff, Nat.reduceAdd, reduceCtorEq, hlt, c4, e117, hp, h118, h4, h5, e119n, z0, z1, Int.reduceLE, Int.reduceToNat])
    subst hR
    simp only [loopQ_normal]
    exact ⟨⟨(k + 1, bG c x, lastP x), hlt, by rw [hs, hdn, h4, h5]; rfl⟩, show l.length - (k + 1) < l.length - k by omega, (aH.drop (by simp [aX, below]) (by simp [aG, belowO, below, aN]) (by simp [aG]))⟩
end Go.Ev
