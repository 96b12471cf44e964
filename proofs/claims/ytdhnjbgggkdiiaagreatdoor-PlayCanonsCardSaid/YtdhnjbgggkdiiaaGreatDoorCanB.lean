import Derived.Test.YtdhnjbgggkdiiaaGreatDoorCanA
import Derived.Test.YtdhnjbgggkdiiaaGreatDoorRefParse
set_option linter.unusedSimpArgs false
set_option linter.unusedVariables false
namespace Go.Ev
open Go.RowKit Go.Proofs
set_option linter.defProp false
def cA := And.intro (And.intro (And.intro (And.intro (And.intro (@Tryz.underlying3) (And.intro (@sz3) (@bI))) (And.intro (And.intro (@I3s) (@I3b)) (And.intro (@bH) (@bJ)))) (And.intro (And.intro (@Tryz.underlying4) (And.intro (@sz4) (@cO))) (And.intro (And.intro (@I4s) (@I4b)) (And.intro (@cN) (@cP))))) (And.intro (And.intro (And.intro (@Tryz.underlying9) (And.intro (@sz9) (@bW))) (And.intro (And.intro (@I9s) (@I9b)) (And.intro (@bV) (@bX)))) (And.intro (And.intro (@Tryz.underlying22) (And.intro (@sz22) (@info22))) (And.intro (And.intro (@I22s) (@I22b)) (And.intro (@cX) (@grow22)))))) (And.intro (And.intro (And.intro (And.intro (@Tryz.underlying24) (And.intro (@sz24) (@fok24))) (And.intro (And.intro (@info24) (@I24s)) (And.intro (@I24b) (@zero24)))) (And.intro (And.intro (@grow24) (And.intro (@Tryz.underlying25) (@dB))) (And.intro (And.intro (@bQ) (@dD)) (And.intro (@dE) (@bN))))) (And.intro (And.intro (And.intro (@bR) (And.intro (@Tryz.underlying27) (@dG))) (And.intro (And.intro (@cT) (@cD)) (And.intro (@dI) (@dJ)))) (And.intro (And.intro (@cC) (And.intro (@cE) (@call20))) (And.intro (And.intro (@call114) (@call115)) (And.intro (@call116) (@Tryz.results46))))))
def TF120CanB := And.intro (And.intro (And.intro (And.intro (And.intro (@Tryz.underlying3) (@sz3)) (And.intro (@bI) (And.intro (@I3s) (@I3b)))) (And.intro (And.intro (@bH) (And.intro (@bJ) (@Tryz.underlying4))) (And.intro (@sz4) (And.intro (@cO) (@I4s))))) (And.intro (And.intro (And.intro (@I4b) (@cN)) (And.intro (@cP) (And.intro (@Tryz.underlying9) (@sz9)))) (And.intro (And.intro (@bW) (And.intro (@I9s) (@I9b))) (And.intro (@bV) (And.intro (@bX) (@Tryz.underlying22)))))) (And.intro (And.intro (And.intro (And.intro (@sz22) (@info22)) (And.intro (@I22s) (And.intro (@I22b) (@cX)))) (And.intro (And.intro (@grow22) (And.intro (@Tryz.underlying25) (@dB))) (And.intro (@bQ) (And.intro (@dD) (@dE))))) (And.intro (And.intro (And.intro (@bN) (@bR)) (And.intro (@Tryz.underlying27) (And.intro (@dG) (@cT)))) (And.intro (And.intro (@cD) (And.intro (@dI) (@dJ))) (And.intro (@cC) (And.intro (@cE) (@Tryz.results120))))))
set_option maxRecDepth 20000
set_option maxHeartbeats 8000000

/-! the reference: the canonical form of a loose play -/
theorem canonT_size {q : Pl} (h : sizeE q.p q.m ≠ 0) : aZ q = (pl0, 5) := by
  have h5 : sizeE q.p q.m = 5 := by
    unfold sizeE at h ⊢
    split
    · rfl
    · rename_i hc; rw [if_neg hc] at h; exact absurd rfl h
  have hl : looseE q = 5 := by unfold looseE; rw [h5]; rfl
  unfold aZ
  rw [if_pos (by rw [hl]; decide), hl]
theorem canonT_twice {q : Pl} (h : sizeE q.p q.m = 0) (h2 : dupT [] q.m = true) : aZ q = (pl0, 9) := by
  have hl : looseE q = 9 := by
    unfold looseE twiceE; rw [h, h2]; rfl
  unfold aZ
  rw [if_pos (by rw [hl]; decide), hl]
theorem canonT_rest {q : Pl} (h : sizeE q.p q.m = 0) (h2 : dupT [] q.m = false) : looseE q = 0 ∧ aZ q = if plE0 (tidyP q) ≠ 0 then (pl0, plE0 (tidyP q)) else (tidyP q, 0) := by
  have hl : looseE q = 0 := by
    unfold looseE twiceE; rw [h, h2]; rfl
  refine ⟨hl, ?_⟩
  unfold aZ
  rw [if_neg (by rw [hl]; decide)]
theorem sizeE_of {p : List Nat} {l : List Mv} (h : 24 < p.length ∨ 4 < l.length ∨ l.any bigM = true) : sizeE p l ≠ 0 := by
  unfold sizeE
  rw [if_pos (by simp only [Bool.or_eq_true, decide_eq_true_eq]; rcases h with h | h | h; exact .inl (.inl h); exact .inl (.inr h); exact .inr h)]
  decide
theorem sizeE_not {p : List Nat} {l : List Mv} (h1 : p.length ≤ 24) (h2 : l.length ≤ 4) (h3 : l.any bigM = false) : sizeE p l = 0 := by
  unfold sizeE
  rw [if_neg (by rw [h3]; simp; omega)]
theorem any_drop {q : Mv → Bool} {l : List Mv} {k : Nat} {m : Mv} (h : l[k]? = some m) : (l.drop k).any q = (q m || (l.drop (k + 1)).any q) := by
  obtain ⟨hk2, rfl⟩ := List.getElem?_eq_some_iff.1 h
  rw [List.drop_eq_getElem_cons hk2]; rfl
theorem any_take {q : Mv → Bool} {l : List Mv} {k : Nat} {m : Mv} (h : l[k]? = some m) : (l.take (k + 1)).any q = ((l.take k).any q || q m) := by
  rw [List.take_add_one, h]; simp
theorem ML_skip {lo : Nat} {v : EVal} {ms : List Mv} {N j : Nat} {l : List (Nat × Option EObj)} {x : Option EObj} (hj : N ≤ j) (h : ML lo v ms N l) : ML lo v ms N ((j, x) :: l) := by
  rcases h with h | ⟨id, h1, h2, h3, h4⟩
  · exact .inl h
  · exact .inr ⟨id, h1, h2, h3, by rw [aB.eq_2, if_neg (by omega)]; exact h4⟩
theorem ML_up {lo : Nat} {v : EVal} {ms : List Mv} {N : Nat} {l : List (Nat × Option EObj)} (h : ML lo v ms N l) : ML lo v ms (N + 1) l := by
  rcases h with h | ⟨id, h1, h2, h3, h4⟩
  · exact .inl h
  · exact .inr ⟨id, h1, by omega, h3, h4⟩
theorem ML_ne {lo : Nat} {v : EVal} {ms : List Mv} {N : Nat} {l : List (Nat × Option EObj)} (h : ML lo v ms N l) (i : Nat) (hi : i < lo ∨ N ≤ i) (n : Nat) (c : ECap) : v ≠ .slice i 0 n c := by
  rcases h with ⟨rfl, _⟩ | ⟨id, h1, h2, rfl, h4⟩
  · simp
  · intro e; cases e; omega
theorem eAppend_MT {lo : Nat} {v : EVal} {ms : List Mv} {x : Mv} {N m : Nat} {l : List (Nat × Option EObj)} {kk : List (Nat × Option (Nat × TypeId))} (h : ML lo v ms N l) (hlo : lo ≤ N) (hN : N + 1 < 16000) (hlen : ms.length ≤ 10000) :
    ∃ v2 l2, eAppend Tryz.prog (mkH (N + 1) ((N, some (.row [.int .i64 x.f, .int .i64 x.t, .bool x.o, .str x.h, .lsl (aS x.b)] 27 0 0 false)) :: l) m kk) 22 v (.slice N 0 1 (.exact 1)) = some (v2, mkH (N + 1 + 1) l2 m kk) ∧ ML lo v2 (ms ++ [x]) (N + 1 + 1) l2 ∧ ∀ i, i < N → (∀ n c, v ≠ .slice i 0 n c) → aB l2 i = aB l i := by
  have hs : aR ms ++ [.int .i64 x.f, .int .i64 x.t, .bool x.o, .str x.h, .lsl (aS x.b)] = aR (ms ++ [x]) := by simp [aR, cV]
  have hn0 : N < 16000 := by omega
  rcases h with ⟨rfl, rfl⟩ | ⟨id, hlo2, hid, rfl, hl⟩
  · have g1 : decide (64 * 1 ≤ 1000000) = true := by decide
    refine ⟨.slice (N + 1) 0 1 (.slack 0), (N + 1, some (.row [.int .i64 x.f, .int .i64 x.t, .bool x.o, .str x.h, .lsl (aS x.b)] 27 0 0 true)) :: (N, some (.row [.int .i64 x.f, .int .i64 x.t, .bool x.o, .str x.h, .lsl (aS x.b)] 27 0 0 false)) :: l, ?_, .inr ⟨N + 1, by omega, by omega, rfl, by simp [aB, aR, cV]⟩, ?_⟩
    · simp only [SS, TF120CanB, Nat.reduceAdd, Nat.reduceMul, Nat.reduceLeDiff, reduceCtorEq, hn0]
    · intro i hi _
      rw [aB.eq_2, if_neg (by omega), aB.eq_2, if_neg (by omega)]
  · have hid0 : id < 16000 := by omega
    have hne : (N = id) = False := by simp only [eq_iff_iff, iff_false]; omega
    have g1 : decide (64 * (ms.length + 1) ≤ 1000000) = true := by simp; omega
    have g3 : ((ms.length + 1) * 5 ≤ ms.length * 5) = False := by simp only [eq_iff_iff, iff_false]; omega
    refine ⟨.slice (N + 1) 0 (ms.length + 1) (.slack 0), (N + 1, some (.row (aR ms ++ [.int .i64 x.f, .int .i64 x.t, .bool x.o, .str x.h, .lsl (aS x.b)]) 27 0 0 true)) :: (id, none) :: (N, some (.row [.int .i64 x.f, .int .i64 x.t, .bool x.o, .str x.h, .lsl (aS x.b)] 27 0 0 false)) :: l, ?_, .inr ⟨N + 1, by omega, by omega, by simp, by rw [hs]; simp [aB]⟩, ?_⟩
    · simp only [SS, TF120CanB, setRange, Nat.reduceAdd, Nat.reduceMul, reduceCtorEq, hid0, hn0, hne, hl, g1, g3, cellM_length, cellM_take]
    · intro i hi hv
      have : id ≠ i := fun e => hv _ _ (by rw [e])
      rw [aB.eq_2, if_neg (by omega), aB.eq_2, if_neg this, aB.eq_2, if_neg (by omega)]
theorem fil1 {m : Mv} : ([m].filter keepM).map compM = if stayM m = true then [] else [compM m] := by
  cases h : stayM m with
  | true => simp [keepM, h]
  | false => simp [keepM, h]
def F46 : List EVal → Option EVal
  | [.agg [.str p, .str e, .bool late, ms]] => (bL ms).map fun l => .tup [plE (aZ ⟨p, e, late, l⟩).1, .int .i64 (aZ ⟨p, e, late, l⟩).2]
  | _ => none
theorem e46 {q : Pl} (hq : okPl q) : F46 [.agg [.str q.p, .str q.e, .bool q.l, .lsl (aK q.m)]] = some (.tup [plE (aZ q).1, .int .i64 (aZ q).2]) := by
  simp only [F46, dMoves_e hq.1 hq.2, Option.map_some]
theorem fn46 : FnT 46 F46 := by
  refine Fn.intro mixed aI Tryz.func46 rfl [(20, F20), (114, F114), (115, F115), (116, F116)] (by simp only [List.forall_mem_cons]; exact ⟨fn20, fn114, fn115, fn116, fun _ h => by cases h⟩) ?_
  intro args v hF
  unfold F46 at hF
  split at hF
  rotate_left
  · cases hF
  intro Q hV
  have hQ := aW.of hV
  rename_i p e late ms
  cases ha : bL ms with
  | none => rw [ha] at hF; cases hF
  | some l =>
  rw [ha] at hF
  cases hF
  obtain ⟨rfl, hlen, hok⟩ := dMoves_inv ha
  clear ha
  dsimp only at hQ hV
  obtain ⟨rq, hrq⟩ : ∃ o : EObj, o = .row [.str p, .str e, .bool late, .lsl (aK l)] 24 0 0 false := ⟨_, rfl⟩
  refine Top.view (aF.start (n := 129) rfl (by simp)) ?_
  refine Top.join (σ := Unit) aI (fun _ => mkF 129 [(1, .ptr 0 0), (2, .ptr 1 0)]) (fun _ => mkH 2 [(1, some zq), (0, some rq)] 0 []) ?_ ?_
  · intro R hR
    rw [hrq] at hR
    (try simp only [aH, SS, cA, aA, Nat.reduceLT, Nat.reduceAdd])
    exact hR () _ _ (aF.sub (by simp [look]))
  intro _
  -- not many
  refine Top.joinR (σ := { _u : Unit // p.length ≤ 24 ∧ l.length ≤ 4 }) aI (fun _ => mkF 129 [(1, .ptr 0 0), (2, .ptr 1 0)]) (fun _ => mkH 2 [(1, some zq), (0, some rq)] 0 []) ?_ ?_
  · intro R hR hRr
    rw [hrq] at hR ⊢
    unfold zq at hR ⊢
    by_cases h1 : 24 < p.length
    · have q1 : decide ((24 : Int) < (p.length : Int)) = true := by simp; omega
      rw [canonT_size (sizeE_of (.inl h1))] at hQ
      (try simp only [SS, cA, setRange, aA, aV, Nat.reduceLT, Nat.reduceEqDiff, Nat.reduceAdd, reduceCtorEq, q1])
      refine hRr _ _ ?_
      (refine hQ _ _ _ (aC (by first | exact .inl rfl | exact .inr rfl) ?_); simp only [SS, cA, Nat.reduceLT, Nat.reduceEqDiff, Nat.reduceAdd, reduceCtorEq, plE, pl0])
      rfl
    have q1 : decide ((24 : Int) < (p.length : Int)) = false := by simp; omega
    by_cases h2 : 4 < l.length
    · have q2 : decide ((4 : Int) < (l.length : Int)) = true := by simp; omega
      rw [canonT_size (sizeE_of (.inr (.inl h2)))] at hQ
      (try simp only [SS, cA, setRange, aA, aV, Nat.reduceLT, Nat.reduceEqDiff, Nat.reduceAdd, reduceCtorEq, q1, q2, aL])
      refine hRr _ _ ?_
      (refine hQ _ _ _ (aC (by first | exact .inl rfl | exact .inr rfl) ?_); simp only [SS, cA, Nat.reduceLT, Nat.reduceEqDiff, Nat.reduceAdd, reduceCtorEq, plE, pl0])
      rfl
    have q2 : decide ((4 : Int) < (l.length : Int)) = false := by simp; omega
    (try simp only [SS, cA, aA, Nat.reduceLT, Nat.reduceEqDiff, reduceCtorEq, q1, q2, aL])
    exact hR ⟨(), by omega, by omega⟩ _ _ (aF.sub (by simp [look]))
  rintro ⟨_, hp24, hl4⟩
  refine Top.joinR (σ := { _u : Unit // l.any bigM = false }) aI (fun _ => mkF 129 [(1, .ptr 0 0), (2, .ptr 1 0)]) (fun _ => mkH 2 [(1, some zq), (0, some rq)] 0 []) ?_ ?_
  · intro R hR hRr
    rw [hrq] at hR ⊢
    unfold zq at hR ⊢
    (try simp only [SS, aA, Nat.reduceLT])
    refine aQ (Top.loop (I := fun s : { k : Nat // k ≤ l.length ∧ l.any bigM = (l.drop k).any bigM } => (mkF 129 [(4, .int .i64 (s.1 : Nat)), (1, .ptr 0 0), (2, .ptr 1 0)], mkH 2 [(1, some (.row [.str [], .str [], .bool false, .nilslice] 24 0 0 false)), (0, some (.row [.str p, .str e, .bool late, .lsl (aK l)] 24 0 0 false))] 0 [])) (μ := fun s => l.length - s.1) ⟨0, by simp, rfl⟩ (aF.sub (by simp [look])) ?_)
    rintro ⟨k, hk, hf⟩
    refine aD aI _ _ _ _ ?_
    by_cases hlt : k < l.length
    rotate_left
    · have q3 : decide ((k : Int) < (l.length : Int)) = false := by simp; omega
      have : l.drop k = [] := List.drop_eq_nil_of_le (by omega)
      rw [this] at hf
      (try simp only [SS, cA, aA, Nat.reduceLT, Nat.reduceEqDiff, reduceCtorEq, q3, aL])
      exact hR ⟨(), hf⟩ _ _ (aF.sub (by simp [look]))
    obtain ⟨m, hx⟩ : ∃ m, l[k]? = some m := ⟨l[k], List.getElem?_eq_getElem hlt⟩
    have q3 : decide ((k : Int) < (l.length : Int)) = true := by simp; omega
    have w1 : IntKind.i64.wrap ((k : Int) + 1) = ((k + 1 : Nat) : Int) := by rw [aP] <;> omega
    have hd := any_drop (q := bigM) hx
    by_cases h3 : 36 < m.b.length
    · have q4 : decide ((36 : Int) < (m.b.length : Int)) = true := by simp; omega
      have hb : bigM m = true := by simp [bigM, h3]
      rw [hb] at hd
      rw [canonT_size (sizeE_of (.inr (.inr (by rw [hf, hd]; rfl))))] at hQ
      (try simp only [SS, cA, setRange, aA, aV, Nat.reduceLT, Nat.reduceEqDiff, Nat.reduceAdd, reduceCtorEq, q3, aL, bD, bS, hx, aM, q4])
      refine hRr _ _ ?_
      (refine hQ _ _ _ (aC (by first | exact .inl rfl | exact .inr rfl) ?_); simp only [SS, cA, Nat.reduceLT, Nat.reduceEqDiff, Nat.reduceAdd, reduceCtorEq, plE, pl0])
      rfl
    · have q4 : decide ((36 : Int) < (m.b.length : Int)) = false := by simp; omega
      have hb : bigM m = false := by simp [bigM, h3]
      rw [hb, Bool.false_or] at hd
      (try simp only [SS, cA, aA, Nat.reduceLT, Nat.reduceEqDiff, Nat.reduceAdd, reduceCtorEq, q3, aL, bD, bS, hx, aM, q4, w1])
      exact ⟨⟨k + 1, hlt, hf.trans hd⟩, by simp; omega, aF.sub (by simp [look])⟩
  rintro ⟨_, hbig⟩
  have hs0 : sizeE p l = 0 := sizeE_not hp24 hl4 hbig
  -- no two moves from one place
  refine Top.joinR (σ := { _u : Unit // dupT [] l = false }) aI (fun _ => mkF 129 [(1, .ptr 0 0), (2, .ptr 1 0)]) (fun _ => mkH 2 [(1, some zq), (0, some rq)] 0 []) ?_ ?_
  · intro R hR hRr
    rw [hrq] at hR ⊢
    unfold zq at hR ⊢
    (try simp only [SS, aA, Nat.reduceLT])
    refine aQ (Top.loop (I := fun s : { k : Nat // k ≤ l.length ∧ dupT [] l = dupT ((l.take k).map (·.f)) (l.drop k) } => (mkF 129 [(5, .int .i64 (s.1 : Nat)), (1, .ptr 0 0), (2, .ptr 1 0)], mkH 2 [(1, some (.row [.str [], .str [], .bool false, .nilslice] 24 0 0 false)), (0, some (.row [.str p, .str e, .bool late, .lsl (aK l)] 24 0 0 false))] 0 [])) (μ := fun s => l.length - s.1) ⟨0, by simp, rfl⟩ (aF.sub (by simp [look])) ?_)
    rintro ⟨i, hi, hf⟩
    refine aD aI _ _ _ _ ?_
    by_cases hlt : i < l.length
    rotate_left
    · have q3 : decide ((i : Int) < (l.length : Int)) = false := by simp; omega
      have : l.drop i = [] := List.drop_eq_nil_of_le (by omega)
      rw [this] at hf
      (try simp only [SS, cA, aA, Nat.reduceLT, Nat.reduceEqDiff, reduceCtorEq, q3, aL])
      exact hR ⟨(), hf⟩ _ _ (aF.sub (by simp [look]))
    obtain ⟨m, hx⟩ : ∃ m, l[i]? = some m := ⟨l[i], List.getElem?_eq_getElem hlt⟩
    have q3 : decide ((i : Int) < (l.length : Int)) = true := by simp; omega
    have w1 : IntKind.i64.wrap ((i : Int) + 1) = ((i + 1 : Nat) : Int) := by rw [aP] <;> omega
    have hd := dupT_drop (ks := (l.take i).map (·.f)) hx
    rw [hd] at hf
    have htk : (l.take (i + 1)).map (·.f) = (l.take i).map (·.f) ++ [m.f] := by rw [List.take_add_one, hx]; simp
    rw [← htk] at hf
    clear hd htk
    (try simp only [SS, cA, aA, Nat.reduceLT, Nat.reduceEqDiff, reduceCtorEq, q3, aL])
    refine aQ (Top.loop (I := fun s : { k : Nat // k ≤ i ∧ (l.take k).any (fun y => y.f == m.f) = false } => (mkF 129 [(6, .int .i64 (s.1 : Nat)), (5, .int .i64 (i : Nat)), (1, .ptr 0 0), (2, .ptr 1 0)], mkH 2 [(1, some (.row [.str [], .str [], .bool false, .nilslice] 24 0 0 false)), (0, some (.row [.str p, .str e, .bool late, .lsl (aK l)] 24 0 0 false))] 0 [])) (μ := fun s => i - s.1) ⟨0, by simp, rfl⟩ (aF.sub (by simp [look])) ?_)
    rintro ⟨k, hk, hn⟩
    refine aD aI _ _ _ _ ?_
    by_cases hlt2 : k < i
    rotate_left
    · obtain rfl : k = i := by omega
      have q4 : decide ((k : Int) < (k : Int)) = false := by simp
      have hn2 : ((l.take k).map (·.f)).any (· == m.f) = false := by rw [List.any_map]; exact hn
      rw [hn2, Bool.false_or] at hf
      (try simp only [SS, aA, Nat.reduceLT, Nat.reduceEqDiff, q4, w1])
      exact ⟨⟨k + 1, hlt, hf⟩, by simp; omega, aF.sub (by simp [look])⟩
    obtain ⟨y, hy⟩ : ∃ y, l[k]? = some y := ⟨l[k]'(by omega), List.getElem?_eq_getElem (by omega)⟩
    have q4 : decide ((k : Int) < (i : Int)) = true := by simp; omega
    have w2 : IntKind.i64.wrap ((k : Int) + 1) = ((k + 1 : Nat) : Int) := by rw [aP] <;> omega
    have ht := any_take (q := fun y => y.f == m.f) hy
    rw [hn, Bool.false_or] at ht
    (try simp only [SS, aA, Nat.reduceLT, Nat.reduceEqDiff, q4])
    refine aU (Top.draw mixed aI (by kernel_rfl) ?_)
    cases q5 : (y.f == m.f) with
    | true =>
      have hn2 : ((l.take i).map (·.f)).any (· == m.f) = true := by
        rw [List.any_map, List.any_eq_true]
        refine ⟨y, ?_, q5⟩
        rw [List.mem_iff_getElem?]
        exact ⟨k, by rw [List.getElem?_take_of_lt hlt2]; exact hy⟩
      rw [hn2, Bool.true_or] at hf
      rw [canonT_twice hs0 hf] at hQ
      (try simp only [SS, cA, setRange, aA, aV, Nat.reduceLT, Nat.reduceEqDiff, Nat.reduceAdd, reduceCtorEq, bD, bS, hx, hy, q5])
      refine ⟨by kernel_rfl, ?_⟩
      (try simp only [aH, SS, cA, aG, setRange, bK, aA, aO, bG, bA, aV, aE, Nat.reduceLT, Nat.reduceEqDiff, Nat.reduceAdd, Nat.reduceMul, Nat.reduceSub, Nat.reduceLeDiff, Nat.reduceBEq, reduceCtorEq])
      refine hRr _ _ ?_
      (refine hQ _ _ _ (aC (by first | exact .inl rfl | exact .inr rfl) ?_); simp only [SS, cA, Nat.reduceLT, Nat.reduceEqDiff, Nat.reduceAdd, reduceCtorEq, plE, pl0])
      rfl
    | false =>
      rw [q5] at ht
      (try simp only [SS, cA, aA, Nat.reduceLT, Nat.reduceEqDiff, Nat.reduceAdd, reduceCtorEq, bD, bS, hx, hy, q5])
      refine ⟨by kernel_rfl, ?_⟩
      (try simp only [w2])
      exact ⟨⟨k + 1, by omega, ht⟩, by simp; omega, aF.sub (by simp [look])⟩
  rintro ⟨_, htw⟩
  obtain ⟨hz0, hrest⟩ := canonT_rest (q := ⟨p, e, late, l⟩) hs0 htw
  have htok := tidy_ok hz0
  rw [hrest] at hQ
  have hq4 : (⟨p, e, late, l⟩ : Pl).m = l := rfl
  have hE : tidyP ⟨p, e, late, l⟩ = ⟨p, e, late && ((tidyM l).any isR && (tidyM l).any isO), tidyM l⟩ := rfl
  have hbm : ∀ m ∈ sortM l, m.b.length ≤ 1000 := sortM_mem (q := fun m => m.b.length ≤ 1000) fun m hm => by
    rw [List.any_eq_false] at hbig
    have := hbig m hm
    simp [bigM] at this
    omega
  have hlS := sortM_len l
  have h114 := e114 (l := l) (by omega) hok
  obtain ⟨S, hS⟩ : ∃ S, S = sortM l := ⟨_, rfl⟩
  rw [← hS] at hbm hlS h114
  have hTS : tidyM l = (S.filter keepM).map compM := by rw [hS]; rfl
  obtain ⟨T, hT⟩ : ∃ T, T = tidyM l := ⟨_, rfl⟩
  rw [hE, ← hT] at hQ htok
  rw [← hT] at hTS
  clear hE hrest hz0 htw hS hT hbig hs0 hq4
  -- out, the moves in order
  refine Top.join (σ := Unit) aI (fun _ => mkF 129 [(1, .ptr 0 0), (2, .ptr 1 0), (7, .ptr 2 0)]) (fun _ => mkH 3 [(2, some (.row [.str p, .str e, .bool false, .nilslice] 24 0 0 false)), (1, some zq), (0, some rq)] 0 []) ?_ ?_
  · intro R hR
    rw [hrq] at hR ⊢
    (try simp only [SS, cA, setRange, aA, aV, Nat.reduceLT, Nat.reduceEqDiff, Nat.reduceAdd, reduceCtorEq])
    exact hR () _ _ (aF.trans (aF.sub (by simp [look])) (aF.sameH (by simp [aB, zq])))
  intro _
  refine Top.join (σ := Unit) aI (fun _ => mkF 129 [(1, .ptr 0 0), (2, .ptr 1 0), (7, .ptr 2 0), (8, .lsl (aK S))]) (fun _ => mkH 3 [(2, some (.row [.str p, .str e, .bool false, .nilslice] 24 0 0 false)), (1, some zq), (0, some rq)] 0 []) ?_ ?_
  · intro R hR
    rw [hrq] at hR ⊢
    (try simp only [SS, cA, aG, aA, Nat.reduceLT, Nat.reduceEqDiff, reduceCtorEq, h114])
    exact hR () _ _ (aF.sub (by simp [look]))
  intro _
  refine Top.join (σ := Unit) aI (fun _ => mkF 129 [(1, .ptr 0 0), (2, .ptr 1 0), (7, .ptr 2 0), (8, .lsl (aK S)), (9, .bool false), (10, .bool false)]) (fun _ => mkH 3 [(2, some (.row [.str p, .str e, .bool false, .nilslice] 24 0 0 false)), (1, some zq), (0, some rq)] 0 []) ?_ ?_
  · intro R hR
    (try simp only [SS, aA, Nat.reduceLT])
    exact hR () _ _ (aF.sub (by simp [look]))
  intro _
  refine Top.join (σ := { N : Nat // 3 ≤ N ∧ N ≤ 100 }) aI (fun _ => mkF 129 [(1, .ptr 0 0), (2, .ptr 1 0), (7, .ptr 2 0), (9, .bool (T.any isR)), (10, .bool (T.any isO))]) (fun N => mkH N.1 [(2, some (.row [.str p, .str e, .bool false, .lsl (aK T)] 24 0 0 false)), (1, some zq), (0, some rq)] 0 []) ?_ ?_
  · intro R hR
    (try simp only [SS, aA, Nat.reduceLT])
    refine aQ (Top.loop (I := fun s : { x : Nat × EVal × Nat × List (Nat × Option EObj) × List Mv // x.1 ≤ S.length ∧ x.2.2.2.2 = ((S.take x.1).filter keepM).map compM ∧ ML 3 x.2.1 x.2.2.2.2 x.2.2.1 x.2.2.2.1 ∧ 3 ≤ x.2.2.1 ∧ x.2.2.1 ≤ 3 + 4 * x.1 ∧ aB x.2.2.2.1 0 = some rq ∧ aB x.2.2.2.1 1 = some zq ∧ aB x.2.2.2.1 2 = some (.row [.str p, .str e, .bool false, x.2.1] 24 0 0 false) } => (mkF 129 [(11, .int .i64 (s.1.1 : Nat)), (1, .ptr 0 0), (2, .ptr 1 0), (7, .ptr 2 0), (8, .lsl (aK S)), (9, .bool (s.1.2.2.2.2.any isR)), (10, .bool (s.1.2.2.2.2.any isO))], mkH s.1.2.2.1 s.1.2.2.2.1 0 [])) (μ := fun s => S.length - s.1.1) ⟨(0, .nilslice, 3, _, []), by simp, by simp, .inl ⟨rfl, rfl⟩, by simp, by simp, by simp [aB], by simp [aB], by simp [aB]⟩ (aF.sub (by simp [look])) ?_)
    rintro ⟨⟨i, v, N, L, D⟩, hi, hD, M1, hN1, hN2, L0, L1, L2⟩
    dsimp only at hi hD M1 hN1 hN2 L0 L1 L2
    refine aD aI _ _ _ _ ?_
    dsimp only
    by_cases hlt : i < S.length
    rotate_left
    · obtain rfl : i = S.length := by omega
      have q1 : decide ((S.length : Int) < (S.length : Int)) = false := by simp
      rw [List.take_length, ← hTS] at hD
      subst hD
      (try simp only [SS, cA, aA, Nat.reduceLT, Nat.reduceEqDiff, q1, aL])
      rcases M1 with ⟨rfl, hn⟩ | ⟨id, h1, h2, rfl, h4⟩
      · refine hR ⟨N, hN1, by omega⟩ _ _ ?_
        have hv : aK D = [] := by rw [hn]; rfl
        simp only [hv]
        refine aF.told (ds := []) (r := none) (by simp [look, toldR]) ?_
        intro x hx
        simp only [List.mem_cons, List.not_mem_nil, or_false] at hx
        rcases hx with rfl | rfl | rfl
        · exact ⟨by simp, _, rfl, .inr ⟨_, _, _, _, _, _, L2, rfl, .inl rfl, .inl rfl, .inl rfl, .inr ⟨rfl, rfl⟩, trivial⟩⟩
        · exact ⟨by simp, _, rfl, .inl L1⟩
        · exact ⟨by simp, _, rfl, .inl L0⟩
      · have hid0 : id < 16000 := by omega
        refine hR ⟨N, hN1, by omega⟩ _ _ ?_
        refine aF.fz (sz := 5) (len := D.length) id hid0 h4 (keepL_cellM _) (cellM_length _) (by simp [look, fzR]) ?_ (by simp)
        rw [chunk_cellM]
        intro x hx
        simp only [List.mem_cons, List.not_mem_nil, or_false] at hx
        rcases hx with rfl | rfl | rfl
        · exact ⟨by simp, by show 2 ≠ id; omega, _, rfl, .inr ⟨_, _, _, _, _, _, L2, rfl, .inl rfl, .inl rfl, .inl rfl, .inr ⟨.slack 0, rfl, rfl, rfl⟩, trivial⟩⟩
        · exact ⟨by simp, by show 1 ≠ id; omega, _, rfl, .inl L1⟩
        · exact ⟨by simp, by show 0 ≠ id; omega, _, rfl, .inl L0⟩
    obtain ⟨⟨mf, mt, mo, mh, mb⟩, hx⟩ : ∃ m, S[i]? = some m := ⟨S[i], List.getElem?_eq_getElem hlt⟩
    have hmb := hbm _ (List.mem_of_getElem? hx)
    dsimp only at hmb
    have q1 : decide ((i : Int) < (S.length : Int)) = true := by simp; omega
    have w1 : IntKind.i64.wrap ((i : Int) + 1) = ((i + 1 : Nat) : Int) := by rw [aP] <;> omega
    have htk : ((S.take (i + 1)).filter keepM).map compM = D ++ (if stayM ⟨mf, mt, mo, mh, mb⟩ = true then [] else [compM ⟨mf, mt, mo, mh, mb⟩]) := by
      rw [List.take_add_one, hx, List.filter_append, List.map_append, ← hD, ← fil1]; rfl
    have htl : D.length ≤ 10000 := by
      rw [hD, List.length_map]
      have h1 := List.length_filter_le keepM (S.take i)
      rw [List.length_take] at h1
      omega
    have h115 := e115 (m := ⟨mf, mt, mo, mh, mb⟩)
    dsimp only at h115
    have h116 := e116 (b := mb) hmb
    have hN0 : N < 16000 := by omega
    have hN01 : N + 1 < 16000 := by omega
    have n1 : (N = 2) = False := by simp only [eq_iff_iff, iff_false]; omega
    have n2 : (N + 1 = 2) = False := by simp only [eq_iff_iff, iff_false]; omega
    have n3 : (2 = N) = False := by simp only [eq_iff_iff, iff_false]; omega
    have n4 : (2 = N + 1) = False := by simp only [eq_iff_iff, iff_false]; omega
    have n5 : (N = N + 1) = False := by simp only [eq_iff_iff, iff_false]; omega
    cases hst : stayM ⟨mf, mt, mo, mh, mb⟩ with
    | true =>
      rw [hst] at h115
      rw [hst, if_pos rfl, List.append_nil] at htk
      (try simp only [SS, cA, aG, setRange, aA, Nat.reduceLT, Nat.reduceEqDiff, Nat.reduceAdd, q1, w1, aL, bD, bS, hx, hN0, h115])
      refine ⟨⟨(i + 1, v, N + 1, _, D), hlt, htk.symm, ML_new2 M1, by show 3 ≤ N + 1; omega, by show N + 1 ≤ 3 + 4 * (i + 1); omega, ?_, ?_, ?_⟩, by simp; omega, aF.sub (by simp [look])⟩
      · rw [aB.eq_2, if_neg (by omega), aB.eq_2, if_neg (by omega)]; exact L0
      · rw [aB.eq_2, if_neg (by omega), aB.eq_2, if_neg (by omega)]; exact L1
      · rw [aB.eq_2, if_neg (by omega), aB.eq_2, if_neg (by omega)]; exact L2
    | false =>
      rw [hst] at h115
      rw [hst, if_neg (by simp)] at htk
      have hR2 : (D ++ [compM ⟨mf, mt, mo, mh, mb⟩]).any isR = (D.any isR || (!mo && (mt == 4))) := by simp [isR, compM]
      have hO2 : (D ++ [compM ⟨mf, mt, mo, mh, mb⟩]).any isO = (D.any isO || mo) := by simp [isO, compM]
      have MM : ML 3 v D (N + 1) ((N, some (.row [.int .i64 mf, .int .i64 mt, .bool mo, .str mh, .lsl (aS (comp mb))] 27 0 0 false)) :: (N, some (.row [.int .i64 mf, .int .i64 mt, .bool mo, .str mh, .lsl (aS mb)] 27 0 0 false)) :: (N, some (.row [.int .i64 0, .int .i64 0, .bool false, .str [], .nilslice] 27 0 0 false)) :: L) := ML_up (ML_skip (Nat.le_refl _) (ML_skip (Nat.le_refl _) (ML_skip (Nat.le_refl _) M1)))
      obtain ⟨v2, l2, hap, M2, hL⟩ := eAppend_MT (x := compM ⟨mf, mt, mo, mh, mb⟩) (m := 0) (kk := []) MM (by omega) (by omega) htl
      have hL2 := hL 2 (by omega) (ML_ne M1 2 (by omega))
      have hLN := hL N (by omega) (ML_ne M1 N (by omega))
      have hL1 := hL 1 (by omega) (ML_ne M1 1 (by omega))
      have hL0 := hL 0 (by omega) (ML_ne M1 0 (by omega))
      rw [aB.eq_2, if_pos rfl] at hLN
      rw [aB.eq_2, if_neg (by omega), aB.eq_2, if_neg (by omega), aB.eq_2, if_neg (by omega), L2] at hL2
      rw [aB.eq_2, if_neg (by omega), aB.eq_2, if_neg (by omega), aB.eq_2, if_neg (by omega), L1] at hL1
      rw [aB.eq_2, if_neg (by omega), aB.eq_2, if_neg (by omega), aB.eq_2, if_neg (by omega), L0] at hL0
      unfold compM at hap
      dsimp only at hap
      obtain ⟨o1, o2, o3⟩ := ML_one M2
      obtain ⟨P0, hP0⟩ : ∃ b, b = D.any isO := ⟨_, rfl⟩
      obtain ⟨R0, hR0⟩ : ∃ b, b = D.any isR := ⟨_, rfl⟩
      rw [← hP0] at hO2 ⊢
      rw [← hR0] at hR2 ⊢
      have fin : ∀ f : List (Nat × EVal), (∀ p ∈ ([(11, EVal.int .i64 ((i + 1 : Nat) : Int)), (1, .ptr 0 0), (2, .ptr 1 0), (7, .ptr 2 0), (8, .lsl (aK S)), (9, .bool (R0 || (!mo && (mt == 4)))), (10, .bool (P0 || mo))] : List (Nat × EVal)), p.1 < 1000 ∧ look f p.1 = some p.2) → ∃ s2 : { x : Nat × EVal × Nat × List (Nat × Option EObj) × List Mv // x.1 ≤ S.length ∧ x.2.2.2.2 = ((S.take x.1).filter keepM).map compM ∧ ML 3 x.2.1 x.2.2.2.2 x.2.2.1 x.2.2.2.1 ∧ 3 ≤ x.2.2.1 ∧ x.2.2.1 ≤ 3 + 4 * x.1 ∧ aB x.2.2.2.1 0 = some rq ∧ aB x.2.2.2.1 1 = some zq ∧ aB x.2.2.2.1 2 = some (.row [.str p, .str e, .bool false, x.2.1] 24 0 0 false) }, S.length - s2.1.1 < S.length - i ∧ aF none Tryz.prog (mkF 129 f) (mkH (N + 1 + 1 + 1) ((2, some (.row [.str p, .str e, .bool false, v2] 24 0 0 false)) :: l2) 0 []) (mkF 129 [(11, .int .i64 (s2.1.1 : Nat)), (1, .ptr 0 0), (2, .ptr 1 0), (7, .ptr 2 0), (8, .lsl (aK S)), (9, .bool (s2.1.2.2.2.2.any isR)), (10, .bool (s2.1.2.2.2.2.any isO))]) (mkH s2.1.2.2.1 s2.1.2.2.2.1 0 []) := by
        intro f hf
        refine ⟨⟨(i + 1, v2, N + 1 + 1 + 1, (2, some (.row [.str p, .str e, .bool false, v2] 24 0 0 false)) :: l2, D ++ [compM ⟨mf, mt, mo, mh, mb⟩]), hlt, htk.symm, MLc (by omega) M2, by show 3 ≤ N + 1 + 1 + 1; omega, by show N + 1 + 1 + 1 ≤ 3 + 4 * (i + 1); omega, ?_, ?_, ?_⟩, by simp; omega, ?_⟩
        · rw [aB.eq_2, if_neg (by omega)]; exact hL0
        · rw [aB.eq_2, if_neg (by omega)]; exact hL1
        · rw [aB.eq_2, if_pos rfl]
        · simp only [hR2, hO2]; exact aF.sub hf
      clear M2 MM hL hL1 hL0 htk hR2 hO2 hP0 hR0 htl hmb
      cases P0 <;> cases R0 <;> cases mo <;> cases ht : (mt == 4) <;> ((try simp only [SS, cA, aG, setRange, bK, aA, aE, Nat.reduceLT, Nat.reduceEqDiff, Nat.reduceAdd, Nat.reduceMul, Nat.reduceLeDiff, reduceCtorEq, q1, w1, aL, bD, bS, hx, hN0, n1, n3, L2, h115, h116, ↓hap, hL2, hLN, o1, o3, ht]); exact fin _ (by simp [look, ht]))
  rintro ⟨N, hN1, hN2⟩
  dsimp only
  obtain ⟨r, hr⟩ : ∃ b, b = T.any isR := ⟨_, rfl⟩
  obtain ⟨o, ho⟩ : ∃ b, b = T.any isO := ⟨_, rfl⟩
  rw [← hr, ← ho] at hQ htok
  rw [← hr, ← ho]
  obtain ⟨q, hq⟩ : ∃ q : Pl, q = ⟨p, e, late && (r && o), T⟩ := ⟨_, rfl⟩
  have h20 : F20 [.agg [.str p, .str e, .bool (late && (r && o)), .lsl (aK T)]] = some (.int .i64 (plE0 q)) := by
    rw [hq]; simp only [F20, dMoves_e htok.1 htok.2, Option.map_some]; rfl
  rw [← hq] at hQ
  have hqe : plE q = .agg [.str p, .str e, .bool (late && (r && o)), .lsl (aK T)] := by rw [hq]; rfl
  obtain ⟨z, hz⟩ : ∃ z, z = plE0 q := ⟨_, rfl⟩
  rw [← hz] at hQ h20
  clear hq htok hz
  have hN0 : N < 16000 := by omega
  -- late, if there is a run and an out
  refine Top.join (σ := Unit) aI (fun _ => mkF 129 [(1, .ptr 0 0), (2, .ptr 1 0), (7, .ptr 2 0)]) (fun _ => mkH N [(2, some (.row [.str p, .str e, .bool (late && (r && o)), .lsl (aK T)] 24 0 0 false)), (1, some zq)] 0 []) ?_ ?_
  · intro R hR
    rw [hrq]
    clear hrq hQ hV h20 hqe hr ho hTS
    cases late <;> cases r <;> cases o <;> ((try simp only [SS, cA, setRange, aA, Nat.reduceLT, Nat.reduceEqDiff, Nat.reduceAdd, Nat.reduceLeDiff, reduceCtorEq]); exact hR () _ _ (aF.trans (aF.sub (by simp [look])) (aF.sameH (by simp [aB]))))
  intro _
  generalize (late && (r && o)) = w at *
  unfold zq
  refine aD aI _ _ _ _ ?_
  cases z0 : (z == 0) with
  | false =>
    have z1 : z ≠ 0 := by simpa using z0
    rw [if_pos z1] at hQ
    (try simp only [SS, cA, aG, setRange, aA, aV, Nat.reduceLT, Nat.reduceEqDiff, Nat.reduceAdd, h20, z0])
    (refine hQ _ _ _ (aC (by first | exact .inl rfl | exact .inr rfl) ?_); simp only [SS, cA, Nat.reduceLT, Nat.reduceEqDiff, Nat.reduceAdd, plE, pl0])
    rfl
  | true =>
    have z1 : z = 0 := by simpa using z0
    rw [if_neg (by simpa using z1), hqe] at hQ
    (try simp only [SS, cA, aG, setRange, aA, Nat.reduceLT, Nat.reduceEqDiff, Nat.reduceAdd, h20, z0])
    (refine hQ _ _ _ (aC (by first | exact .inl rfl | exact .inr rfl) ?_); simp only [SS, cA, Nat.reduceLT, Nat.reduceEqDiff, Nat.reduceAdd])
end Go.Ev
