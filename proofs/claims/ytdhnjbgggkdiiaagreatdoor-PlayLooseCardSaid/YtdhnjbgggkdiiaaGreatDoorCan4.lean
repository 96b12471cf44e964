import Derived.Test.YtdhnjbgggkdiiaaGreatDoorCan3
set_option linter.unusedSimpArgs false
set_option linter.unusedVariables false
namespace Go.Ev
open Go.RowKit Go.Proofs
set_option linter.defProp false
def TF120Can4 := And.intro (And.intro (And.intro (And.intro (And.intro (@Tryz.underlying3) (@sz3)) (And.intro (@bK) (And.intro (@I3s) (@I3b)))) (And.intro (And.intro (@bJ) (And.intro (@bL) (@Tryz.underlying4))) (And.intro (@sz4) (And.intro (@cT) (@I4s))))) (And.intro (And.intro (And.intro (@I4b) (@cS)) (And.intro (@cU) (And.intro (@Tryz.underlying9) (@sz9)))) (And.intro (And.intro (@bZ) (And.intro (@I9s) (@I9b))) (And.intro (@bX) (And.intro (@cA) (@Tryz.underlying22)))))) (And.intro (And.intro (And.intro (And.intro (@dX) (@cZ)) (And.intro (@dY) (And.intro (@dZ) (@cX)))) (And.intro (And.intro (@dA) (And.intro (@Tryz.underlying25) (@dI))) (And.intro (@bQ) (And.intro (@dJ) (@dK))))) (And.intro (And.intro (And.intro (@bP) (@bR)) (And.intro (@Tryz.underlying27) (And.intro (@dN) (@cV)))) (And.intro (And.intro (@cF) (And.intro (@dO) (@dP))) (And.intro (@cC) (And.intro (@cG) (@Tryz.results120))))))
set_option maxRecDepth 20000
set_option maxHeartbeats 8000000

/-! moves that do not stay, in memory of their own -/
def keepM (m : Mv) : Bool := !stayM m
theorem MLc {lo : Nat} {v : EVal} {ms : List Mv} {N j : Nat} {l : List (Nat × Option EObj)} {x : Option EObj} (hj : j < lo) (h : ML lo v ms N l) : ML lo v ms N ((j, x) :: l) := by
  rcases h with h | ⟨id, h1, h2, h3, h4⟩
  · exact .inl h
  · exact .inr ⟨id, h1, h2, h3, by rw [aB.eq_2, if_neg (by omega)]; exact h4⟩
theorem ML_new2 {lo : Nat} {v : EVal} {ms : List Mv} {N : Nat} {l : List (Nat × Option EObj)} {x y : Option EObj} (h : ML lo v ms N l) : ML lo v ms (N + 1) ((N, x) :: (N, y) :: l) := by
  rcases h with h | ⟨id, h1, h2, h3, h4⟩
  · exact .inl h
  · exact .inr ⟨id, h1, by omega, h3, by rw [aB.eq_2, if_neg (by omega), aB.eq_2, if_neg (by omega)]; exact h4⟩
theorem eAppend_MS {lo : Nat} {v : EVal} {ms : List Mv} {x : Mv} {N m : Nat} {l : List (Nat × Option EObj)} {kk : List (Nat × Option (Nat × TypeId))} (h : ML lo v ms N l) (hlo : lo ≤ N) (hN : N + 1 < 16000) (hlen : ms.length ≤ 10000) :
    ∃ v2 l2, eAppend Tryz.prog (mkH (N + 1) ((N, some (.row [.int .i64 x.f, .int .i64 x.t, .bool x.o, .str x.h, .lsl (aS x.b)] 27 0 0 false)) :: l) m kk) 22 v (.slice N 0 1 (.exact 1)) = some (v2, mkH (N + 1 + 1) l2 m kk) ∧ ML lo v2 (ms ++ [x]) (N + 1 + 1) l2 ∧ ∀ i, i < lo → aB l2 i = aB l i := by
  have hs : aV ms ++ [.int .i64 x.f, .int .i64 x.t, .bool x.o, .str x.h, .lsl (aS x.b)] = aV (ms ++ [x]) := by simp [aV, dE]
  have hn0 : N < 16000 := by omega
  rcases h with ⟨rfl, rfl⟩ | ⟨id, hlo2, hid, rfl, hl⟩
  · have g1 : decide (64 * 1 ≤ 1000000) = true := by decide
    refine ⟨.slice (N + 1) 0 1 (.slack 0), (N + 1, some (.row [.int .i64 x.f, .int .i64 x.t, .bool x.o, .str x.h, .lsl (aS x.b)] 27 0 0 true)) :: (N, some (.row [.int .i64 x.f, .int .i64 x.t, .bool x.o, .str x.h, .lsl (aS x.b)] 27 0 0 false)) :: l, ?_, .inr ⟨N + 1, by omega, by omega, rfl, by simp [aB, aV, dE]⟩, ?_⟩
    · simp only [SS, TF120Can4, Nat.reduceAdd, Nat.reduceMul, Nat.reduceLeDiff, reduceCtorEq, hn0]
    · intro i hi
      rw [aB.eq_2, if_neg (by omega), aB.eq_2, if_neg (by omega)]
  · have hid0 : id < 16000 := by omega
    have hne : (N = id) = False := by simp only [eq_iff_iff, iff_false]; omega
    have g1 : decide (64 * (ms.length + 1) ≤ 1000000) = true := by simp; omega
    have g3 : ((ms.length + 1) * 5 ≤ ms.length * 5) = False := by simp only [eq_iff_iff, iff_false]; omega
    refine ⟨.slice (N + 1) 0 (ms.length + 1) (.slack 0), (N + 1, some (.row (aV ms ++ [.int .i64 x.f, .int .i64 x.t, .bool x.o, .str x.h, .lsl (aS x.b)]) 27 0 0 true)) :: (id, none) :: (N, some (.row [.int .i64 x.f, .int .i64 x.t, .bool x.o, .str x.h, .lsl (aS x.b)] 27 0 0 false)) :: l, ?_, .inr ⟨N + 1, by omega, by omega, by simp, by rw [hs]; simp [aB]⟩, ?_⟩
    · simp only [SS, TF120Can4, setRange, Nat.reduceAdd, Nat.reduceMul, reduceCtorEq, hid0, hn0, hne, hl, g1, g3, cellM_length, cellM_take]
    · intro i hi
      rw [aB.eq_2, if_neg (by omega), aB.eq_2, if_neg (by omega), aB.eq_2, if_neg (by omega)]
section
variable {N id : Nat} {l : List (Nat × Option EObj)} {k : EVal → H → Prop} {cap : ECap} {sl : Bool}
theorem ct120 {c : List Mv} (hc : c.length ≤ 9) (hid : id < N) (hN : N < 8000) (hl : aB l id = some (.row (aV c) 27 0 0 sl))
    (hk : ∀ N' l' v, ML N v (c.filter keepM) N' l' → N ≤ N' → N' ≤ N + 3 * c.length → (∀ i, i < N → aB l' i = aB l i) → k v (mkH N' l' 0 [])) :
    cE Tryz.prog gT (dR KC) 120 [.slice id 0 c.length cap, .func 150 []] (mkH N l 0 []) k := by
  refine cE.intro Tryz.func120 rfl ?_
  refine Top.view (aF.start (n := 23) rfl (by simp)) (aD aJ _ _ _ _ ?_)
  (try simp only [aI, SS, TF120Can4, aA, Nat.reduceLT, Nat.reduceEqDiff, reduceCtorEq])
  refine aT (Top.loop (I := fun s : { s : Nat × EVal × Nat × List (Nat × Option EObj) // s.1 ≤ c.length ∧ ML N s.2.1 ((c.take s.1).filter keepM) s.2.2.1 s.2.2.2 ∧ N ≤ s.2.2.1 ∧ s.2.2.1 ≤ N + 3 * s.1 ∧ ∀ i, i < N → aB s.2.2.2 i = aB l i } => (mkF 23 [(10, .int .i64 (s.1.1 : Nat)), (9, .int .i64 (c.length : Int)), (8, .slice id 0 c.length cap), (5, s.1.2.1), (1, .func 150 [])], mkH s.1.2.2.1 s.1.2.2.2 0 [])) (μ := fun s => c.length - s.1.1) ⟨(0, .nilslice, N, l), by simp, .inl ⟨rfl, rfl⟩, Nat.le_refl _, by simp, fun _ _ => rfl⟩ (aF.sub (by simp [look])) ?_)
  rintro ⟨⟨j, v, N', l'⟩, hj, hM, hN1, hN2, hL⟩
  dsimp only at hj hM hN1 hN2 hL
  refine aD aJ _ _ _ _ ?_
  dsimp only
  have hl' : aB l' id = some (.row (aV c) 27 0 0 sl) := (hL id hid).trans hl
  by_cases hlt : j < c.length
  rotate_left
  · obtain rfl : j = c.length := by omega
    have q1 : decide ((c.length : Int) < (c.length : Int)) = false := by simp
    rw [List.take_length] at hM
    (try simp only [SS, aA, Nat.reduceLT, Nat.reduceEqDiff, q1])
    exact cK (es := [v]) (.inl rfl) rfl (by simp only [SS, TF120Can4, Nat.reduceLT, Nat.reduceEqDiff]) (hk N' l' v hM hN1 hN2 hL)
  have hid0 : id < 16000 := by omega
  have hN0 : N' < 16000 := by omega
  have q1 : decide ((j : Int) < (c.length : Int)) = true := by simp; omega
  have q2 : IntKind.i64.wrap ((j : Int) + 1) = ((j + 1 : Nat) : Int) := by rw [aP] <;> omega
  have b1 : ((j : Int) < (c.length : Int)) = True := by simp only [eq_iff_iff, iff_true]; omega
  have g1 := cellM_at (d := c) (j := j) hlt
  have ht : c.take (j + 1) = c.take j ++ [mAt c j] := by
    rw [List.take_add_one, List.getElem?_eq_getElem hlt]
    simp [mAt, hlt]
  have hf : (c.take (j + 1)).filter keepM = (c.take j).filter keepM ++ (if keepM (mAt c j) = true then [mAt c j] else []) := by
    rw [ht, List.filter_append, List.filter_cons, List.filter_nil]
  have h150 := e150 (m := mAt c j)
  rw [show (!stayM (mAt c j)) = keepM (mAt c j) from rfl] at h150
  generalize mAt c j = M at *
  cases hp : keepM M with
  | false =>
    rw [hp] at h150
    rw [hp, if_neg (by simp), List.append_nil] at hf
    (try simp only [SS, TF120Can4, aH, setRange, aA, Nat.reduceLT, Nat.reduceEqDiff, Nat.reduceAdd, q2, b1, hid0, hl', g1, hN0, call150, h150])
    exact ⟨⟨(j + 1, v, N' + 1, _), hlt, by rw [hf]; exact ML_new2 hM, by show N ≤ N' + 1; omega, by show N' + 1 ≤ N + 3 * (j + 1); omega, fun i hi => by rw [aB.eq_2, if_neg (by omega), aB.eq_2, if_neg (by omega)]; exact hL i hi⟩, by simp; omega, aF.sub (by simp [look])⟩
  | true =>
    rw [hp] at h150
    rw [hp, if_pos rfl] at hf
    have hlen : ((c.take j).filter keepM).length ≤ 10000 := by
      have h1 := List.length_filter_le keepM (c.take j)
      rw [List.length_take] at h1
      omega
    obtain ⟨v2, l2, hap, M2, S2⟩ := eAppend_MS (x := M) (m := 0) (kk := []) (ML_new2 (x := some (.row [.int .i64 M.f, .int .i64 M.t, .bool M.o, .str M.h, .lsl (aS M.b)] 27 0 0 false)) (y := some (.row [.int .i64 0, .int .i64 0, .bool false, .str [], .nilslice] 27 0 0 false)) hM) (by omega) (by omega) hlen
    have hN1' : N' + 1 < 16000 := by omega
    (try simp only [SS, TF120Can4, aH, setRange, bS, aA, aE, Nat.reduceLT, Nat.reduceEqDiff, Nat.reduceAdd, Nat.reduceMul, Nat.reduceLeDiff, q2, b1, hid0, hl', g1, hN0, call150, h150, ↓hap])
    exact ⟨⟨(j + 1, v2, N' + 1 + 1 + 1, l2), hlt, by rw [hf]; exact M2, by show N ≤ N' + 1 + 1 + 1; omega, by show N' + 1 + 1 + 1 ≤ N + 3 * (j + 1); omega, fun i hi => by rw [S2 i hi, aB.eq_2, if_neg (by omega), aB.eq_2, if_neg (by omega)]; exact hL i hi⟩, by simp; omega, aF.sub (by simp [look])⟩
end
end Go.Ev
