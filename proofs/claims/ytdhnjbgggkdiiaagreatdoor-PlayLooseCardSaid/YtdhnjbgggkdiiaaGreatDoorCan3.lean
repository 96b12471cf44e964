import Derived.Test.YtdhnjbgggkdiiaaGreatDoorCan2
import Derived.Test.YtdhnjbgggkdiiaaGreatDoorParseV
set_option linter.unusedSimpArgs false
set_option linter.unusedVariables false
namespace Go.Ev
open Go.RowKit Go.Proofs
set_option linter.defProp false
def TF147Can3 := And.intro (And.intro (And.intro (And.intro (And.intro (@Tryz.underlying3) (And.intro (@sz3) (@bK))) (And.intro (And.intro (@I3s) (@I3b)) (And.intro (@bJ) (@bL)))) (And.intro (And.intro (And.intro (@Tryz.underlying4) (@sz4)) (And.intro (@cT) (@I4s))) (And.intro (And.intro (@I4b) (@cS)) (And.intro (@cU) (@Tryz.underlying9))))) (And.intro (And.intro (And.intro (@sz9) (And.intro (@bZ) (@I9s))) (And.intro (And.intro (@I9b) (@bX)) (And.intro (@cA) (@Tryz.underlying22)))) (And.intro (And.intro (And.intro (@dX) (@cZ)) (And.intro (@dY) (@dZ))) (And.intro (And.intro (@cX) (@dA)) (And.intro (@Tryz.underlying25) (@dI)))))) (And.intro (And.intro (And.intro (And.intro (@bQ) (And.intro (@dJ) (@dK))) (And.intro (And.intro (@bP) (@bR)) (And.intro (@Tryz.underlying27) (@dN)))) (And.intro (And.intro (And.intro (@cV) (@cF)) (And.intro (@dO) (@dP))) (And.intro (And.intro (@cC) (@cG)) (And.intro (@Tryz.underlying174) (@sz174))))) (And.intro (And.intro (And.intro (@info174) (And.intro (@I174s) (@I174b))) (And.intro (And.intro (@zero174) (@grow174)) (And.intro (@Tryz.underlying195) (@sz195)))) (And.intro (And.intro (And.intro (@info195) (@I195s)) (And.intro (@I195b) (@zero195))) (And.intro (And.intro (@grow195) (@call172)) (And.intro (@call173) (@Tryz.results147))))))
def TF172Can3 := And.intro (And.intro (And.intro (And.intro (And.intro (And.intro (@Tryz.underlying3) (@sz3)) (And.intro (@bK) (@I3s))) (And.intro (And.intro (@I3b) (@bJ)) (And.intro (@bL) (@Tryz.underlying4)))) (And.intro (And.intro (And.intro (@sz4) (@cT)) (And.intro (@I4s) (@I4b))) (And.intro (And.intro (@cS) (@cU)) (And.intro (@Tryz.underlying9) (@sz9))))) (And.intro (And.intro (And.intro (And.intro (@bZ) (@I9s)) (And.intro (@I9b) (@bX))) (And.intro (And.intro (@cA) (@Tryz.underlying22)) (And.intro (@dX) (@cZ)))) (And.intro (And.intro (And.intro (@dY) (@dZ)) (And.intro (@cX) (@dA))) (And.intro (And.intro (@Tryz.underlying25) (@dI)) (And.intro (@bQ) (And.intro (@dJ) (@dK))))))) (And.intro (And.intro (And.intro (And.intro (And.intro (@bP) (@bR)) (And.intro (@Tryz.underlying27) (@dN))) (And.intro (And.intro (@cV) (@cF)) (And.intro (@dO) (@dP)))) (And.intro (And.intro (And.intro (@cC) (@cG)) (And.intro (@Tryz.underlying174) (@sz174))) (And.intro (And.intro (@info174) (@I174s)) (And.intro (@I174b) (And.intro (@zero174) (@grow174)))))) (And.intro (And.intro (And.intro (And.intro (@Tryz.underlying203) (@sz203)) (And.intro (@info203) (@I203s))) (And.intro (And.intro (@I203b) (@zero203)) (And.intro (@grow203) (@call172)))) (And.intro (And.intro (And.intro (@call186) (@call187)) (And.intro (@call188) (@call189))) (And.intro (And.intro (@call190) (@call191)) (And.intro (@call192) (And.intro (@call193) (@Tryz.results172)))))))
def TF186Can3 := And.intro (And.intro (And.intro (And.intro (And.intro (@Tryz.underlying3) (@sz3)) (And.intro (@bK) (And.intro (@I3s) (@I3b)))) (And.intro (And.intro (@bJ) (And.intro (@bL) (@Tryz.underlying4))) (And.intro (@sz4) (And.intro (@cT) (@I4s))))) (And.intro (And.intro (And.intro (@I4b) (@cS)) (And.intro (@cU) (And.intro (@Tryz.underlying9) (@sz9)))) (And.intro (And.intro (@bZ) (And.intro (@I9s) (@I9b))) (And.intro (@bX) (And.intro (@cA) (@Tryz.underlying22)))))) (And.intro (And.intro (And.intro (And.intro (@dX) (@cZ)) (And.intro (@dY) (And.intro (@dZ) (@cX)))) (And.intro (And.intro (@dA) (And.intro (@Tryz.underlying25) (@dI))) (And.intro (@bQ) (And.intro (@dJ) (@dK))))) (And.intro (And.intro (And.intro (@bP) (@bR)) (And.intro (@Tryz.underlying27) (And.intro (@dN) (@cV)))) (And.intro (And.intro (@cF) (And.intro (@dO) (@dP))) (And.intro (@cC) (And.intro (@cG) (@Tryz.results186))))))
set_option maxRecDepth 20000
set_option maxHeartbeats 8000000

/-! moves with From descending, sorted in place -/
theorem u64_sm : ∀ n, n < 10 → IntKind.u64.wrap ((n : Nat) : Int) = n := by decide
def mz : Mv := ⟨0, 0, false, [], []⟩
def mAt (d : List Mv) (j : Nat) : Mv := d.getD j mz
def swapM (d : List Mv) (i j : Nat) : List Mv := (d.set i (mAt d j)).set j (mAt d i)
def sinkM (d : List Mv) : Nat → List Mv
  | 0 => d
  | j + 1 => if (mAt d j).f < (mAt d (j + 1)).f then sinkM (swapM d (j + 1) j) j else d
def sortN : Nat → Nat → List Mv → List Mv
  | 0, _, d => d
  | n + 1, i, d => sortN n (i + 1) (sinkM d i)
def sortM (d : List Mv) : List Mv := sortN (d.length - 1) 1 d
theorem swapM_len (d : List Mv) (i j : Nat) : (swapM d i j).length = d.length := by simp [swapM]
theorem sinkM_len : ∀ (j : Nat) (d : List Mv), (sinkM d j).length = d.length
  | 0, _ => rfl
  | j + 1, d => by
    unfold sinkM
    split
    · rw [sinkM_len j, swapM_len]
    · rfl
theorem sortN_len : ∀ (n i : Nat) (d : List Mv), (sortN n i d).length = d.length
  | 0, _, _ => rfl
  | n + 1, i, d => by rw [sortN, sortN_len n, sinkM_len]
theorem sortM_len (d : List Mv) : (sortM d).length = d.length := sortN_len _ _ _
theorem sinkM_mem {q : Mv → Prop} : ∀ (j : Nat) (d : List Mv), j < d.length ∨ d = [] → (∀ m ∈ d, q m) → ∀ m ∈ sinkM d j, q m
  | 0, _, _, h => h
  | j + 1, d, hj, h => by
    unfold sinkM
    split
    · rcases hj with hj | rfl
      · have ha : ∀ i, i < d.length → q (mAt d i) := fun i hi => by
          have : mAt d i = d[i] := by simp [mAt, hi]
          rw [this]; exact h _ (List.getElem_mem hi)
        refine sinkM_mem j _ (.inl (by rw [swapM_len]; omega)) fun m hm => ?_
        unfold swapM at hm
        rcases List.mem_or_eq_of_mem_set hm with hm | rfl
        · rcases List.mem_or_eq_of_mem_set hm with hm | rfl
          · exact h m hm
          · exact ha j (by omega)
        · exact ha (j + 1) hj
      · exact fun m hm => by rw [show swapM [] (j + 1) j = [] from rfl] at hm; exact sinkM_mem j [] (.inr rfl) (by simp) m hm
    · exact h
theorem sortN_mem {q : Mv → Prop} : ∀ (n i : Nat) (d : List Mv), i + n ≤ d.length → (∀ m ∈ d, q m) → ∀ m ∈ sortN n i d, q m
  | 0, _, _, _, h => h
  | n + 1, i, d, hi, h => by
    unfold sortN
    exact sortN_mem n (i + 1) _ (by rw [sinkM_len]; omega) (sinkM_mem i d (.inl (by omega)) h)
theorem sortM_mem {q : Mv → Prop} {d : List Mv} (h : ∀ m ∈ d, q m) : ∀ m ∈ sortM d, q m := by
  unfold sortM
  by_cases hd : d.length = 0
  · rw [hd]; exact h
  · exact sortN_mem _ _ _ (by omega) h
theorem cmpI_neg {a b : Int} : decide (cmpI a b < 0) = decide (a < b) := by
  unfold cmpI
  split
  · simp [*]
  · split <;> simp [*]
theorem cellM_at {d : List Mv} {j : Nat} (h : j < d.length) : ((aV d).drop (j * 5)).take 5 = [.int .i64 (mAt d j).f, .int .i64 (mAt d j).t, .bool (mAt d j).o, .str (mAt d j).h, .lsl (aS (mAt d j).b)] := by
  have e1 : d = d.take j ++ mAt d j :: d.drop (j + 1) := by
    have : mAt d j = d[j] := by simp [mAt, h]
    rw [this, ← List.drop_eq_getElem_cons h, List.take_append_drop]
  have e2 : aV d = aV (d.take j) ++ (dE (mAt d j) ++ aV (d.drop (j + 1))) := by
    conv => lhs; rw [e1]
    simp [aV]
  have e3 : (aV (d.take j)).length = j * 5 := by rw [cellM_length, List.length_take, Nat.min_eq_left (by omega)]
  rw [e2, List.drop_left' e3, List.take_left' (show (dE (mAt d j)).length = 5 from rfl)]; rfl
theorem setRange_cellM {d : List Mv} {j : Nat} {m : Mv} (h : j < d.length) : setRange (aV d) (j * 5) [.int .i64 m.f, .int .i64 m.t, .bool m.o, .str m.h, .lsl (aS m.b)] = aV (d.set j m) := by
  have e1 : d = d.take j ++ mAt d j :: d.drop (j + 1) := by
    have : mAt d j = d[j] := by simp [mAt, h]
    rw [this, ← List.drop_eq_getElem_cons h, List.take_append_drop]
  have e2 : aV d = aV (d.take j) ++ (dE (mAt d j) ++ aV (d.drop (j + 1))) := by
    conv => lhs; rw [e1]
    simp [aV]
  have e3 : (aV (d.take j)).length = j * 5 := by rw [cellM_length, List.length_take, Nat.min_eq_left (by omega)]
  have e4 : d.set j m = d.take j ++ m :: d.drop (j + 1) := by
    rw [List.set_eq_take_append_cons_drop, if_pos h]
  have e5 : aV (d.set j m) = aV (d.take j) ++ (dE m ++ aV (d.drop (j + 1))) := by rw [e4]; simp [aV]
  unfold setRange
  rw [e5, e2, List.take_left' e3, show j * 5 + [EVal.int .i64 m.f, .int .i64 m.t, .bool m.o, .str m.h, .lsl (aS m.b)].length = j * 5 + 5 from rfl, ← List.drop_drop, List.drop_left' e3, List.drop_left' (show (dE (mAt d j)).length = 5 from rfl), List.append_assoc]; rfl
abbrev KC : Table := [(148, F148), (173, F173), (150, F150), (153, F153)]
section
variable {N m id : Nat} {l : List (Nat × Option EObj)} {kk : List (Nat × Option (Nat × TypeId))} {k : EVal → H → Prop} {cap : ECap} {sl : Bool}
theorem ct186 {c : List Mv} (hc : c.length ≤ 9) (hid : id < 16000) (hl : aB l id = some (.row (aV c) 27 0 0 sl))
    (hk : ∀ l', aB l' id = some (.row (aV (sortM c)) 27 0 0 sl) → (∀ j, j ≠ id → aB l' j = aB l j) → k (.tup []) (mkH N l' m kk)) :
    cE Tryz.prog gT (dR KC) 186 [.slice id 0 c.length cap, .int .i64 0, .int .i64 c.length, .func 148 []] (mkH N l m kk) k := by
  refine cE.intro Tryz.func186 rfl ?_
  refine Top.view (aF.start (n := 53) rfl (by simp)) (aD aJ _ _ _ _ ?_)
  have w1 : IntKind.i64.wrap ((0 : Int) + 1) = 1 := by decide
  (try simp only [aI, SS, aA, Nat.reduceLT, Nat.reduceEqDiff, Nat.reduceAdd, reduceCtorEq, w1])
  refine aT (Top.loop (I := fun s : { s : List Mv × Nat × List (Nat × Option EObj) // s.1.length = c.length ∧ 1 ≤ s.2.1 ∧ s.2.1 ≤ 10 ∧ sortN (c.length - s.2.1) s.2.1 s.1 = sortM c ∧ aB s.2.2 id = some (.row (aV s.1) 27 0 0 sl) ∧ ∀ j, j ≠ id → aB s.2.2 j = aB l j } => (mkF 53 [(8, .int .i64 (s.1.2.1 : Nat)), (0, .slice id 0 c.length cap), (1, .int .i64 0), (2, .int .i64 c.length), (3, .func 148 [])], mkH N s.1.2.2 m kk)) (μ := fun s => 10 - s.1.2.1) ⟨(c, 1, l), rfl, by simp, by simp, rfl, hl, fun _ _ => rfl⟩ (aF.sub (by simp [look])) ?_)
  rintro ⟨⟨d, i, l1⟩, hd, hi1, hi10, hs, hl1, ho1⟩
  dsimp only at hd hi1 hi10 hs hl1 ho1
  refine aD aJ _ _ _ _ ?_
  dsimp only
  by_cases hlt : i < c.length
  rotate_left
  · have q1 : decide ((i : Int) < (c.length : Int)) = false := by simp; omega
    rw [show c.length - i = 0 by omega] at hs
    (try simp only [SS, aA, Nat.reduceLT, Nat.reduceEqDiff, reduceCtorEq, q1])
    exact cK (es := []) (.inr rfl) rfl rfl (hk l1 (by rw [← hs]; exact hl1) ho1)
  have q1 : decide ((i : Int) < (c.length : Int)) = true := by simp; omega
  rw [show c.length - i = (c.length - (i + 1)) + 1 by omega, sortN] at hs
  (try simp only [SS, aA, Nat.reduceLT, Nat.reduceEqDiff, reduceCtorEq, q1])
  refine aT (Top.loop (I := fun s : { s : List Mv × Nat × List (Nat × Option EObj) // s.1.length = c.length ∧ s.2.1 ≤ i ∧ sortN (c.length - (i + 1)) (i + 1) (sinkM s.1 s.2.1) = sortM c ∧ aB s.2.2 id = some (.row (aV s.1) 27 0 0 sl) ∧ ∀ j, j ≠ id → aB s.2.2 j = aB l j } => (mkF 53 [(9, .int .i64 (s.1.2.1 : Nat)), (8, .int .i64 (i : Nat)), (0, .slice id 0 c.length cap), (1, .int .i64 0), (2, .int .i64 c.length), (3, .func 148 [])], mkH N s.1.2.2 m kk)) (μ := fun s => s.1.2.1) ⟨(d, i, l1), hd, Nat.le_refl i, hs, hl1, ho1⟩ (aF.sub (by simp [look])) ?_)
  rintro ⟨⟨d2, j, l2⟩, hd2, hji, hs2, hl2, ho2⟩
  dsimp only at hd2 hji hs2 hl2 ho2
  refine aD aJ _ _ _ _ ?_
  dsimp only
  have q2 : IntKind.i64.wrap ((i : Int) + 1) = ((i + 1 : Nat) : Int) := by rw [aP] <;> omega
  cases j with
  | zero =>
    have b0 : decide ((0 : Int) < 0) = false := by decide
    (try simp only [SS])
    refine bA (Top.draw mixed aJ (by kernel_rfl) ?_)
    (try simp only [SS, aA, Nat.reduceLT, Nat.reduceEqDiff, reduceCtorEq, b0])
    refine ⟨by kernel_rfl, ?_⟩
    (try simp only [q2])
    exact ⟨⟨(d2, i + 1, l2), hd2, by show 1 ≤ i + 1; omega, by show i + 1 ≤ 10; omega, hs2, hl2, ho2⟩, by show 10 - (i + 1) < 10 - i; omega, aF.sub (by simp [look])⟩
  | succ j =>
  have b0 : decide ((0 : Int) < ((j + 1 : Nat) : Int)) = true := by rw [decide_eq_true_iff]; omega
  have b1 : IntKind.i64.wrap (((j + 1 : Nat) : Int) - 1) = (j : Int) := by rw [aP] <;> omega
  have b2 : (((j + 1 : Nat) : Int) < (c.length : Int)) = True := by simp only [eq_iff_iff, iff_true]; omega
  have b3 : ((j : Int) < (c.length : Int)) = True := by simp only [eq_iff_iff, iff_true]; omega
  have g1 := cellM_at (d := d2) (j := j + 1) (by omega)
  have g2 := cellM_at (d := d2) (j := j) (by omega)
  have h148 : F148 [.agg [.int .i64 (mAt d2 (j + 1)).f, .int .i64 (mAt d2 (j + 1)).t, .bool (mAt d2 (j + 1)).o, .str (mAt d2 (j + 1)).h, .lsl (aS (mAt d2 (j + 1)).b)], .agg [.int .i64 (mAt d2 j).f, .int .i64 (mAt d2 j).t, .bool (mAt d2 j).o, .str (mAt d2 j).h, .lsl (aS (mAt d2 j).b)]] = some (.int .i64 (cmpI (mAt d2 j).f (mAt d2 (j + 1)).f)) := rfl
  have hcm := cmpI_neg (a := (mAt d2 j).f) (b := (mAt d2 (j + 1)).f)
  have s1 := setRange_cellM (d := d2) (j := j + 1) (m := mAt d2 j) (by omega)
  have s2 : setRange (aV (d2.set (j + 1) (mAt d2 j))) (j * 5) _ = aV (swapM d2 (j + 1) j) := setRange_cellM (m := mAt d2 (j + 1)) (by simp; omega)
  have c3 : ((j + 1) * 5 + 5 ≤ d2.length * 5) = True := by simp only [eq_iff_iff, iff_true]; omega
  have c4 : (j * 5 + 5 ≤ d2.length * 5) = True := by simp only [eq_iff_iff, iff_true]; omega
  unfold sinkM at hs2
  (try simp only [SS])
  refine bA (Top.draw mixed aJ (by kernel_rfl) ?_)
  cases hcmp : decide ((mAt d2 j).f < (mAt d2 (j + 1)).f) with
  | false =>
    rw [hcmp] at hcm
    rw [if_neg (by simpa using hcmp)] at hs2
    (try simp only [SS, TF186Can3, aH, aA, Nat.reduceLT, Nat.reduceEqDiff, Nat.reduceAdd, reduceCtorEq, b0, b1, b2, b3, hid, hl2, g1, g2, call148, h148, hcm])
    refine ⟨by kernel_rfl, ?_⟩
    (try simp only [q2])
    exact ⟨⟨(d2, i + 1, l2), hd2, by show 1 ≤ i + 1; omega, by show i + 1 ≤ 10; omega, hs2, hl2, ho2⟩, by show 10 - (i + 1) < 10 - i; omega, aF.sub (by simp [look])⟩
  | true =>
    rw [hcmp] at hcm
    rw [if_pos (by simpa using hcmp)] at hs2
    (try simp only [SS, TF186Can3, aH, Nat.reduceLT, Nat.reduceEqDiff, Nat.reduceAdd, reduceCtorEq, b0, b1, b2, b3, hid, hl2, g1, g2, call148, h148, hcm])
    refine ⟨by kernel_rfl, ?_⟩
    (try simp only [aI, SS, TF186Can3, aH, setRange, bS, aA, aO, bN, bG, aY, aE, Nat.reduceLT, Nat.reduceEqDiff, Nat.reduceAdd, Nat.reduceMul, Nat.reduceSub, Nat.reduceLeDiff, Nat.reduceBEq, reduceCtorEq])
    refine bA (Top.draw mixed aJ (by kernel_rfl) ?_)
    (try simp only [SS, TF186Can3, aA, Nat.reduceLT, Nat.reduceEqDiff, Nat.reduceAdd, reduceCtorEq, b1, b2, b3, hid, hl2, g1, g2, s1, s2, cellM_length, List.length_set, c3, c4])
    refine ⟨by kernel_rfl, ?_⟩
    (try simp only [aI, SS, TF186Can3, aH, setRange, bS, aA, aO, bN, bG, aY, aE, Nat.reduceLT, Nat.reduceEqDiff, Nat.reduceAdd, Nat.reduceMul, Nat.reduceSub, Nat.reduceLeDiff, Nat.reduceBEq, reduceCtorEq, b1])
    refine ⟨⟨(swapM d2 (j + 1) j, j, _), by show (swapM d2 (j + 1) j).length = c.length; rw [swapM_len]; exact hd2, by show j ≤ i; omega, hs2, by rw [aB.eq_2, if_pos rfl], ?_⟩, by show j < j + 1; omega, aF.sub (by simp [look])⟩
    intro x hx
    rw [aB.eq_2, if_neg (fun e => hx e.symm), aB.eq_2, if_neg (fun e => hx e.symm)]
    exact ho2 x hx
theorem ct172 {c : List Mv} {z : Int} (hc : c.length ≤ 9) (hid : id < 16000) (hl : aB l id = some (.row (aV c) 27 0 0 sl))
    (hk : ∀ l', aB l' id = some (.row (aV (sortM c)) 27 0 0 sl) → (∀ j, j ≠ id → aB l' j = aB l j) → k (.tup []) (mkH N l' m kk)) :
    cE Tryz.prog gT (dR KC) 172 [.slice id 0 c.length cap, .int .i64 0, .int .i64 c.length, .int .i64 z, .func 148 []] (mkH N l m kk) k := by
  refine cE.intro Tryz.func172 rfl ?_
  refine Top.view (aF.start (n := 148) rfl (by simp)) (aD aJ _ _ _ _ ?_)
  (try simp only [aI, SS, aA, Nat.reduceLT, Nat.reduceAdd])
  refine aT (Top.loop (I := fun _ : Unit => (mkF 148 [(0, .slice id 0 c.length cap), (1, .int .i64 0), (2, .int .i64 c.length), (3, .int .i64 z), (4, .func 148 [])], mkH N l m kk)) (μ := fun _ => 0) () (aF.sub (by simp [look])) ?_)
  intro _
  refine aD aJ _ _ _ _ ?_
  have q0 : IntKind.i64.wrap ((c.length : Int) - 0) = (c.length : Int) := by rw [Int.sub_zero, aP] <;> omega
  have q1 : decide ((c.length : Int) ≤ 12) = true := by simp; omega
  (try simp only [SS, TF172Can3, aA, Nat.reduceLT, Nat.reduceEqDiff, reduceCtorEq, ↓bB, q0, q1])
  refine ct186 hc hid hl fun l' h1 h2 => ?_
  (try simp only [SS, Nat.reduceLT])
  exact cK (es := []) (.inl rfl) rfl rfl (hk l' h1 h2)
theorem ct147 {c : List Mv} (hc : c.length ≤ 9) (hid : id < 16000) (hl : aB l id = some (.row (aV c) 27 0 0 sl))
    (hk : ∀ l', aB l' id = some (.row (aV (sortM c)) 27 0 0 sl) → (∀ j, j ≠ id → aB l' j = aB l j) → k (.tup []) (mkH N l' m kk)) :
    cE Tryz.prog gT (dR KC) 147 [.slice id 0 c.length cap, .func 148 []] (mkH N l m kk) k := by
  refine cE.intro Tryz.func147 rfl ?_
  refine Top.view (aF.start (n := 14) rfl (by simp)) (aD aJ _ _ _ _ ?_)
  have q0 := u64_sm c.length (by omega)
  have h173 : F173 [.int .u64 (c.length : Int)] = some (.int .i64 (bitsOf (c.length : Int))) := by
    simp only [F173]; rw [if_pos (by omega)]
  (try simp only [aI, SS, TF147Can3, aH, aA, aO, Nat.reduceLT, Nat.reduceEqDiff, reduceCtorEq, ↓bB, q0, h173])
  refine ct172 hc hid hl fun l' h1 h2 => ?_
  (try simp only [SS, Nat.reduceLT])
  exact cK (es := []) (.inr rfl) rfl rfl (hk l' h1 h2)
end
end Go.Ev
