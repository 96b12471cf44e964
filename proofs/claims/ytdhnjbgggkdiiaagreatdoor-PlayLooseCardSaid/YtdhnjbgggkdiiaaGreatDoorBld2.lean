import Derived.Test.YtdhnjbgggkdiiaaGreatDoorBld
import Derived.Test.YtdhnjbgggkdiiaaGreatDoorRunes
set_option linter.unusedSimpArgs false
set_option linter.unusedVariables false
namespace Go.Ev
open Go.RowKit Go.Proofs
set_option linter.defProp false
def TF105Bld2 := And.intro (And.intro (And.intro (And.intro (And.intro (@Tryz.underlying5) (@sz5)) (And.intro (@info5) (@I5s))) (And.intro (And.intro (@I5b) (@zero5)) (And.intro (@grow5) (And.intro (@Tryz.underlying9) (@sz9))))) (And.intro (And.intro (And.intro (@bZ) (@I9s)) (And.intro (@I9b) (And.intro (@bX) (@cA)))) (And.intro (And.intro (@Tryz.underlying134) (@sz134)) (And.intro (@info134) (And.intro (@I134s) (@I134b)))))) (And.intro (And.intro (And.intro (And.intro (@zero134) (@grow134)) (And.intro (@Tryz.underlying135) (@sz135))) (And.intro (And.intro (@info135) (@I135s)) (And.intro (@I135b) (And.intro (@zero135) (@grow135))))) (And.intro (And.intro (And.intro (@Tryz.underlying137) (@sz137)) (And.intro (@fok137) (And.intro (@info137) (@I137s)))) (And.intro (And.intro (@I137b) (@zero137)) (And.intro (@grow137) (And.intro (@call143) (@Tryz.results105))))))
def TF108Bld2 := And.intro (And.intro (And.intro (And.intro (And.intro (@Tryz.underlying3) (@sz3)) (And.intro (@bK) (And.intro (@I3s) (@I3b)))) (And.intro (And.intro (@bJ) (And.intro (@bL) (@Tryz.underlying5))) (And.intro (@sz5) (And.intro (@info5) (@I5s))))) (And.intro (And.intro (And.intro (@I5b) (@zero5)) (And.intro (@grow5) (And.intro (@Tryz.underlying134) (@sz134)))) (And.intro (And.intro (@info134) (And.intro (@I134s) (@I134b))) (And.intro (@zero134) (And.intro (@grow134) (@Tryz.underlying135)))))) (And.intro (And.intro (And.intro (And.intro (@sz135) (@info135)) (And.intro (@I135s) (And.intro (@I135b) (@zero135)))) (And.intro (And.intro (@grow135) (And.intro (@Tryz.underlying137) (@sz137))) (And.intro (@fok137) (And.intro (@info137) (@I137s))))) (And.intro (And.intro (And.intro (@I137b) (@zero137)) (And.intro (@grow137) (And.intro (@Tryz.underlying169) (@sz169)))) (And.intro (And.intro (@info169) (And.intro (@I169s) (@I169b))) (And.intro (@zero169) (And.intro (@grow169) (@Tryz.results108))))))
def TF161Bld2 := And.intro (And.intro (And.intro (And.intro (And.intro (@Tryz.underlying3) (@sz3)) (And.intro (@bK) (And.intro (@I3s) (@I3b)))) (And.intro (And.intro (@bJ) (And.intro (@bL) (@Tryz.underlying5))) (And.intro (@sz5) (And.intro (@info5) (@I5s))))) (And.intro (And.intro (And.intro (@I5b) (And.intro (@zero5) (@grow5))) (And.intro (@Tryz.underlying21) (And.intro (@sz21) (@info21)))) (And.intro (And.intro (@I21s) (And.intro (@I21b) (@zero21))) (And.intro (@grow21) (And.intro (@Tryz.underlying134) (@sz134)))))) (And.intro (And.intro (And.intro (And.intro (@info134) (@I134s)) (And.intro (@I134b) (And.intro (@zero134) (@grow134)))) (And.intro (And.intro (@Tryz.underlying135) (And.intro (@sz135) (@info135))) (And.intro (@I135s) (And.intro (@I135b) (@zero135))))) (And.intro (And.intro (And.intro (@grow135) (And.intro (@Tryz.underlying137) (@sz137))) (And.intro (@fok137) (And.intro (@info137) (@I137s)))) (And.intro (And.intro (@I137b) (And.intro (@zero137) (@grow137))) (And.intro (@call143) (And.intro (@call180) (@Tryz.results161))))))
def TF180Bld2 := And.intro (And.intro (And.intro (And.intro (@Tryz.underlying5) (And.intro (@sz5) (@info5))) (And.intro (And.intro (@I5s) (@I5b)) (And.intro (@zero5) (@grow5)))) (And.intro (And.intro (And.intro (@Tryz.underlying21) (@sz21)) (And.intro (@info21) (@I21s))) (And.intro (And.intro (@I21b) (@zero21)) (And.intro (@grow21) (@Tryz.underlying135))))) (And.intro (And.intro (And.intro (@sz135) (And.intro (@info135) (@I135s))) (And.intro (And.intro (@I135b) (@zero135)) (And.intro (@grow135) (@Tryz.underlying210)))) (And.intro (And.intro (And.intro (@sz210) (@info210)) (And.intro (@I210s) (@I210b))) (And.intro (And.intro (@zero210) (@grow210)) (And.intro (@call209) (@Tryz.results180)))))
set_option maxRecDepth 20000
set_option maxHeartbeats 8000000

/-! a rune, a string, and what has been written -/
theorem Top.join {A : Option Nat} {P : Program} {g : G} {K : bI} {x y : Code} {f : EFr} {h : H} {Q : dB} {σ : Type} (hng : NoNG P) (F2 : σ → EFr) (H2 : σ → H)
    (H1 : ∀ R : dB, (∀ s f1 h1, aF A P f1 h1 (F2 s) (H2 s) → R .normal f1 h1) → wp A P g K x f h R) (H3 : ∀ s, Top A P g K y (F2 s) (H2 s) Q) : Top A P g K (.seq x y) f h Q :=
  Top.seq (aD hng _ _ _ _ (H1 _ fun s _ _ v => Top.view v (H3 s)))
section
variable {K : bI} {n m b : Nat} {l : List (Nat × Option EObj)} {kk : List (Nat × Option (Nat × TypeId))} {k : EVal → H → Prop}
theorem wrapU {c : Nat} (h : c < 128) : IntKind.u32.wrap (c : Int) = c ∧ IntKind.u8.wrap (c : Int) = c := by
  have : ∀ c : Nat, c < 128 → IntKind.u32.wrap (c : Int) = c ∧ IntKind.u8.wrap (c : Int) = c := by decide
  exact this c h
theorem ct180a {c : Nat} (hc : c < 128) (hM : decide (128 ≤ m) = true) (hn : n + 1 < 16000)
    (hk : k (.slice n 0 1 (.slack 0)) (mkH (n + 1) ((n, some (bufR [c])) :: l) m kk)) :
    cE Tryz.prog gT K 180 [.nilslice, .int .i32 (c : Nat)] (mkH n l m kk) k := by
  refine cE.intro Tryz.func180 rfl ?_
  refine Top.view (aF.start (n := 16) rfl (by simp)) (aD aJ _ _ _ _ ?_)
  obtain ⟨w1, w2⟩ := wrapU hc
  have q1 : decide ((c : Int) ≤ 127) = true := by simp; omega
  have g1 : decide (1 * 1 ≤ 1000000) = true := by decide
  have g2 : lensOK 1 [[EVal.int .u8 (c : Nat)]] = true := rfl
  have e3 : n < 16000 := by omega
  (try simp only [aI, SS, TF180Bld2, setRange, bS, aA, aO, aE, Nat.reduceLT, Nat.reduceEqDiff, Nat.reduceLeDiff, reduceCtorEq, hM, w1, w2, q1, g2])
  exact cK (es := [.slice n 0 1 (.slack 0)]) (.inl rfl) rfl (by simp only [SS, TF180Bld2, Nat.reduceLT, Nat.reduceEqDiff, reduceCtorEq]) hk
theorem ct180b {c j : Nat} {bs : List Nat} (hc : c < 128) (hM : decide (128 ≤ m) = true) (hn : n + 1 < 16000) (hj : j < n) (h2 : aB l j = some (bufR bs)) (hlen : bs.length < 900000)
    (hk : k (.slice n 0 (bs.length + 1) (.slack 0)) (mkH (n + 1) ((n, some (bufR (bs ++ [c]))) :: (j, none) :: l) m kk)) :
    cE Tryz.prog gT K 180 [.slice j 0 bs.length (.slack 0), .int .i32 (c : Nat)] (mkH n l m kk) k := by
  refine cE.intro Tryz.func180 rfl ?_
  refine Top.view (aF.start (n := 16) rfl (by simp)) (aD aJ _ _ _ _ ?_)
  obtain ⟨w1, w2⟩ := wrapU hc
  unfold bufR at h2
  have q1 : decide ((c : Int) ≤ 127) = true := by simp; omega
  have g1 : decide (1 * (bs.length + 1) ≤ 1000000) = true := by simp; omega
  have g2 : lensOK 1 [[EVal.int .u8 (c : Nat)]] = true := rfl
  have g3 : (bs.length + 1 ≤ bs.length) = False := by simp
  have e3 : n < 16000 := by omega
  have hj0 : j < 16000 := by omega
  (try simp only [aI, SS, TF180Bld2, setRange, bS, aA, aO, aE, Nat.reduceLT, Nat.reduceEqDiff, Nat.reduceLeDiff, reduceCtorEq, hM, w1, w2, q1, hj0, h2, g1, g2, g3, bytesOfE_length, bytesOfE_take])
  refine cK (es := [.slice n 0 (bs.length + 1) (.slack 0)]) (.inl rfl) rfl (by simp only [SS, TF180Bld2, Nat.reduceLT, Nat.reduceEqDiff, reduceCtorEq]) ?_
  rw [snocB]
  exact hk
theorem stay0 {o1 o2 o3 : Option EObj} : Stay b n l ((b, o1) :: (n, o2) :: (b, o3) :: l) := by
  intro i o hi hbi ho hx
  rw [aB.eq_2, if_neg (by omega), aB.eq_2, if_neg (by omega), aB.eq_2, if_neg (by omega)]
  exact ho
theorem stay1 {j : Nat} {o1 o2 : Option EObj} (hbuf : ∀ o, aB l j = some o → ∃ x, o = bufR x) : Stay b n l ((b, o1) :: (n, o2) :: (j, none) :: l) := by
  intro i o hi hbi ho hx
  rw [aB.eq_2, if_neg (by omega), aB.eq_2, if_neg (by omega), aB.eq_2, if_neg]
  · exact ho
  · rintro rfl
    obtain ⟨x, rfl⟩ := hbuf o ho
    exact hx x rfl
theorem ct161 {c : Nat} {bs : List Nat} (hm : ∀ a, K 143 a = none) (hm2 : ∀ a, K 180 a = none) (hc : c < 128) (hM : decide (128 ≤ m) = true) (hn : n + 1 < 16000) (h : Bld b bs n l) (hlen : bs.length < 900000)
    (hk : ∀ l2, Bld b (bs ++ [c]) (n + 1) l2 → Stay b n l l2 → k (.tup [.int .i64 1, .nilif]) (mkH (n + 1) l2 m kk)) :
    cE Tryz.prog gT K 161 [.ptr b 0, .int .i32 (c : Nat)] (mkH n l m kk) k := by
  obtain ⟨hb, h | h⟩ := h
  · obtain ⟨rfl, h1⟩ := h
    unfold bld0 at h1
    refine cE.intro Tryz.func161 rfl ?_
    refine Top.view (aF.start (n := 30) rfl (by simp)) (aD aJ _ _ _ _ ?_)
    have hb0 : b < 16000 := by omega
    (try simp only [aI, SS, TF161Bld2, aA, Nat.reduceLT, Nat.reduceEqDiff, reduceCtorEq, ↓bB, hm, ev_nilif])
    refine ct143a hb0 h1 ?_
    have e1 : (n = b) = False := by simp; omega
    have e3 : n < 16000 := by omega
    (try simp only [SS, TF161Bld2, aA, Nat.reduceLT, Nat.reduceEqDiff, reduceCtorEq, ↓bB, hm2, hb0, h1])
    refine ct180a hc hM hn ?_
    have w1 : IntKind.i64.wrap ((1 : Nat) - 0) = 1 := by decide
    have w2 : IntKind.i64.wrap (((1 : Nat) : Int) - ((0 : Nat) : Int)) = 1 := by decide
    (try simp only [SS, TF161Bld2, setRange, aA, Nat.reduceLT, Nat.reduceEqDiff, Nat.reduceAdd, reduceCtorEq, ev_nilif, hb0, h1, e1, w1])
    refine cK (es := [.int .i64 1, .nilif]) (.inl rfl) rfl (by simp only [SS, TF161Bld2, Nat.reduceLT, Nat.reduceEqDiff, reduceCtorEq]) ?_
    exact hk _ (Bld.new (bs := [c]) (l := (b, some (.row [.ptr b 0, .nilslice] 137 0 0 false)) :: l) hb rfl) stay0
  · obtain ⟨j, hj, hjb, h1, h2⟩ := h
    have hbuf : ∀ o, aB l j = some o → ∃ x, o = bufR x := fun o ho => ⟨bs, by rw [h2] at ho; exact (Option.some.inj ho).symm⟩
    unfold bldR at h1
    refine cE.intro Tryz.func161 rfl ?_
    refine Top.view (aF.start (n := 30) rfl (by simp)) (aD aJ _ _ _ _ ?_)
    have hb0 : b < 16000 := by omega
    have hj0 : j < 16000 := by omega
    (try simp only [aI, SS, TF161Bld2, aA, Nat.reduceLT, Nat.reduceEqDiff, reduceCtorEq, ↓bB, hm, ev_nilif])
    refine ct143b hb0 h1 ?_
    have e1 : (n = b) = False := by simp; omega
    have e2 : (j = b) = False := by simp; omega
    have e3 : n < 16000 := by omega
    (try simp only [SS, TF161Bld2, aA, Nat.reduceLT, Nat.reduceEqDiff, reduceCtorEq, ↓bB, hm2, hb0, h1])
    refine ct180b hc hM hn hj h2 hlen ?_
    have w1 : IntKind.i64.wrap (((bs.length + 1 : Nat) : Int) - (bs.length : Int)) = 1 := by rw [aP] <;> omega
    (try simp only [SS, TF161Bld2, setRange, aA, Nat.reduceLT, Nat.reduceEqDiff, Nat.reduceAdd, reduceCtorEq, ev_nilif, hb0, h1, e1, e2, w1])
    refine cK (es := [.int .i64 1, .nilif]) (.inl rfl) rfl (by simp only [SS, TF161Bld2, Nat.reduceLT, Nat.reduceEqDiff, reduceCtorEq]) ?_
    rw [snocL bs c]
    exact hk _ (Bld.new (l := (j, none) :: l) hb rfl) (stay1 hbuf)
theorem ct105 {s bs : List Nat} (hm : ∀ a, K 143 a = none) (hs : s ≠ []) (hn : n + 1 < 16000) (h : Bld b bs n l) (hlen : bs.length + s.length < 900000)
    (hk : ∀ l2, Bld b (bs ++ s) (n + 1) l2 → Stay b n l l2 → k (.tup [.int .i64 (s.length : Nat), .nilif]) (mkH (n + 1) l2 m kk)) :
    cE Tryz.prog gT K 105 [.ptr b 0, .str s] (mkH n l m kk) k := by
  have hs0 : 0 < s.length := List.length_pos_iff.2 hs
  have s0 : (s.length = 0) = False := by simp; omega
  have a1 := allOne_bytes s
  obtain ⟨hb, h | h⟩ := h
  · obtain ⟨rfl, h1⟩ := h
    unfold bld0 at h1
    refine cE.intro Tryz.func105 rfl ?_
    refine Top.view (aF.start (n := 19) rfl (by simp)) (aD aJ _ _ _ _ ?_)
    have hb0 : b < 16000 := by omega
    (try simp only [aI, SS, TF105Bld2, aA, Nat.reduceLT, Nat.reduceEqDiff, reduceCtorEq, ↓bB, hm, ev_nilif])
    refine ct143a hb0 h1 ?_
    have e1 : (n = b) = False := by simp; omega
    have e3 : n < 16000 := by omega
    have g1 : decide (1 * s.length ≤ 1000000) = true := by simp at *; omega
    (try simp only [SS, TF105Bld2, setRange, aA, Nat.reduceLT, Nat.reduceEqDiff, Nat.reduceAdd, reduceCtorEq, ev_nilif, hb0, h1, e1, g1, s0])
    refine cK (es := [.int .i64 (s.length : Nat), .nilif]) (.inl rfl) rfl (by simp only [SS, TF105Bld2, Nat.reduceLT, Nat.reduceEqDiff, reduceCtorEq]) ?_
    exact hk _ (Bld.new (bs := s) (l := (b, some (.row [.ptr b 0, .nilslice] 137 0 0 false)) :: l) hb rfl) stay0
  · obtain ⟨j, hj, hjb, h1, h2⟩ := h
    have hbuf : ∀ o, aB l j = some o → ∃ x, o = bufR x := fun o ho => ⟨bs, by rw [h2] at ho; exact (Option.some.inj ho).symm⟩
    unfold bldR at h1
    unfold bufR at h2
    refine cE.intro Tryz.func105 rfl ?_
    refine Top.view (aF.start (n := 19) rfl (by simp)) (aD aJ _ _ _ _ ?_)
    have hb0 : b < 16000 := by omega
    have hj0 : j < 16000 := by omega
    (try simp only [aI, SS, TF105Bld2, aA, Nat.reduceLT, Nat.reduceEqDiff, reduceCtorEq, ↓bB, hm, ev_nilif])
    refine ct143b hb0 h1 ?_
    have e1 : (n = b) = False := by simp; omega
    have e2 : (j = b) = False := by simp; omega
    have e3 : n < 16000 := by omega
    have g1 : decide (1 * (bs.length + s.length) ≤ 1000000) = true := by simp; omega
    have g3 : (bs.length + s.length ≤ bs.length) = False := by simp; omega
    (try simp only [SS, TF105Bld2, setRange, aA, Nat.reduceLT, Nat.reduceEqDiff, Nat.reduceAdd, reduceCtorEq, ev_nilif, hb0, hj0, h1, h2, e1, e2, g1, g3, s0, a1, bytesOfE_length, bytesOfE_take])
    refine cK (es := [.int .i64 (s.length : Nat), .nilif]) (.inl rfl) rfl (by simp only [SS, TF105Bld2, Nat.reduceLT, Nat.reduceEqDiff, reduceCtorEq]) ?_
    rw [← bytesOfE_append, ← List.length_append]
    exact hk _ (Bld.new (l := (j, none) :: l) hb rfl) (stay1 hbuf)
theorem bytesE_ok : ∀ {bs : List Nat}, aU bs = true → bytesE (cI bs) = some bs
  | [], _ => rfl
  | a :: l, h => by
    simp only [aU, List.all_cons, Bool.and_eq_true, decide_eq_true_eq] at h
    have ih := bytesE_ok (bs := l) (by simpa [aU] using h.2)
    show (if 0 ≤ Int.ofNat a ∧ Int.ofNat a < 256 then match bytesE (cI l) with | some m => some ((Int.ofNat a).toNat :: m) | none => none else none) = _
    rw [if_pos (by have := h.1; exact ⟨by simp, by simp; omega⟩), ih]; rfl
theorem ct108 {bs : List Nat} (hbb : aU bs = true) (hne : bs ≠ []) (hn : n < 16000) (h : Bld b bs n l) (hlen : bs.length < 900000)
    (hk : ∀ l2, k (.str bs) (mkH n l2 m kk)) :
    cE Tryz.prog gT K 108 [.ptr b 0] (mkH n l m kk) k := by
  replace hbb := bytesE_ok hbb
  obtain ⟨hb, h | h⟩ := h
  · exact absurd h.1 hne
  · obtain ⟨j, hj, hjb, h1, h2⟩ := h
    unfold bldR at h1
    unfold bufR at h2
    refine cE.intro Tryz.func108 rfl ?_
    refine Top.view (aF.start (n := 14) rfl (by simp)) (aD aJ _ _ _ _ ?_)
    have hb0 : b < 16000 := by omega
    have hj0 : j < 16000 := by omega
    (try simp only [aI, SS, aA, Nat.reduceLT])
    refine bA (Top.draw mixed aJ (by kernel_rfl) ?_)
    have hl0 : 0 < bs.length := List.length_pos_iff.2 hne
    have c0 : (bs.length = 0) = False := by simp; omega
    have c1 : ((bs.length : Int) = 0) = False := by simp only [eq_iff_iff, iff_false]; omega
    have c3 : ((0 : Int) < (bs.length : Int)) = True := by simp only [eq_iff_iff, iff_true]; omega
    have c4 : ((bs.length : Int) < 1000000) = True := by simp only [eq_iff_iff, iff_true]; omega
    (try simp only [SS, TF108Bld2, Nat.reduceLT, Nat.reduceEqDiff, reduceCtorEq, hb0, h1, hj0, h2, c0, c1, c3, c4, eUnsafeString, eUnsafeString', bytesOfE_length, bytesOfE_take, hbb])
    refine ⟨by kernel_rfl, ?_⟩
    (try simp only [aI, SS, TF108Bld2, aH, setRange, bS, aA, aO, bN, bG, aY, aE, Nat.reduceLT, Nat.reduceEqDiff, Nat.reduceAdd, Nat.reduceMul, Nat.reduceSub, Nat.reduceLeDiff, Nat.reduceBEq, reduceCtorEq])
    exact cK (es := [.str bs]) (.inl rfl) rfl (by simp only [SS, TF108Bld2, Nat.reduceLT, Nat.reduceEqDiff, reduceCtorEq]) (hk _)
end
end Go.Ev
