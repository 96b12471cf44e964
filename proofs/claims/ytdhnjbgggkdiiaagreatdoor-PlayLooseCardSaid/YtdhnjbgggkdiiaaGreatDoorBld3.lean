import Derived.Test.YtdhnjbgggkdiiaaGreatDoorEvC
import Derived.Test.YtdhnjbgggkdiiaaGreatDoorBld2
set_option linter.unusedSimpArgs false
set_option linter.unusedVariables false
namespace Go.Ev
open Go.RowKit Go.Proofs
set_option linter.defProp false
def TF105Bld3 := And.intro (And.intro (And.intro (And.intro (And.intro (@Tryz.underlying5) (@sz5)) (And.intro (@info5) (@I5s))) (And.intro (And.intro (@I5b) (@zero5)) (And.intro (@grow5) (And.intro (@Tryz.underlying9) (@sz9))))) (And.intro (And.intro (And.intro (@bZ) (@I9s)) (And.intro (@I9b) (And.intro (@bX) (@cA)))) (And.intro (And.intro (@Tryz.underlying134) (@sz134)) (And.intro (@info134) (And.intro (@I134s) (@I134b)))))) (And.intro (And.intro (And.intro (And.intro (@zero134) (@grow134)) (And.intro (@Tryz.underlying135) (@sz135))) (And.intro (And.intro (@info135) (@I135s)) (And.intro (@I135b) (And.intro (@zero135) (@grow135))))) (And.intro (And.intro (And.intro (@Tryz.underlying137) (@sz137)) (And.intro (@fok137) (And.intro (@info137) (@I137s)))) (And.intro (And.intro (@I137b) (@zero137)) (And.intro (@grow137) (And.intro (@call143) (@Tryz.results105))))))
def TF163Bld3 := And.intro (And.intro (And.intro (And.intro (And.intro (@Tryz.underlying3) (@sz3)) (And.intro (@bK) (@I3s))) (And.intro (And.intro (@I3b) (@bJ)) (And.intro (@bL) (And.intro (@Tryz.underlying5) (@sz5))))) (And.intro (And.intro (And.intro (@info5) (@I5s)) (And.intro (@I5b) (And.intro (@zero5) (@grow5)))) (And.intro (And.intro (@Tryz.underlying134) (@sz134)) (And.intro (@info134) (And.intro (@I134s) (@I134b)))))) (And.intro (And.intro (And.intro (And.intro (@zero134) (@grow134)) (And.intro (@Tryz.underlying135) (And.intro (@sz135) (@info135)))) (And.intro (And.intro (@I135s) (@I135b)) (And.intro (@zero135) (And.intro (@grow135) (@Tryz.underlying137))))) (And.intro (And.intro (And.intro (@sz137) (@fok137)) (And.intro (@info137) (And.intro (@I137s) (@I137b)))) (And.intro (And.intro (@zero137) (@grow137)) (And.intro (@call143) (And.intro (@call181) (@Tryz.results163))))))
def TF181Bld3 := And.intro (And.intro (And.intro (And.intro (And.intro (@Tryz.underlying3) (@sz3)) (And.intro (@bK) (@I3s))) (And.intro (And.intro (@I3b) (@bJ)) (And.intro (@bL) (And.intro (@Tryz.underlying5) (@sz5))))) (And.intro (And.intro (And.intro (@info5) (@I5s)) (And.intro (@I5b) (@zero5))) (And.intro (And.intro (@grow5) (@Tryz.underlying134)) (And.intro (@sz134) (And.intro (@info134) (@I134s)))))) (And.intro (And.intro (And.intro (And.intro (@I134b) (@zero134)) (And.intro (@grow134) (@Tryz.underlying135))) (And.intro (And.intro (@sz135) (@info135)) (And.intro (@I135s) (And.intro (@I135b) (@zero135))))) (And.intro (And.intro (And.intro (@grow135) (@Tryz.underlying137)) (And.intro (@sz137) (And.intro (@fok137) (@info137)))) (And.intro (And.intro (@I137s) (@I137b)) (And.intro (@zero137) (And.intro (@grow137) (@Tryz.results181))))))
set_option maxRecDepth 20000
set_option maxHeartbeats 8000000

/-! a builder whose memory was made bV -/
def padR (bs : List Nat) (r : Nat) : EObj := .row (cI bs ++ List.replicate r .unk) 5 0 0 true
def BldP (b : Nat) (bs : List Nat) (r N : Nat) (l : List (Nat × Option EObj)) : Prop :=
  b < N ∧ ∃ j, j < N ∧ j ≠ b ∧ aB l b = some (bldR b j bs.length) ∧ aB l j = some (padR bs r)
section
variable {K : bI} {n m b : Nat} {l : List (Nat × Option EObj)} {kk : List (Nat × Option (Nat × TypeId))} {k : EVal → H → Prop}
theorem call210 {h : H} {g : Nat} (hg : g < 1000000) : aN Tryz.prog h 210 [.int .i64 (g : Nat)] = some (.val (.slice h.n 0 g (.slack 0)) (h.new (.row (List.replicate g .unk) 5 0 0 true))) := by
  unfold aN
  rw [Tryz.func210]
  have h1 : Tryz.f210.body.isNone = true := by kernel_rfl
  have h2 : Tryz.f210.origin = "" := by kernel_rfl
  have h3 : Tryz.f210.name = "internal/bytealg.MakeNoZero" := by kernel_rfl
  have h4 : Tryz.f210.resultTypes[0]? = some 135 := by kernel_rfl
  have hr : ∀ q : Nat, bS [EVal.unk] q = List.replicate q EVal.unk := fun q => by
    induction q with
    | zero => rfl
    | succ q ih => show [EVal.unk] ++ bS [EVal.unk] q = _; rw [ih]; rfl
  simp only [h1, if_true, eExtern, h2, h3]
  rw [if_neg (by decide), if_neg (by decide)]
  simp only [eNoZero, h4, Tryz.underlying135, sz5, and_true]
  rw [if_pos ⟨by omega, by omega⟩, Int.toNat_natCast, hr]
theorem ct181 {g : Nat} (hg : g < 1000000) (hn : n + 1 < 16000) (hb : b < n) (hz : aB l n = none) (h1 : aB l b = some (.row [.ptr b 0, .nilslice] 137 0 0 false))
    (hk : ∀ l2, BldP b [] g (n + 1) l2 → (∀ i o, i < n → i ≠ b → aB l i = some o → aB l2 i = some o) → k (.tup []) (mkH (n + 1) l2 m kk)) :
    cE Tryz.prog gT K 181 [.ptr b 0, .int .i64 (g : Nat)] (mkH n l m kk) k := by
  refine cE.intro Tryz.func181 rfl ?_
  refine Top.view (aF.start (n := 30) rfl (by simp)) (aD aJ _ _ _ _ ?_)
  have hb0 : b < 16000 := by omega
  have w1 : IntKind.i64.wrap ((2 : Int) * 0) = 0 := by decide
  have w2 : IntKind.i64.wrap ((0 : Int) + (g : Int)) = (g : Nat) := by rw [aP] <;> omega
  have e1 : (n = b) = False := by simp; omega
  have hn0 : n < 16000 := by omega
  have s1 : setRange (List.replicate g EVal.unk) 0 [] = List.replicate g EVal.unk := by simp [setRange]
  have s3 : setRange [EVal.ptr b 0, EVal.nilslice] 1 [EVal.slice n 0 0 (.slack 0)] = [EVal.ptr b 0, EVal.slice n 0 0 (.slack 0)] := rfl
  (try simp only [aI, SS])
  refine bA (Top.drawF mixed aJ (by kernel_rfl) ?_)
  (try simp only [SS, TF181Bld3, aA, bG, Nat.reduceLT, Nat.reduceEqDiff, Nat.reduceSub, reduceCtorEq, WF, hb0, hn0, hz, h1, w1, w2, call210 hg, e1])
  refine ⟨by kernel_rfl, ?_⟩
  (try simp only [SS, TF181Bld3, aA, Nat.reduceLT, Nat.reduceEqDiff, Nat.reduceAdd, reduceCtorEq, hb0, h1, e1, hn0, eCopy, s1, s3, List.length_replicate, Nat.min_self])
  refine cK (es := []) (.inr rfl) rfl rfl (hk _ ⟨by omega, n, by omega, by omega, by simp [aB, bldR], ?_⟩ ?_)
  · rw [aB.eq_2, if_neg (by omega)]; simp [aB, padR, cI]
  · intro i o hi hbi ho
    rw [aB.eq_2, if_neg (by omega), aB.eq_2, if_neg (by omega), aB.eq_2, if_neg (by omega)]
    exact ho
theorem ct163 {g : Nat} (hm : ∀ a, K 143 a = none) (hm2 : ∀ a, K 181 a = none) (hg0 : 0 < g) (hg : g < 1000000) (hn : n + 1 < 16000) (hb : b < n) (hz : aB l n = none) (h1 : aB l b = some bld0)
    (hk : ∀ l2, BldP b [] g (n + 1) l2 → (∀ i o, i < n → i ≠ b → aB l i = some o → aB l2 i = some o) → k (.tup []) (mkH (n + 1) l2 m kk)) :
    cE Tryz.prog gT K 163 [.ptr b 0, .int .i64 (g : Nat)] (mkH n l m kk) k := by
  unfold bld0 at h1
  refine cE.intro Tryz.func163 rfl ?_
  refine Top.view (aF.start (n := 25) rfl (by simp)) (aD aJ _ _ _ _ ?_)
  have hb0 : b < 16000 := by omega
  (try simp only [aI, SS, TF163Bld3, aA, Nat.reduceLT, Nat.reduceEqDiff, reduceCtorEq, ↓bB, hm])
  refine ct143a hb0 h1 ?_
  have q1 : decide ((g : Int) < 0) = false := by simp
  have q2 : decide ((0 : Int) < (g : Int)) = true := by simp; omega
  have w0 : IntKind.i64.wrap ((0 : Int) - 0) = 0 := by decide
  have e1 : (b = n) = False := by simp; omega
  (try simp only [SS, aA, Nat.reduceLT, Nat.reduceEqDiff, reduceCtorEq, q1])
  refine bA (Top.draw mixed aJ (by kernel_rfl) ?_)
  (try simp only [SS, TF163Bld3, aH, aA, Nat.reduceLT, Nat.reduceEqDiff, reduceCtorEq, hb0, w0, q2])
  refine ⟨by kernel_rfl, ?_⟩
  (try simp only [aI, SS, TF163Bld3, aH, setRange, bS, aA, aO, bN, bG, aY, aE, Nat.reduceLT, Nat.reduceEqDiff, Nat.reduceAdd, Nat.reduceMul, Nat.reduceSub, Nat.reduceLeDiff, Nat.reduceBEq, reduceCtorEq, ↓bB, hm2, q2])
  refine ct181 hg hn hb (by rw [aB.eq_2, if_neg (by omega)]; exact hz) (by simp [aB]) ?_
  intro l2 B2 S2
  (try simp only [SS, Nat.reduceLT])
  refine cK (es := []) (.inr rfl) rfl rfl (hk l2 B2 fun i o hi hbi ho => S2 i o hi hbi ?_)
  rw [aB.eq_2, if_neg (by omega)]; exact ho
theorem pad_set {bs s : List Nat} {r : Nat} (h : s.length ≤ r) : setRange (cI bs ++ List.replicate r EVal.unk) bs.length (cI s) = cI (bs ++ s) ++ List.replicate (r - s.length) EVal.unk := by
  unfold setRange
  have h1 : bs.length = (cI bs).length := (bytesOfE_length bs).symm
  rw [h1, List.take_left', List.drop_append, bytesOfE_append, bytesOfE_length] <;> simp [bytesOfE_length]
/-- a string written in place -/
theorem ct105P {s bs : List Nat} {r : Nat} (hm : ∀ a, K 143 a = none) (hs : s.length ≤ r) (hn : n < 16000) (h : BldP b bs r n l) (hlen : bs.length + s.length < 900000)
    (hk : ∀ l2, BldP b (bs ++ s) (r - s.length) n l2 → (∀ i o, i < n → i ≠ b → aB l i = some o → (∀ x y, o ≠ padR x y) → aB l2 i = some o) → k (.tup [.int .i64 (s.length : Nat), .nilif]) (mkH n l2 m kk)) :
    cE Tryz.prog gT K 105 [.ptr b 0, .str s] (mkH n l m kk) k := by
  obtain ⟨hb, j, hj, hjb, h1, h2⟩ := h
  have hbuf : ∀ o, aB l j = some o → ∃ x y, o = padR x y := fun o ho => ⟨bs, r, by rw [h2] at ho; exact (Option.some.inj ho).symm⟩
  have hjz : ∀ o, aB l j = some o → (∀ x y, o ≠ padR x y) → False := fun o ho hx => by obtain ⟨x, y, rfl⟩ := hbuf o ho; exact hx x y rfl
  have h2' := h2
  unfold bldR at h1
  unfold padR at h2
  refine cE.intro Tryz.func105 rfl ?_
  refine Top.view (aF.start (n := 19) rfl (by simp)) (aD aJ _ _ _ _ ?_)
  have hb0 : b < 16000 := by omega
  have hj0 : j < 16000 := by omega
  (try simp only [aI, SS, TF105Bld3, aA, Nat.reduceLT, Nat.reduceEqDiff, reduceCtorEq, ↓bB, hm, ev_nilif])
  refine ct143b hb0 h1 ?_
  have e2 : (j = b) = False := by simp; omega
  have hcl : (cI bs ++ List.replicate r EVal.unk).length = bs.length + r := by simp [bytesOfE_length]
  have a1 := allOne_bytes s
  have s3 : setRange [EVal.ptr b 0, EVal.slice j 0 bs.length (.slack 0)] 1 [EVal.slice j 0 (bs.length + s.length) (.slack 0)] = [EVal.ptr b 0, EVal.slice j 0 (bs.length + s.length) (.slack 0)] := rfl
  by_cases hs0 : s.length = 0
  · obtain rfl : s = [] := List.eq_nil_of_length_eq_zero hs0
    have s4 : setRange [EVal.ptr b 0, EVal.slice j 0 bs.length (.slack 0)] 1 [EVal.slice j 0 bs.length (.slack 0)] = [EVal.ptr b 0, EVal.slice j 0 bs.length (.slack 0)] := rfl
    (try simp only [SS, TF105Bld3, aA, Nat.reduceLT, Nat.reduceEqDiff, Nat.reduceAdd, reduceCtorEq, ev_nilif, hb0, hj0, h1, h2, s4])
    refine cK (es := [.int .i64 0, .nilif]) (.inl rfl) rfl (by simp only [SS, TF105Bld3, Nat.reduceLT, Nat.reduceEqDiff, reduceCtorEq]) (hk _ ⟨hb, j, hj, hjb, ?_, ?_⟩ ?_)
    · rw [List.append_nil]; simp [aB, bldR]
    · rw [aB.eq_2, if_neg (by omega), List.append_nil]; exact h2'
    · intro i o hi hbi ho _
      rw [aB.eq_2, if_neg (by omega)]; exact ho
  · have s0 : (s.length = 0) = False := by simp only [hs0]
    have g3 : (bs.length + s.length ≤ bs.length + r) = True := by simp; omega
    have g4 : (bs.length ≤ bs.length + r) = True := by simp
    have hps := pad_set (bs := bs) hs
    (try simp only [SS, TF105Bld3, aA, Nat.reduceLT, Nat.reduceEqDiff, Nat.reduceAdd, reduceCtorEq, ev_nilif, hb0, hj0, h1, h2, e2, g3, g4, s0, a1, hcl, bytesOfE_length, hps, s3])
    refine cK (es := [.int .i64 (s.length : Nat), .nilif]) (.inl rfl) rfl (by simp only [SS, TF105Bld3, Nat.reduceLT, Nat.reduceEqDiff, reduceCtorEq]) (hk _ ⟨hb, j, hj, hjb, ?_, ?_⟩ ?_)
    · rw [List.length_append]; simp [aB, bldR]
    · rw [aB.eq_2, if_neg (by omega)]; simp [aB, padR]
    · intro i o hi hbi ho hx
      rw [aB.eq_2, if_neg (by omega), aB.eq_2, if_neg]
      · exact ho
      · rintro rfl; exact hjz o ho hx
theorem BldP.full {bs : List Nat} (h : BldP b bs 0 n l) : Bld b bs n l := by
  obtain ⟨hb, j, hj, hjb, h1, h2⟩ := h
  exact ⟨hb, .inr ⟨j, hj, hjb, h1, by rw [h2]; simp [padR, bufR]⟩⟩
end
end Go.Ev
