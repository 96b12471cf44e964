import Derived.Test.YtdhnjbgggkdiiaaGreatDoorEvC
import Derived.Test.YtdhnjbgggkdiiaaGreatDoorTypes
set_option linter.unusedSimpArgs false
set_option linter.unusedVariables false
namespace Go.Ev
open Go.RowKit Go.Proofs
set_option linter.defProp false
def TF106Bld := And.intro (And.intro (And.intro (And.intro (@Tryz.underlying5) (And.intro (@sz5) (@info5))) (And.intro (And.intro (@I5s) (@I5b)) (And.intro (@zero5) (@grow5)))) (And.intro (And.intro (And.intro (@Tryz.underlying134) (@sz134)) (And.intro (@info134) (@I134s))) (And.intro (And.intro (@I134b) (@zero134)) (And.intro (@grow134) (@Tryz.underlying135))))) (And.intro (And.intro (And.intro (And.intro (@sz135) (@info135)) (And.intro (@I135s) (@I135b))) (And.intro (And.intro (@zero135) (@grow135)) (And.intro (@Tryz.underlying137) (@sz137)))) (And.intro (And.intro (And.intro (@fok137) (@info137)) (And.intro (@I137s) (@I137b))) (And.intro (And.intro (@zero137) (@grow137)) (And.intro (@call143) (@Tryz.results106)))))
def TF143Bld := And.intro (And.intro (And.intro (And.intro (@Tryz.underlying5) (And.intro (@sz5) (@info5))) (And.intro (And.intro (@I5s) (@I5b)) (And.intro (@zero5) (@grow5)))) (And.intro (And.intro (And.intro (@Tryz.underlying134) (@sz134)) (And.intro (@info134) (@I134s))) (And.intro (And.intro (@I134b) (@zero134)) (And.intro (@grow134) (@Tryz.underlying135))))) (And.intro (And.intro (And.intro (And.intro (@sz135) (@info135)) (And.intro (@I135s) (@I135b))) (And.intro (And.intro (@zero135) (@grow135)) (And.intro (@Tryz.underlying137) (@sz137)))) (And.intro (And.intro (And.intro (@fok137) (@info137)) (And.intro (@I137s) (@I137b))) (And.intro (And.intro (@zero137) (@grow137)) (And.intro (@Tryz.underlying191) (@Tryz.results143)))))
set_option maxRecDepth 20000
set_option maxHeartbeats 8000000

/-! strings.Builder: whose memory is written -/
theorem eqP0 : eqX Tryz.prog 134 .nilp .nilp = some true := by kernel_rfl
theorem ev_nilif {t : T EVal} : ev t (.const .nilIface) = some .nilif := (rfl)
theorem lies137 : liesAt Tryz.prog Tryz.prog.depth 137 (2 / Tryz.prog.cellsOf 137) 0 137 1 = true := by kernel_rfl
theorem call169 {h : H} {x : EVal} : aN Tryz.prog h 169 [x] = some (.val x h) := by
  unfold aN
  rw [Tryz.func169]
  have h1 : Tryz.f169.body.isNone = true := by kernel_rfl
  have h2 : Tryz.f169.origin = "" := by kernel_rfl
  have h3 : Tryz.f169.name = "internal/abi.NoEscape" := by kernel_rfl
  simp only [h1, if_true, eExtern, h2, h3]
  rw [if_neg (by decide)]; rfl
section
variable {K : bI} {n m b : Nat} {l : List (Nat × Option EObj)} {kk : List (Nat × Option (Nat × TypeId))} {k : EVal → H → Prop} {v : EVal}
theorem eqP1 : eqX Tryz.prog 134 (.ptr b 0) .nilp = some false := by
  simp only [eqX, Tryz.underlying134, show (bY Tryz.prog 137).isSome = true by kernel_rfl, if_true, eqNil]
theorem eqP2 : eqX Tryz.prog 134 (.ptr b 0) (.ptr b 0) = some true := by
  simp only [eqX, Tryz.underlying134, show (bY Tryz.prog 137).isSome = true by kernel_rfl, if_true, eqNil, and_self, if_true]
theorem ct143a (hb : b < 16000) (h1 : aB l b = some (.row [.nilp, v] 137 0 0 false)) (hk : k (.tup []) (mkH n ((b, some (.row [.ptr b 0, v] 137 0 0 false)) :: l) m kk)) :
    cE Tryz.prog gT K 143 [.ptr b 0] (mkH n l m kk) k := by
  refine cE.intro Tryz.func143 rfl ?_
  refine Top.view (aF.start (n := 20) rfl (by simp)) (aD aJ _ _ _ _ ?_)
  (try simp only [aI, SS, TF143Bld, setRange, aA, aO, Nat.reduceLT, Nat.reduceEqDiff, Nat.reduceAdd, Nat.reduceLeDiff, reduceCtorEq, h1, hb, eOther, eqP0, Option.getD_some, call169, lies137])
  exact cK (.inr rfl) rfl rfl hk
theorem ct143b (hb : b < 16000) (h1 : aB l b = some (.row [.ptr b 0, v] 137 0 0 false)) (hk : k (.tup []) (mkH n l m kk)) :
    cE Tryz.prog gT K 143 [.ptr b 0] (mkH n l m kk) k := by
  refine cE.intro Tryz.func143 rfl ?_
  refine Top.view (aF.start (n := 20) rfl (by simp)) (aD aJ _ _ _ _ ?_)
  (try simp only [aI, SS, TF143Bld, aA, Nat.reduceLT, Nat.reduceEqDiff, reduceCtorEq, h1, hb, eOther, eqP1, eqP2])
  exact cK (.inr rfl) rfl rfl hk
theorem bytesOfE_length (bs : List Nat) : (cI bs).length = bs.length := by simp [cI]
theorem bytesOfE_take (bs : List Nat) : (cI bs).take bs.length = cI bs := by rw [← bytesOfE_length bs, List.take_length]
theorem bytesOfE_append (a c : List Nat) : cI (a ++ c) = cI a ++ cI c := by simp [cI]
theorem allOne_bytes (bs : List Nat) : allOne (cI bs) = true := by
  induction bs with
  | nil => rfl
  | cons a l ih => simpa [allOne, EVal.one, cI] using ih
/-- a builder that has not written yet, or that has written some bytes into a row that is full -/
def bld0 : EObj := .row [.nilp, .nilslice] 137 0 0 false
def bldR (b j n : Nat) : EObj := .row [.ptr b 0, .slice j 0 n (.slack 0)] 137 0 0 false
def bufR (bs : List Nat) : EObj := .row (cI bs) 5 0 0 true
def Bld (b : Nat) (bs : List Nat) (N : Nat) (l : List (Nat × Option EObj)) : Prop :=
  b < N ∧ ((bs = [] ∧ aB l b = some bld0) ∨ ∃ j, j < N ∧ j ≠ b ∧ aB l b = some (bldR b j bs.length) ∧ aB l j = some (bufR bs))
/-- all else stays -/
def Stay (b N : Nat) (l l2 : List (Nat × Option EObj)) : Prop := ∀ i o, i < N → i ≠ b → aB l i = some o → (∀ x, o ≠ bufR x) → aB l2 i = some o
theorem Bld.new {b n : Nat} {l : List (Nat × Option EObj)} {bs : List Nat} {x : Option EObj} (hb : b < n) (hl : aB l b = x) :
    Bld b bs (n + 1) ((b, some (bldR b n bs.length)) :: (n, some (bufR bs)) :: l) := by
  refine ⟨by omega, .inr ⟨n, by omega, by omega, by simp [aB], ?_⟩⟩
  rw [aB.eq_2, if_neg (by omega)]; simp [aB]
theorem snocB (bs : List Nat) (c : Nat) : cI bs ++ [EVal.int .u8 (c : Nat)] = cI (bs ++ [c]) := by simp [cI]
theorem snocL (bs : List Nat) (c : Nat) : bs.length + 1 = (bs ++ [c]).length := by simp
theorem ct106 {c : Nat} {bs : List Nat} (hm : ∀ a, K 143 a = none) (hM : decide (128 ≤ m) = true) (hn : n + 1 < 16000) (h : Bld b bs n l) (hlen : bs.length < 900000)
    (hk : ∀ l2, Bld b (bs ++ [c]) (n + 1) l2 → Stay b n l l2 → k .nilif (mkH (n + 1) l2 m kk)) :
    cE Tryz.prog gT K 106 [.ptr b 0, .int .u8 (c : Nat)] (mkH n l m kk) k := by
  obtain ⟨hb, h | h⟩ := h
  · obtain ⟨rfl, h1⟩ := h
    unfold bld0 at h1
    refine cE.intro Tryz.func106 rfl ?_
    refine Top.view (aF.start (n := 17) rfl (by simp)) (aD aJ _ _ _ _ ?_)
    have hb0 : b < 16000 := by omega
    (try simp only [aI, SS, TF106Bld, aA, Nat.reduceLT, Nat.reduceEqDiff, reduceCtorEq, ↓bB, hm, ev_nilif])
    refine ct143a hb0 h1 ?_
    have e1 : (n = b) = False := by simp; omega
    have e3 : n < 16000 := by omega
    have g1 : decide (1 * 1 ≤ 1000000) = true := by decide
    have g2 : lensOK 1 [[EVal.int .u8 (c : Nat)]] = true := rfl
    (try simp only [SS, TF106Bld, setRange, bS, aA, aE, Nat.reduceLT, Nat.reduceEqDiff, Nat.reduceAdd, Nat.reduceLeDiff, reduceCtorEq, ev_nilif, hM, hb0, h1, e1, g2])
    refine cK (es := [.nilif]) (.inl rfl) rfl (by simp only [SS, TF106Bld, Nat.reduceLT, Nat.reduceEqDiff, reduceCtorEq]) ?_
    refine hk _ (Bld.new (bs := [c]) (l := (b, some (.row [.ptr b 0, .nilslice] 137 0 0 false)) :: l) hb rfl) ?_
    intro i o hi hbi ho hx
    rw [aB.eq_2, if_neg (by omega), aB.eq_2, if_neg (by omega), aB.eq_2, if_neg (by omega)]
    exact ho
  · obtain ⟨j, hj, hjb, h1, h2⟩ := h
    have hbuf : ∀ o, aB l j = some o → ∃ x, o = bufR x := fun o ho => ⟨bs, by rw [h2] at ho; exact (Option.some.inj ho).symm⟩
    unfold bldR at h1
    unfold bufR at h2
    refine cE.intro Tryz.func106 rfl ?_
    refine Top.view (aF.start (n := 17) rfl (by simp)) (aD aJ _ _ _ _ ?_)
    have hb0 : b < 16000 := by omega
    have hj0 : j < 16000 := by omega
    (try simp only [aI, SS, TF106Bld, aA, Nat.reduceLT, Nat.reduceEqDiff, reduceCtorEq, ↓bB, hm, ev_nilif])
    refine ct143b hb0 h1 ?_
    have e1 : (n = b) = False := by simp; omega
    have e2 : (j = b) = False := by simp; omega
    have e3 : n < 16000 := by omega
    have g1 : decide (1 * (bs.length + 1) ≤ 1000000) = true := by simp; omega
    have g2 : lensOK 1 [[EVal.int .u8 (c : Nat)]] = true := rfl
    have g3 : (bs.length + 1 ≤ bs.length) = False := by simp
    (try simp only [SS, TF106Bld, setRange, bS, aA, aE, Nat.reduceLT, Nat.reduceEqDiff, Nat.reduceAdd, Nat.reduceLeDiff, reduceCtorEq, ev_nilif, hM, hb0, hj0, h1, h2, e1, e2, g1, g2, g3, bytesOfE_length, bytesOfE_take])
    refine cK (es := [.nilif]) (.inl rfl) rfl (by simp only [SS, TF106Bld, Nat.reduceLT, Nat.reduceEqDiff, reduceCtorEq]) ?_
    rw [snocB, snocL bs c]
    refine hk _ (Bld.new (l := (j, none) :: l) hb rfl) ?_
    intro i o hi hbi ho hx
    rw [aB.eq_2, if_neg (by omega), aB.eq_2, if_neg (by omega), aB.eq_2, if_neg]
    · exact ho
    · rintro rfl
      obtain ⟨x, rfl⟩ := hbuf o ho
      exact hx x rfl
end
end Go.Ev
