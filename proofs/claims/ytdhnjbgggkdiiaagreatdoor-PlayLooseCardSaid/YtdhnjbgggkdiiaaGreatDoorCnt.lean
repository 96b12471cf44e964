import Derived.Test.YtdhnjbgggkdiiaaGreatDoorEvC
import Derived.Test.YtdhnjbgggkdiiaaGreatDoorRunes
import Derived.Test.YtdhnjbgggkdiiaaGreatDoorAwake
set_option linter.unusedSimpArgs false
set_option linter.unusedVariables false
namespace Go.Ev
open Go.RowKit Go.Proofs
set_option linter.defProp false
def TF74Cnt := And.intro (And.intro (And.intro (And.intro (@Tryz.underlying3) (@sz3)) (And.intro (@bK) (And.intro (@I3s) (@I3b)))) (And.intro (And.intro (@bJ) (And.intro (@bL) (@Tryz.underlying5))) (And.intro (@sz5) (And.intro (@info5) (@I5s))))) (And.intro (And.intro (And.intro (@I5b) (@zero5)) (And.intro (@grow5) (And.intro (@Tryz.underlying9) (@sz9)))) (And.intro (And.intro (@bZ) (And.intro (@I9s) (@I9b))) (And.intro (@bX) (And.intro (@cA) (@Tryz.results74)))))
def TF119Cnt := And.intro (And.intro (And.intro (@Tryz.underlying21) (@sz21)) (And.intro (@info21) (@I21s))) (And.intro (And.intro (@I21b) (@zero21)) (And.intro (@grow21) (@Tryz.results119)))
set_option maxRecDepth 20000
set_option maxHeartbeats 4000000

/-! contracts by running -/
def allBool (b : Bool) : Option (List Out) → Bool
  | some l => l.all fun o => match o with | .val (.bool c) _ => c == b | _ => false
  | none => false
theorem run_bool {f : FuncId} {F : List EVal → Option EVal} {n : Nat} (H1 : ∀ a u, F a = some u → ∃ b, u = .bool b ∧ allBool b (run Tryz.prog gT quiet n (.call f a H.start)) = true) : FnT f F := by
  intro B0 W0 G a u hF vs fro w hvs hfz hb hs
  obtain ⟨b, rfl, h⟩ := H1 a u hF
  have G1 : dW w.heap.size w gT := G.grow hb hs
  cases hr : run Tryz.prog gT quiet n (.call f a H.start) with
  | none => rw [hr] at h; cases h
  | some outs =>
    rw [hr] at h
    have hall : ∀ o ∈ outs, (match o with | .val (.bool c) _ => c == b | _ => false) = true := List.all_eq_true.1 h
    refine (run_calls mixed aJ hfz G1 (quietK_ok (W0 := ⟨w, fro⟩) mixed aJ G1 100 quietF) hr hvs).mono ?_
    rintro e w' ⟨v, h', u, ρ, hm, rfl, hv, hR⟩
    have := hall _ hm
    split at this
    · rename_i heq
      cases heq
      cases hv
      simp only [beq_iff_eq] at this
      subst this
      refine ⟨_, ρ.fro, rfl, .bool _, hR.below, ?_⟩
      have hfro : (fun b => if b < w.heap.size then fro b else ρ.fro b) = ρ.fro := by
        funext b
        split
        · rename_i hb; exact (hR.fz0 b hb).symm
        · rfl
      rw [hfro]; exact hR.fz
    · cases this
theorem Fn.or {P : Program} {g : G} {f : FuncId} {F : List EVal → Option EVal} (h : ∀ args v, F args = some v → ∃ F1, Fn P g f F1 ∧ F1 args = some v) : Fn P g f F := by
  intro B0 W0 G a u hF
  obtain ⟨F1, h1, h2⟩ := h a u hF
  exact h1 B0 W0 G a u h2

theorem withinC_t {n lo hi : Int} (h : lo ≤ n ∧ n ≤ hi) : withinB n lo hi = true := by simp [withinB]; omega
theorem withinC_f {n lo hi : Int} (h : ¬(lo ≤ n ∧ n ≤ hi)) : withinB n lo hi = false := by simp [withinB]; omega
theorem nbeq (x k : Nat) : (((x : Nat) : Int) == ((k : Nat) : Int)) = (x == k) := by
  rw [Bool.eq_iff_iff, beq_iff_eq, beq_iff_eq]; omega

/-! the last pitch -/
def F119 : List EVal → Option EVal
  | [.int .i32 r] => some (.bool ((r == 88) || (r == 72)))
  | _ => none
theorem e119 {r : Int} : F119 [.int .i32 r] = some (.bool ((r == 88) || (r == 72))) := rfl
theorem fn119 : FnT 119 F119 := by
  refine Fn.intro mixed aJ Tryz.func119 rfl [] (fun _ h => by cases h) ?_
  intro args v hF
  unfold F119 at hF
  split at hF
  rotate_left
  · cases hF
  intro Q hV
  have hQ := aW.of hV
  rename_i r
  cases hF
  refine Top.view (aF.start (n := 9) rfl (by simp)) (aD aJ _ _ _ _ ?_)
  ((try simp only [aI, SS, TF119Cnt, aH, setRange, bS, aA, aO, bN, bG, aY, aE, Nat.reduceLT, Nat.reduceEqDiff, Nat.reduceAdd, Nat.reduceMul, Nat.reduceSub, Nat.reduceLeDiff, Nat.reduceBEq, reduceCtorEq]); (repeat' ((first | apply wpStep_not | apply wpStep_sym | apply wpCond_not | apply wpCond_sym | apply wpDStep_not | apply wpDStep_sym) <;> intro h <;> simp only [h, SS, TF119Cnt, aH, setRange, bS, aA, aO, bN, bG, aY, aE, Nat.reduceLT, Nat.reduceEqDiff, Nat.reduceAdd, Nat.reduceMul, Nat.reduceSub, Nat.reduceLeDiff, Nat.reduceBEq, reduceCtorEq])))
  all_goals ((refine hQ _ _ _ (aC (by first | exact .inl rfl | exact .inr rfl) ?_); simp only [*, SS, TF119Cnt, aH, setRange, bS, aA, aO, bN, bG, aY, aE, Nat.reduceLT, Nat.reduceEqDiff, Nat.reduceAdd, Nat.reduceMul, Nat.reduceSub, Nat.reduceLeDiff, Nat.reduceBEq, reduceCtorEq]))
theorem e119n {x : Nat} : F119 [.int .i32 (x : Int)] = some (.bool (lastP x)) := by
  rw [e119, show ((88 : Int)) = ((88 : Nat) : Int) from rfl, show ((72 : Int)) = ((72 : Nat) : Int) from rfl, nbeq, nbeq]; rfl

/-! a pitch, counted -/
/-! a byte in a string -/
def hasC (l : List Nat) (c : Int) : Bool := l.any fun x => (x : Int) == c
theorem hasC_drop {l : List Nat} {c : Int} {k x : Nat} (h : l[k]? = some x) : hasC (l.drop k) c = (((x : Int) == c) || hasC (l.drop (k + 1)) c) := by
  obtain ⟨hk, rfl⟩ := List.getElem?_eq_some_iff.1 h
  rw [List.drop_eq_getElem_cons hk]; rfl
def F74 : List EVal → Option EVal
  | [.str l, .int .u8 c] => if l.length < 9223372036854775808 then some (.bool (hasC l c)) else none
  | _ => none
theorem fn74 : FnT 74 F74 := by
  refine Fn.intro mixed aJ Tryz.func74 rfl [] (fun _ h => by cases h) ?_
  intro args v hF
  unfold F74 at hF
  split at hF
  rotate_left
  · cases hF
  intro Q hV
  have hQ := aW.of hV
  rename_i l c
  split at hF
  rotate_left
  · cases hF
  rename_i hlen
  cases hF
  refine Top.view (aF.start (n := 17) rfl (by simp)) (aD aJ _ _ _ _ ?_)
  (try simp only [aI, SS, aA, Nat.reduceLT])
  refine aT (Top.loop (I := fun s : { k : Nat // k ≤ l.length ∧ hasC l c = hasC (l.drop k) c } => (mkF 17 [(5, .int .i64 (s.1 : Nat)), (0, .str l), (1, .int .u8 c)], H.start)) (μ := fun s => l.length - s.1) ⟨0, by simp⟩ (aF.sub (by simp [look])) ?_)
  rintro ⟨k, hk, hf⟩
  refine aD aJ _ _ _ _ ?_
  by_cases hlt : k < l.length
  · obtain ⟨x, hx⟩ : ∃ x, l[k]? = some x := ⟨l[k], List.getElem?_eq_getElem hlt⟩
    have c1 : decide ((k : Int) < (l.length : Int)) = true := by simp; omega
    have c2 : IntKind.i64.wrap ((k : Int) + 1) = ((k + 1 : Nat) : Int) := by rw [aP] <;> omega
    have hfd := hasC_drop (c := c) hx
    cases h1 : ((x : Int) == c) with
    | true =>
      (try simp only [SS, TF74Cnt, aA, Nat.reduceLT, Nat.reduceEqDiff, reduceCtorEq, c1, hx, h1])
      (refine hQ _ _ _ (aC (by first | exact .inl rfl | exact .inr rfl) ?_); simp only [SS, TF74Cnt, Nat.reduceLT, Nat.reduceEqDiff, reduceCtorEq])
      rw [hf, hfd, h1]; rfl
    | false =>
      (try simp only [SS, TF74Cnt, aA, Nat.reduceLT, Nat.reduceEqDiff, reduceCtorEq, c1, c2, hx, h1])
      exact ⟨⟨k + 1, hlt, by rw [hf, hfd, h1]; rfl⟩, by simp; omega, aF.sub (by simp [look])⟩
  · have c1 : decide ((k : Int) < (l.length : Int)) = false := by simp; omega
    (try simp only [SS, TF74Cnt, aA, Nat.reduceLT, Nat.reduceEqDiff, reduceCtorEq, c1])
    (refine hQ _ _ _ (aC (by first | exact .inl rfl | exact .inr rfl) ?_); simp only [SS, TF74Cnt, Nat.reduceLT, Nat.reduceEqDiff, reduceCtorEq])
    rw [hf, List.drop_eq_nil_of_le (by omega)]; rfl
end Go.Ev
