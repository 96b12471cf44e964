import Derived.Test.YtcdmpceicmbckaaGreatDoorEvD
import Derived.Test.YtcdmpceicmbckaaGreatDoorRunes
import Derived.Test.YtcdmpceicmbckaaGreatDoorAwake
set_option linter.unusedSimpArgs false
set_option linter.unusedVariables false
namespace Go.Ev
open Go.RowKit Go.Proofs
set_option linter.defProp false
def TF83Cnt := And.intro (And.intro (And.intro (And.intro (@Tryz.underlying3) (@sz3)) (And.intro (@bP) (And.intro (@I3s) (@I3b)))) (And.intro (And.intro (@bN) (And.intro (@bQ) (@Tryz.underlying5))) (And.intro (@sz5) (And.intro (@info5) (@I5s))))) (And.intro (And.intro (And.intro (@I5b) (@zero5)) (And.intro (@grow5) (And.intro (@Tryz.underlying9) (@sz9)))) (And.intro (And.intro (@info9) (And.intro (@I9s) (@I9b))) (And.intro (@zero9) (And.intro (@grow9) (@Tryz.results83)))))
def TF138Cnt := And.intro (And.intro (And.intro (And.intro (@Tryz.underlying3) (@sz3)) (And.intro (@bP) (And.intro (@I3s) (@I3b)))) (And.intro (And.intro (@bN) (And.intro (@bQ) (@Tryz.underlying21))) (And.intro (@sz21) (And.intro (@info21) (@I21s))))) (And.intro (And.intro (And.intro (@I21b) (@zero21)) (And.intro (@grow21) (And.intro (@Tryz.underlying23) (@sz23)))) (And.intro (And.intro (@info23) (And.intro (@I23s) (@I23b))) (And.intro (@zero23) (And.intro (@grow23) (@Tryz.results138)))))
def TF139Cnt := And.intro (And.intro (And.intro (@Tryz.underlying21) (@sz21)) (And.intro (@info21) (@I21s))) (And.intro (And.intro (@I21b) (@zero21)) (And.intro (@grow21) (@Tryz.results139)))
set_option maxRecDepth 20000
set_option maxHeartbeats 4000000

/-! contracts by running -/
def allBool (b : Bool) : Option (List Out) → Bool
  | some l => l.all fun o => match o with | .val (.bool c) _ => c == b | _ => false
  | none => false
theorem run_bool {f : FuncId} {F : List EVal → Option EVal} {n : Nat} (H1 : ∀ a u, F a = some u → ∃ b, u = .bool b ∧ allBool b (run Tryz.prog gT quiet n (.call f a H.start)) = true) : FnT f F := by
  intro B0 W0 G a u hF vs fro w hvs hfz hb hs
  obtain ⟨b, rfl, h⟩ := H1 a u hF
  have G1 : cD w.heap.size w gT := G.grow hb hs
  cases hr : run Tryz.prog gT quiet n (.call f a H.start) with
  | none => rw [hr] at h; cases h
  | some outs =>
    rw [hr] at h
    have hall : ∀ o ∈ outs, (match o with | .val (.bool c) _ => c == b | _ => false) = true := List.all_eq_true.1 h
    refine (run_calls mixed aK hfz G1 (quietK_ok (W0 := ⟨w, fro⟩) mixed aK G1 100 quietF) hr hvs).mono ?_
    rintro e w' ⟨v, h', u, ρ, hm, rfl, hv, hR⟩
    have := hall _ hm
    split at this
    · rename_i heq
      cases heq
      cases hv
      simp only [beq_iff_eq] at this
      subst this
      refine ⟨_, ρ.fro, rfl, .bool _, hR.below, ?_⟩
      have hfro : (fun b => if b < w.heap.size then fro b else ρ.fro b) = ρ.fro := by
        funext b
        split
        · rename_i hb; exact (hR.fz0 b hb).symm
        · rfl
      rw [hfro]; exact hR.fz
    · cases this
theorem Fn.or {P : Program} {g : G} {f : FuncId} {F : List EVal → Option EVal} (h : ∀ args v, F args = some v → ∃ F1, Fn P g f F1 ∧ F1 args = some v) : Fn P g f F := by
  intro B0 W0 G a u hF
  obtain ⟨F1, h1, h2⟩ := h a u hF
  exact h1 B0 W0 G a u h2

theorem withinC_t {n lo hi : Int} (h : lo ≤ n ∧ n ≤ hi) : withinB n lo hi = true := by simp [withinB]; omega
theorem withinC_f {n lo hi : Int} (h : ¬(lo ≤ n ∧ n ≤ hi)) : withinB n lo hi = false := by simp [withinB]; omega
theorem nbeq (x k : Nat) : (((x : Nat) : Int) == ((k : Nat) : Int)) = (x == k) := by
  rw [Bool.eq_iff_iff, beq_iff_eq, beq_iff_eq]; omega

/-! the last pitch -/
def F119 : List EVal → Option EVal
  | [.int .i32 r] => some (.bool ((r == 88) || (r == 72)))
  | _ => none
theorem e119 {r : Int} : F119 [.int .i32 r] = some (.bool ((r == 88) || (r == 72))) := rfl
theorem fn119 : FnT 139 F119 := by
  refine Fn.intro mixed aK Tryz.func139 rfl [] (fun _ h => by cases h) ?_
  intro args v hF
  unfold F119 at hF
  split at hF
  rotate_left
  · cases hF
  intro Q hV
  have hQ := aV.of hV
  rename_i r
  cases hF
  refine Top.view (aH.start (n := 9) rfl (by simp)) (aC aK _ _ _ _ ?_)
  ((try simp only [aT, SS, TF139Cnt, aE, setRange, bF, aA, aF, aQ, aP, aJ, aB, Nat.reduceLT, Nat.reduceEqDiff, Nat.reduceAdd, Nat.reduceMul, Nat.reduceSub, Nat.reduceLeDiff, Nat.reduceBEq, reduceCtorEq]); (repeat' ((first | apply wpStep_not | apply wpStep_sym | apply wpCond_not | apply wpCond_sym | apply wpDStep_not | apply wpDStep_sym) <;> intro h <;> simp only [h, SS, TF139Cnt, aE, setRange, bF, aA, aF, aQ, aP, aJ, aB, Nat.reduceLT, Nat.reduceEqDiff, Nat.reduceAdd, Nat.reduceMul, Nat.reduceSub, Nat.reduceLeDiff, Nat.reduceBEq, reduceCtorEq])))
  all_goals ((refine hQ _ _ _ (aD (by first | exact .inl rfl | exact .inr rfl) ?_); simp only [*, SS, TF139Cnt, aE, setRange, bF, aA, aF, aQ, aP, aJ, aB, Nat.reduceLT, Nat.reduceEqDiff, Nat.reduceAdd, Nat.reduceMul, Nat.reduceSub, Nat.reduceLeDiff, Nat.reduceBEq, reduceCtorEq]))
theorem e119n {x : Nat} : F119 [.int .i32 (x : Int)] = some (.bool (lastP x)) := by
  rw [e119, show ((88 : Int)) = ((88 : Nat) : Int) from rfl, show ((72 : Int)) = ((72 : Nat) : Int) from rfl, nbeq, nbeq]; rfl

/-! a pitch, counted -/
def F118 : List EVal → Option EVal
  | [.agg [.int .i64 a, .int .i64 b], .int .i32 r] => if 0 ≤ a ∧ a ≤ 100 ∧ 0 ≤ b ∧ b ≤ 100 ∧ 0 ≤ r then some (.agg [.int .i64 (bG (a, b) r.toNat).1, .int .i64 (bG (a, b) r.toNat).2]) else none
  | _ => none
theorem fn118 : FnT 138 F118 := by
  refine Fn.intro mixed aK Tryz.func138 rfl [] (fun _ h => by cases h) ?_
  intro args v hF
  unfold F118 at hF
  split at hF
  rotate_left
  · cases hF
  intro Q hV
  have hQ := aV.of hV
  rename_i a b r
  split at hF
  rotate_left
  · cases hF
  rename_i hr
  obtain ⟨ha1, ha2, hb1, hb2, hr0⟩ := hr
  cases hF
  obtain ⟨x, rfl⟩ : ∃ x : Nat, r = (x : Int) := ⟨r.toNat, by omega⟩
  simp only [Int.toNat_natCast] at hQ
  have w1 : IntKind.i64.wrap (a + 1) = a + 1 := by rw [wrap_id] <;> omega
  have w2 : IntKind.i64.wrap (b + 1) = b + 1 := by rw [wrap_id] <;> omega
  have q66 := nbeq x 66
  have q67 := nbeq x 67
  have q83 := nbeq x 83
  have q70 := nbeq x 70
  simp only [show (((66 : Nat) : Int)) = 66 from rfl, show (((67 : Nat) : Int)) = 67 from rfl, show (((83 : Nat) : Int)) = 83 from rfl, show (((70 : Nat) : Int)) = 70 from rfl] at q66 q67 q83 q70
  have z0 : ((0 : Int) < ((2 : Nat) : Int)) = True := by simp
  have z1 : ((1 : Int) < ((2 : Nat) : Int)) = True := by simp
  refine Top.view (aH.start (n := 29) rfl (by simp)) (aC aK _ _ _ _ ?_)
  cases h1 : (x == 66) with
  | true =>
    have e1 : x = 66 := by simpa using h1
    (try simp only [aT, SS, TF138Cnt, setRange, aA, Nat.reduceLT, Nat.reduceEqDiff, Nat.reduceAdd, Nat.reduceLeDiff, reduceCtorEq, z0, q66, h1, w1])
    (refine hQ _ _ _ (aD (by first | exact .inl rfl | exact .inr rfl) ?_); simp only [SS, TF138Cnt, Nat.reduceLT, Nat.reduceEqDiff, Nat.reduceAdd, reduceCtorEq])
    simp [bG, e1]
  | false =>
  have n1 : ¬ x = 66 := by simpa using h1
  cases h2 : (x == 67) with
  | true =>
    have e1 : x = 67 := by simpa using h2
    (try simp only [aT, SS, TF138Cnt, setRange, aA, Nat.reduceLT, Nat.reduceEqDiff, Nat.reduceAdd, reduceCtorEq, z1, Int.reduceLE, Int.reduceToNat, q66, q67, h1, h2, w2])
    (refine hQ _ _ _ (aD (by first | exact .inl rfl | exact .inr rfl) ?_); simp only [SS, TF138Cnt, Nat.reduceLT, Nat.reduceEqDiff, Nat.reduceAdd, reduceCtorEq])
    simp [bG, e1]
  | false =>
  have n2 : ¬ x = 67 := by simpa using h2
  cases h3 : (x == 83) with
  | true =>
    have e1 : x = 83 := by simpa using h3
    (try simp only [aT, SS, TF138Cnt, setRange, aA, Nat.reduceLT, Nat.reduceEqDiff, Nat.reduceAdd, reduceCtorEq, z1, Int.reduceLE, Int.reduceToNat, q66, q67, q83, h1, h2, h3, w2])
    (refine hQ _ _ _ (aD (by first | exact .inl rfl | exact .inr rfl) ?_); simp only [SS, TF138Cnt, Nat.reduceLT, Nat.reduceEqDiff, Nat.reduceAdd, reduceCtorEq])
    simp [bG, e1]
  | false =>
  have n3 : ¬ x = 83 := by simpa using h3
  cases h4 : (x == 70) with
  | true =>
    have e1 : x = 70 := by simpa using h4
    by_cases hb : b < 2
    · have c1 : decide (b < 2) = true := by simpa using hb
      (try simp only [aT, SS, TF138Cnt, setRange, aA, Nat.reduceLT, Nat.reduceEqDiff, Nat.reduceAdd, reduceCtorEq, z1, Int.reduceLE, Int.reduceToNat, q66, q67, q83, q70, h1, h2, h3, h4, c1, w2])
      (refine hQ _ _ _ (aD (by first | exact .inl rfl | exact .inr rfl) ?_); simp only [SS, TF138Cnt, Nat.reduceLT, Nat.reduceEqDiff, Nat.reduceAdd, reduceCtorEq])
      simp [bG, e1, hb]
    · have c1 : decide (b < 2) = false := by simpa using hb
      (try simp only [aT, SS, TF138Cnt, setRange, aA, Nat.reduceLT, Nat.reduceEqDiff, Nat.reduceAdd, reduceCtorEq, z1, Int.reduceLE, Int.reduceToNat, q66, q67, q83, q70, h1, h2, h3, h4, c1])
      (refine hQ _ _ _ (aD (by first | exact .inl rfl | exact .inr rfl) ?_); simp only [SS, TF138Cnt, Nat.reduceLT, Nat.reduceEqDiff, Nat.reduceAdd, reduceCtorEq])
      simp [bG, e1, hb]
  | false =>
    have n4 : ¬ x = 70 := by simpa using h4
    (try simp only [aT, SS, TF138Cnt, setRange, aA, Nat.reduceLT, Nat.reduceEqDiff, Nat.reduceAdd, reduceCtorEq, q66, q67, q83, q70, h1, h2, h3, h4])
    (refine hQ _ _ _ (aD (by first | exact .inl rfl | exact .inr rfl) ?_); simp only [SS, TF138Cnt, Nat.reduceLT, Nat.reduceEqDiff, Nat.reduceAdd, reduceCtorEq])
    simp [bG, n1, n2, n3, n4]

/-! a byte in a string -/
def hasC (l : List Nat) (c : Int) : Bool := l.any fun x => (x : Int) == c
theorem hasC_drop {l : List Nat} {c : Int} {k x : Nat} (h : l[k]? = some x) : hasC (l.drop k) c = (((x : Int) == c) || hasC (l.drop (k + 1)) c) := by
  obtain ⟨hk, rfl⟩ := List.getElem?_eq_some_iff.1 h
  rw [List.drop_eq_getElem_cons hk]; rfl
def F74 : List EVal → Option EVal
  | [.str l, .int .u8 c] => if l.length < 9223372036854775808 then some (.bool (hasC l c)) else none
  | _ => none
theorem fn74 : FnT 83 F74 := by
  refine Fn.intro mixed aK Tryz.func83 rfl [] (fun _ h => by cases h) ?_
  intro args v hF
  unfold F74 at hF
  split at hF
  rotate_left
  · cases hF
  intro Q hV
  have hQ := aV.of hV
  rename_i l c
  split at hF
  rotate_left
  · cases hF
  rename_i hlen
  cases hF
  refine Top.view (aH.start (n := 17) rfl (by simp)) (aC aK _ _ _ _ ?_)
  (try simp only [aT, SS, aA, Nat.reduceLT])
  refine wp_of_top (Top.loop (I := fun s : { k : Nat // k ≤ l.length ∧ hasC l c = hasC (l.drop k) c } => (mkF 17 [(5, .int .i64 (s.1 : Nat)), (0, .str l), (1, .int .u8 c)], H.start)) (μ := fun s => l.length - s.1) ⟨0, by simp⟩ (aH.sub (by simp [aX])) ?_)
  rintro ⟨k, hk, hf⟩
  refine aC aK _ _ _ _ ?_
  by_cases hlt : k < l.length
  · obtain ⟨x, hx⟩ : ∃ x, l[k]? = some x := ⟨l[k], List.getElem?_eq_getElem hlt⟩
    have c1 : decide ((k : Int) < (l.length : Int)) = true := by simp; omega
    have c2 : IntKind.i64.wrap ((k : Int) + 1) = ((k + 1 : Nat) : Int) := by rw [wrap_id] <;> omega
    have hfd := hasC_drop (c := c) hx
    cases h1 : ((x : Int) == c) with
    | true =>
      (try simp only [SS, TF83Cnt, aA, Nat.reduceLT, Nat.reduceEqDiff, reduceCtorEq, c1, hx, h1])
      (refine hQ _ _ _ (aD (by first | exact .inl rfl | exact .inr rfl) ?_); simp only [SS, TF83Cnt, Nat.reduceLT, Nat.reduceEqDiff, reduceCtorEq])
      rw [hf, hfd, h1]; rfl
    | false =>
      (try simp only [SS, TF83Cnt, aA, Nat.reduceLT, Nat.reduceEqDiff, reduceCtorEq, c1, c2, hx, h1])
      exact ⟨⟨k + 1, hlt, by rw [hf, hfd, h1]; rfl⟩, by simp; omega, aH.sub (by simp [aX])⟩
  · have c1 : decide ((k : Int) < (l.length : Int)) = false := by simp; omega
    (try simp only [SS, TF83Cnt, aA, Nat.reduceLT, Nat.reduceEqDiff, reduceCtorEq, c1])
    (refine hQ _ _ _ (aD (by first | exact .inl rfl | exact .inr rfl) ?_); simp only [SS, TF83Cnt, Nat.reduceLT, Nat.reduceEqDiff, reduceCtorEq])
    rw [hf, List.drop_eq_nil_of_le (by omega)]; rfl
end Go.Ev
