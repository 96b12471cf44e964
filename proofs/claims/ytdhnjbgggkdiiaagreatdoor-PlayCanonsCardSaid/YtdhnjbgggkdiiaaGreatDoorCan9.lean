import Derived.Test.YtdhnjbgggkdiiaaGreatDoorCan8
import Derived.Test.YtdhnjbgggkdiiaaGreatDoorForm5
import Derived.Test.YtdhnjbgggkdiiaaGreatDoorDraw
set_option linter.unusedSimpArgs false
set_option linter.unusedVariables false
namespace Go.Ev
open Go.RowKit Go.Proofs
set_option linter.defProp false
def TF115Can9 := And.intro (And.intro (And.intro (And.intro (And.intro (@Tryz.underlying3) (@sz3)) (And.intro (@bI) (@I3s))) (And.intro (And.intro (@I3b) (@bH)) (And.intro (@bJ) (And.intro (@Tryz.underlying4) (@sz4))))) (And.intro (And.intro (And.intro (@cO) (@I4s)) (And.intro (@I4b) (And.intro (@cN) (@cP)))) (And.intro (And.intro (@Tryz.underlying9) (@sz9)) (And.intro (@bW) (And.intro (@I9s) (@I9b)))))) (And.intro (And.intro (And.intro (And.intro (@bV) (@bX)) (And.intro (@Tryz.underlying25) (@dB))) (And.intro (And.intro (@bQ) (@dD)) (And.intro (@dE) (And.intro (@bN) (@bR))))) (And.intro (And.intro (And.intro (@Tryz.underlying27) (@dG)) (And.intro (@cT) (And.intro (@cD) (@dI)))) (And.intro (And.intro (@dJ) (@cC)) (And.intro (@cE) (And.intro (@call90) (@Tryz.results115))))))
def TF116Can9 := And.intro (And.intro (And.intro (@Tryz.underlying3) (And.intro (@sz3) (@bI))) (And.intro (And.intro (@I3s) (@I3b)) (And.intro (@bH) (@bJ)))) (And.intro (And.intro (And.intro (@Tryz.underlying25) (@dB)) (And.intro (@bQ) (@dD))) (And.intro (And.intro (@dE) (@bN)) (And.intro (@bR) (@Tryz.results116))))
set_option maxRecDepth 20000
set_option maxHeartbeats 8000000

/-! the reference: stays, plain, Sorted -/
theorem way_some : ∀ c ∈ waysS, (findL false [c] wayT).isSome = true := by decide +kernel
theorem way_is (h : List Nat) : isWayB false h = (findL false h wayT).isSome := by
  cases hw : isWayB false h with
  | true =>
    match h, hw with
    | [c], hw => exact (way_some c (hasC_mem hw)).symm
  | false =>
    have hn : findL false h wayT = none := by
      unfold findL
      rw [List.find?_eq_none]
      intro w hm hc
      simp only [Bool.and_eq_true, beq_iff_eq, decide_eq_true_eq] at hc
      have := way_all w hm
      rw [hc.1, hc.2, hw] at this
      cases this
    rw [hn]; rfl
def F115 : List EVal → Option EVal
  | [.agg [.int .i64 f, .int .i64 t, .bool o, .str h, .lsl b]] => some (.bool (stayM ⟨f, t, o, h, []⟩))
  | _ => none
theorem fn115 : FnT 115 F115 := by
  refine Fn.intro mixed aI Tryz.func115 rfl [(90, F90)] (by simp only [List.forall_mem_cons]; exact ⟨fn90, fun _ h => by cases h⟩) ?_
  intro args v hF
  unfold F115 at hF
  split at hF
  rotate_left
  · cases hF
  intro Q hV
  have hQ := aW.of hV
  rename_i f t o h b
  cases hF
  have h90 := e90 (h := h) (o := false)
  have u98 : UInt8.toNat 98 = 98 := rfl
  rw [way_is] at h90
  unfold stayM withinB at hQ
  dsimp only at hQ
  generalize (findL false h wayT).isSome = w at *
  refine Top.view (aF.start (n := 33) rfl (by simp)) (aD aI _ _ _ _ ?_)
  cases o with
  | true =>
    (try simp only [aH, SS, TF115Can9, aA, Nat.reduceLT, Nat.reduceEqDiff, reduceCtorEq])
    (refine hQ _ _ _ (aC (by first | exact .inl rfl | exact .inr rfl) ?_); simp only [SS, TF115Can9, Nat.reduceLT, Nat.reduceEqDiff, reduceCtorEq])
  | false =>
  cases h2 : (t == f) with
  | false =>
    rw [h2] at hQ
    (try simp only [aH, SS, TF115Can9, aA, Nat.reduceLT, Nat.reduceEqDiff, reduceCtorEq, h2])
    (refine hQ _ _ _ (aC (by first | exact .inl rfl | exact .inr rfl) ?_); simp only [SS, TF115Can9, Nat.reduceLT, Nat.reduceEqDiff, reduceCtorEq])
  | true =>
  rw [h2] at hQ
  cases h3 : decide (1 ≤ f) with
  | false =>
    rw [h3] at hQ
    (try simp only [aH, SS, TF115Can9, aA, Nat.reduceLT, Nat.reduceEqDiff, reduceCtorEq, h2, h3])
    (refine hQ _ _ _ (aC (by first | exact .inl rfl | exact .inr rfl) ?_); simp only [SS, TF115Can9, Nat.reduceLT, Nat.reduceEqDiff, reduceCtorEq])
  | true =>
  rw [h3] at hQ
  cases h4 : decide (f ≤ 3) with
  | false =>
    rw [h4] at hQ
    (try simp only [aH, SS, TF115Can9, aA, Nat.reduceLT, Nat.reduceEqDiff, reduceCtorEq, h2, h3, h4])
    (refine hQ _ _ _ (aC (by first | exact .inl rfl | exact .inr rfl) ?_); simp only [SS, TF115Can9, Nat.reduceLT, Nat.reduceEqDiff, reduceCtorEq])
  | true =>
  rw [h4] at hQ
  cases w with
  | false =>
    (try simp only [aH, SS, TF115Can9, aG, aA, Nat.reduceLT, Nat.reduceEqDiff, reduceCtorEq, h2, h3, h4, h90])
    (refine hQ _ _ _ (aC (by first | exact .inl rfl | exact .inr rfl) ?_); simp only [SS, TF115Can9, Nat.reduceLT, Nat.reduceEqDiff, reduceCtorEq])
  | true =>
  cases h5 : decide (h = [98]) with
  | false =>
    rw [h5] at hQ
    (try simp only [aH, SS, TF115Can9, aG, aA, Nat.reduceLT, Nat.reduceEqDiff, reduceCtorEq, h2, h3, h4, h90, u98, h5])
    (refine hQ _ _ _ (aC (by first | exact .inl rfl | exact .inr rfl) ?_); simp only [SS, TF115Can9, Nat.reduceLT, Nat.reduceEqDiff, reduceCtorEq])
  | true =>
    rw [h5] at hQ
    (try simp only [aH, SS, TF115Can9, aG, aA, Nat.reduceLT, Nat.reduceEqDiff, reduceCtorEq, h2, h3, h4, h90, u98, h5])
    (refine hQ _ _ _ (aC (by first | exact .inl rfl | exact .inr rfl) ?_); simp only [SS, TF115Can9, Nat.reduceLT, Nat.reduceEqDiff, reduceCtorEq])
def F116 : List EVal → Option EVal
  | [b] => (dInts b).bind fun l => if l.length ≤ 1000 then some (.lsl (aS (comp l))) else none
  | _ => none
theorem fn116 : FnT 116 F116 := by
  refine Fn.intro mixed aI Tryz.func116 rfl [] (fun _ h => by cases h) ?_
  intro args v hF
  unfold F116 at hF
  split at hF
  rotate_left
  · cases hF
  intro Q hV
  have hQ := aW.of hV
  rename_i b
  cases ha : dInts b with
  | none => rw [ha] at hF; cases hF
  | some l =>
  rw [ha] at hF
  simp only [Option.bind_some] at hF
  split at hF
  rotate_left
  · cases hF
  rename_i h1000
  cases hF
  obtain ⟨rfl, hlen⟩ := dInts_inv ha
  clear ha
  refine Top.view (aF.start (n := 33) rfl (by simp)) (aD aI _ _ _ _ ?_)
  (try simp only [aH, SS, aA, Nat.reduceLT])
  refine aQ (Top.loop (I := fun s : { k : Nat // k ≤ l.length } => (mkF 33 [(4, .int .i64 (s.1 : Nat)), (3, .gsl 0 (aS (comp (l.take s.1)))), (0, .lsl (aS l))], mkH 0 [] 1 [(0, some ((comp (l.take s.1)).length, 3))])) (μ := fun s => l.length - s.1) ⟨0, by omega⟩ (aF.trans (aF.grow 3 3 (by omega) (by omega) (by simp [look])) (aF.sub (by simp [look, comp, aS]))) ?_)
  rintro ⟨k, hk⟩
  refine aD aI _ _ _ _ ?_
  dsimp only
  by_cases hlt : k < l.length
  rotate_left
  · obtain rfl : k = l.length := by omega
    have q1 : decide ((l.length : Int) < (l.length : Int)) = false := by simp
    rw [List.take_length]
    (try simp only [SS, TF116Can9, aA, Nat.reduceLT, Nat.reduceEqDiff, reduceCtorEq, aM, q1])
    (refine hQ _ _ _ (aC (by first | exact .inl rfl | exact .inr rfl) ?_); simp only [SS, TF116Can9, Nat.reduceLT, Nat.reduceEqDiff, reduceCtorEq])
  have hcl : (comp (l.take k)).length ≤ 1000 := by
    have h1 := comp_len (l.take k)
    rw [List.length_take] at h1
    omega
  have hx : l[k]? = some (at0 l k) := by simp [at0, hlt]
  have q1 : decide ((k : Int) < (l.length : Int)) = true := by simp; omega
  have q2 : IntKind.i64.wrap ((k : Int) + 1) = ((k + 1 : Nat) : Int) := by rw [aP] <;> omega
  have q3 : 8 * ((comp (l.take k)).length + 1) ≤ 1000000 := by omega
  have hcs : comp (l.take (k + 1)) = comp (l.take k) ++ (if ((k : Int) == 0) = false ∧ at0 l (k - 1) = at0 l k then [] else [at0 l k]) := by
    by_cases h0 : k = 0
    · subst h0
      rw [List.take_add_one, hx]; rfl
    · rw [comp_step (by omega) hlt]
      have : ((k : Int) == 0) = false := by rw [beq_eq_false_iff_ne]; omega
      simp only [this, true_and]
  obtain ⟨C, hC⟩ : ∃ C, C = comp (l.take k) := ⟨_, rfl⟩
  rw [← hC] at hcs q3 hcl ⊢
  cases q4 : ((k : Int) == 0) with
  | true =>
    rw [q4, if_neg (by simp)] at hcs
    (try simp only [SS, TF116Can9, aA, Nat.reduceLT, Nat.reduceEqDiff, reduceCtorEq, aM, q1])
    refine aU (Top.draw mixed aI (by kernel_rfl) ?_)
    (try simp only [SS, TF116Can9, aA, Nat.reduceLT, Nat.reduceEqDiff, reduceCtorEq, q4])
    refine ⟨by kernel_rfl, ?_⟩
    (try simp only [SS, TF116Can9, setRange, bK, aA, aE, Nat.reduceLT, Nat.reduceEqDiff, Nat.reduceLeDiff, reduceCtorEq, aM, bF, hx, q2, q3, lensOK_eInts, eInts_snoc])
    refine ⟨⟨k + 1, hlt⟩, by simp; omega, ?_⟩
    simp only [hcs, List.length_append, List.length_cons, List.length_nil]
    exact (aF.drop (by simp [look, below]) (by simp [aB, bC]) (by simp [aB]))
  | false =>
    have k0 : k ≠ 0 := by rw [beq_eq_false_iff_ne] at q4; omega
    have hx0 : l[k - 1]? = some (at0 l (k - 1)) := by simp [at0, show k - 1 < l.length by omega]
    rw [q4] at hcs
    have q5 : IntKind.i64.wrap ((k : Int) - 1) = ((k - 1 : Nat) : Int) := by rw [aP] <;> omega
    have hcomm : (at0 l k == at0 l (k - 1)) = (at0 l (k - 1) == at0 l k) := by rw [Bool.eq_iff_iff, beq_iff_eq, beq_iff_eq]; exact eq_comm
    generalize at0 l k = x at *
    generalize at0 l (k - 1) = y at *
    (try simp only [SS, TF116Can9, aA, Nat.reduceLT, Nat.reduceEqDiff, reduceCtorEq, aM, q1])
    refine aU (Top.draw mixed aI (by kernel_rfl) ?_)
    cases he : (y == x) with
    | true =>
      rw [he] at hcomm
      rw [if_pos ⟨rfl, by simpa using he⟩, List.append_nil] at hcs
      (try simp only [SS, TF116Can9, aA, Nat.reduceLT, Nat.reduceEqDiff, reduceCtorEq, q4, bF, hx, hx0, q5, hcomm])
      refine ⟨by kernel_rfl, ?_⟩
      (try simp only [q2])
      refine ⟨⟨k + 1, hlt⟩, by simp; omega, ?_⟩
      simp only [hcs]
      exact (aF.drop (by simp [look, below]) (by simp [aB, bC]) (by simp [aB]))
    | false =>
      rw [he] at hcomm
      rw [if_neg (by rw [beq_eq_false_iff_ne] at he; exact fun h => he h.2)] at hcs
      (try simp only [SS, TF116Can9, setRange, bK, aA, aE, Nat.reduceLT, Nat.reduceEqDiff, Nat.reduceLeDiff, reduceCtorEq, q4, bF, hx, hx0, q5, hcomm])
      refine ⟨by kernel_rfl, ?_⟩
      (try simp only [SS, aA, Nat.reduceLT, Nat.reduceEqDiff, reduceCtorEq, aM, q2, q3, lensOK_eInts, eInts_snoc])
      refine ⟨⟨k + 1, hlt⟩, by simp; omega, ?_⟩
      simp only [hcs, List.length_append, List.length_cons, List.length_nil]
      exact (aF.drop (by simp [look, below]) (by simp [aB, bC]) (by simp [aB]))
theorem e115 {m : Mv} : F115 [.agg [.int .i64 m.f, .int .i64 m.t, .bool m.o, .str m.h, .lsl (aS m.b)]] = some (.bool (stayM m)) := rfl
theorem e116 {b : List Int} (h : b.length ≤ 1000) : F116 [.lsl (aS b)] = some (.lsl (aS (comp b))) := by
  simp only [F116, dInts_e (show b.length < 9223372036854775808 by omega), Option.bind_some]; rw [if_pos h]
end Go.Ev
