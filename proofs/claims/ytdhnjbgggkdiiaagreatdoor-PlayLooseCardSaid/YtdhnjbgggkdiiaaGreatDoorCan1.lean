import Derived.Test.YtdhnjbgggkdiiaaGreatDoorEvC
import Derived.Test.YtdhnjbgggkdiiaaGreatDoorMoveOf
import Derived.Test.YtdhnjbgggkdiiaaGreatDoorRef2
import Derived.Test.YtdhnjbgggkdiiaaGreatDoorDraw
import Derived.Test.YtdhnjbgggkdiiaaGreatDoorClone
set_option linter.unusedSimpArgs false
set_option linter.unusedVariables false
namespace Go.Ev
open Go.RowKit Go.Proofs
set_option linter.defProp false
set_option maxRecDepth 20000
set_option maxHeartbeats 8000000

/-! the fielders who made the outs -/
end Go.Ev
namespace Go.Ev
open Go.RowKit Go.Proofs
set_option linter.defProp false
set_option maxRecDepth 20000
set_option maxHeartbeats 8000000

/-! the last who touched; putouts -/
end Go.Ev
namespace Go.Ev
open Go.RowKit Go.Proofs
set_option linter.defProp false
def TF174Sort := And.intro (And.intro (And.intro (@Tryz.underlying3) (@sz3)) (And.intro (@bK) (@I3s))) (And.intro (And.intro (@I3b) (@bJ)) (And.intro (@bL) (@Tryz.results174)))
set_option maxRecDepth 20000
set_option maxHeartbeats 8000000

/-! small functions of the library -/
def F174 : List EVal → Option EVal
  | [.int .i64 _] => some (.bool false)
  | _ => none
theorem fn174 : FnT 174 F174 := by
  refine Fn.intro mixed aJ Tryz.func174 rfl [] (fun _ h => by cases h) ?_
  intro args v hF
  unfold F174 at hF
  split at hF
  rotate_left
  · cases hF
  intro Q hV
  have hQ := aW.of hV
  rename_i a
  cases hF
  refine Top.view (aF.start (n := 6) rfl (by simp)) (aD aJ _ _ _ _ ?_)
  (try simp only [aI, SS, aA, Nat.reduceLT, Nat.reduceEqDiff, reduceCtorEq, bne])
  (refine hQ _ _ _ (aC (by first | exact .inl rfl | exact .inr rfl) ?_); simp only [SS, TF174Sort, Nat.reduceLT, Nat.reduceEqDiff, reduceCtorEq])
theorem e174 {a : Int} : F174 [.int .i64 a] = some (.bool false) := rfl
def allInt (b : Int) : Option (List Out) → Bool
  | some l => l.all fun o => match o with | .val (.int .i64 c) _ => c == b | _ => false
  | none => false
theorem run_int {f : FuncId} {F : List EVal → Option EVal} {n : Nat} (H1 : ∀ a u, F a = some u → ∃ b, u = .int .i64 b ∧ allInt b (run Tryz.prog gT quiet n (.call f a H.start)) = true) : FnT f F := by
  intro B0 W0 G a u hF vs fro w hvs hfz hb hs
  obtain ⟨b, rfl, h⟩ := H1 a u hF
  have G1 : dW w.heap.size w gT := G.grow hb hs
  cases hr : run Tryz.prog gT quiet n (.call f a H.start) with
  | none => rw [hr] at h; cases h
  | some outs =>
    rw [hr] at h
    have hall : ∀ o ∈ outs, (match o with | .val (.int .i64 c) _ => c == b | _ => false) = true := List.all_eq_true.1 h
    refine (run_calls mixed aJ hfz G1 (quietK_ok (W0 := ⟨w, fro⟩) mixed aJ G1 100 quietF) hr hvs).mono ?_
    rintro e w' ⟨v, h', u, ρ, hm, rfl, hv, hR⟩
    have := hall _ hm
    split at this
    · rename_i heq
      cases heq
      cases hv
      simp only [beq_iff_eq] at this
      subst this
      refine ⟨_, ρ.fro, rfl, .int _ _, hR.below, ?_⟩
      have hfro : (fun b => if b < w.heap.size then fro b else ρ.fro b) = ρ.fro := by
        funext b
        split
        · rename_i hb; exact (hR.fz0 b hb).symm
        · rfl
      rw [hfro]; exact hR.fz
    · cases this
def bitsOf (n : Int) : Int := if n = 0 then 0 else if n = 1 then 1 else if n < 4 then 2 else if n < 8 then 3 else 4
def F173 : List EVal → Option EVal
  | [.int .u64 n] => if 0 ≤ n ∧ n ≤ 9 then some (.int .i64 (bitsOf n)) else none
  | _ => none
theorem fn173 : FnT 173 F173 := by
  refine run_int (n := 400) fun a u hF => ?_
  unfold F173 at hF
  split at hF
  rotate_left
  · cases hF
  rename_i n
  split at hF
  rotate_left
  · cases hF
  rename_i hn
  cases hF
  have : n = 0 ∨ n = 1 ∨ n = 2 ∨ n = 3 ∨ n = 4 ∨ n = 5 ∨ n = 6 ∨ n = 7 ∨ n = 8 ∨ n = 9 := by omega
  rcases this with rfl | rfl | rfl | rfl | rfl | rfl | rfl | rfl | rfl | rfl <;> exact ⟨_, rfl, by kernel_rfl⟩

/-! sorting in place -/
end Go.Ev
namespace Go.Ev
open Go.RowKit Go.Proofs
set_option linter.defProp false
def TF148Can1 := And.intro (And.intro (And.intro (And.intro (And.intro (@Tryz.underlying3) (@sz3)) (And.intro (@bK) (@I3s))) (And.intro (And.intro (@I3b) (@bJ)) (And.intro (@bL) (And.intro (@Tryz.underlying4) (@sz4))))) (And.intro (And.intro (And.intro (@cT) (@I4s)) (And.intro (@I4b) (And.intro (@cS) (@cU)))) (And.intro (And.intro (@Tryz.underlying9) (@sz9)) (And.intro (@bZ) (And.intro (@I9s) (@I9b)))))) (And.intro (And.intro (And.intro (And.intro (@bX) (@cA)) (And.intro (@Tryz.underlying25) (@dI))) (And.intro (And.intro (@bQ) (@dJ)) (And.intro (@dK) (And.intro (@bP) (@bR))))) (And.intro (And.intro (And.intro (@Tryz.underlying27) (@dN)) (And.intro (@cV) (And.intro (@cF) (@dO)))) (And.intro (And.intro (@dP) (@cC)) (And.intro (@cG) (And.intro (@call149) (@Tryz.results148))))))
def TF149Can1 := And.intro (And.intro (And.intro (@Tryz.underlying3) (@sz3)) (And.intro (@bK) (@I3s))) (And.intro (And.intro (@I3b) (@bJ)) (And.intro (@bL) (And.intro (@call174) (@Tryz.results149))))
def TF150Can1 := And.intro (And.intro (And.intro (And.intro (And.intro (@Tryz.underlying3) (@sz3)) (And.intro (@bK) (@I3s))) (And.intro (And.intro (@I3b) (@bJ)) (And.intro (@bL) (And.intro (@Tryz.underlying4) (@sz4))))) (And.intro (And.intro (And.intro (@cT) (@I4s)) (And.intro (@I4b) (And.intro (@cS) (@cU)))) (And.intro (And.intro (@Tryz.underlying9) (@sz9)) (And.intro (@bZ) (And.intro (@I9s) (@I9b)))))) (And.intro (And.intro (And.intro (And.intro (@bX) (@cA)) (And.intro (@Tryz.underlying25) (@dI))) (And.intro (And.intro (@bQ) (@dJ)) (And.intro (@dK) (And.intro (@bP) (@bR))))) (And.intro (And.intro (And.intro (@Tryz.underlying27) (@dN)) (And.intro (@cV) (And.intro (@cF) (@dO)))) (And.intro (And.intro (@dP) (@cC)) (And.intro (@cG) (And.intro (@call151) (@Tryz.results150))))))
def TF151Can1 := And.intro (And.intro (And.intro (And.intro (And.intro (@Tryz.underlying3) (@sz3)) (And.intro (@bK) (And.intro (@I3s) (@I3b)))) (And.intro (And.intro (@bJ) (And.intro (@bL) (@Tryz.underlying4))) (And.intro (@sz4) (And.intro (@cT) (@I4s))))) (And.intro (And.intro (And.intro (@I4b) (And.intro (@cS) (@cU))) (And.intro (@Tryz.underlying9) (And.intro (@sz9) (@bZ)))) (And.intro (And.intro (@I9s) (And.intro (@I9b) (@bX))) (And.intro (@cA) (And.intro (@Tryz.underlying25) (@dI)))))) (And.intro (And.intro (And.intro (And.intro (@bQ) (And.intro (@dJ) (@dK))) (And.intro (@bP) (And.intro (@bR) (@Tryz.underlying27)))) (And.intro (And.intro (@dN) (And.intro (@cV) (@cF))) (And.intro (@dO) (And.intro (@dP) (@cC))))) (And.intro (And.intro (And.intro (@cG) (And.intro (@Tryz.underlying160) (@sz160))) (And.intro (@fok160) (And.intro (@info160) (@I160s)))) (And.intro (And.intro (@I160b) (And.intro (@zero160) (@grow160))) (And.intro (@call93) (And.intro (@call131) (@Tryz.results151))))))
def TF153Can1 := And.intro (And.intro (And.intro (And.intro (And.intro (@Tryz.underlying3) (And.intro (@sz3) (@bK))) (And.intro (@I3s) (And.intro (@I3b) (@bJ)))) (And.intro (And.intro (@bL) (And.intro (@Tryz.underlying4) (@sz4))) (And.intro (And.intro (@cT) (@I4s)) (And.intro (@I4b) (@cS))))) (And.intro (And.intro (And.intro (@cU) (And.intro (@Tryz.underlying9) (@sz9))) (And.intro (@bZ) (And.intro (@I9s) (@I9b)))) (And.intro (And.intro (@bX) (And.intro (@cA) (@Tryz.underlying22))) (And.intro (And.intro (@dX) (@cZ)) (And.intro (@dY) (@dZ)))))) (And.intro (And.intro (And.intro (And.intro (@cX) (And.intro (@dA) (@Tryz.underlying25))) (And.intro (@dI) (And.intro (@bQ) (@dJ)))) (And.intro (And.intro (@dK) (And.intro (@bP) (@bR))) (And.intro (And.intro (@Tryz.underlying27) (@dN)) (And.intro (@cV) (@cF))))) (And.intro (And.intro (And.intro (@dO) (And.intro (@dP) (@cC))) (And.intro (@cG) (And.intro (@Tryz.underlying123) (@sz123)))) (And.intro (And.intro (@info123) (And.intro (@I123s) (@I123b))) (And.intro (And.intro (@zero123) (@grow123)) (And.intro (@call175) (@Tryz.results153))))))
def TF175Can1 := And.intro (And.intro (And.intro (And.intro (And.intro (@Tryz.underlying3) (@sz3)) (And.intro (@bK) (And.intro (@I3s) (@I3b)))) (And.intro (And.intro (@bJ) (And.intro (@bL) (@Tryz.underlying4))) (And.intro (@sz4) (And.intro (@cT) (@I4s))))) (And.intro (And.intro (And.intro (@I4b) (@cS)) (And.intro (@cU) (And.intro (@Tryz.underlying9) (@sz9)))) (And.intro (And.intro (@bZ) (And.intro (@I9s) (@I9b))) (And.intro (@bX) (And.intro (@cA) (@Tryz.underlying22)))))) (And.intro (And.intro (And.intro (And.intro (@dX) (@cZ)) (And.intro (@dY) (And.intro (@dZ) (@cX)))) (And.intro (And.intro (@dA) (And.intro (@Tryz.underlying25) (@dI))) (And.intro (@bQ) (And.intro (@dJ) (@dK))))) (And.intro (And.intro (And.intro (@bP) (@bR)) (And.intro (@Tryz.underlying27) (And.intro (@dN) (@cV)))) (And.intro (And.intro (@cF) (And.intro (@dO) (@dP))) (And.intro (@cC) (And.intro (@cG) (@Tryz.results175))))))
set_option maxRecDepth 20000
set_option maxHeartbeats 8000000

/-! small functions of the canonical form -/
def cmpI (a b : Int) : Int := if a < b then -1 else if b < a then 1 else 0
def F149 : List EVal → Option EVal
  | [.int .i64 a, .int .i64 b] => some (.int .i64 (cmpI a b))
  | _ => none
theorem e149 {a b : Int} : F149 [.int .i64 a, .int .i64 b] = some (.int .i64 (cmpI a b)) := rfl
theorem fn149 : FnT 149 F149 := by
  refine Fn.intro mixed aJ Tryz.func149 rfl [(174, F174)] (by simp only [List.forall_mem_cons]; exact ⟨fn174, fun _ h => by cases h⟩) ?_
  intro args v hF
  unfold F149 at hF
  split at hF
  rotate_left
  · cases hF
  intro Q hV
  have hQ := aW.of hV
  rename_i a b
  cases hF
  have h1 := e174 (a := a)
  have h2 := e174 (a := b)
  refine Top.view (aF.start (n := 20) rfl (by simp)) (aD aJ _ _ _ _ ?_)
  unfold cmpI at hQ
  by_cases hab : a < b
  · have q1 : decide (a < b) = true := by simpa using hab
    rw [if_pos hab] at hQ
    (try simp only [aI, SS, TF149Can1, aH, aA, Nat.reduceLT, Nat.reduceEqDiff, reduceCtorEq, h1, h2, q1])
    (refine hQ _ _ _ (aC (by first | exact .inl rfl | exact .inr rfl) ?_); simp only [SS, TF149Can1, Nat.reduceLT, Nat.reduceEqDiff, reduceCtorEq])
  have q1 : decide (a < b) = false := by simpa using hab
  rw [if_neg hab] at hQ
  by_cases hba : b < a
  · have q2 : decide (b < a) = true := by simpa using hba
    rw [if_pos hba] at hQ
    (try simp only [aI, SS, TF149Can1, aH, aA, Nat.reduceLT, Nat.reduceEqDiff, reduceCtorEq, h1, h2, q1, q2])
    (refine hQ _ _ _ (aC (by first | exact .inl rfl | exact .inr rfl) ?_); simp only [SS, TF149Can1, Nat.reduceLT, Nat.reduceEqDiff, reduceCtorEq])
  · have q2 : decide (b < a) = false := by simpa using hba
    rw [if_neg hba] at hQ
    (try simp only [aI, SS, TF149Can1, aH, aA, Nat.reduceLT, Nat.reduceEqDiff, reduceCtorEq, h1, h2, q1, q2])
    (refine hQ _ _ _ (aC (by first | exact .inl rfl | exact .inr rfl) ?_); simp only [SS, TF149Can1, Nat.reduceLT, Nat.reduceEqDiff, reduceCtorEq])
def F148 : List EVal → Option EVal
  | [.agg [.int .i64 f, .int .i64 _, .bool _, .str _, .lsl _], .agg [.int .i64 f2, .int .i64 _, .bool _, .str _, .lsl _]] => some (.int .i64 (cmpI f2 f))
  | _ => none
theorem fn148 : FnT 148 F148 := by
  refine Fn.intro mixed aJ Tryz.func148 rfl [(149, F149)] (by simp only [List.forall_mem_cons]; exact ⟨fn149, fun _ h => by cases h⟩) ?_
  intro args v hF
  unfold F148 at hF
  split at hF
  rotate_left
  · cases hF
  intro Q hV
  have hQ := aW.of hV
  rename_i f t o h b f2 t2 o2 h2 b2
  cases hF
  have h149 := e149 (a := f2) (b := f)
  refine Top.view (aF.start (n := 10) rfl (by simp)) (aD aJ _ _ _ _ ?_)
  (try simp only [aI, SS, TF148Can1, aH, aA, Nat.reduceLT, Nat.reduceEqDiff, Nat.reduceAdd, reduceCtorEq, h149])
  (refine hQ _ _ _ (aC (by first | exact .inl rfl | exact .inr rfl) ?_); simp only [SS, TF148Can1, Nat.reduceLT, Nat.reduceEqDiff, reduceCtorEq])
def stayM (m : Mv) : Bool := !m.o && ((m.t == m.f) && (withinB m.f 1 3 && ((findL false m.h wayT).isSome && !decide (m.h = [98]))))
def F151 : List EVal → Option EVal
  | [.agg [.int .i64 f, .int .i64 t, .bool o, .str h, .lsl _]] => some (.bool (stayM ⟨f, t, o, h, []⟩))
  | _ => none
theorem fn151 : FnT 151 F151 := by
  refine Fn.intro mixed aJ Tryz.func151 rfl [(93, F93), (131, F131)] (by simp only [List.forall_mem_cons]; exact ⟨fn93, fn131, fun _ h => by cases h⟩) ?_
  intro args v hF
  unfold F151 at hF
  split at hF
  rotate_left
  · cases hF
  intro Q hV
  have hQ := aW.of hV
  rename_i f t o h b
  cases hF
  have h93 := e93 (n := f) (lo := 1) (hi := 3)
  have h131 : F131 [.bool false, .str h] = some (wayV false h) := rfl
  have u98 : UInt8.toNat 98 = 98 := rfl
  unfold wayV at h131
  unfold stayM at hQ
  dsimp only at hQ
  refine Top.view (aF.start (n := 34) rfl (by simp)) (aD aJ _ _ _ _ ?_)
  cases hw : findL false h wayT with
  | none =>
    rw [hw] at h131 hQ
    simp only [Option.isSome_none, Bool.false_and, Bool.and_false] at hQ
    dsimp only at h131
    cases o with
    | true =>
      (try simp only [aI, SS, TF151Can1, aH, setRange, aA, Nat.reduceLT, Nat.reduceEqDiff, Nat.reduceAdd, reduceCtorEq, h131])
      (refine hQ _ _ _ (aC (by first | exact .inl rfl | exact .inr rfl) ?_); simp only [SS, TF151Can1, Nat.reduceLT, Nat.reduceEqDiff, reduceCtorEq])
    | false =>
    cases h2 : (t == f) with
    | false =>
      (try simp only [aI, SS, TF151Can1, aH, setRange, aA, Nat.reduceLT, Nat.reduceEqDiff, Nat.reduceAdd, reduceCtorEq, h131, h2])
      (refine hQ _ _ _ (aC (by first | exact .inl rfl | exact .inr rfl) ?_); simp only [SS, TF151Can1, Nat.reduceLT, Nat.reduceEqDiff, reduceCtorEq])
    | true =>
    cases h3 : withinB f 1 3 with
    | false =>
      rw [h3] at h93
      (try simp only [aI, SS, TF151Can1, aH, setRange, aA, Nat.reduceLT, Nat.reduceEqDiff, Nat.reduceAdd, reduceCtorEq, h131, h2, h93])
      (refine hQ _ _ _ (aC (by first | exact .inl rfl | exact .inr rfl) ?_); simp only [SS, TF151Can1, Nat.reduceLT, Nat.reduceEqDiff, reduceCtorEq])
    | true =>
      rw [h3] at h93
      (try simp only [aI, SS, TF151Can1, aH, setRange, aA, Nat.reduceLT, Nat.reduceEqDiff, Nat.reduceAdd, reduceCtorEq, h131, h2, h93])
      (refine hQ _ _ _ (aC (by first | exact .inl rfl | exact .inr rfl) ?_); simp only [SS, TF151Can1, Nat.reduceLT, Nat.reduceEqDiff, reduceCtorEq])
  | some w =>
    rw [hw] at h131 hQ
    simp only [Option.isSome_some, Bool.true_and] at hQ
    dsimp only at h131
    cases o with
    | true =>
      (try simp only [aI, SS, TF151Can1, aH, setRange, aA, Nat.reduceLT, Nat.reduceEqDiff, Nat.reduceAdd, reduceCtorEq, h131])
      (refine hQ _ _ _ (aC (by first | exact .inl rfl | exact .inr rfl) ?_); simp only [SS, TF151Can1, Nat.reduceLT, Nat.reduceEqDiff, reduceCtorEq])
    | false =>
    cases h2 : (t == f) with
    | false =>
      rw [h2] at hQ
      (try simp only [aI, SS, TF151Can1, aH, setRange, aA, Nat.reduceLT, Nat.reduceEqDiff, Nat.reduceAdd, reduceCtorEq, h131, h2])
      (refine hQ _ _ _ (aC (by first | exact .inl rfl | exact .inr rfl) ?_); simp only [SS, TF151Can1, Nat.reduceLT, Nat.reduceEqDiff, reduceCtorEq])
    | true =>
    rw [h2] at hQ
    cases h3 : withinB f 1 3 with
    | false =>
      rw [h3] at h93 hQ
      (try simp only [aI, SS, TF151Can1, aH, setRange, aA, Nat.reduceLT, Nat.reduceEqDiff, Nat.reduceAdd, reduceCtorEq, h131, h2, h93])
      (refine hQ _ _ _ (aC (by first | exact .inl rfl | exact .inr rfl) ?_); simp only [SS, TF151Can1, Nat.reduceLT, Nat.reduceEqDiff, reduceCtorEq])
    | true =>
      rw [h3] at h93 hQ
      cases h4 : decide (h = [98]) with
      | true =>
        rw [h4] at hQ
        (try simp only [aI, SS, TF151Can1, aH, setRange, aA, Nat.reduceLT, Nat.reduceEqDiff, Nat.reduceAdd, reduceCtorEq, h131, h2, h93, u98, h4])
        (refine hQ _ _ _ (aC (by first | exact .inl rfl | exact .inr rfl) ?_); simp only [SS, TF151Can1, Nat.reduceLT, Nat.reduceEqDiff, reduceCtorEq])
      | false =>
        rw [h4] at hQ
        (try simp only [aI, SS, TF151Can1, aH, setRange, aA, Nat.reduceLT, Nat.reduceEqDiff, Nat.reduceAdd, reduceCtorEq, h131, h2, h93, u98, h4])
        (refine hQ _ _ _ (aC (by first | exact .inl rfl | exact .inr rfl) ?_); simp only [SS, TF151Can1, Nat.reduceLT, Nat.reduceEqDiff, reduceCtorEq])
def F150 : List EVal → Option EVal
  | [.agg [.int .i64 f, .int .i64 t, .bool o, .str h, .lsl _]] => some (.bool (!stayM ⟨f, t, o, h, []⟩))
  | _ => none
theorem e150 {m : Mv} : F150 [.agg [.int .i64 m.f, .int .i64 m.t, .bool m.o, .str m.h, .lsl (aS m.b)]] = some (.bool (!stayM m)) := rfl
theorem fn150 : FnT 150 F150 := by
  refine Fn.intro mixed aJ Tryz.func150 rfl [(151, F151)] (by simp only [List.forall_mem_cons]; exact ⟨fn151, fun _ h => by cases h⟩) ?_
  intro args v hF
  unfold F150 at hF
  split at hF
  rotate_left
  · cases hF
  intro Q hV
  have hQ := aW.of hV
  rename_i f t o h b
  cases hF
  have h151 : F151 [.agg [.int .i64 f, .int .i64 t, .bool o, .str h, .lsl b]] = some (.bool (stayM ⟨f, t, o, h, []⟩)) := rfl
  refine Top.view (aF.start (n := 6) rfl (by simp)) (aD aJ _ _ _ _ ?_)
  generalize stayM ⟨f, t, o, h, []⟩ = q at *
  cases q <;> ((try simp only [aI, SS, TF150Can1, aH, aA, Nat.reduceLT, Nat.reduceEqDiff, Nat.reduceAdd, reduceCtorEq, h151]); (refine hQ _ _ _ (aC (by first | exact .inl rfl | exact .inr rfl) ?_); simp only [SS, TF150Can1, Nat.reduceLT, Nat.reduceEqDiff, reduceCtorEq]))

/-! is there one? -/
def idxM (p : Mv → Bool) : List Mv → Int → Int
  | [], _ => -1
  | m :: l, i => if p m = true then i else idxM p l (i + 1)
theorem idxM_any {p : Mv → Bool} : ∀ {l : List Mv} {i : Int}, 0 ≤ i → decide (0 ≤ idxM p l i) = l.any p
  | [], _, _ => rfl
  | m :: l, i, h => by
    unfold idxM
    rw [List.any_cons]
    cases hp : p m with
    | true => simp [h]
    | false => rw [if_neg (by simp), idxM_any (l := l) (by omega), Bool.false_or]
theorem idxM_drop {p : Mv → Bool} {l : List Mv} {k : Nat} {m : Mv} (h : l[k]? = some m) : idxM p (l.drop k) (k : Int) = if p m = true then (k : Int) else idxM p (l.drop (k + 1)) ((k + 1 : Nat) : Int) := by
  obtain ⟨hk, rfl⟩ := List.getElem?_eq_some_iff.1 h
  rw [List.drop_eq_getElem_cons hk]; rfl
def F175_121 : List EVal → Option EVal
  | [ms, .func 121 []] => (bH ms).map fun l => .int .i64 (idxM isO l 0)
  | _ => none
theorem fn175_121 : FnT 175 F175_121 := by
  refine Fn.intro mixed aJ Tryz.func175 rfl [(121, F121)] (by simp only [List.forall_mem_cons]; exact ⟨fn121, fun _ h => by cases h⟩) ?_
  intro args v hF
  unfold F175_121 at hF
  split at hF
  rotate_left
  · cases hF
  intro Q hV
  have hQ := aW.of hV
  rename_i ms
  cases ha : bH ms with
  | none => rw [ha] at hF; cases hF
  | some l =>
  rw [ha] at hF
  cases hF
  obtain ⟨rfl, hlen, hok⟩ := bE ha
  clear ha
  have hp2 : ∀ {m : Mv} {q : Bool}, isO m = q → m.o = q := fun h => h
  dsimp only at hQ
  refine Top.view (aF.start (n := 19) rfl (by simp)) (aD aJ _ _ _ _ ?_)
  (try simp only [aI, SS, TF175Can1, aA, Nat.reduceLT, Nat.reduceEqDiff, reduceCtorEq, aL])
  refine aT (Top.loop (I := fun s : { k : Nat // k ≤ l.length ∧ idxM isO l 0 = idxM isO (l.drop k) (k : Int) } => (mkF 19 [(8, .int .i64 (s.1 : Nat)), (7, .int .i64 (l.length : Int)), (0, .lsl (aG l)), (1, .func 121 [])], H.start)) (μ := fun s => l.length - s.1) ⟨0, by simp, rfl⟩ (aF.sub (by simp [look])) ?_)
  rintro ⟨k, hk, hf⟩
  refine aD aJ _ _ _ _ ?_
  by_cases hlt : k < l.length
  rotate_left
  · have q1 : decide ((k : Int) < (l.length : Int)) = false := by simp; omega
    have e0 : l.drop k = [] := List.drop_eq_nil_of_le (by omega)
    rw [hf, e0] at hQ
    (try simp only [SS, aA, Nat.reduceLT, Nat.reduceEqDiff, reduceCtorEq, q1])
    (refine hQ _ _ _ (aC (by first | exact .inl rfl | exact .inr rfl) ?_); simp only [SS, TF175Can1, Nat.reduceLT, Nat.reduceEqDiff, reduceCtorEq])
    rfl
  obtain ⟨m, hx⟩ : ∃ m, l[k]? = some m := ⟨l[k], List.getElem?_eq_getElem hlt⟩
  have q1 : decide ((k : Int) < (l.length : Int)) = true := by simp; omega
  have q2 : IntKind.i64.wrap ((k : Int) + 1) = ((k + 1 : Nat) : Int) := by rw [aP] <;> omega
  have hd := idxM_drop (p := isO) hx
  cases hp : isO m with
  | true =>
    rw [hp, if_pos rfl] at hd
    have hcall : F121 [.agg [.int .i64 m.f, .int .i64 m.t, .bool m.o, .str m.h, .lsl (aS m.b)]] = some (.bool true) := by rw [e121, hp2 hp]
    rw [hf, hd] at hQ
    (try simp only [SS, TF175Can1, aH, aA, Nat.reduceLT, Nat.reduceEqDiff, Nat.reduceAdd, reduceCtorEq, q1, aZ, bT, hx, call121, hcall])
    (refine hQ _ _ _ (aC (by first | exact .inl rfl | exact .inr rfl) ?_); simp only [SS, TF175Can1, Nat.reduceLT, Nat.reduceEqDiff, reduceCtorEq])
  | false =>
    rw [hp, if_neg (by simp)] at hd
    have hcall : F121 [.agg [.int .i64 m.f, .int .i64 m.t, .bool m.o, .str m.h, .lsl (aS m.b)]] = some (.bool false) := by rw [e121, hp2 hp]
    (try simp only [SS, TF175Can1, aH, aA, Nat.reduceLT, Nat.reduceEqDiff, Nat.reduceAdd, reduceCtorEq, q1, q2, aZ, bT, hx, call121, hcall])
    exact ⟨⟨k + 1, hlt, hf.trans hd⟩, by simp; omega, aF.sub (by simp [look])⟩
def F175_122 : List EVal → Option EVal
  | [ms, .func 122 []] => (bH ms).map fun l => .int .i64 (idxM isR l 0)
  | _ => none
theorem fn175_122 : FnT 175 F175_122 := by
  refine Fn.intro mixed aJ Tryz.func175 rfl [(122, F122)] (by simp only [List.forall_mem_cons]; exact ⟨fn122, fun _ h => by cases h⟩) ?_
  intro args v hF
  unfold F175_122 at hF
  split at hF
  rotate_left
  · cases hF
  intro Q hV
  have hQ := aW.of hV
  rename_i ms
  cases ha : bH ms with
  | none => rw [ha] at hF; cases hF
  | some l =>
  rw [ha] at hF
  cases hF
  obtain ⟨rfl, hlen, hok⟩ := bE ha
  clear ha
  have hp2 : ∀ {m : Mv} {q : Bool}, isR m = q → (!m.o && (m.t == 4)) = q := fun h => h
  dsimp only at hQ
  refine Top.view (aF.start (n := 19) rfl (by simp)) (aD aJ _ _ _ _ ?_)
  (try simp only [aI, SS, TF175Can1, aA, Nat.reduceLT, Nat.reduceEqDiff, reduceCtorEq, aL])
  refine aT (Top.loop (I := fun s : { k : Nat // k ≤ l.length ∧ idxM isR l 0 = idxM isR (l.drop k) (k : Int) } => (mkF 19 [(8, .int .i64 (s.1 : Nat)), (7, .int .i64 (l.length : Int)), (0, .lsl (aG l)), (1, .func 122 [])], H.start)) (μ := fun s => l.length - s.1) ⟨0, by simp, rfl⟩ (aF.sub (by simp [look])) ?_)
  rintro ⟨k, hk, hf⟩
  refine aD aJ _ _ _ _ ?_
  by_cases hlt : k < l.length
  rotate_left
  · have q1 : decide ((k : Int) < (l.length : Int)) = false := by simp; omega
    have e0 : l.drop k = [] := List.drop_eq_nil_of_le (by omega)
    rw [hf, e0] at hQ
    (try simp only [SS, aA, Nat.reduceLT, Nat.reduceEqDiff, reduceCtorEq, q1])
    (refine hQ _ _ _ (aC (by first | exact .inl rfl | exact .inr rfl) ?_); simp only [SS, TF175Can1, Nat.reduceLT, Nat.reduceEqDiff, reduceCtorEq])
    rfl
  obtain ⟨m, hx⟩ : ∃ m, l[k]? = some m := ⟨l[k], List.getElem?_eq_getElem hlt⟩
  have q1 : decide ((k : Int) < (l.length : Int)) = true := by simp; omega
  have q2 : IntKind.i64.wrap ((k : Int) + 1) = ((k + 1 : Nat) : Int) := by rw [aP] <;> omega
  have hd := idxM_drop (p := isR) hx
  cases hp : isR m with
  | true =>
    rw [hp, if_pos rfl] at hd
    have hcall : F122 [.agg [.int .i64 m.f, .int .i64 m.t, .bool m.o, .str m.h, .lsl (aS m.b)]] = some (.bool true) := by rw [e122, hp2 hp]
    rw [hf, hd] at hQ
    (try simp only [SS, TF175Can1, aH, aA, Nat.reduceLT, Nat.reduceEqDiff, Nat.reduceAdd, reduceCtorEq, q1, aZ, bT, hx, call122, hcall])
    (refine hQ _ _ _ (aC (by first | exact .inl rfl | exact .inr rfl) ?_); simp only [SS, TF175Can1, Nat.reduceLT, Nat.reduceEqDiff, reduceCtorEq])
  | false =>
    rw [hp, if_neg (by simp)] at hd
    have hcall : F122 [.agg [.int .i64 m.f, .int .i64 m.t, .bool m.o, .str m.h, .lsl (aS m.b)]] = some (.bool false) := by rw [e122, hp2 hp]
    (try simp only [SS, TF175Can1, aH, aA, Nat.reduceLT, Nat.reduceEqDiff, Nat.reduceAdd, reduceCtorEq, q1, q2, aZ, bT, hx, call122, hcall])
    exact ⟨⟨k + 1, hlt, hf.trans hd⟩, by simp; omega, aF.sub (by simp [look])⟩
def F175 : List EVal → Option EVal := fun a => (F175_121 a).or (F175_122 a)
theorem fn175 : FnT 175 F175 := by
  refine Fn.or fun a v h => ?_
  unfold F175 at h
  cases h1 : F175_121 a with
  | some u => rw [h1] at h; exact ⟨F175_121, fn175_121, by rw [h1]; exact h⟩
  | none => rw [h1] at h; exact ⟨F175_122, fn175_122, h⟩
def F153_121 : List EVal → Option EVal
  | [ms, .func 121 []] => (bH ms).map fun l => .bool (l.any isO)
  | _ => none
theorem fn153_121 : FnT 153 F153_121 := by
  refine Fn.intro mixed aJ Tryz.func153 rfl [(175, F175)] (by simp only [List.forall_mem_cons]; exact ⟨fn175, fun _ h => by cases h⟩) ?_
  intro args v hF
  unfold F153_121 at hF
  split at hF
  rotate_left
  · cases hF
  intro Q hV
  have hQ := aW.of hV
  rename_i ms
  cases ha : bH ms with
  | none => rw [ha] at hF; cases hF
  | some l =>
  have h175 : F175 [ms, .func 121 []] = some (.int .i64 (idxM isO l 0)) := by simp only [F175, F175_121, ha, Option.map_some, Option.some_or]
  rw [ha] at hF
  cases hF
  obtain ⟨rfl, hlen, hok⟩ := bE ha
  have q1 := idxM_any (p := isO) (l := l) (i := 0) (by omega)
  dsimp only at hQ
  rw [← q1] at hQ
  clear q1
  refine Top.view (aF.start (n := 9) rfl (by simp)) (aD aJ _ _ _ _ ?_)
  (try simp only [aI, SS, TF153Can1, aH, aA, Nat.reduceLT, Nat.reduceEqDiff, reduceCtorEq, h175])
  (refine hQ _ _ _ (aC (by first | exact .inl rfl | exact .inr rfl) ?_); simp only [SS, TF153Can1, Nat.reduceLT, Nat.reduceEqDiff, reduceCtorEq])
def F153_122 : List EVal → Option EVal
  | [ms, .func 122 []] => (bH ms).map fun l => .bool (l.any isR)
  | _ => none
theorem fn153_122 : FnT 153 F153_122 := by
  refine Fn.intro mixed aJ Tryz.func153 rfl [(175, F175)] (by simp only [List.forall_mem_cons]; exact ⟨fn175, fun _ h => by cases h⟩) ?_
  intro args v hF
  unfold F153_122 at hF
  split at hF
  rotate_left
  · cases hF
  intro Q hV
  have hQ := aW.of hV
  rename_i ms
  cases ha : bH ms with
  | none => rw [ha] at hF; cases hF
  | some l =>
  have h175 : F175 [ms, .func 122 []] = some (.int .i64 (idxM isR l 0)) := by simp only [F175, F175_121, F175_122, ha, Option.map_some, Option.none_or]
  rw [ha] at hF
  cases hF
  obtain ⟨rfl, hlen, hok⟩ := bE ha
  have q1 := idxM_any (p := isR) (l := l) (i := 0) (by omega)
  dsimp only at hQ
  rw [← q1] at hQ
  clear q1
  refine Top.view (aF.start (n := 9) rfl (by simp)) (aD aJ _ _ _ _ ?_)
  (try simp only [aI, SS, TF153Can1, aH, aA, Nat.reduceLT, Nat.reduceEqDiff, reduceCtorEq, h175])
  (refine hQ _ _ _ (aC (by first | exact .inl rfl | exact .inr rfl) ?_); simp only [SS, TF153Can1, Nat.reduceLT, Nat.reduceEqDiff, reduceCtorEq])
def F153 : List EVal → Option EVal := fun a => (F153_121 a).or (F153_122 a)
theorem fn153 : FnT 153 F153 := by
  refine Fn.or fun a v h => ?_
  unfold F153 at h
  cases h1 : F153_121 a with
  | some u => rw [h1] at h; exact ⟨F153_121, fn153_121, by rw [h1]; exact h⟩
  | none => rw [h1] at h; exact ⟨F153_122, fn153_122, h⟩
end Go.Ev
