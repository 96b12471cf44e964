import Derived.Test.YtcdmpceicmbckaaGreatDoorStE
import Derived.Test.YtcdmpceicmbckaaGreatDoorStC
set_option linter.unusedSimpArgs false
set_option linter.unusedVariables false
namespace Go.Ev
open Go.RowKit Go.Proofs
set_option linter.defProp false
def TF60StF := And.intro (And.intro (And.intro (And.intro (And.intro (@Tryz.underlying3) (And.intro (@sz3) (@bP))) (And.intro (And.intro (@I3s) (@I3b)) (And.intro (@bN) (@bQ)))) (And.intro (And.intro (@Tryz.underlying4) (And.intro (@sz4) (@info4))) (And.intro (And.intro (@I4s) (@I4b)) (And.intro (@zero4) (@grow4))))) (And.intro (And.intro (And.intro (@Tryz.underlying22) (And.intro (@sz22) (@info22))) (And.intro (And.intro (@I22s) (@I22b)) (And.intro (@zero22) (@grow22)))) (And.intro (And.intro (And.intro (@Tryz.underlying23) (@sz23)) (And.intro (@info23) (@I23s))) (And.intro (And.intro (@I23b) (@zero23)) (And.intro (@grow23) (@Tryz.underlying26)))))) (And.intro (And.intro (And.intro (And.intro (@sz26) (And.intro (@fok26) (@info26))) (And.intro (And.intro (@I26s) (@I26b)) (And.intro (@zero26) (@grow26)))) (And.intro (And.intro (@Tryz.underlying27) (And.intro (@sz27) (@info27))) (And.intro (And.intro (@I27s) (@I27b)) (And.intro (@zero27) (@grow27))))) (And.intro (And.intro (And.intro (@Tryz.underlying37) (And.intro (@sz37) (@info37))) (And.intro (And.intro (@I37s) (@I37b)) (And.intro (@zero37) (@grow37)))) (And.intro (And.intro (And.intro (@Tryz.underlying162) (@sz162)) (And.intro (@info162) (@I162s))) (And.intro (And.intro (@I162b) (@zero162)) (And.intro (@grow162) (@Tryz.results60))))))
set_option maxRecDepth 20000
set_option maxHeartbeats 4000000

/-! the first error of a state -/
def bL : List Int → Int
  | [] => 0
  | x :: l => if x = 0 then bL l else x
/-- checks of a state, one after another: those before are all 0 -/
def F1060 (fs : List Nat) (good : St → Bool) (vals : St → List Int) : List EVal → Option EVal
  | [.agg l, .lsl fl] => match dSt l with
    | some s => if good s = true ∧ beqLL fl (fs.map (fun f => [EVal.func f []])) = true then some (.int .i64 (bL (vals s))) else none
    | none => none
  | _ => none
theorem fn1060 (KT : Table) (hKT : ∀ p ∈ KT, FnT p.1 p.2) {fs : List Nat} {good : St → Bool} {vals : St → List Int} (hn : fs.length < 100) (hl : ∀ s, (vals s).length = fs.length)
    (hc : ∀ (k f : Nat), fs[k]? = some f → ∀ (h : H) (args : List EVal), aU Tryz.prog h f args = some (.enter f args h))
    (hv : ∀ s, good s = true → ∀ (k f : Nat) (x : Int), fs[k]? = some f → (vals s)[k]? = some x → bL (vals s) = bL ((vals s).drop k) → aM KT f [.agg (eSt s)] = some (.int .i64 x)) : FnT 60 (F1060 fs good vals) := by
  refine Fn.intro mixed aK Tryz.func60 rfl KT hKT ?_
  intro args v hF
  unfold F1060 at hF
  split at hF
  rotate_left
  · cases hF
  rename_i l fl
  split at hF
  rotate_left
  · cases hF
  rename_i s hs
  split at hF
  rotate_left
  · cases hF
  rename_i hgf
  obtain ⟨hgood, hfl⟩ := hgf
  obtain rfl := beqLL_eq hfl
  clear hfl
  cases hF
  obtain rfl := dSt_inv hs
  clear hs
  intro Q hV
  have hQ := aV.of hV
  have hl := hl s
  have hv := hv s hgood
  generalize hV2 : vals s = vs at *
  have hlen : (fs.map (fun f => [EVal.func f []])).length = fs.length := by simp
  have u : eSt s = [.int .i64 s.inn, .int .i64 s.half, .int .i64 s.outs, .int .i64 s.balls, .int .i64 s.strikes, .int .i64 s.b1, .int .i64 s.b2, .int .i64 s.b3, .int .i64 s.n0, .int .i64 s.n1, .int .i64 s.c0, .int .i64 s.c1, .bool s.over] := rfl
  simp only [u] at hv
  refine Top.view (aH.start (n := 21) rfl (by simp)) (aC aK _ _ _ _ ?_)
  (try simp only [aT, SS, TF60StF, aA, Nat.reduceLT, Nat.reduceEqDiff, reduceCtorEq, u, hlen])
  refine wp_of_top (Top.loop (I := fun x : { k : Nat // k ≤ fs.length ∧ bL vs = bL (vs.drop k) } => (mkF 21 [(10, .int .i64 (x.1 : Nat)), (9, .int .i64 (fs.length : Nat)), (8, .lsl (fs.map (fun f => [EVal.func f []]))), (2, .ptr 0 0)], mkH 1 [(0, some (.row [.int .i64 s.inn, .int .i64 s.half, .int .i64 s.outs, .int .i64 s.balls, .int .i64 s.strikes, .int .i64 s.b1, .int .i64 s.b2, .int .i64 s.b3, .int .i64 s.n0, .int .i64 s.n1, .int .i64 s.c0, .int .i64 s.c1, .bool s.over] 26 0 0 false))] 0 [])) (μ := fun x => fs.length - x.1) ⟨0, by omega, rfl⟩ (aH.drop (by simp [aX, below]) (by simp [aG, belowO, below, aN]) (by simp [aG])) ?_)
  rintro ⟨k, hk, hfi⟩
  refine aC aK _ _ _ _ ?_
  dsimp only
  by_cases hlt : k < fs.length
  · obtain ⟨f, hf⟩ : ∃ f, fs[k]? = some f := ⟨fs[k], List.getElem?_eq_getElem hlt⟩
    obtain ⟨x, hx⟩ : ∃ x, vs[k]? = some x := ⟨vs[k], List.getElem?_eq_getElem (by omega)⟩
    have hkn := hv k f x hf hx hfi
    have hcl := hc k f hf
    have hd : vs.drop k = x :: vs.drop (k + 1) := by
      obtain ⟨h1, h2⟩ := List.getElem?_eq_some_iff.1 hx
      rw [List.drop_eq_getElem_cons h1, h2]
    have c1 : decide ((k : Int) < (fs.length : Int)) = true := by simp; omega
    have c2 : IntKind.i64.wrap ((k : Int) + 1) = ((k + 1 : Nat) : Int) := by rw [wrap_id] <;> omega
    have hg : (fs.map (fun f => [EVal.func f []]))[k]? = some [EVal.func f []] := by simp [hf]
    have hb : ((k : Int) < (((fs.map (fun f => [EVal.func f []])).length : Nat) : Int)) = True := by simp; omega
    have hlt2 : ((k : Int) < (fs.length : Int)) = True := by simp; omega
    by_cases h0 : x = 0
    · have c0 : (x == 0) = true := by simp [h0]
      (try simp only [SS, TF60StF, aE, aA, Nat.reduceLT, Nat.reduceEqDiff, Nat.reduceAdd, c2, hg, hlt2, hkn, hcl, c0])
      exact ⟨⟨k + 1, by omega, by rw [hfi, hd, bL, if_pos h0]⟩, by simp; omega, (aH.drop (by simp [aX, below]) (by simp [aG, belowO, below, aN]) (by simp [aG]))⟩
    · have c0 : (x == 0) = false := by simp [h0]
      (try simp only [SS, TF60StF, aE, aA, Nat.reduceLT, Nat.reduceEqDiff, Nat.reduceAdd, hg, hlt2, hkn, hcl, c0])
      (refine hQ _ _ _ (aD (by first | exact .inl rfl | exact .inr rfl) ?_); simp only [SS, TF60StF, Nat.reduceLT, Nat.reduceEqDiff])
      rw [hfi, hd, bL, if_neg h0]
  · have c1 : decide ((k : Int) < (fs.length : Int)) = false := by simp; omega
    (try simp only [SS, aA, Nat.reduceLT, Nat.reduceEqDiff, c1])
    (refine hQ _ _ _ (aD (by first | exact .inl rfl | exact .inr rfl) ?_); simp only [SS, TF60StF, Nat.reduceLT, Nat.reduceEqDiff])
    rw [hfi, List.drop_eq_nil_of_le (by omega)]
    rfl
end Go.Ev
namespace Go.Ev
open Go.RowKit Go.Proofs
set_option maxRecDepth 20000
set_option maxHeartbeats 4000000
/-! CheckState of the program -/
def vals5 (s : St) : List Int := [innE s, halfE s, numE s, endE s, runE s]
def stE (s : St) : Int := bL (vals5 s)
theorem fn1060a : FnT 60 (F1060 [69, 70, 71, 72, 73] (fun _ => true) vals5) := by
  refine fn1060 [(69, F1069), (70, F1070), (71, F1071), (72, F1072), (73, F1073)] (by simp only [List.forall_mem_cons]; exact ⟨fn1069, fn1070, fn1071, fn1072, fn1073, fun _ h => by cases h⟩) (by decide) (fun _ => rfl) ?_ ?_
  · intro k f hf
    match k, hf with
    | 0, hf => cases hf; exact fun h args => call69
    | 1, hf => cases hf; exact fun h args => call70
    | 2, hf => cases hf; exact fun h args => call71
    | 3, hf => cases hf; exact fun h args => call72
    | 4, hf => cases hf; exact fun h args => call73
    | k + 5, hf => simp at hf
  · intro s _ k f x hf hx hfi
    match k, hf, hx, hfi with
    | 0, hf, hx, _ => cases hf; cases hx; rfl
    | 1, hf, hx, _ => cases hf; cases hx; rfl
    | 2, hf, hx, _ => cases hf; cases hx; rfl
    | 3, hf, hx, _ => cases hf; cases hx; rfl
    | 4, hf, hx, hfi =>
      cases hf; cases hx
      show F1073 [.agg (eSt s)] = _
      have hg : goodS s = true ∨ runE s = 0 ∧ False ∨ (goodS s = false) := by cases goodS s <;> simp
      cases hgs : goodS s with
      | true => show (if goodS s = true then _ else _) = _; rw [if_pos hgs]
      | false =>
        exfalso
        have h1 : bL (vals5 s) = if innE s = 0 then (if halfE s = 0 then (if numE s = 0 then (if endE s = 0 then (if runE s = 0 then 0 else runE s) else endE s) else numE s) else halfE s) else innE s := rfl
        have h2 : bL ((vals5 s).drop 4) = if runE s = 0 then 0 else runE s := rfl
        rw [h1, h2] at hfi
        have hr : runE s = 0 ∨ runE s = 11 := by unfold runE; split <;> simp
        have hh : halfE s = 0 ∨ halfE s = 17 := by unfold halfE; split <;> simp
        have hn : numE s = 0 ∨ numE s = 3 := by unfold numE; split <;> simp
        have hi : innE s = 0 ∨ innE s = 3 := by unfold innE; split <;> simp
        have hz : halfE s ≠ 0 ∨ numE s ≠ 0 := by
          simp only [goodS, Bool.and_eq_false_iff] at hgs
          rcases hgs with hgs | hgs
          · left
            unfold halfE
            have : inB s.half 0 1 = false := by
              simp only [halfOK, Bool.or_eq_false_iff, decide_eq_false_iff_not] at hgs
              simp only [inB, Bool.and_eq_false_iff, decide_eq_false_iff_not]
              omega
            simp [this]
          · right
            simp [numE, hgs]
        rcases hr with hr | hr <;> rcases hh with hh | hh <;> rcases hn with hn | hn <;> rcases hi with hi | hi <;> simp [hr, hh, hn, hi] at hfi hz
    | k + 5, hf, _, _ => simp at hf
end Go.Ev
