import Derived.Test.YtdhnjbgggkdiiaaGreatDoorNamesB
import Derived.Test.YtdhnjbgggkdiiaaGreatDoorRef2
import Derived.Test.YtdhnjbgggkdiiaaGreatDoorSame
import Derived.Test.YtdhnjbgggkdiiaaGreatDoorPrPlay
set_option linter.unusedSimpArgs false
set_option linter.unusedVariables false
namespace Go.Ev
open Go.RowKit Go.Proofs
set_option linter.defProp false
set_option maxRecDepth 20000
set_option maxHeartbeats 4000000

/-! the draw of a permutation -/
def stepX (x : Int) : Int := (40692 * x) % 2147483399
def swapL (l : List Int) (i j : Nat) : List Int := (l.set i (l.getD j 0)).set j (l.getD i 0)
/-- from i down to 1 -/
def drawL : Nat → Int → List Int → List Int
  | 0, _, l => l
  | i + 1, x, l => drawL i (stepX x) (swapL l (i + 1) ((stepX x) % ((i : Int) + 2)).toNat)
def rangeI (n : Nat) : List Int := (List.range n).map fun k : Nat => (k : Int)
def drawn (key : Int) (n : Nat) : List Int := drawL (n - 1) key (rangeI n)

end Go.Ev
namespace Go.Ev
open Go.RowKit Go.Proofs
set_option linter.defProp false
set_option maxRecDepth 20000
set_option maxHeartbeats 8000000

/-! who touched the ball how often -/
def inNine (b : List Int) : Bool := b.all fun n => decide (1 ≤ n) && decide (n ≤ 9)
theorem touchOK_in : ∀ {b : List Int} {p : Option Int}, touchOK p b = true → inNine b = true
  | [], _, _ => rfl
  | x :: b, p, h => by
    simp only [touchOK, Bool.and_eq_true, withinB, decide_eq_true_eq] at h
    have h2 := touchOK_in h.2
    simp only [inNine, List.all_cons, Bool.and_eq_true, decide_eq_true_eq] at h2 ⊢
    exact ⟨h.1.1, h2⟩
theorem touch_in {o : Bool} {b : List Int} (h : touchE o b = 0) : inNine b = true := by
  unfold touchE at h
  split at h
  · cases h
  split at h
  · rename_i h2; exact touchOK_in h2
  · cases h
theorem mvE_in {m : Mv} (h : mvE m = 0) : inNine m.b = true := by
  apply touch_in (o := m.o)
  unfold mvE moveE at h
  simp only [cV] at h
  repeat' split at h
  all_goals simp_all
/-! the reference's -/
end Go.Ev
namespace Go.Ev
open Go.RowKit Go.Proofs
set_option linter.defProp false
set_option maxRecDepth 20000
set_option maxHeartbeats 8000000

/-! the move of a runner -/
end Go.Ev
namespace Go.Ev
open Go.RowKit Go.Proofs
set_option linter.defProp false
set_option maxRecDepth 20000
set_option maxHeartbeats 8000000

/-! a list of integers, copied -/
/-! the move of a runner -/
theorem mvE_short {m : Mv} (h : mvE m = 0) : m.b.length ≤ 9 := by
  apply Classical.byContradiction
  intro hb
  have h1 : touchE m.o m.b = 16 := by unfold touchE; rw [if_pos (.inl (by omega))]
  unfold mvE moveE at h
  simp only [h1, cV] at h
  repeat' split at h
  all_goals simp_all
end Go.Ev
namespace Go.Ev
open Go.RowKit Go.Proofs
set_option linter.defProp false
def TF30Print := And.intro (And.intro (And.intro (And.intro (And.intro (@Tryz.underlying3) (And.intro (@sz3) (@bN))) (And.intro (And.intro (@I3s) (@I3b)) (And.intro (@bL) (@bO)))) (And.intro (And.intro (And.intro (@Tryz.underlying4) (@sz4)) (And.intro (@dC) (@I4s))) (And.intro (And.intro (@I4b) (@cY)) (And.intro (@dD) (@Tryz.underlying9))))) (And.intro (And.intro (And.intro (@sz9) (And.intro (@bI) (@I9s))) (And.intro (And.intro (@I9b) (@bH)) (And.intro (@bJ) (@Tryz.underlying22)))) (And.intro (And.intro (And.intro (@eN) (@dO)) (And.intro (@eO) (@eP))) (And.intro (And.intro (@dH) (@dP)) (And.intro (@Tryz.underlying24) (@sz24)))))) (And.intro (And.intro (And.intro (And.intro (@fok24) (And.intro (@info24) (@I24s))) (And.intro (And.intro (@I24b) (@zero24)) (And.intro (@grow24) (@Tryz.underlying25)))) (And.intro (And.intro (And.intro (@eB) (@cE)) (And.intro (@eC) (@eD))) (And.intro (And.intro (@cC) (@cF)) (And.intro (@Tryz.underlying27) (@eE))))) (And.intro (And.intro (And.intro (And.intro (@dF) (@cJ)) (And.intro (@eF) (@eG))) (And.intro (And.intro (@cH) (@cK)) (And.intro (@Tryz.underlying30) (@sz30)))) (And.intro (And.intro (And.intro (@info30) (@I30s)) (And.intro (@I30b) (@zero30))) (And.intro (And.intro (@grow30) (@call18)) (And.intro (@call98) (@Tryz.results30))))))
set_option maxRecDepth 20000
set_option maxHeartbeats 8000000

/-! a valid play is one that has a string -/
theorem findL_mem : ∀ {t : List (Bool × List Nat × Int × Int)} {o : Bool} {h : List Nat} {w : Bool × List Nat × Int × Int}, findL o h t = some w → w ∈ t ∧ w.2.1 = h := by
  intro t o h w hf
  unfold findL at hf
  have h1 := List.mem_of_find?_eq_some hf
  have h2 := List.find?_some hf
  simp only [Bool.and_eq_true, beq_iff_eq, decide_eq_true_eq] at h2
  exact ⟨h1, h2.2⟩
theorem way_words : ∀ w ∈ wayT, (w.2.1 ≠ [] ∧ w.2.1.length ≤ 100) ∧ aM w.2.1 = true := by decide +kernel
theorem mvE_way {m : Mv} (h : mvE m = 0) : (m.h ≠ [] ∧ m.h.length ≤ 100) ∧ aM m.h = true := by
  have hw : wayE m.f m.t m.o m.h = 0 := by
    unfold mvE moveE at h
    simp only [cV] at h
    repeat' split at h
    all_goals simp_all
  unfold wayE at hw
  split at hw
  · rename_i w hf
    obtain ⟨h1, h2⟩ := findL_mem hf
    have := way_words w h1
    rwa [h2] at this
  · cases hw
theorem mvE_pr {m : Mv} (h : mvE m = 0) : prB m = true := by
  have h1 := mvE_base h
  unfold baseMv at h1
  simp only [Bool.and_eq_true, decide_eq_true_eq] at h1
  obtain ⟨h2, h3⟩ := mvE_way h
  have h4 := mvE_short h
  have h5 := mvE_in h
  simp only [inNine, List.all_eq_true, Bool.and_eq_true, decide_eq_true_eq] at h5
  simp only [prB, Bool.and_eq_true, decide_eq_true_eq, List.all_eq_true]
  exact ⟨⟨⟨⟨⟨by omega, by omega⟩, h2⟩, h3⟩, fun n hn => by have := h5 n hn; omega⟩, by omega⟩
theorem playE_pr {p e : List Nat} {l : List Mv} (hb : aM p = true ∧ aM e = true) (h : playE p e l = 0) : prP p e l = true := by
  obtain ⟨h1, h2, h3⟩ := playE_zero h
  obtain ⟨h4, h5⟩ := movesE_zero h3
  have hp : p.length ≤ 24 := by
    unfold pitchE at h1
    split at h1
    · assumption
    · cases h1
  have he : e.length ≤ 1 := by
    unfold eventE at h2
    split at h2
    · rename_i hc
      simp only [Bool.or_eq_true, decide_eq_true_eq] at hc
      rcases hc with rfl | hc
      · simp
      · match e, hc with
        | [_], _ => simp
        | [], _ => simp
        | _ :: _ :: _, hc => simp [isEv] at hc
    · cases h2
  simp only [prP, Bool.and_eq_true, decide_eq_true_eq, List.all_eq_true]
  exact ⟨⟨⟨⟨⟨by omega, by omega⟩, hb.1⟩, hb.2⟩, fun m hm => mvE_pr (h5 m hm)⟩, by omega⟩
def printR (p e : List Nat) (late : Bool) (l : List Mv) : List Nat := if playE p e l = 0 then playStr p e late l else []
def F30 : List EVal → Option EVal
  | [.agg [.str p, .str e, .bool late, ms]] => if aM p = true ∧ aM e = true then (dI ms).map fun l => .tup [.str (printR p e late l), .int .i64 (playE p e l)] else none
  | _ => none
theorem fn30 : FnT 30 F30 := by
  refine Fn.intro mixed aI Tryz.func30 rfl [(18, F18), (98, F98)] (by simp only [List.forall_mem_cons]; exact ⟨fn18, fn98, fun _ h => by cases h⟩) ?_
  intro args v hF
  unfold F30 at hF
  split at hF
  rotate_left
  · cases hF
  intro Q hV
  have hQ := aS.of hV
  rename_i p e late ms
  split at hF
  rotate_left
  · cases hF
  rename_i hb
  cases ha : dI ms with
  | none => rw [ha] at hF; cases hF
  | some l =>
  rw [ha] at hF
  cases hF
  obtain ⟨rfl, hlen, hok⟩ := dMoves_inv ha
  clear ha
  have h18 := e18 (late := late) hb hlen hok
  refine Top.view (aH.start (n := 12) rfl (by simp)) (aD aI _ _ _ _ ?_)
  obtain ⟨z, hz⟩ : ∃ z, playE p e l = z := ⟨_, rfl⟩
  rw [hz] at h18
  cases hz0 : (z == 0) with
  | false =>
    have hz1 : ¬ z = 0 := by simpa using hz0
    (try simp only [aG, SS, TF30Print, aF, aA, Nat.reduceLT, Nat.reduceEqDiff, Nat.reduceAdd, reduceCtorEq, h18, hz0])
    (refine hQ _ _ _ (aC (by first | exact .inl rfl | exact .inr rfl) ?_); simp only [SS, TF30Print, Nat.reduceLT, Nat.reduceEqDiff, reduceCtorEq])
    simp only [printR, hz, if_neg hz1]
  | true =>
    have hz1 : z = 0 := by simpa using hz0
    subst hz1
    have h98 : F98 [.agg [.str p, .str e, .bool late, .lsl (aZ l)]] = some (.str (playStr p e late l)) := by
      simp only [F98, dMoves_e hlen hok, Option.bind_some]; rw [if_pos (playE_pr hb hz)]
    (try simp only [aG, SS, TF30Print, aF, aA, Nat.reduceLT, Nat.reduceEqDiff, Nat.reduceAdd, reduceCtorEq, h18, h98])
    (refine hQ _ _ _ (aC (by first | exact .inl rfl | exact .inr rfl) ?_); simp only [SS, TF30Print, Nat.reduceLT, Nat.reduceEqDiff, reduceCtorEq])
    simp only [printR, hz, if_true]
end Go.Ev
