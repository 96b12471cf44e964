import Derived.Test.YtdhnjbgggkdiiaaGreatDoorRef2
import Derived.Test.YtdhnjbgggkdiiaaGreatDoorDraw
import Derived.Test.YtdhnjbgggkdiiaaGreatDoorPrPlay
import Derived.Test.YtdhnjbgggkdiiaaGreatDoorClone
import Derived.Test.YtdhnjbgggkdiiaaGreatDoorParseV
import Derived.Test.YtdhnjbgggkdiiaaGreatDoorRefParse
set_option linter.unusedSimpArgs false
set_option linter.unusedVariables false
namespace Go.Ev
open Go.RowKit Go.Proofs
set_option linter.defProp false
set_option maxRecDepth 20000
set_option maxHeartbeats 8000000

/-! who touched the ball how often -/
def inNine (b : List Int) : Bool := b.all fun n => decide (1 ≤ n) && decide (n ≤ 9)
theorem allOne_eRow (l : List Int) : allOne (dF l) = true := by
  induction l with
  | nil => rfl
  | cons a l ih => simpa [allOne, EVal.one, dF] using ih
theorem touchOK_in : ∀ {b : List Int} {p : Option Int}, touchOK p b = true → inNine b = true
  | [], _, _ => rfl
  | x :: b, p, h => by
    simp only [touchOK, Bool.and_eq_true, withinB, decide_eq_true_eq] at h
    have h2 := touchOK_in h.2
    simp only [inNine, List.all_cons, Bool.and_eq_true, decide_eq_true_eq] at h2 ⊢
    exact ⟨h.1.1, h2⟩
theorem touch_in {o : Bool} {b : List Int} (h : touchE o b = 0) : inNine b = true := by
  unfold touchE at h
  split at h
  · cases h
  split at h
  · rename_i h2; exact touchOK_in h2
  · cases h
theorem mvE_in {m : Mv} (h : mvE m = 0) : inNine m.b = true := by
  apply touch_in (o := m.o)
  unfold mvE moveE at h
  simp only [cH] at h
  repeat' split at h
  all_goals simp_all
/-! the reference's -/
end Go.Ev
namespace Go.Ev
open Go.RowKit Go.Proofs
set_option linter.defProp false
def TF30Print := And.intro (And.intro (And.intro (And.intro (And.intro (@Tryz.underlying3) (And.intro (@sz3) (@bK))) (And.intro (And.intro (@I3s) (@I3b)) (And.intro (@bJ) (@bL)))) (And.intro (And.intro (And.intro (@Tryz.underlying4) (@sz4)) (And.intro (@cT) (@I4s))) (And.intro (And.intro (@I4b) (@cS)) (And.intro (@cU) (@Tryz.underlying9))))) (And.intro (And.intro (And.intro (@sz9) (And.intro (@bZ) (@I9s))) (And.intro (And.intro (@I9b) (@bX)) (And.intro (@cA) (@Tryz.underlying22)))) (And.intro (And.intro (And.intro (@dX) (@cZ)) (And.intro (@dY) (@dZ))) (And.intro (And.intro (@cX) (@dA)) (And.intro (@Tryz.underlying24) (@sz24)))))) (And.intro (And.intro (And.intro (And.intro (@fok24) (And.intro (@info24) (@I24s))) (And.intro (And.intro (@I24b) (@zero24)) (And.intro (@grow24) (@Tryz.underlying25)))) (And.intro (And.intro (And.intro (@dI) (@bQ)) (And.intro (@dJ) (@dK))) (And.intro (And.intro (@bP) (@bR)) (And.intro (@Tryz.underlying27) (@dN))))) (And.intro (And.intro (And.intro (And.intro (@cV) (@cF)) (And.intro (@dO) (@dP))) (And.intro (And.intro (@cC) (@cG)) (And.intro (@Tryz.underlying30) (@sz30)))) (And.intro (And.intro (And.intro (@info30) (@I30s)) (And.intro (@I30b) (@zero30))) (And.intro (And.intro (@grow30) (@call18)) (And.intro (@call98) (@Tryz.results30))))))
set_option maxRecDepth 20000
set_option maxHeartbeats 8000000

/-! a valid play is one that has a string -/
theorem findL_mem : ∀ {t : List (Bool × List Nat × Int × Int)} {o : Bool} {h : List Nat} {w : Bool × List Nat × Int × Int}, findL o h t = some w → w ∈ t ∧ w.2.1 = h := by
  intro t o h w hf
  unfold findL at hf
  have h1 := List.mem_of_find?_eq_some hf
  have h2 := List.find?_some hf
  simp only [Bool.and_eq_true, beq_iff_eq, decide_eq_true_eq] at h2
  exact ⟨h1, h2.2⟩
theorem way_words : ∀ w ∈ wayT, (w.2.1 ≠ [] ∧ w.2.1.length ≤ 100) ∧ aU w.2.1 = true := by decide +kernel
theorem mvE_way {m : Mv} (h : mvE m = 0) : (m.h ≠ [] ∧ m.h.length ≤ 100) ∧ aU m.h = true := by
  have hw : wayE m.f m.t m.o m.h = 0 := by
    unfold mvE moveE at h
    simp only [cH] at h
    repeat' split at h
    all_goals simp_all
  unfold wayE at hw
  split at hw
  · rename_i w hf
    obtain ⟨h1, h2⟩ := findL_mem hf
    have := way_words w h1
    rwa [h2] at this
  · cases hw
theorem mvE_pr {m : Mv} (h : mvE m = 0) : prB m = true := by
  have h1 := mvE_base h
  unfold baseMv at h1
  simp only [Bool.and_eq_true, decide_eq_true_eq] at h1
  obtain ⟨h2, h3⟩ := mvE_way h
  have h4 := mvE_short h
  have h5 := mvE_in h
  simp only [inNine, List.all_eq_true, Bool.and_eq_true, decide_eq_true_eq] at h5
  simp only [prB, Bool.and_eq_true, decide_eq_true_eq, List.all_eq_true]
  exact ⟨⟨⟨⟨⟨by omega, by omega⟩, h2⟩, h3⟩, fun n hn => by have := h5 n hn; omega⟩, by omega⟩
theorem playE_pr {p e : List Nat} {l : List Mv} (hb : aU p = true ∧ aU e = true) (h : playE p e l = 0) : prP p e l = true := by
  obtain ⟨h1, h2, h3⟩ := playE_zero h
  obtain ⟨h4, h5⟩ := movesE_zero h3
  have hp : p.length ≤ 24 := by
    unfold pitchE at h1
    split at h1
    · assumption
    · cases h1
  have he : e.length ≤ 1 := by
    unfold eventE at h2
    split at h2
    · rename_i hc
      simp only [Bool.or_eq_true, decide_eq_true_eq] at hc
      rcases hc with rfl | hc
      · simp
      · match e, hc with
        | [_], _ => simp
        | [], _ => simp
        | _ :: _ :: _, hc => simp [isEv] at hc
    · cases h2
  simp only [prP, Bool.and_eq_true, decide_eq_true_eq, List.all_eq_true]
  exact ⟨⟨⟨⟨⟨by omega, by omega⟩, hb.1⟩, hb.2⟩, fun m hm => mvE_pr (h5 m hm)⟩, by omega⟩
def printR (p e : List Nat) (late : Bool) (l : List Mv) : List Nat := if playE p e l = 0 then playStr p e late l else []
def F30 : List EVal → Option EVal
  | [.agg [.str p, .str e, .bool late, ms]] => if aU p = true ∧ aU e = true then (bH ms).map fun l => .tup [.str (printR p e late l), .int .i64 (playE p e l)] else none
  | _ => none
theorem fn30 : FnT 30 F30 := by
  refine Fn.intro mixed aJ Tryz.func30 rfl [(18, F18), (98, F98)] (by simp only [List.forall_mem_cons]; exact ⟨fn18, fn98, fun _ h => by cases h⟩) ?_
  intro args v hF
  unfold F30 at hF
  split at hF
  rotate_left
  · cases hF
  intro Q hV
  have hQ := aW.of hV
  rename_i p e late ms
  split at hF
  rotate_left
  · cases hF
  rename_i hb
  cases ha : bH ms with
  | none => rw [ha] at hF; cases hF
  | some l =>
  rw [ha] at hF
  cases hF
  obtain ⟨rfl, hlen, hok⟩ := bE ha
  clear ha
  have h18 := e18 (late := late) hb hlen hok
  refine Top.view (aF.start (n := 12) rfl (by simp)) (aD aJ _ _ _ _ ?_)
  obtain ⟨z, hz⟩ : ∃ z, playE p e l = z := ⟨_, rfl⟩
  rw [hz] at h18
  cases hz0 : (z == 0) with
  | false =>
    have hz1 : ¬ z = 0 := by simpa using hz0
    (try simp only [aI, SS, TF30Print, aH, aA, Nat.reduceLT, Nat.reduceEqDiff, Nat.reduceAdd, reduceCtorEq, h18, hz0])
    (refine hQ _ _ _ (aC (by first | exact .inl rfl | exact .inr rfl) ?_); simp only [SS, TF30Print, Nat.reduceLT, Nat.reduceEqDiff, reduceCtorEq])
    simp only [printR, hz, if_neg hz1]
  | true =>
    have hz1 : z = 0 := by simpa using hz0
    subst hz1
    have h98 : F98 [.agg [.str p, .str e, .bool late, .lsl (aG l)]] = some (.str (playStr p e late l)) := by
      simp only [F98, cB hlen hok, Option.bind_some]; rw [if_pos (playE_pr hb hz)]
    (try simp only [aI, SS, TF30Print, aH, aA, Nat.reduceLT, Nat.reduceEqDiff, Nat.reduceAdd, reduceCtorEq, h18, h98])
    (refine hQ _ _ _ (aC (by first | exact .inl rfl | exact .inr rfl) ?_); simp only [SS, TF30Print, Nat.reduceLT, Nat.reduceEqDiff, reduceCtorEq])
    simp only [printR, hz, if_true]
end Go.Ev
namespace Go.Ev
open Go.RowKit Go.Proofs
set_option linter.defProp false
set_option maxRecDepth 20000
set_option maxHeartbeats 8000000

/-! the words of a string, gone over -/
end Go.Ev
namespace Go.Ev
open Go.RowKit Go.Proofs
set_option linter.defProp false
set_option maxRecDepth 20000
set_option maxHeartbeats 8000000

/-! the first wrong word -/
section
variable {P : Program} {g : G} {K : bI}
end
end Go.Ev
namespace Go.Ev
open Go.RowKit Go.Proofs
set_option linter.defProp false
set_option maxRecDepth 20000
set_option maxHeartbeats 8000000

/-! a play, read -/
def zeroP : EObj := .row [.str [], .str [], .bool false, .nilslice] 24 0 0 false
structure RInv (lp o : EObj) (S : List Nat) (G0 : Pl) (i : Nat) (q : Pl) (v : EVal) (N : Nat) (l : List (Nat × Option EObj)) : Prop where
  rd : G0 = readG i q ((cY 32 S).drop i)
  wr : ∃ a, wrongAt i a ((cY 32 S).drop i) = none
  len : q.m.length ≤ i
  ok : ∀ m ∈ q.m, eA m
  hN : N ≤ 12 + i
  hN2 : 12 ≤ N
  ml : ML 12 v q.m N l
  l11 : aB l 11 = some lp
  l10 : aB l 10 = some (.deferred false)
  l9 : aB l 9 = some (.row [.str S] 9 0 0 false)
  l8 : aB l 8 = some (.row [.int .i64 (i : Nat)] 3 0 0 false)
  l7 : aB l 7 = some (.row [.str q.p, .str q.e, .bool q.l, v] 24 0 0 false)
  l6 : aB l 6 = some zeroP
  l0 : aB l 0 = some o
end Go.Ev
namespace Go.Ev
open Go.RowKit Go.Proofs
set_option linter.defProp false
set_option maxRecDepth 20000
set_option maxHeartbeats 8000000

/-! the program's Parse -/
end Go.Ev
namespace Go.Ev
open Go.RowKit Go.Proofs
set_option maxRecDepth 20000
set_option maxHeartbeats 8000000

/-! a valid play's string, read again -/
theorem blk_join (w : List Nat) (r : List (List Nat)) : joinB (w :: r) = if r = [] then w else w ++ 32 :: joinB r := by
  cases r with
  | nil => simp [joinB, blk]
  | cons x r => simp [joinB, blk]
theorem split_join : ∀ {ws : List (List Nat)}, ws ≠ [] → (∀ w ∈ ws, ∀ x ∈ w, x ≠ 32) → cY 32 (joinB ws) = ws
  | [], h, _ => absurd rfl h
  | w :: r, _, h => by
    have hw := h w List.mem_cons_self
    rw [blk_join]
    split
    · rename_i hr
      rw [hr, splitC_word hw]
    · rename_i hr
      rw [splitC_cut hw, split_join hr fun x hx => h x (List.mem_cons_of_mem _ hx)]
theorem dig_digN {n : Int} (h : 0 ≤ n ∧ n ≤ 9) : digN (dig n) = true := by
  have e : ((dig n : Nat) : Int) = n + 48 := by unfold dig; omega
  simp only [digN, digitB, e, Bool.and_eq_true, decide_eq_true_eq]; omega
theorem valN_dig {n : Int} (h : 0 ≤ n) : valN (dig n) = n := by unfold valN dig; omega
theorem digN_32 {x : Nat} (h : digN x = true) : x ≠ 32 := by
  intro e; subst e; revert h; decide
theorem lowN_32 {x : Nat} (h : lowN x = true) : x ≠ 32 := by
  intro e; subst e; revert h; decide
theorem isP_32 {x : Nat} (h : isP x = true) : x ≠ 32 ∧ x ≠ 45 := by
  constructor <;> (intro e; subst e; revert h; decide)
theorem way_low : ∀ w ∈ wayT, w.2.1.length = 1 ∧ (w.2.1.all lowN) = true := by decide
theorem mvE_low {m : Mv} (h : mvE m = 0) : ∃ d, m.h = [d] ∧ lowN d = true := by
  have hw : wayE m.f m.t m.o m.h = 0 := by
    unfold mvE moveE at h
    simp only [cH] at h
    repeat' split at h
    all_goals simp_all
  unfold wayE at hw
  split at hw
  · rename_i w hf
    obtain ⟨h1, h2⟩ := findL_mem hf
    obtain ⟨a, b⟩ := way_low w h1
    rw [h2] at a b
    match hm : m.h, a, b with
    | [d], _, b => exact ⟨d, rfl, by simpa using b⟩
  · cases hw
theorem moveStr_back {m : Mv} (h : mvE m = 0) : mvW (cM m) = true ∧ mvOf (cM m) = m ∧ ∀ x ∈ cM m, x ≠ 32 := by
  obtain ⟨d, hd, hl⟩ := mvE_low h
  obtain ⟨hf, ht, -, -, hb, -⟩ := prB_iff (mvE_pr h)
  have hms : cM m = dig m.f :: signC m.o :: dig m.t :: d :: byStr m.b := by simp [cM, hd]
  have hs : signC m.o = 45 ∨ signC m.o = 120 := by unfold signC; split <;> simp
  have hbd : (m.b.map dig).all digN = true := by
    simp only [List.all_map, List.all_eq_true, Function.comp_apply]
    exact fun n hn => dig_digN (hb n hn)
  rw [hms]
  refine ⟨?_, ?_, ?_⟩
  · have h1 : ((signC m.o == 45) || (signC m.o == 120)) = true := by rcases hs with e | e <;> rw [e] <;> rfl
    simp only [mvW, h1, dig_digN hf, dig_digN ht, hl, Bool.true_and, Bool.and_self]
    unfold byStr
    split
    · rfl
    · rename_i hne
      simp only [madeOf, hbd]
      simp [hne]
  · have h2 : ((byStr m.b).drop 1).map valN = m.b := by
      unfold byStr
      split
      · rename_i he; rw [he]; rfl
      · show (m.b.map dig).map valN = m.b
        rw [List.map_map]
        conv => rhs; rw [← List.map_id m.b]
        exact List.map_congr_left fun n hn => valN_dig (hb n hn).1
    have h3 : (signC m.o == 120) = m.o := by unfold signC; cases m.o <;> rfl
    show (⟨valN (dig m.f), valN (dig m.t), signC m.o == 120, [d], ((byStr m.b).drop 1).map valN⟩ : Mv) = m
    rw [h2, h3, valN_dig hf.1, valN_dig ht.1, ← hd]
  · intro x hx
    simp only [List.mem_cons] at hx
    rcases hx with rfl | rfl | rfl | rfl | hx
    · exact digN_32 (dig_digN hf)
    · rcases hs with e | e <;> rw [e] <;> decide
    · exact digN_32 (dig_digN ht)
    · exact lowN_32 hl
    · unfold byStr at hx
      split at hx
      · cases hx
      · rcases List.mem_cons.1 hx with rfl | hx
        · decide
        · exact digN_32 (List.all_eq_true.1 hbd x hx)
theorem pitches_all : ∀ {p : List Nat}, pitchesOK p = true → ∀ x ∈ p, isP x = true
  | [], _, x, hx => by cases hx
  | a :: p, h, x, hx => by
    simp only [pitchesOK, Bool.and_eq_true] at h
    rcases List.mem_cons.1 hx with rfl | hx
    · exact h.1.1
    · exact pitches_all h.2 x hx
/-- moves read again, from the third word on -/
theorem moves_back {L : List Mv} : ∀ {l : List Mv} {i : Nat} {q : Pl} {a : Nat}, 2 ≤ i → (∀ m ∈ l, mvE m = 0) → wrongAt i a (l.map cM) = none ∧ readG i q (l.map cM) = ⟨q.p, q.e, q.l, q.m ++ l⟩
  | [], _, q, _, _, _ => by simp [wrongAt, readG]
  | m :: l, i, q, a, hi, h => by
    obtain ⟨h1, h2, -⟩ := moveStr_back (h m List.mem_cons_self)
    have hnl : cM m ≠ lateB := by
      intro e; rw [e] at h1; revert h1; decide
    have hr : rightW i (cM m) = true := by
      unfold rightW
      rw [if_neg (by omega), if_neg (by omega)]
      split
      · rw [h1, Bool.or_true]
      · exact h1
    have hs : stepP i q (cM m) = ⟨q.p, q.e, q.l, q.m ++ [m]⟩ := by
      unfold stepP
      rw [if_neg (by omega), if_neg (by omega), if_neg (by rintro ⟨_, h⟩; exact hnl h), h2]
    obtain ⟨i1, i2⟩ := moves_back (L := L) (l := l) (i := i + 1) (q := ⟨q.p, q.e, q.l, q.m ++ [m]⟩) (a := a + (cM m).length + 1) (by omega) (fun x hx => h x (List.mem_cons_of_mem _ hx))
    rw [List.map_cons]
    refine ⟨?_, ?_⟩
    · unfold wrongAt; rw [if_pos hr]; exact i1
    · unfold readG; rw [hs, i2]; simp
theorem lenS_bound {B : Nat} : ∀ {ws : List (List Nat)}, (∀ w ∈ ws, w.length ≤ B) → dS ws ≤ ws.length * B
  | [], _ => by simp [dS]
  | w :: ws, h => by
    have ih := lenS_bound (ws := ws) fun x hx => h x (List.mem_cons_of_mem _ hx)
    have hw := h w List.mem_cons_self
    simp only [dS, List.flatten_cons, List.length_append, List.length_cons] at ih ⊢
    rw [Nat.succ_mul]; omega
theorem dash_pit {p : List Nat} (h : pitchesOK p = true) : pitW (cP p) = true ∧ undash (cP p) = p ∧ ∀ x ∈ cP p, x ≠ 32 := by
  by_cases hp : p = []
  · subst hp; refine ⟨by decide, by decide, by decide⟩
  · have ha := pitches_all h
    have e : cP p = p := by simp [cP, hp]
    have hn : p ≠ [45] := by
      intro e2; subst e2
      exact (isP_32 (ha 45 (by simp))).2 rfl
    rw [e]
    refine ⟨?_, by simp [undash, hn], fun x hx => (isP_32 (ha x hx)).1⟩
    simp only [pitW, madeOf, Bool.or_eq_true, Bool.and_eq_true, List.all_eq_true, decide_eq_true_eq]
    exact .inr ⟨ha, hp⟩
theorem dash_ev {e : List Nat} (h : eventE e = 0) : (decide (cP e = [45]) || isEv (cP e)) = true ∧ undash (cP e) = e ∧ (∀ x ∈ cP e, x ≠ 32) ∧ (cP e).length ≤ 1 := by
  unfold eventE at h
  split at h
  · rename_i hc
    simp only [Bool.or_eq_true, decide_eq_true_eq] at hc
    rcases hc with rfl | hc
    · refine ⟨by decide, by decide, by decide, by decide⟩
    · match e, hc with
      | [x], hc =>
        have e1 : cP [x] = [x] := rfl
        rw [e1, hc, Bool.or_true]
        refine ⟨rfl, ?_, ?_, by simp⟩
        · unfold undash
          rw [if_neg]
          intro e2; rw [e2] at hc; revert hc; decide
        · intro y hy e2
          rw [List.mem_singleton] at hy
          subst hy; subst e2; revert hc; decide
      | [], hc => cases hc
      | _ :: _ :: _, hc => cases hc
  · cases h
theorem back {p e : List Nat} {late : Bool} {l : List Mv} (h : playE p e l = 0) : parseT (playStr p e late l) = (⟨p, e, late, l⟩, 0, 0) := by
  obtain ⟨h1, h2, h3⟩ := playE_zero h
  obtain ⟨h4, h5⟩ := movesE_zero h3
  have hp : p.length ≤ 24 ∧ pitchesOK p = true := by
    unfold pitchE at h1
    split at h1
    · split at h1
      · exact ⟨by assumption, by assumption⟩
      · cases h1
    · cases h1
  obtain ⟨p1, p2, p3⟩ := dash_pit hp.2
  obtain ⟨e1, e2, e3, e4⟩ := dash_ev h2
  have hpl : (cP p).length ≤ 24 := by
    unfold cP; split
    · simp
    · exact hp.1
  obtain ⟨ws, hws⟩ : ∃ ws, ws = wordsP p e late l := ⟨_, rfl⟩
  have hw1 : ws = cP p :: cP e :: ((if late = true then [late0] else []) ++ l.map cM) := by rw [hws]; simp [wordsP, headW]
  have hmem : ∀ w ∈ ws, (∀ x ∈ w, x ≠ 32) ∧ w.length ≤ 210 := by
    intro w hw
    rw [hw1] at hw
    rcases List.mem_cons.1 hw with rfl | hw
    · exact ⟨p3, by omega⟩
    rcases List.mem_cons.1 hw with rfl | hw
    · exact ⟨e3, by omega⟩
    rcases List.mem_append.1 hw with hw | hw
    · split at hw
      · rw [List.mem_singleton.1 hw]; exact ⟨by decide, by decide⟩
      · cases hw
    · obtain ⟨m, hm, rfl⟩ := List.mem_map.1 hw
      exact ⟨(moveStr_back (h5 m hm)).2.2, moveStr_len (mvE_pr (h5 m hm))⟩
  have hne : ws ≠ [] := by rw [hw1]; simp
  have hsp : cY 32 (playStr p e late l) = ws := by
    unfold playStr
    rw [← hws]
    exact split_join hne fun w hw => (hmem w hw).1
  have hwl : ws.length ≤ 7 := by
    rw [hw1]
    simp only [List.length_cons, List.length_append, List.length_map]
    split <;> simp <;> omega
  have hln : ¬ 4096 < (playStr p e late l).length := by
    have a := split_len (c := 32) (playStr p e late l)
    have b := lenS_bound (fun w hw => (hmem w hw).2)
    rw [hsp] at a
    have : ws.length * 210 ≤ 7 * 210 := Nat.mul_le_mul_right _ hwl
    omega
  have hrd : wrongAt 0 0 ws = none ∧ readG 0 pl0 ws = ⟨p, e, late, l⟩ := by
    rw [hw1]
    have r0 : rightW 0 (cP p) = true := p1
    have r1 : rightW (0 + 1) (cP e) = true := e1
    have s0 : stepP 0 pl0 (cP p) = ⟨p, [], false, []⟩ := by show (⟨undash (cP p), _, _, _⟩ : Pl) = _; rw [p2]; rfl
    have s1 : stepP (0 + 1) ⟨p, [], false, []⟩ (cP e) = ⟨p, e, false, []⟩ := by show (⟨_, undash (cP e), _, _⟩ : Pl) = _; rw [e2]
    simp only [wrongAt, readG, r0, r1, if_true, s0, s1]
    cases late with
    | true =>
      have r2 : rightW (0 + 1 + 1) late0 = true := by decide
      have s2 : stepP (0 + 1 + 1) ⟨p, e, false, []⟩ late0 = ⟨p, e, true, []⟩ := rfl
      simp only [if_true, List.singleton_append, wrongAt, readG, r2, s2]
      obtain ⟨a, b⟩ := moves_back (L := l) (l := l) (i := 0 + 1 + 1 + 1) (q := ⟨p, e, true, []⟩) (a := 0 + (cP p).length + 1 + (cP e).length + 1 + late0.length + 1) (by omega) h5
      exact ⟨a, by rw [b]; rfl⟩
    | false =>
      obtain ⟨a, b⟩ := moves_back (L := l) (l := l) (i := 0 + 1 + 1) (q := ⟨p, e, false, []⟩) (a := 0 + (cP p).length + 1 + (cP e).length + 1) (by omega) h5
      exact ⟨a, by show readG _ _ (l.map cM) = _; rw [b]; rfl⟩
  unfold parseT
  rw [if_neg hln, hsp, hrd.1]
  show (if ws.length < 2 then _ else _) = _
  rw [if_neg (by rw [hw1]; simp), hrd.2]
  show (if playE p e l ≠ 0 then _ else _) = _
  rw [if_neg (by simpa using h)]
end Go.Ev
