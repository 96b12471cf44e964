import Derived.Test.YtdhnjbgggkdiiaaGreatDoorBackV
import Derived.Test.YtdhnjbgggkdiiaaGreatDoorSame
set_option linter.unusedSimpArgs false
set_option linter.unusedVariables false
namespace Go.Ev
open Go.RowKit Go.Proofs
set_option maxRecDepth 20000
set_option maxHeartbeats 8000000

/-! what is read without an error is the string of the play that is read -/
theorem join_split : ∀ l : List Nat, joinB (bI 32 l) = l
  | [] => rfl
  | b :: l => by
    have ih := join_split l
    simp only [bI]
    split
    · rename_i hb
      rw [blk_join, if_neg (splitC_ne l), ih, hb]; rfl
    · cases hx : bI 32 l with
      | nil => exact absurd hx (splitC_ne l)
      | cons w r =>
        rw [hx] at ih
        show joinB ((b :: w) :: r) = b :: l
        rw [← ih]; rfl
theorem dig_valN {x : Nat} (h : eT x = true) : dig (eE x) = x := by
  simp only [eT, digitB, Bool.and_eq_true, decide_eq_true_eq] at h
  unfold dig eE; omega
theorem moveStr_of {w : List Nat} (h : mvW w = true) : cH (eW w) = w := by
  obtain ⟨a, b, c, d, r, rfl, ha, hc, hd, hb, hr⟩ := mvW_inv h
  have hs : signC (b == 120) = b := by
    simp only [Bool.or_eq_true, beq_iff_eq] at hb
    rcases hb with rfl | rfl <;> rfl
  have hby : byStr ((r.drop 1).map eE) = r := by
    rcases hr with rfl | ⟨r2, rfl, hne, hall⟩
    · rfl
    · show byStr (r2.map eE) = 58 :: r2
      unfold byStr
      rw [if_neg (by simpa using hne), List.map_map]
      congr 1
      conv => rhs; rw [← List.map_id r2]
      exact List.map_congr_left fun x hx => dig_valN (List.all_eq_true.1 hall x hx)
  show [dig (eE a)] ++ [signC (b == 120)] ++ [dig (eE c)] ++ [d] ++ byStr ((r.drop 1).map eE) = _
  rw [hs, hby, dig_valN ha, dig_valN hc]; rfl
theorem moves_forth : ∀ {ws : List (List Nat)} {i a : Nat} {q : Pl}, 3 ≤ i → cW i a ws = none → (∀ w ∈ ws, mvW w = true) ∧ cV i q ws = ⟨q.p, q.e, q.l, q.m ++ ws.map eW⟩
  | [], i, a, q, _, _ => by simp [cV]
  | w :: ws, i, a, q, hi, h => by
    have hr : dP i w = true := by
      apply Classical.byContradiction
      intro hn; unfold cW at h; rw [if_neg hn] at h; cases h
    unfold cW at h
    rw [if_pos hr] at h
    have hm : mvW w = true := by
      unfold dP at hr
      rwa [if_neg (by omega), if_neg (by omega), if_neg (by omega)] at hr
    have hs : stepP i q w = ⟨q.p, q.e, q.l, q.m ++ [eW w]⟩ := by
      unfold stepP
      rw [if_neg (by omega), if_neg (by omega), if_neg (by omega)]
    obtain ⟨i1, i2⟩ := moves_forth (q := ⟨q.p, q.e, q.l, q.m ++ [eW w]⟩) (by omega) h
    refine ⟨fun x hx => ?_, by unfold cV; rw [hs, i2]; simp⟩
    rcases List.mem_cons.1 hx with rfl | hx
    · exact hm
    · exact i1 x hx
theorem map_back {ws : List (List Nat)} (h : ∀ w ∈ ws, mvW w = true) : (ws.map eW).map cH = ws := by
  rw [List.map_map]
  conv => rhs; rw [← List.map_id ws]
  exact List.map_congr_left fun w hw => moveStr_of (h w hw)
theorem dash_undash {w : List Nat} (h : w ≠ []) : cQ (cO w) = w := by
  unfold cO
  split
  · rename_i e; rw [e]; rfl
  · simp [cQ, h]
theorem wrong_cons {i a : Nat} {w : List Nat} {ws : List (List Nat)} (h : cW i a (w :: ws) = none) : dP i w = true ∧ cW (i + 1) (a + w.length + 1) ws = none := by
  have hr : dP i w = true := by
    apply Classical.byContradiction
    intro hn; unfold cW at h; rw [if_neg hn] at h; cases h
  unfold cW at h
  rw [if_pos hr] at h
  exact ⟨hr, h⟩
theorem words_forth {ws : List (List Nat)} (h : cW 0 0 ws = none) (h2 : 2 ≤ ws.length) : cI (cV 0 pl0 ws).p (cV 0 pl0 ws).e (cV 0 pl0 ws).l (cV 0 pl0 ws).m = ws := by
  match ws, h2 with
  | w0 :: w1 :: r, _ =>
    obtain ⟨r0, h⟩ := wrong_cons h
    obtain ⟨r1, h⟩ := wrong_cons h
    have n0 : w0 ≠ [] := by intro e; subst e; revert r0; decide
    have n1 : w1 ≠ [] := by intro e; subst e; revert r1; decide
    have hrd : cV 0 pl0 (w0 :: w1 :: r) = cV (0 + 1 + 1) ⟨cO w0, cO w1, false, []⟩ r := rfl
    rw [hrd]
    match r, h with
    | [], _ =>
      show cI (cO w0) (cO w1) false [] = _
      simp [cI, headW, dash_undash n0, dash_undash n1]
    | w2 :: r, h =>
      obtain ⟨r2, h⟩ := wrong_cons h
      by_cases hl : w2 = lateB
      · have hs : cV (0 + 1 + 1) ⟨cO w0, cO w1, false, []⟩ (w2 :: r) = cV (0 + 1 + 1 + 1) ⟨cO w0, cO w1, true, []⟩ r := by
          rw [hl]; rfl
        obtain ⟨a, b⟩ := moves_forth (q := ⟨cO w0, cO w1, true, []⟩) (by omega) h
        rw [hs, b]
        show cI (cO w0) (cO w1) true ([] ++ r.map eW) = _
        simp only [cI, headW, dash_undash n0, dash_undash n1, List.nil_append, map_back a, if_true]
        rw [hl]; rfl
      · have hm : mvW w2 = true := by
          unfold dP at r2
          rw [if_neg (by omega), if_neg (by omega)] at r2
          split at r2
          · simpa [hl] using r2
          · exact r2
        have hs : cV (0 + 1 + 1) ⟨cO w0, cO w1, false, []⟩ (w2 :: r) = cV (0 + 1 + 1 + 1) ⟨cO w0, cO w1, false, [eW w2]⟩ r := by
          have : stepP (0 + 1 + 1) ⟨cO w0, cO w1, false, []⟩ w2 = ⟨cO w0, cO w1, false, [eW w2]⟩ := by
            unfold stepP
            rw [if_neg (by omega), if_neg (by omega), if_neg (by rintro ⟨_, h⟩; exact hl h)]; rfl
          rw [← this]; rfl
        obtain ⟨a, b⟩ := moves_forth (q := ⟨cO w0, cO w1, false, [eW w2]⟩) (by omega) h
        rw [hs, b]
        show cI (cO w0) (cO w1) false ([eW w2] ++ r.map eW) = _
        simp only [cI, headW, dash_undash n0, dash_undash n1, List.map_append, List.map_cons, List.map_nil, map_back a, moveStr_of hm]
        rfl
/-- read without an error: the string is that of the play -/
theorem forth {s : List Nat} (h : (cK s).2.2 = 0) : playStr (cK s).1.p (cK s).1.e (cK s).1.l (cK s).1.m = s := by
  unfold cK at h ⊢
  split at h
  · cases h
  rename_i hl
  rw [if_neg hl]
  split at h
  · cases h
  rename_i hw
  split at h
  · cases h
  rename_i h2
  split at h
  · rename_i hz; exact absurd h hz
  rename_i hz
  rw [if_neg h2, if_neg hz]
  show joinB (cI _ _ _ _) = s
  rw [words_forth hw (by omega), join_split]
end Go.Ev
namespace Go.Ev
open Go.RowKit Go.Proofs
set_option linter.defProp false
def TF40Plays := And.intro (And.intro (And.intro (And.intro (And.intro (@Tryz.underlying3) (And.intro (@sz3) (@cE))) (And.intro (And.intro (@I3s) (@I3b)) (And.intro (@cA) (@cF)))) (And.intro (And.intro (And.intro (@Tryz.underlying4) (@sz4)) (And.intro (@eA) (@I4s))) (And.intro (And.intro (@I4b) (@dW)) (And.intro (@eB) (@Tryz.underlying9))))) (And.intro (And.intro (And.intro (@sz9) (And.intro (@cB) (@I9s))) (And.intro (And.intro (@I9b) (@bY)) (And.intro (@cC) (@Tryz.underlying22)))) (And.intro (And.intro (And.intro (@sz22) (@info22)) (And.intro (@I22s) (@I22b))) (And.intro (And.intro (@zero22) (@grow22)) (And.intro (@Tryz.underlying24) (@sz24)))))) (And.intro (And.intro (And.intro (And.intro (@fok24) (And.intro (@info24) (@I24s))) (And.intro (And.intro (@I24b) (@zero24)) (And.intro (@grow24) (@Tryz.underlying25)))) (And.intro (And.intro (And.intro (@eO) (@dE)) (And.intro (@eQ) (@eR))) (And.intro (And.intro (@dC) (@dF)) (And.intro (@Tryz.underlying27) (@eS))))) (And.intro (And.intro (And.intro (@eH) (And.intro (@dL) (@eU))) (And.intro (And.intro (@eV) (@dH)) (And.intro (@dM) (@Tryz.underlying54)))) (And.intro (And.intro (And.intro (@sz54) (@info54)) (And.intro (@I54s) (@I54b))) (And.intro (And.intro (@zero54) (@grow54)) (And.intro (@call20) (@Tryz.results40))))))
set_option maxRecDepth 20000
set_option maxHeartbeats 8000000

/-! lists of plays -/
def ePl (q : Pl) : List EVal := [.str q.p, .str q.e, .bool q.l, .lsl (bG q.m)]
def dQ (l : List Pl) : List (List EVal) := l.map ePl
def eZ (q : Pl) : Prop := q.m.length < 9223372036854775808 ∧ ∀ m ∈ q.m, eP m
def dPl : List EVal → Option Pl
  | [.str p, .str e, .bool l, ms] => (dS ms).map fun m => ⟨p, e, l, m⟩
  | _ => none
def dPlsL : List (List EVal) → Option (List Pl)
  | [] => some []
  | x :: l => match dPl x, dPlsL l with
    | some q, some r => some (q :: r)
    | _, _ => none
def dPls : EVal → Option (List Pl)
  | .lsl els => if els.length < 9223372036854775808 then dPlsL els else none
  | _ => none
theorem dPl_inv {x : List EVal} {q : Pl} (h : dPl x = some q) : x = ePl q ∧ eZ q := by
  unfold dPl at h
  split at h
  · rename_i p e l ms
    cases hm : dS ms with
    | none => rw [hm] at h; cases h
    | some m =>
      rw [hm] at h; cases h
      obtain ⟨rfl, h1, h2⟩ := dMoves_inv hm
      exact ⟨rfl, h1, h2⟩
  · cases h
theorem dPlsL_inv : ∀ {els : List (List EVal)} {l : List Pl}, dPlsL els = some l → els = dQ l ∧ ∀ q ∈ l, eZ q
  | [], l, h => by cases h; exact ⟨rfl, fun _ h => by cases h⟩
  | x :: els, l, h => by
    unfold dPlsL at h
    split at h
    · rename_i q r h1 h2
      cases h
      obtain ⟨rfl, a⟩ := dPl_inv h1
      obtain ⟨rfl, b⟩ := dPlsL_inv h2
      refine ⟨rfl, fun y hy => ?_⟩
      rcases List.mem_cons.1 hy with rfl | hy
      · exact a
      · exact b y hy
    · cases h
theorem bH (l : List Pl) : (dQ l).length = l.length := by simp [dQ]
theorem dPls_inv {v : EVal} {l : List Pl} (h : dPls v = some l) : v = .lsl (dQ l) ∧ l.length < 9223372036854775808 ∧ ∀ q ∈ l, eZ q := by
  unfold dPls at h
  split at h
  · split at h
    · rename_i hl
      obtain ⟨rfl, h2⟩ := dPlsL_inv h
      exact ⟨rfl, by simpa [bH] using hl, h2⟩
    · cases h
  · cases h
theorem dPl_e {q : Pl} (h : eZ q) : dPl (ePl q) = some q := by
  simp only [dPl, ePl, dMoves_e h.1 h.2, Option.map_some]
theorem dPlsL_e : ∀ {l : List Pl}, (∀ q ∈ l, eZ q) → dPlsL (dQ l) = some l
  | [], _ => rfl
  | q :: l, h => by
    have ih := dPlsL_e (l := l) fun x hx => h x (List.mem_cons_of_mem _ hx)
    show dPlsL (ePl q :: dQ l) = _
    simp only [dPlsL, dPl_e (h q List.mem_cons_self), ih]
theorem dPls_e {l : List Pl} (hl : l.length < 9223372036854775808) (h : ∀ q ∈ l, eZ q) : dPls (.lsl (dQ l)) = some l := by
  simp only [dPls, bH, hl, if_true]
  exact dPlsL_e h
theorem ePls_get (l : List Pl) (i : Nat) : (dQ l)[i]? = (l[i]?).map ePl := by simp [dQ]
theorem ePl_q (q : Pl) : ePl q = [.str q.p, .str q.e, .bool q.l, .lsl (bG q.m)] := (rfl)
/-- the first error of plays -/
def checkL : List Pl → Int
  | [] => 0
  | q :: r => if playE q.p q.e q.m ≠ 0 then playE q.p q.e q.m else checkL r
def chE (l : List Pl) : Int := if 256 < l.length then 5 else checkL l
theorem checkL_drop {l : List Pl} {k : Nat} {q : Pl} (h : l[k]? = some q) : checkL (l.drop k) = if playE q.p q.e q.m ≠ 0 then playE q.p q.e q.m else checkL (l.drop (k + 1)) := by
  obtain ⟨hk, rfl⟩ := List.getElem?_eq_some_iff.1 h
  rw [List.drop_eq_getElem_cons hk]; rfl
def F40 : List EVal → Option EVal
  | [v] => (dPls v).map fun l => .int .i64 (chE l)
  | _ => none
theorem fn40 : FnT 40 F40 := by
  refine Fn.intro mixed aV Tryz.func40 rfl [(20, F20)] (by simp only [List.forall_mem_cons]; exact ⟨fn20, fun _ h => by cases h⟩) ?_
  intro args v hF
  unfold F40 at hF
  split at hF
  rotate_left
  · cases hF
  intro Q hV
  have hQ := bM.of hV
  rename_i ps
  cases ha : dPls ps with
  | none => rw [ha] at hF; cases hF
  | some l =>
  rw [ha] at hF
  cases hF
  obtain ⟨rfl, hlen, hok⟩ := dPls_inv ha
  clear ha
  refine Top.view (aT.start (n := 22) rfl (by simp)) (aR aV _ _ _ _ ?_)
  by_cases hl : 256 < l.length
  · have q1 : decide ((256 : Int) < (l.length : Int)) = true := by simp; omega
    ((try simp only [aO, SS, TF40Plays, aM, setRange, aN, aC, aB, aF, aE, aD, aA, Nat.reduceLT, Nat.reduceEqDiff, Nat.reduceAdd, Nat.reduceMul, Nat.reduceSub, Nat.reduceLeDiff, Nat.reduceBEq, reduceCtorEq, bH, q1]); (repeat' ((first | apply aJ | apply aI | apply aL | apply aK | apply aH | apply aG) <;> intro h <;> simp only [h, SS, TF40Plays, aM, setRange, aN, aC, aB, aF, aE, aD, aA, Nat.reduceLT, Nat.reduceEqDiff, Nat.reduceAdd, Nat.reduceMul, Nat.reduceSub, Nat.reduceLeDiff, Nat.reduceBEq, reduceCtorEq, bH, q1])))
    (refine hQ _ _ _ (aQ (by first | exact .inl rfl | exact .inr rfl) ?_); simp only [SS, TF40Plays, aM, setRange, aN, aC, aB, aF, aE, aD, aA, Nat.reduceLT, Nat.reduceEqDiff, Nat.reduceAdd, Nat.reduceMul, Nat.reduceSub, Nat.reduceLeDiff, Nat.reduceBEq, reduceCtorEq])
    simp only [chE, if_pos hl]
  have q1 : decide ((256 : Int) < (l.length : Int)) = false := by simp; omega
  ((try simp only [aO, SS, TF40Plays, aM, setRange, aN, aC, aB, aF, aE, aD, aA, Nat.reduceLT, Nat.reduceEqDiff, Nat.reduceAdd, Nat.reduceMul, Nat.reduceSub, Nat.reduceLeDiff, Nat.reduceBEq, reduceCtorEq, bH, q1]); (repeat' ((first | apply aJ | apply aI | apply aL | apply aK | apply aH | apply aG) <;> intro h <;> simp only [h, SS, TF40Plays, aM, setRange, aN, aC, aB, aF, aE, aD, aA, Nat.reduceLT, Nat.reduceEqDiff, Nat.reduceAdd, Nat.reduceMul, Nat.reduceSub, Nat.reduceLeDiff, Nat.reduceBEq, reduceCtorEq, bH, q1])))
  refine bR (Top.loop (I := fun s : { k : Nat // k ≤ l.length ∧ checkL l = checkL (l.drop k) } => (mkF 22 [(3, .int .i64 (s.1 : Nat)), (0, .lsl (dQ l))], mkH 0 [] 0 [])) (μ := fun s => l.length - s.1) ⟨0, by simp, rfl⟩ (aT.drop (by simp [look, below, aX]) (by simp [aP, bT, below, aX, bA]) (by simp [aP])) ?_)
  rintro ⟨k, hk, hf⟩
  refine aR aV _ _ _ _ ?_
  by_cases hlt : k < l.length
  rotate_left
  · have q2 : decide ((k : Int) < (l.length : Int)) = false := by simp; omega
    ((try simp only [aO, SS, TF40Plays, aM, setRange, aN, aC, aB, aF, aE, aD, aA, Nat.reduceLT, Nat.reduceEqDiff, Nat.reduceAdd, Nat.reduceMul, Nat.reduceSub, Nat.reduceLeDiff, Nat.reduceBEq, reduceCtorEq, bH, q2]); (repeat' ((first | apply aJ | apply aI | apply aL | apply aK | apply aH | apply aG) <;> intro h <;> simp only [h, SS, TF40Plays, aM, setRange, aN, aC, aB, aF, aE, aD, aA, Nat.reduceLT, Nat.reduceEqDiff, Nat.reduceAdd, Nat.reduceMul, Nat.reduceSub, Nat.reduceLeDiff, Nat.reduceBEq, reduceCtorEq, bH, q2])))
    (refine hQ _ _ _ (aQ (by first | exact .inl rfl | exact .inr rfl) ?_); simp only [SS, TF40Plays, aM, setRange, aN, aC, aB, aF, aE, aD, aA, Nat.reduceLT, Nat.reduceEqDiff, Nat.reduceAdd, Nat.reduceMul, Nat.reduceSub, Nat.reduceLeDiff, Nat.reduceBEq, reduceCtorEq])
    have : l.drop k = [] := List.drop_eq_nil_of_le (by omega)
    rw [this] at hf
    simp only [chE, if_neg hl, hf]; rfl
  obtain ⟨q, hx⟩ : ∃ q, l[k]? = some q := ⟨l[k], List.getElem?_eq_getElem hlt⟩
  have hq := hok q (List.mem_of_getElem? hx)
  have h20 : F20 [.agg [.str q.p, .str q.e, .bool q.l, .lsl (bG q.m)]] = some (.int .i64 (playE q.p q.e q.m)) := by simp only [F20, dMoves_e hq.1 hq.2, Option.map_some]
  have hd := checkL_drop hx
  obtain ⟨z, hz⟩ : ∃ z, playE q.p q.e q.m = z := ⟨_, rfl⟩
  rw [hz] at h20 hd
  have q2 : decide ((k : Int) < (l.length : Int)) = true := by simp; omega
  have w1 : IntKind.i64.wrap ((k : Int) + 1) = ((k + 1 : Nat) : Int) := by rw [bN] <;> omega
  cases hz0 : (z == 0) with
  | false =>
    have hz1 : z ≠ 0 := by simpa using hz0
    rw [if_pos hz1] at hd
    ((try simp only [aO, SS, TF40Plays, aM, setRange, aN, aC, aB, aF, aE, aD, aA, Nat.reduceLT, Nat.reduceEqDiff, Nat.reduceAdd, Nat.reduceMul, Nat.reduceSub, Nat.reduceLeDiff, Nat.reduceBEq, reduceCtorEq, bH, ePls_get, ePl_q, hx, q2, h20, hz0]); (repeat' ((first | apply aJ | apply aI | apply aL | apply aK | apply aH | apply aG) <;> intro h <;> simp only [h, SS, TF40Plays, aM, setRange, aN, aC, aB, aF, aE, aD, aA, Nat.reduceLT, Nat.reduceEqDiff, Nat.reduceAdd, Nat.reduceMul, Nat.reduceSub, Nat.reduceLeDiff, Nat.reduceBEq, reduceCtorEq, bH, ePls_get, ePl_q, hx, q2, h20, hz0])))
    (refine hQ _ _ _ (aQ (by first | exact .inl rfl | exact .inr rfl) ?_); simp only [SS, TF40Plays, aM, setRange, aN, aC, aB, aF, aE, aD, aA, Nat.reduceLT, Nat.reduceEqDiff, Nat.reduceAdd, Nat.reduceMul, Nat.reduceSub, Nat.reduceLeDiff, Nat.reduceBEq, reduceCtorEq])
    simp only [chE, if_neg hl, hf, hd]
  | true =>
    have hz1 : z = 0 := by simpa using hz0
    rw [if_neg (by simpa using hz1)] at hd
    ((try simp only [aO, SS, TF40Plays, aM, setRange, aN, aC, aB, aF, aE, aD, aA, Nat.reduceLT, Nat.reduceEqDiff, Nat.reduceAdd, Nat.reduceMul, Nat.reduceSub, Nat.reduceLeDiff, Nat.reduceBEq, reduceCtorEq, bH, ePls_get, ePl_q, hx, q2, h20, hz0, w1]); (repeat' ((first | apply aJ | apply aI | apply aL | apply aK | apply aH | apply aG) <;> intro h <;> simp only [h, SS, TF40Plays, aM, setRange, aN, aC, aB, aF, aE, aD, aA, Nat.reduceLT, Nat.reduceEqDiff, Nat.reduceAdd, Nat.reduceMul, Nat.reduceSub, Nat.reduceLeDiff, Nat.reduceBEq, reduceCtorEq, bH, ePls_get, ePl_q, hx, q2, h20, hz0, w1])))
    exact ⟨⟨k + 1, hlt, by rw [hf, hd]⟩, by simp; omega, (aT.drop (by simp [look, below, aX]) (by simp [aP, bT, below, aX, bA]) (by simp [aP]))⟩
end Go.Ev
