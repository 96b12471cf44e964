import Derived.Test.YtdhnjbgggkdiiaaGreatDoorForm2
set_option linter.unusedSimpArgs false
set_option linter.unusedVariables false
namespace Go.Ev
open Go.RowKit Go.Proofs
set_option linter.defProp false
def TF88Form3 := And.intro (And.intro (And.intro (And.intro (And.intro (@Tryz.underlying3) (@sz3)) (And.intro (@bK) (And.intro (@I3s) (@I3b)))) (And.intro (And.intro (@bJ) (And.intro (@bL) (@Tryz.underlying4))) (And.intro (@sz4) (And.intro (@cT) (@I4s))))) (And.intro (And.intro (And.intro (@I4b) (And.intro (@cS) (@cU))) (And.intro (@Tryz.underlying9) (And.intro (@sz9) (@bZ)))) (And.intro (And.intro (@I9s) (And.intro (@I9b) (@bX))) (And.intro (@cA) (And.intro (@Tryz.underlying25) (@dI)))))) (And.intro (And.intro (And.intro (And.intro (@bQ) (And.intro (@dJ) (@dK))) (And.intro (@bP) (And.intro (@bR) (@Tryz.underlying27)))) (And.intro (And.intro (@dN) (And.intro (@cV) (@cF))) (And.intro (@dO) (And.intro (@dP) (@cC))))) (And.intro (And.intro (And.intro (@cG) (And.intro (@Tryz.underlying160) (@sz160))) (And.intro (@fok160) (And.intro (@info160) (@I160s)))) (And.intro (And.intro (@I160b) (And.intro (@zero160) (@grow160))) (And.intro (@call131) (And.intro (@call132) (@Tryz.results88))))))
def TF89Form3 := And.intro (And.intro (And.intro (And.intro (And.intro (@Tryz.underlying3) (@sz3)) (And.intro (@bK) (@I3s))) (And.intro (And.intro (@I3b) (@bJ)) (And.intro (@bL) (And.intro (@Tryz.underlying4) (@sz4))))) (And.intro (And.intro (And.intro (@cT) (@I4s)) (And.intro (@I4b) (And.intro (@cS) (@cU)))) (And.intro (And.intro (@Tryz.underlying9) (@sz9)) (And.intro (@bZ) (And.intro (@I9s) (@I9b)))))) (And.intro (And.intro (And.intro (And.intro (@bX) (@cA)) (And.intro (@Tryz.underlying25) (@dI))) (And.intro (And.intro (@bQ) (@dJ)) (And.intro (@dK) (And.intro (@bP) (@bR))))) (And.intro (And.intro (And.intro (@Tryz.underlying27) (@dN)) (And.intro (@cV) (And.intro (@cF) (@dO)))) (And.intro (And.intro (@dP) (@cC)) (And.intro (@cG) (And.intro (@call93) (@Tryz.results89))))))
def TF131Form3 := And.intro (And.intro (And.intro (And.intro (And.intro (@Tryz.underlying3) (@sz3)) (And.intro (@bK) (@I3s))) (And.intro (And.intro (@I3b) (@bJ)) (And.intro (@bL) (@Tryz.underlying4)))) (And.intro (And.intro (And.intro (@sz4) (@cT)) (And.intro (@I4s) (@I4b))) (And.intro (And.intro (@cS) (@cU)) (And.intro (@Tryz.underlying9) (And.intro (@sz9) (@bZ)))))) (And.intro (And.intro (And.intro (And.intro (@I9s) (@I9b)) (And.intro (@bX) (@cA))) (And.intro (And.intro (@Tryz.underlying160) (@sz160)) (And.intro (@fok160) (@info160)))) (And.intro (And.intro (And.intro (@I160s) (@I160b)) (And.intro (@zero160) (@grow160))) (And.intro (And.intro (@Tryz.underlying181) (@sz181)) (And.intro (@info181) (And.intro (@I181s) (@Tryz.results131))))))
set_option maxRecDepth 20000
set_option maxHeartbeats 4000000

/-! the ways -/
theorem eqXb {a b : Bool} : eqX Tryz.prog 4 (.bool a) (.bool b) = some (a == b) := by
  simp only [eqX, Tryz.underlying4, eqBoolE]
abbrev Way := Bool × List Nat × Int × Int
def wayT : List Way := [(false, [98], 3, 3), (false, [97], 3, 3), (false, [115], 0, 3), (false, [112], 3, 3), (false, [107], 0, 3), (false, [116], 3, 3), (false, [111], 3, 3),
  (true, [102], 2, 2), (true, [103], 3, 4), (true, [99], 2, 0), (true, [100], 0, 1), (true, [107], 2, 0), (true, [110], 2, 3), (true, [121], 2, 0)]
theorem way_row {k : Nat} (h : k < 14) : ∃ w : Way, wayT[k]? = some w ∧ (waysL.drop (k * 4)).take 4 = [.bool w.1, .str w.2.1, .int .i64 w.2.2.1, .int .i64 w.2.2.2] := by
  have : k = 0 ∨ k = 1 ∨ k = 2 ∨ k = 3 ∨ k = 4 ∨ k = 5 ∨ k = 6 ∨ k = 7 ∨ k = 8 ∨ k = 9 ∨ k = 10 ∨ k = 11 ∨ k = 12 ∨ k = 13 := by omega
  rcases this with rfl | rfl | rfl | rfl | rfl | rfl | rfl | rfl | rfl | rfl | rfl | rfl | rfl | rfl
  all_goals exact ⟨_, rfl, rfl⟩
@[simp] theorem belowWays : aX 1 waysL = true := by kernel_rfl
def findL (o : Bool) (h : List Nat) (l : List Way) : Option Way := l.find? fun w => (w.1 == o) && decide (w.2.1 = h)
theorem findL_drop {o : Bool} {h : List Nat} {k : Nat} {w : Way} (hw : wayT[k]? = some w) : findL o h (wayT.drop k) = if ((w.1 == o) && decide (w.2.1 = h)) = true then some w else findL o h (wayT.drop (k + 1)) := by
  obtain ⟨hk, rfl⟩ := List.getElem?_eq_some_iff.1 hw
  rw [List.drop_eq_getElem_cons hk]
  simp only [findL, List.find?_cons]
  split <;> simp [*]
def wayV (o : Bool) (h : List Nat) : EVal := match findL o h wayT with
  | some w => .tup [.agg [.bool w.1, .str w.2.1, .int .i64 w.2.2.1, .int .i64 w.2.2.2], .bool true]
  | none => .tup [.agg [.bool false, .str [], .int .i64 0, .int .i64 0], .bool false]
def F131 : List EVal → Option EVal
  | [.bool o, .str h] => some (wayV o h)
  | _ => none
theorem fn131 : FnT 131 F131 := by
  refine Fn.intro mixed aJ Tryz.func131 rfl [] (fun _ h => by cases h) ?_
  intro args v hF
  unfold F131 at hF
  split at hF
  rotate_left
  · cases hF
  intro Q hV
  have hQ := aW.of hV
  rename_i o h
  cases hF
  have g0 : gT 0 = some waysL := rfl
  have g1 : waysL.length = 56 := rfl
  have g2 : waysL.take 56 = waysL := rfl
  refine Top.view (aF.start (n := 25) rfl (by simp)) (aD aJ _ _ _ _ ?_)
  (try simp only [aI, SS, TF131Form3, aA, Nat.reduceLT, g0, g1, g2])
  refine aT (Top.loop (I := fun s : { k : Nat // k ≤ 14 ∧ findL o h wayT = findL o h (wayT.drop k) } => (mkF 25 [(9, .int .i64 (s.1 : Nat)), (8, .agg waysL), (4, .ptr 0 0), (5, .bool false), (0, .bool o), (1, .str h)], mkH 1 [(0, some (.row [.bool false, .str [], .int .i64 0, .int .i64 0] 160 0 0 false))] 0 [])) (μ := fun s => 14 - s.1) ⟨0, by simp⟩ (aF.drop (by simp [look, below]) (by simp [aB, aR, below, aX]) (by simp [aB])) ?_)
  rintro ⟨k, hk, hf⟩
  refine aD aJ _ _ _ _ ?_
  by_cases hlt : k < 14
  rotate_left
  · have c1 : decide ((k : Int) < 14) = false := by simp; omega
    (try simp only [SS, TF131Form3, setRange, aA, aY, Nat.reduceLT, Nat.reduceEqDiff, Nat.reduceAdd, reduceCtorEq, c1])
    (refine hQ _ _ _ (aC (by first | exact .inl rfl | exact .inr rfl) ?_); simp only [SS, TF131Form3, Nat.reduceLT, Nat.reduceEqDiff, Nat.reduceAdd, reduceCtorEq])
    have : wayT.drop k = [] := List.drop_eq_nil_of_le (by show 14 ≤ k; omega)
    rw [this] at hf
    simp only [wayV, hf]
    rfl
  obtain ⟨w, hw, hr⟩ := way_row hlt
  have hfd := findL_drop (o := o) (h := h) hw
  have c1 : decide ((k : Int) < 14) = true := by simp; omega
  have c2 : IntKind.i64.wrap ((k : Int) + 1) = ((k + 1 : Nat) : Int) := by rw [aP] <;> omega
  have c3 : ((k : Int) < ((14 : Nat) : Int)) = True := by simp; omega
  have c4 : k * 4 + 4 ≤ 56 := by omega
  cases h1 : (w.1 == o) with
  | false =>
    (try simp only [SS, TF131Form3, setRange, aA, Nat.reduceLT, Nat.reduceEqDiff, Nat.reduceAdd, reduceCtorEq, c1, c2, c3, hr, eOther, eqXb, h1])
    exact ⟨⟨k + 1, hlt, by rw [hf, hfd, h1]; rfl⟩, by simp; omega, (aF.drop (by simp [look, below]) (by simp [aB, aR, below, aX]) (by simp [aB]))⟩
  | true =>
  cases h2 : decide (w.2.1 = h) with
  | false =>
    (try simp only [SS, TF131Form3, setRange, aA, Nat.reduceLT, Nat.reduceEqDiff, Nat.reduceAdd, reduceCtorEq, c1, c2, c3, hr, eOther, eqXb, h1, h2])
    exact ⟨⟨k + 1, hlt, by rw [hf, hfd, h1, h2]; rfl⟩, by simp; omega, (aF.drop (by simp [look, below]) (by simp [aB, aR, below, aX]) (by simp [aB]))⟩
  | true =>
    (try simp only [SS, TF131Form3, setRange, aA, Nat.reduceLT, Nat.reduceEqDiff, Nat.reduceAdd, reduceCtorEq, c1, c3, hr, eOther, eqXb, h1, h2])
    (refine hQ _ _ _ (aC (by first | exact .inl rfl | exact .inr rfl) ?_); simp only [SS, TF131Form3, Nat.reduceLT, Nat.reduceEqDiff, Nat.reduceAdd, reduceCtorEq])
    simp only [wayV, hf, hfd, h1, h2]
    rfl

/-- whether the way of a move, and where it leads, is one of its runner -/
def wayE (f t : Int) (o : Bool) (h : List Nat) : Int := match findL o h wayT with
  | some w => if reachB (if f = 0 then w.2.2.1 else w.2.2.2) f t = true then 0 else 15
  | none => 13
def F88 : List EVal → Option EVal
  | [.agg [.int .i64 f, .int .i64 t, .bool o, .str h, .lsl _]] => some (.int .i64 (wayE f t o h))
  | _ => none
theorem fn88 : FnT 88 F88 := by
  refine Fn.intro mixed aJ Tryz.func88 rfl [(131, F131), (132, F132)] (by simp only [List.forall_mem_cons]; exact ⟨fn131, fn132, fun _ h => by cases h⟩) ?_
  intro args v hF
  unfold F88 at hF
  split at hF
  rotate_left
  · cases hF
  intro Q hV
  have hQ := aW.of hV
  rename_i f t o h els
  cases hF
  have h131 : F131 [.bool o, .str h] = some (wayV o h) := rfl
  refine Top.view (aF.start (n := 30) rfl (by simp)) (aD aJ _ _ _ _ ?_)
  cases hw : findL o h wayT with
  | none =>
    have e : wayV o h = .tup [.agg [.bool false, .str [], .int .i64 0, .int .i64 0], .bool false] := by simp only [wayV, hw]
    rw [e] at h131
    (try simp only [aI, SS, TF88Form3, aH, setRange, aA, Nat.reduceLT, Nat.reduceEqDiff, Nat.reduceAdd, reduceCtorEq, h131])
    (refine hQ _ _ _ (aC (by first | exact .inl rfl | exact .inr rfl) ?_); simp only [SS, TF88Form3, Nat.reduceLT, Nat.reduceEqDiff, reduceCtorEq])
    simp only [wayE, hw]
  | some w =>
    have e : wayV o h = .tup [.agg [.bool w.1, .str w.2.1, .int .i64 w.2.2.1, .int .i64 w.2.2.2], .bool true] := by simp only [wayV, hw]
    rw [e] at h131
    by_cases hf : f = 0
    · have c1 : (f == 0) = true := by simpa using hf
      cases hr : reachB w.2.2.1 f t with
      | true =>
        (try simp only [aI, SS, TF88Form3, aH, setRange, aA, Nat.reduceLT, Nat.reduceEqDiff, Nat.reduceAdd, reduceCtorEq, h131, c1, e132, hr])
        (refine hQ _ _ _ (aC (by first | exact .inl rfl | exact .inr rfl) ?_); simp only [SS, TF88Form3, Nat.reduceLT, Nat.reduceEqDiff, reduceCtorEq])
        simp only [wayE, hw, hf, if_true]
        rw [hf] at hr; rw [hr]; rfl
      | false =>
        (try simp only [aI, SS, TF88Form3, aH, setRange, aA, Nat.reduceLT, Nat.reduceEqDiff, Nat.reduceAdd, reduceCtorEq, h131, c1, e132, hr])
        (refine hQ _ _ _ (aC (by first | exact .inl rfl | exact .inr rfl) ?_); simp only [SS, TF88Form3, Nat.reduceLT, Nat.reduceEqDiff, reduceCtorEq])
        simp only [wayE, hw, hf, if_true]
        rw [hf] at hr; rw [hr]; rfl
    · have c1 : (f == 0) = false := by simpa using hf
      cases hr : reachB w.2.2.2 f t with
      | true =>
        (try simp only [aI, SS, TF88Form3, aH, setRange, aA, Nat.reduceLT, Nat.reduceEqDiff, Nat.reduceAdd, reduceCtorEq, h131, c1, e132, hr])
        (refine hQ _ _ _ (aC (by first | exact .inl rfl | exact .inr rfl) ?_); simp only [SS, TF88Form3, Nat.reduceLT, Nat.reduceEqDiff, reduceCtorEq])
        simp only [wayE, hw, hf, if_false, hr, if_true]
      | false =>
        (try simp only [aI, SS, TF88Form3, aH, setRange, aA, Nat.reduceLT, Nat.reduceEqDiff, Nat.reduceAdd, reduceCtorEq, h131, c1, e132, hr])
        (refine hQ _ _ _ (aC (by first | exact .inl rfl | exact .inr rfl) ?_); simp only [SS, TF88Form3, Nat.reduceLT, Nat.reduceEqDiff, reduceCtorEq])
        simp [wayE, hw, hf, hr]

/-! touches -/
def touchOK : Option Int → List Int → Bool
  | _, [] => true
  | p, x :: l => withinB x 1 9 && !decide (p = some x) && touchOK (some x) l
def touchE (o : Bool) (b : List Int) : Int := if 9 < b.length ∨ (o = true ∧ b.length = 0) then 16 else if touchOK none b = true then 0 else 16
def bV (b : List Int) (k : Nat) : Option Int := if k = 0 then none else b[k - 1]?
theorem before_succ (b : List Int) (k : Nat) : bV b (k + 1) = b[k]? := by simp [bV]
theorem touchOK_drop {b : List Int} {k : Nat} {x : Int} (h : b[k]? = some x) : touchOK (bV b k) (b.drop k) = (withinB x 1 9 && !decide (bV b k = some x) && touchOK (bV b (k + 1)) (b.drop (k + 1))) := by
  rw [before_succ, h]
  obtain ⟨hk, rfl⟩ := List.getElem?_eq_some_iff.1 h
  rw [List.drop_eq_getElem_cons hk]; rfl
def F89 : List EVal → Option EVal
  | [.agg [.int .i64 _, .int .i64 _, .bool o, .str _, by']] => (dInts by').map fun b => .int .i64 (touchE o b)
  | _ => none
theorem fn89 : FnT 89 F89 := by
  refine Fn.intro mixed aJ Tryz.func89 rfl [(93, F93)] (by simp only [List.forall_mem_cons]; exact ⟨fn93, fun _ h => by cases h⟩) ?_
  intro args v hF
  unfold F89 at hF
  split at hF
  rotate_left
  · cases hF
  intro Q hV
  have hQ := aW.of hV
  rename_i f t o h by'
  cases hb : dInts by' with
  | none => rw [hb] at hF; cases hF
  | some b =>
  rw [hb] at hF
  cases hF
  obtain ⟨rfl, hlen⟩ := dInts_inv hb
  clear hb
  refine Top.view (aF.start (n := 45) rfl (by simp)) (aD aJ _ _ _ _ ?_)
  by_cases h9 : 9 < b.length
  · have c1 : decide ((9 : Int) < (b.length : Int)) = true := by simp; omega
    (try simp only [aI, SS, TF89Form3, aA, Nat.reduceLT, Nat.reduceEqDiff, reduceCtorEq, aM, c1])
    (refine hQ _ _ _ (aC (by first | exact .inl rfl | exact .inr rfl) ?_); simp only [SS, TF89Form3, Nat.reduceLT, Nat.reduceEqDiff, reduceCtorEq])
    simp [touchE, h9]
  have c1 : decide ((9 : Int) < (b.length : Int)) = false := by simp; omega
  by_cases h0 : o = true ∧ b.length = 0
  · obtain ⟨rfl, h0⟩ := h0
    have c2 : ((b.length : Int) == 0) = true := by rw [h0]; rfl
    (try simp only [aI, SS, TF89Form3, aA, Nat.reduceLT, Nat.reduceEqDiff, reduceCtorEq, aM, c1, c2])
    (refine hQ _ _ _ (aC (by first | exact .inl rfl | exact .inr rfl) ?_); simp only [SS, TF89Form3, Nat.reduceLT, Nat.reduceEqDiff, reduceCtorEq])
    simp [touchE, h0]
  dsimp only at hQ hV
  have hE : touchE o b = if touchOK none b = true then 0 else 16 := by
    unfold touchE; rw [if_neg (by rintro (h | h); exact h9 h; exact h0 h)]
  rw [hE] at hQ
  clear hE
  have c2 : o = true → ((b.length : Int) == 0) = false := fun e => by
    have : b.length ≠ 0 := fun e2 => h0 ⟨e, e2⟩
    simp only [beq_eq_false_iff_ne]; omega
  cases o with
  | false =>
    (try simp only [aI, SS, TF89Form3, aA, Nat.reduceLT, Nat.reduceEqDiff, reduceCtorEq, aM, c1])
    refine aT (Top.loop (I := fun s : { k : Nat // k ≤ b.length ∧ touchOK none b = touchOK (bV b k) (b.drop k) } => (mkF 45 [(22, .int .i64 (s.1 : Nat)), (21, .int .i64 (b.length : Int)), (20, .lsl (aS b)), (1, .ptr 0 0)], mkH 1 [(0, some (.row [.int .i64 f, .int .i64 t, .bool false, .str h, .lsl (aS b)] 27 0 0 false))] 0 [])) (μ := fun s => b.length - s.1) ⟨0, by simp, rfl⟩ (aF.drop (by simp [look, below]) (by simp [aB, aR, below, aX]) (by simp [aB])) ?_)
    rintro ⟨k, hk, hf⟩
    refine aD aJ _ _ _ _ ?_
    by_cases hlt : k < b.length
    rotate_left
    · have q1 : decide ((k : Int) < (b.length : Int)) = false := by simp; omega
      (try simp only [SS, aA, Nat.reduceLT, Nat.reduceEqDiff, q1])
      (refine hQ _ _ _ (aC (by first | exact .inl rfl | exact .inr rfl) ?_); simp only [SS, TF89Form3, Nat.reduceLT, Nat.reduceEqDiff])
      have : b.drop k = [] := List.drop_eq_nil_of_le (by omega)
      rw [hf, this]; rfl
    obtain ⟨x, hx⟩ : ∃ x, b[k]? = some x := ⟨b[k], List.getElem?_eq_getElem hlt⟩
    have q1 : decide ((k : Int) < (b.length : Int)) = true := by simp; omega
    have q2 : IntKind.i64.wrap ((k : Int) + 1) = ((k + 1 : Nat) : Int) := by rw [aP] <;> omega
    have hfd := touchOK_drop hx
    by_cases hin : 1 ≤ x ∧ x ≤ 9
    rotate_left
    · have q3 := withinC_f hin
      (try simp only [SS, TF89Form3, aH, aA, Nat.reduceLT, Nat.reduceEqDiff, q1, bM, hx, e93, q3])
      (refine hQ _ _ _ (aC (by first | exact .inl rfl | exact .inr rfl) ?_); simp only [SS, TF89Form3, Nat.reduceLT, Nat.reduceEqDiff])
      rw [hf, hfd, q3]; rfl
    have q3 := withinC_t hin
    by_cases hk0 : k = 0
    · have q4 : decide ((0 : Int) < (k : Int)) = false := by simp; omega
      (try simp only [SS, TF89Form3, aH, aA, Nat.reduceLT, Nat.reduceEqDiff, q1, q2, bM, hx, e93, q3, q4])
      exact ⟨⟨k + 1, hlt, by rw [hf, hfd, q3]; simp [bV, hk0]⟩, by simp; omega, (aF.drop (by simp [look, below]) (by simp [aB, aR, below, aX]) (by simp [aB]))⟩
    obtain ⟨y, hy⟩ : ∃ y, b[k - 1]? = some y := ⟨b[k - 1], List.getElem?_eq_getElem (by omega)⟩
    have hbf : bV b k = some y := by simp [bV, hk0, hy]
    have q4 : decide ((0 : Int) < (k : Int)) = true := by simp; omega
    have q5 : IntKind.i64.wrap ((k : Int) - 1) = ((k - 1 : Nat) : Int) := by rw [aP] <;> omega
    by_cases hxy : x = y
    · have q6 : (x == y) = true := by simpa using hxy
      (try simp only [SS, TF89Form3, aH, aA, Nat.reduceLT, Nat.reduceEqDiff, reduceCtorEq, q1, bM, hx, hy, e93, q3, q4, q5, q6])
      (refine hQ _ _ _ (aC (by first | exact .inl rfl | exact .inr rfl) ?_); simp only [SS, TF89Form3, Nat.reduceLT, Nat.reduceEqDiff])
      rw [hf, hfd, q3, hbf, hxy]; simp
    · have q6 : (x == y) = false := by simpa using hxy
      (try simp only [SS, TF89Form3, aH, aA, Nat.reduceLT, Nat.reduceEqDiff, reduceCtorEq, q1, q2, bM, hx, hy, e93, q3, q4, q5, q6])
      refine ⟨⟨k + 1, hlt, ?_⟩, by simp; omega, (aF.drop (by simp [look, below]) (by simp [aB, aR, below, aX]) (by simp [aB]))⟩
      rw [hf, hfd, q3, hbf]
      have : ¬ y = x := fun e => hxy e.symm
      simp [this]
  | true =>
    have c2 := c2 rfl
    (try simp only [aI, SS, TF89Form3, aA, Nat.reduceLT, Nat.reduceEqDiff, reduceCtorEq, aM, c1, c2])
    refine aT (Top.loop (I := fun s : { k : Nat // k ≤ b.length ∧ touchOK none b = touchOK (bV b k) (b.drop k) } => (mkF 45 [(22, .int .i64 (s.1 : Nat)), (21, .int .i64 (b.length : Int)), (20, .lsl (aS b)), (1, .ptr 0 0)], mkH 1 [(0, some (.row [.int .i64 f, .int .i64 t, .bool true, .str h, .lsl (aS b)] 27 0 0 false))] 0 [])) (μ := fun s => b.length - s.1) ⟨0, by simp, rfl⟩ (aF.drop (by simp [look, below]) (by simp [aB, aR, below, aX]) (by simp [aB])) ?_)
    rintro ⟨k, hk, hf⟩
    refine aD aJ _ _ _ _ ?_
    by_cases hlt : k < b.length
    rotate_left
    · have q1 : decide ((k : Int) < (b.length : Int)) = false := by simp; omega
      (try simp only [SS, aA, Nat.reduceLT, Nat.reduceEqDiff, q1])
      (refine hQ _ _ _ (aC (by first | exact .inl rfl | exact .inr rfl) ?_); simp only [SS, TF89Form3, Nat.reduceLT, Nat.reduceEqDiff])
      have : b.drop k = [] := List.drop_eq_nil_of_le (by omega)
      rw [hf, this]; rfl
    obtain ⟨x, hx⟩ : ∃ x, b[k]? = some x := ⟨b[k], List.getElem?_eq_getElem hlt⟩
    have q1 : decide ((k : Int) < (b.length : Int)) = true := by simp; omega
    have q2 : IntKind.i64.wrap ((k : Int) + 1) = ((k + 1 : Nat) : Int) := by rw [aP] <;> omega
    have hfd := touchOK_drop hx
    by_cases hin : 1 ≤ x ∧ x ≤ 9
    rotate_left
    · have q3 := withinC_f hin
      (try simp only [SS, TF89Form3, aH, aA, Nat.reduceLT, Nat.reduceEqDiff, q1, bM, hx, e93, q3])
      (refine hQ _ _ _ (aC (by first | exact .inl rfl | exact .inr rfl) ?_); simp only [SS, TF89Form3, Nat.reduceLT, Nat.reduceEqDiff])
      rw [hf, hfd, q3]; rfl
    have q3 := withinC_t hin
    by_cases hk0 : k = 0
    · have q4 : decide ((0 : Int) < (k : Int)) = false := by simp; omega
      (try simp only [SS, TF89Form3, aH, aA, Nat.reduceLT, Nat.reduceEqDiff, q1, q2, bM, hx, e93, q3, q4])
      exact ⟨⟨k + 1, hlt, by rw [hf, hfd, q3]; simp [bV, hk0]⟩, by simp; omega, (aF.drop (by simp [look, below]) (by simp [aB, aR, below, aX]) (by simp [aB]))⟩
    obtain ⟨y, hy⟩ : ∃ y, b[k - 1]? = some y := ⟨b[k - 1], List.getElem?_eq_getElem (by omega)⟩
    have hbf : bV b k = some y := by simp [bV, hk0, hy]
    have q4 : decide ((0 : Int) < (k : Int)) = true := by simp; omega
    have q5 : IntKind.i64.wrap ((k : Int) - 1) = ((k - 1 : Nat) : Int) := by rw [aP] <;> omega
    by_cases hxy : x = y
    · have q6 : (x == y) = true := by simpa using hxy
      (try simp only [SS, TF89Form3, aH, aA, Nat.reduceLT, Nat.reduceEqDiff, reduceCtorEq, q1, bM, hx, hy, e93, q3, q4, q5, q6])
      (refine hQ _ _ _ (aC (by first | exact .inl rfl | exact .inr rfl) ?_); simp only [SS, TF89Form3, Nat.reduceLT, Nat.reduceEqDiff])
      rw [hf, hfd, q3, hbf, hxy]; simp
    · have q6 : (x == y) = false := by simpa using hxy
      (try simp only [SS, TF89Form3, aH, aA, Nat.reduceLT, Nat.reduceEqDiff, reduceCtorEq, q1, q2, bM, hx, hy, e93, q3, q4, q5, q6])
      refine ⟨⟨k + 1, hlt, ?_⟩, by simp; omega, (aF.drop (by simp [look, below]) (by simp [aB, aR, below, aX]) (by simp [aB]))⟩
      rw [hf, hfd, q3, hbf]
      have : ¬ y = x := fun e => hxy e.symm
      simp [this]
end Go.Ev
