import Derived.Test.YtdhnjbgggkdiiaaGreatDoorCan6
set_option linter.unusedSimpArgs false
set_option linter.unusedVariables false
namespace Go.Ev
open Go.RowKit Go.Proofs
set_option linter.defProp false
def TF111Can7 := And.intro (And.intro (And.intro (And.intro (And.intro (@Tryz.underlying3) (And.intro (@sz3) (@bK))) (And.intro (@I3s) (And.intro (@I3b) (@bJ)))) (And.intro (And.intro (@bL) (And.intro (@Tryz.underlying4) (@sz4))) (And.intro (And.intro (@cT) (@I4s)) (And.intro (@I4b) (@cS))))) (And.intro (And.intro (And.intro (@cU) (And.intro (@Tryz.underlying9) (@sz9))) (And.intro (@bZ) (And.intro (@I9s) (@I9b)))) (And.intro (And.intro (@bX) (And.intro (@cA) (@Tryz.underlying22))) (And.intro (And.intro (@dX) (@cZ)) (And.intro (@dY) (@dZ)))))) (And.intro (And.intro (And.intro (And.intro (@cX) (And.intro (@dA) (@Tryz.underlying24))) (And.intro (@sz24) (And.intro (@fok24) (@info24)))) (And.intro (And.intro (@I24s) (And.intro (@I24b) (@zero24))) (And.intro (And.intro (@grow24) (@Tryz.underlying25)) (And.intro (@dI) (@bQ))))) (And.intro (And.intro (And.intro (@dJ) (And.intro (@dK) (@bP))) (And.intro (@bR) (And.intro (@Tryz.underlying27) (@dN)))) (And.intro (And.intro (@cV) (And.intro (@cF) (@dO))) (And.intro (And.intro (@dP) (@cC)) (And.intro (@cG) (@Tryz.results111))))))
def TF112Can7 := And.intro (And.intro (And.intro (And.intro (And.intro (@Tryz.underlying3) (And.intro (@sz3) (@bK))) (And.intro (@I3s) (And.intro (@I3b) (@bJ)))) (And.intro (And.intro (@bL) (And.intro (@Tryz.underlying4) (@sz4))) (And.intro (@cT) (And.intro (@I4s) (@I4b))))) (And.intro (And.intro (And.intro (@cS) (And.intro (@cU) (@Tryz.underlying9))) (And.intro (@sz9) (And.intro (@bZ) (@I9s)))) (And.intro (And.intro (@I9b) (And.intro (@bX) (@cA))) (And.intro (And.intro (@Tryz.underlying22) (@dX)) (And.intro (@cZ) (@dY)))))) (And.intro (And.intro (And.intro (And.intro (@dZ) (And.intro (@cX) (@dA))) (And.intro (@Tryz.underlying25) (And.intro (@dI) (@bQ)))) (And.intro (And.intro (@dJ) (And.intro (@dK) (@bP))) (And.intro (And.intro (@bR) (@Tryz.underlying27)) (And.intro (@dN) (@cV))))) (And.intro (And.intro (And.intro (@cF) (And.intro (@dO) (@dP))) (And.intro (@cC) (And.intro (@cG) (@Tryz.underlying152)))) (And.intro (And.intro (@sz152) (And.intro (@info152) (@I152s))) (And.intro (And.intro (@I152b) (@zero152)) (And.intro (@grow152) (@Tryz.results112))))))
set_option maxRecDepth 20000
set_option maxHeartbeats 8000000

/-! the first errors of a loose play -/
def bigM (m : Mv) : Bool := decide (36 < m.b.length)
def sizeE (p : List Nat) (l : List Mv) : Int := if (decide (24 < p.length) || decide (4 < l.length) || l.any bigM) = true then 5 else 0
def F111 : List EVal → Option EVal
  | [.agg [.str p, .str _, .bool _, ms]] => (bH ms).map fun l => .int .i64 (sizeE p l)
  | _ => none
theorem fn111 : FnT 111 F111 := by
  refine Fn.intro mixed aJ Tryz.func111 rfl [] (fun _ h => by cases h) ?_
  intro args v hF
  unfold F111 at hF
  split at hF
  rotate_left
  · cases hF
  intro Q hV
  have hQ := aW.of hV
  rename_i p e late ms
  cases ha : bH ms with
  | none => rw [ha] at hF; cases hF
  | some l =>
  rw [ha] at hF
  cases hF
  obtain ⟨rfl, hlen, hok⟩ := bE ha
  clear ha
  dsimp only at hQ hV
  unfold sizeE at hQ hV
  refine Top.view (aF.start (n := 27) rfl (by simp)) (aD aJ _ _ _ _ ?_)
  by_cases h1 : 24 < p.length
  · have q1 : decide ((24 : Int) < (p.length : Int)) = true := by simp; omega
    rw [decide_eq_true h1] at hQ
    (try simp only [aI, SS, TF111Can7, aA, Nat.reduceLT, Nat.reduceEqDiff, reduceCtorEq, q1])
    (refine hQ _ _ _ (aC (by first | exact .inl rfl | exact .inr rfl) ?_); simp only [SS, TF111Can7, Nat.reduceLT, Nat.reduceEqDiff, reduceCtorEq])
  have q1 : decide ((24 : Int) < (p.length : Int)) = false := by simp; omega
  rw [decide_eq_false h1] at hQ
  by_cases h2 : 4 < l.length
  · have q2 : decide ((4 : Int) < (l.length : Int)) = true := by simp; omega
    rw [decide_eq_true h2] at hQ
    (try simp only [aI, SS, TF111Can7, aA, Nat.reduceLT, Nat.reduceEqDiff, reduceCtorEq, q1, q2, aL])
    (refine hQ _ _ _ (aC (by first | exact .inl rfl | exact .inr rfl) ?_); simp only [SS, TF111Can7, Nat.reduceLT, Nat.reduceEqDiff, reduceCtorEq])
  have q2 : decide ((4 : Int) < (l.length : Int)) = false := by simp; omega
  rw [decide_eq_false h2, Bool.false_or, Bool.false_or] at hQ
  (try simp only [aI, SS, TF111Can7, aA, Nat.reduceLT, Nat.reduceEqDiff, reduceCtorEq, q1, q2, aL])
  refine aT (Top.loop (I := fun s : { k : Nat // k ≤ l.length ∧ l.any bigM = (l.drop k).any bigM } => (mkF 27 [(18, .int .i64 (s.1 : Nat)), (17, .int .i64 (l.length : Int)), (16, .lsl (aG l))], mkH 0 [] 0 [])) (μ := fun s => l.length - s.1) ⟨0, by simp, rfl⟩ (aF.drop (by simp [look, below]) (by simp [aB, aR]) (by simp [aB])) ?_)
  rintro ⟨k, hk, hf⟩
  refine aD aJ _ _ _ _ ?_
  by_cases hlt : k < l.length
  rotate_left
  · have q3 : decide ((k : Int) < (l.length : Int)) = false := by simp; omega
    (try simp only [SS, aA, Nat.reduceLT, Nat.reduceEqDiff, q3])
    (refine hQ _ _ _ (aC (by first | exact .inl rfl | exact .inr rfl) ?_); simp only [SS, TF111Can7, Nat.reduceLT, Nat.reduceEqDiff])
    have : l.drop k = [] := List.drop_eq_nil_of_le (by omega)
    rw [hf, this]; rfl
  obtain ⟨m, hx⟩ : ∃ m, l[k]? = some m := ⟨l[k], List.getElem?_eq_getElem hlt⟩
  have q3 : decide ((k : Int) < (l.length : Int)) = true := by simp; omega
  have w1 : IntKind.i64.wrap ((k : Int) + 1) = ((k + 1 : Nat) : Int) := by rw [aP] <;> omega
  have hd : (l.drop k).any bigM = (bigM m || (l.drop (k + 1)).any bigM) := by
    obtain ⟨hk2, rfl⟩ := List.getElem?_eq_some_iff.1 hx
    rw [List.drop_eq_getElem_cons hk2]; rfl
  by_cases h3 : 36 < m.b.length
  · have q4 : decide ((36 : Int) < (m.b.length : Int)) = true := by simp; omega
    have hb : bigM m = true := by simp [bigM, h3]
    rw [hb] at hd
    (try simp only [SS, TF111Can7, setRange, aA, Nat.reduceLT, Nat.reduceEqDiff, Nat.reduceAdd, reduceCtorEq, q3, aZ, bT, hx, aM, q4])
    (refine hQ _ _ _ (aC (by first | exact .inl rfl | exact .inr rfl) ?_); simp only [SS, TF111Can7, Nat.reduceLT, Nat.reduceEqDiff])
    rw [hf, hd]; rfl
  · have q4 : decide ((36 : Int) < (m.b.length : Int)) = false := by simp; omega
    have hb : bigM m = false := by simp [bigM, h3]
    rw [hb, Bool.false_or] at hd
    (try simp only [SS, TF111Can7, setRange, aA, Nat.reduceLT, Nat.reduceEqDiff, Nat.reduceAdd, reduceCtorEq, q3, aZ, bT, hx, aM, q4, w1])
    exact ⟨⟨k + 1, hlt, hf.trans hd⟩, by simp; omega, (aF.drop (by simp [look, below]) (by simp [aB, aR]) (by simp [aB]))⟩
def dupT : List Int → List Mv → Bool
  | _, [] => false
  | ks, m :: l => ks.any (· == m.f) || dupT (ks ++ [m.f]) l
def twiceE (l : List Mv) : Int := if dupT [] l = true then 9 else 0
theorem findE_mapE : ∀ {l : List Int} {t : Nat} {x : Int}, findE (.int .i64 x) (mapE t l) = some (if l.any (· == x) = true then some (.bool true) else none)
  | [], _, _ => rfl
  | y :: l, t, x => by
    have ih := findE_mapE (l := l) (t := t + 1) (x := x)
    simp only [mapE, findE, eqKey, if_true]
    by_cases h : x = y
    · subst h; simp
    · have h1 : (x == y) = false := by simpa using h
      have h2 : (y == x) = false := by simpa using fun e => h e.symm
      rw [h1, ih]
      simp only [List.any_cons, h2, Bool.false_or]
theorem dupT_drop {l : List Mv} {k : Nat} {m : Mv} {ks : List Int} (h : l[k]? = some m) : dupT ks (l.drop k) = (ks.any (· == m.f) || dupT (ks ++ [m.f]) (l.drop (k + 1))) := by
  obtain ⟨hk, rfl⟩ := List.getElem?_eq_some_iff.1 h
  rw [List.drop_eq_getElem_cons hk]; rfl
def F112 : List EVal → Option EVal
  | [ms] => (bH ms).map fun l => .int .i64 (twiceE l)
  | _ => none
theorem fn112 : FnT 112 F112 := by
  refine Fn.intro mixed aJ Tryz.func112 rfl [] (fun _ h => by cases h) ?_
  intro args v hF
  unfold F112 at hF
  split at hF
  rotate_left
  · cases hF
  intro Q hV
  have hQ := aW.of hV
  rename_i ms
  cases ha : bH ms with
  | none => rw [ha] at hF; cases hF
  | some l =>
  rw [ha] at hF
  cases hF
  obtain ⟨rfl, hlen, hok⟩ := bE ha
  clear ha
  dsimp only at hQ hV
  unfold twiceE at hQ hV
  have zv : zeroV Tryz.prog 4 = some (.bool false) := by kernel_rfl
  refine Top.view (aF.start (n := 21) rfl (by simp)) (aD aJ _ _ _ _ ?_)
  (try simp only [aI, SS, TF112Can7, aA, Nat.reduceLT, Nat.reduceEqDiff, reduceCtorEq, aL])
  refine aT (Top.loop (I := fun s : { k : Nat // k ≤ l.length ∧ dupT [] l = dupT ((l.take k).map (·.f)) (l.drop k) } => (mkF 21 [(9, .int .i64 (s.1 : Nat)), (8, .int .i64 (l.length : Int)), (7, .lsl (aG l)), (3, .map 0)], mkH 1 [(0, some (.map (mapE 0 ((l.take s.1).map (·.f))) ((l.take s.1).map (·.f)).length))] 0 [])) (μ := fun s => l.length - s.1) ⟨0, by simp, rfl⟩ (aF.sub (by simp [look])) ?_)
  rintro ⟨k, hk, hf⟩
  refine aD aJ _ _ _ _ ?_
  by_cases hlt : k < l.length
  rotate_left
  · have q3 : decide ((k : Int) < (l.length : Int)) = false := by simp; omega
    (try simp only [SS, aA, Nat.reduceLT, Nat.reduceEqDiff, q3])
    (refine hQ _ _ _ (aC (by first | exact .inl rfl | exact .inr rfl) ?_); simp only [SS, TF112Can7, Nat.reduceLT, Nat.reduceEqDiff])
    have : l.drop k = [] := List.drop_eq_nil_of_le (by omega)
    rw [hf, this]; rfl
  obtain ⟨m, hx⟩ : ∃ m, l[k]? = some m := ⟨l[k], List.getElem?_eq_getElem hlt⟩
  have q3 : decide ((k : Int) < (l.length : Int)) = true := by simp; omega
  have w1 : IntKind.i64.wrap ((k : Int) + 1) = ((k + 1 : Nat) : Int) := by rw [aP] <;> omega
  have hd := dupT_drop (ks := (l.take k).map (·.f)) hx
  have hkt : (l.take (k + 1)).map (·.f) = (l.take k).map (·.f) ++ [m.f] := by rw [List.take_add_one, hx]; simp
  rw [← hkt] at hd
  have hup := updE_mapE (l := (l.take k).map (·.f)) (t := 0) (x := m.f)
  have hfi := findE_mapE (l := (l.take k).map (·.f)) (t := 0) (x := m.f)
  have hap := mapE_append (l := (l.take k).map (·.f)) (t := 0) (x := m.f)
  rw [Nat.zero_add, ← hkt] at hap
  have hl1 : ((l.take k).map (·.f)).length + 1 = ((l.take (k + 1)).map (·.f)).length := by rw [hkt]; simp
  cases hany : ((l.take k).map (·.f)).any (· == m.f) with
  | true =>
    rw [hany, if_pos rfl] at hfi
    rw [hany, Bool.true_or] at hd
    (try simp only [SS, TF112Can7, setRange, aA, Nat.reduceLT, Nat.reduceEqDiff, Nat.reduceAdd, reduceCtorEq, q3, aZ, bT, hx, eLookupOp, eLookup, keyFits, hfi, eLookup'])
    (refine hQ _ _ _ (aC (by first | exact .inl rfl | exact .inr rfl) ?_); simp only [SS, TF112Can7, Nat.reduceLT, Nat.reduceEqDiff])
    rw [hf, hd]; rfl
  | false =>
    rw [hany, if_neg (by simp)] at hfi hup
    rw [hany, Bool.false_or] at hd
    (try simp only [SS, TF112Can7, setRange, aA, Nat.reduceLT, Nat.reduceEqDiff, Nat.reduceAdd, reduceCtorEq, q3, aZ, bT, hx, eLookupOp, eLookup, keyFits, hfi, eLookup', zv, eUpdateOp, eUpdate, hup, eUpdate', hap, hl1, w1])
    refine ⟨⟨k + 1, hlt, hf.trans hd⟩, by simp; omega, ?_⟩
    exact (aF.dropD (ds := []) (r := none) (by intro q h; cases h) (by simp) (by simp) (by simp [look, below]) (by simp [aB, okO_mapE]) (by simp))
end Go.Ev
