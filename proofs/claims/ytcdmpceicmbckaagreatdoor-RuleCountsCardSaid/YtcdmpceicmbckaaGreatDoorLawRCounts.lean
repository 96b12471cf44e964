import Derived.Test.YtcdmpceicmbckaaGreatDoorDCounts
set_option linter.unusedSimpArgs false
set_option linter.unusedVariables false
namespace Go.Ev
open Go.RowKit Go.Proofs
set_option maxRecDepth 100000
set_option maxHeartbeats 4000000
set_option linter.unusedVariables false
noncomputable section
/-! stringslite.HasSuffix -/
def A191 : Row ((List Nat) × (List Nat) × Unit) := (Row.cons cS (Row.cons cS Row.nil))
def P191 : Plan := ⟨21, fun _ => none, fun _ => none⟩
def C191 : Cfg V := cfgS [] (fun _ => false)
theorem q191 (n : Nat) (s : List Nat) (t : List Nat) : dFn C191 P191 128 (bW Tryz.f191) Tryz.f191.results.toList n (A191.v (s, t, ())) = (cond (decide (((t.length : Nat) : Int) ≤ ((s.length : Nat) : Int))) (cond (decide ((0:Int) ≤ (IntKind.i64.wrap (((s.length : Nat) : Int) - ((t.length : Nat) : Int)))) && decide ((IntKind.i64.wrap (((s.length : Nat) : Int) - ((t.length : Nat) : Int))) ≤ ((s.length : Nat) : Int))) (some (.bool (decide (((s.take s.length).drop ((IntKind.i64.wrap (((s.length : Nat) : Int) - ((t.length : Nat) : Int))).toNat)) = t)))) none) (some (.bool false))) := by kernel_rfl


def sufB (s t : List Nat) : Bool := decide (t.length ≤ s.length) && decide (s.drop (s.length - t.length) = t)
def S191 (x : List Nat × List Nat × Unit) : Option Bool := if x.1.length < 9223372036854775808 ∧ x.2.1.length < 9223372036854775808 then some (sufB x.1 x.2.1) else none
theorem h191 (x : List Nat × List Nat × Unit) (r : Bool) (h : S191 x = some r) : ∃ n w, dFn C191 P191 128 (bW Tryz.f191) Tryz.f191.results.toList n (A191.v x) = some w ∧ w.c = (cB.v r).c := by
  obtain ⟨s, t, u⟩ := x
  obtain ⟨⟩ := u
  unfold S191 at h
  simp only at h
  split at h
  rotate_left
  · cases h
  rename_i hl
  cases h
  refine ⟨0, cB.v (sufB s t), ?_, rfl⟩
  rw [q191]
  by_cases hle : t.length ≤ s.length
  · have w : IntKind.i64.wrap (((s.length : Nat) : Int) - ((t.length : Nat) : Int)) = ((s.length - t.length : Nat) : Int) := by rw [wrapI] <;> omega
    have a1 : decide (((t.length : Nat) : Int) ≤ ((s.length : Nat) : Int)) = true := by simp <;> omega
    have a2 : (decide ((0 : Int) ≤ ((s.length - t.length : Nat) : Int)) && decide (((s.length - t.length : Nat) : Int) ≤ ((s.length : Nat) : Int))) = true := by simp <;> omega
    simp only [w, a1, a2, cond_true, List.take_length, Int.toNat_natCast, sufB, hle, decide_true, Bool.true_and, cB]
  · have a1 : decide (((t.length : Nat) : Int) ≤ ((s.length : Nat) : Int)) = false := by simp <;> omega
    simp only [a1, cond_false, sufB, hle, decide_false, Bool.false_and, cB]

def K191 : Con Tryz.prog gT := Con.of 191 A191 cB S191 (Fn.of mixed aK Tryz.func191 (by kernel_rfl : Tryz.f191.body = some (bW Tryz.f191)) [] A191 cB S191 C191 P191 128 rfl rfl gdOK eqOK rfl (by kernel_rfl) (fun x => ⟨of_decide_eq_true (by kernel_rfl), by kernel_rfl⟩) h191)

/-! strings.HasSuffix -/
def A140 : Row ((List Nat) × (List Nat) × Unit) := (Row.cons cS (Row.cons cS Row.nil))
def P140 : Plan := ⟨8, fun _ => none, fun _ => none⟩
def C140 : Cfg V := cfgS [K191] (fun _ => false)
theorem q140 (n : Nat) (s : List Nat) (t : List Nat) : dFn C140 P140 128 (bW Tryz.f140) Tryz.f140.results.toList n (A140.v (s, t, ())) = (bH (S191 (s, t, ())) fun r2 => (some (.bool r2))) := by
  have h : dFn C140 P140 128 (bW Tryz.f140) Tryz.f140.results.toList n (A140.v (s, t, ())) = (cond (A191.ok (A191.v (s, t, ()))) (bH (S191 (A191.dec (A191.v (s, t, ())))) fun r2 => (some (.bool r2))) none) := by kernel_rfl
  simpa only [Row.okv, Row.dv, cond_true] using h


def S140 := S191
theorem h140 (x : List Nat × List Nat × Unit) (r : Bool) (h : S140 x = some r) : ∃ n w, dFn C140 P140 128 (bW Tryz.f140) Tryz.f140.results.toList n (A140.v x) = some w ∧ w.c = (cB.v r).c := by
  obtain ⟨s, t, u⟩ := x
  obtain ⟨⟩ := u
  refine ⟨0, cB.v r, ?_, rfl⟩
  rw [q140, show S191 (s, t, ()) = some r from h]; rfl

def K140 : Con Tryz.prog gT := Con.of 140 A140 cB S140 (Fn.of mixed aK Tryz.func140 (by kernel_rfl : Tryz.f140.body = some (bW Tryz.f140)) [K191] A140 cB S140 C140 P140 128 rfl rfl gdOK eqOK rfl (by kernel_rfl) (fun x => ⟨of_decide_eq_true (by kernel_rfl), by kernel_rfl⟩) h140)

/-! rule.eventAsked -/
def A82 : Row (((Int) × (Int) × Unit) × (List Nat) × Unit) := (Row.cons (Cod.agg (Row.cons cI (Row.cons cI Row.nil))) (Row.cons cS Row.nil))
def P82 : Plan := ⟨19, fun _ => none, fun _ => none⟩
def C82 : Cfg V := cfgS [K140] (fun _ => false)
theorem q82 (n : Nat) (c : (Int) × (Int) × Unit) (l : List Nat) : dFn C82 P82 128 (bW Tryz.f82) Tryz.f82.results.toList n (A82.v (c, l, ())) = (cond (decide ((2 : Int) < c.2.1)) (some (.str [75])) (cond (decide ((3 : Int) < c.1)) (some (.str [87])) (bH (S140 (l, [72], ())) fun r3 => (cond r3 (some (.str [72])) (bH (S140 (l, [88], ())) fun r4 => (cond r4 (some (.str [88])) (some (.str [])))))))) := by
  have h : dFn C82 P82 128 (bW Tryz.f82) Tryz.f82.results.toList n (A82.v (c, l, ())) = (cond (decide ((2 : Int) < c.2.1)) (some (.str [75])) (cond (decide ((3 : Int) < c.1)) (some (.str [87])) (cond (A140.ok (A140.v (l, [72], ()))) (bH (S140 (A140.dec (A140.v (l, [72], ())))) fun r3 => (cond r3 (some (.str [72])) (cond (A140.ok (A140.v (l, [88], ()))) (bH (S140 (A140.dec (A140.v (l, [88], ())))) fun r4 => (cond r4 (some (.str [88])) (some (.str [])))) none))) none))) := by kernel_rfl
  simpa only [Row.okv, Row.dv, cond_true] using h


/-- the event that a count and pitches ask for -/
def askC (c : Cnt) (l : List Nat) : List Nat := if c.1 = 4 then [87] else if c.2 = 3 then [75] else if sufB l [72] = true then [72] else if sufB l [88] = true then [88] else []
theorem cond_ite {α : Type} {c : Bool} {a b : α} : cond c a b = if c = true then a else b := by cases c <;> rfl
abbrev CL := (Int × Int × Unit) × List Nat × Unit
def S82 (x : CL) : Option (List Nat) := if x.2.1.length < 9223372036854775808 ∧ (0 ≤ x.1.1 ∧ x.1.1 ≤ 4 ∧ 0 ≤ x.1.2.1 ∧ x.1.2.1 ≤ 3 ∧ ¬(x.1.1 = 4 ∧ x.1.2.1 = 3)) then some (askC (x.1.1, x.1.2.1) x.2.1) else none
theorem h82 (x : CL) (r : List Nat) (h : S82 x = some r) : ∃ n w, dFn C82 P82 128 (bW Tryz.f82) Tryz.f82.results.toList n (A82.v x) = some w ∧ w.c = (cS.v r).c := by
  obtain ⟨c, l, u⟩ := x
  obtain ⟨⟩ := u
  unfold S82 at h
  simp only at h
  split at h
  rotate_left
  · cases h
  rename_i hl
  cases h
  refine ⟨0, cS.v (askC (c.1, c.2.1) l), ?_, rfl⟩
  rw [q82]
  have s1 : S140 (l, [72], ()) = some (sufB l [72]) := by unfold S140 S191; rw [if_pos ⟨hl.1, by simp⟩]
  have s2 : S140 (l, [88], ()) = some (sufB l [88]) := by unfold S140 S191; rw [if_pos ⟨hl.1, by simp⟩]
  rw [s1, obind_some, s2, obind_some]
  simp only [cond_ite, decide_eq_true_eq, askC, cS]
  have e1 : (2 < c.2.1) = (c.2.1 = 3) := by apply propext; omega
  have e2 : (3 < c.1) = (c.1 = 4) := by apply propext; omega
  simp only [e1, e2]
  by_cases h1 : c.1 = 4
  · have h2 : ¬ c.2.1 = 3 := fun h2 => hl.2.2.2.2.2 ⟨h1, h2⟩
    rw [if_neg h2, if_pos h1, if_pos h1]
  · rw [if_neg h1]
    by_cases h2 : c.2.1 = 3
    · rw [if_pos h2, if_neg h1, if_pos h2]
    · rw [if_neg h2, if_neg h1, if_neg h2]
      split
      · rfl
      · split <;> rfl

def K82 : Con Tryz.prog gT := Con.of 82 A82 cS S82 (Fn.of mixed aK Tryz.func82 (by kernel_rfl : Tryz.f82.body = some (bW Tryz.f82)) [K140] A82 cS S82 C82 P82 128 rfl rfl gdOK eqOK rfl (by kernel_rfl) (fun x => ⟨of_decide_eq_true (by kernel_rfl), by kernel_rfl⟩) h82)

/-! dugoutref02.Asked -/
def A30 : Row (((Int) × (Int) × Unit) × (List Nat) × Unit) := (Row.cons (Cod.agg (Row.cons cI (Row.cons cI Row.nil))) (Row.cons cS Row.nil))
def P30 : Plan := ⟨34, fun _ => none, fun _ => none⟩
def C30 : Cfg V := cfgS [] (fun _ => false)
theorem q30 (n : Nat) (c : (Int) × (Int) × Unit) (l : List Nat) : dFn C30 P30 128 (bW Tryz.f30) Tryz.f30.results.toList n (A30.v (c, l, ())) = (cond (c.1 == (4 : Int)) (some (.str [87])) (cond (c.2.1 == (3 : Int)) (some (.str [75])) (cond (!decide (l = [])) (cond (inR (IntKind.i64.wrap (((l.length : Nat) : Int) - (1 : Int))) l.length) (cond (((l.getD (IntKind.i64.wrap (((l.length : Nat) : Int) - (1 : Int))).toNat 0 : Nat) : Int) == (88 : Int)) (cond (decide ((0:Int) ≤ (IntKind.i64.wrap (((l.length : Nat) : Int) - (1 : Int)))) && decide ((IntKind.i64.wrap (((l.length : Nat) : Int) - (1 : Int))) ≤ ((l.length : Nat) : Int))) (some (.str ((l.take l.length).drop ((IntKind.i64.wrap (((l.length : Nat) : Int) - (1 : Int))).toNat)))) none) (cond (inR (IntKind.i64.wrap (((l.length : Nat) : Int) - (1 : Int))) l.length) (cond (((l.getD (IntKind.i64.wrap (((l.length : Nat) : Int) - (1 : Int))).toNat 0 : Nat) : Int) == (72 : Int)) (cond (decide ((0:Int) ≤ (IntKind.i64.wrap (((l.length : Nat) : Int) - (1 : Int)))) && decide ((IntKind.i64.wrap (((l.length : Nat) : Int) - (1 : Int))) ≤ ((l.length : Nat) : Int))) (some (.str ((l.take l.length).drop ((IntKind.i64.wrap (((l.length : Nat) : Int) - (1 : Int))).toNat)))) none) (some (.str []))) none)) none) (some (.str []))))) := by kernel_rfl


def S30 (x : CL) : Option (List Nat) := if x.2.1.length < 9223372036854775808 then some (askC (x.1.1, x.1.2.1) x.2.1) else none
theorem suf1 {l : List Nat} {y z : Nat} (h : l[l.length - 1]? = some y) (hl : 0 < l.length) : sufB l [z] = decide (y = z) := by
  unfold sufB
  have e : l.drop (l.length - 1) = [y] := by
    obtain ⟨h1, h2⟩ := List.getElem?_eq_some_iff.1 h
    rw [List.drop_eq_getElem_cons h1, h2, List.drop_eq_nil_of_le (by omega)]
  simp only [List.length_cons, List.length_nil, Nat.zero_add, e]
  have : decide (1 ≤ l.length) = true := by simp <;> omega
  rw [this, Bool.true_and]
  simp
theorem h30 (x : CL) (r : List Nat) (h : S30 x = some r) : ∃ n w, dFn C30 P30 128 (bW Tryz.f30) Tryz.f30.results.toList n (A30.v x) = some w ∧ w.c = (cS.v r).c := by
  obtain ⟨c, l, u⟩ := x
  obtain ⟨⟩ := u
  unfold S30 at h
  simp only at h
  split at h
  rotate_left
  · cases h
  rename_i hl
  cases h
  refine ⟨0, cS.v (askC (c.1, c.2.1) l), ?_, rfl⟩
  rw [q30]
  unfold askC
  simp only
  by_cases h1 : c.1 = 4
  · simp [h1, cS]
  have d1 : (c.1 == (4 : Int)) = false := by simpa using h1
  by_cases h2 : c.2.1 = 3
  · simp [d1, h1, h2, cS]
  have d2 : (c.2.1 == (3 : Int)) = false := by simpa using h2
  simp only [d1, d2, cond_false, if_neg h1, if_neg h2]
  by_cases hn : l = []
  · subst hn
    simp [sufB, cS]
  have hpos : 0 < l.length := List.length_pos_iff.2 hn
  obtain ⟨y, hy⟩ : ∃ y, l[l.length - 1]? = some y := ⟨_, List.getElem?_eq_getElem (by omega)⟩
  have w : IntKind.i64.wrap (((l.length : Nat) : Int) - (1 : Int)) = ((l.length - 1 : Nat) : Int) := by rw [wrapI] <;> omega
  have a1 : inR ((l.length - 1 : Nat) : Int) l.length = true := inR_t (by omega) (by omega)
  have a2 : (decide ((0 : Int) ≤ ((l.length - 1 : Nat) : Int)) && decide (((l.length - 1 : Nat) : Int) ≤ ((l.length : Nat) : Int))) = true := by simp <;> omega
  have a3 : (!decide (l = [])) = true := by simp [hn]
  have q (m : Nat) : (((y : Nat) : Int) == ((m : Nat) : Int)) = decide (y = m) := by rw [Bool.eq_iff_iff]; simp; omega
  have q88 : (((y : Nat) : Int) == (88 : Int)) = decide (y = 88) := q 88
  have q72 : (((y : Nat) : Int) == (72 : Int)) = decide (y = 72) := q 72
  have e : l.drop (l.length - 1) = [y] := by
    obtain ⟨h1, h2⟩ := List.getElem?_eq_some_iff.1 hy
    rw [List.drop_eq_getElem_cons h1, h2, List.drop_eq_nil_of_le (by omega)]
  simp only [w, a1, a2, a3, cond_true, Int.toNat_natCast, getD_of hy, List.take_length, q88, q72, e, suf1 hy hpos, cS]
  by_cases e88 : y = 88
  · subst e88; simp
  · by_cases e72 : y = 72
    · subst e72; simp
    · simp [e88, e72]

def K30 : Con Tryz.prog gT := Con.of 30 A30 cS S30 (Fn.of mixed aK Tryz.func30 (by kernel_rfl : Tryz.f30.body = some (bW Tryz.f30)) [] A30 cS S30 C30 P30 128 rfl rfl gdOK eqOK rfl (by kernel_rfl) (fun x => ⟨of_decide_eq_true (by kernel_rfl), by kernel_rfl⟩) h30)

/-! rule.Count -/
def A28 : Row ((St) × (List Nat) × Unit) := (Row.cons (Cod.agg rSt) (Row.cons cS Row.nil))
def P28 : Plan := ⟨36, fun _ => none, fun _ => none⟩
def C28 : Cfg V := cfgS [K60b, K81, K82] (fun _ => false)
theorem q28 (n : Nat) (s : St) (l : List Nat) : dFn C28 P28 128 (bW Tryz.f28) Tryz.f28.results.toList n (A28.v (s, l, ())) = (bH (S60b (s, (), ())) fun r4 => (cond (!(r4 == (0 : Int))) (some (.tup [.agg [.int .i64 (0 : Int), .int .i64 (0 : Int)], .str [], .int .i64 r4])) (bH (S81 (s.balls, s.strikes, l, ())) fun r5 => (cond (!(r5.2.2.1 == (0 : Int))) (some (.tup [.agg [.int .i64 (0 : Int), .int .i64 (0 : Int)], .str [], .int .i64 r5.2.2.1])) (bH (S82 ((r5.1.1, r5.1.2.1, ()), l, ())) fun r6 => (some (.tup [.agg [.int .i64 r5.1.1, .int .i64 r5.1.2.1], .str r6, .int .i64 (0 : Int)]))))))) := by
  have h : dFn C28 P28 128 (bW Tryz.f28) Tryz.f28.results.toList n (A28.v (s, l, ())) = (cond (A60b.ok (A60b.v (s, (), ()))) (bH (S60b (A60b.dec (A60b.v (s, (), ())))) fun r4 => (cond (!(r4 == (0 : Int))) (some (.tup [.agg [.int .i64 (0 : Int), .int .i64 (0 : Int)], .str [], .int .i64 r4])) (cond (A81.ok (A81.v (s.balls, s.strikes, l, ()))) (bH (S81 (A81.dec (A81.v (s.balls, s.strikes, l, ())))) fun r5 => (cond (!(r5.2.2.1 == (0 : Int))) (some (.tup [.agg [.int .i64 (0 : Int), .int .i64 (0 : Int)], .str [], .int .i64 r5.2.2.1])) (cond (A82.ok (A82.v ((r5.1.1, r5.1.2.1, ()), l, ()))) (bH (S82 (A82.dec (A82.v ((r5.1.1, r5.1.2.1, ()), l, ())))) fun r6 => (some (.tup [.agg [.int .i64 r5.1.1, .int .i64 r5.1.2.1], .str r6, .int .i64 (0 : Int)]))) none))) none))) none) := by kernel_rfl
  simpa only [Row.okv, Row.dv, cond_true] using h


/-- what Count answers -/
abbrev CntA := (Int × Int × Unit) × List Nat × Int × Unit
def cntA (s : St) (l : List Nat) : CntA :=
  if onE s ≠ 0 then ((0, 0, ()), [], onE s, ()) else
  let r := cA s.balls s.strikes l
  if r.2.2.1 ≠ 0 then ((0, 0, ()), [], r.2.2.1, ()) else (r.1, askC (r.1.1, r.1.2.1) l, 0, ())
def S28 (x : St × List Nat × Unit) : Option CntA := if bytesB x.2.1 = true ∧ x.2.1.length < 9223372036854775808 then some (cntA x.1 x.2.1) else none
/-- a count that stands is one of these -/
theorem stepC_two {c : Cnt} {x : Nat} (h : okC c false) : ¬((bG c x).1 = 4 ∧ (bG c x).2 = 3) := by
  obtain ⟨h1, h2, h3, h4, h5⟩ := h
  have h5 := h5 rfl
  unfold bG
  split <;> (try split) <;> (try split) <;> (try split) <;> (try simp only) <;> omega
theorem cnt_two : ∀ {l : List Nat} {c c' : Cnt} {d d' : Bool}, okC c d → ¬(c.1 = 4 ∧ c.2 = 3) → cnt c d l = .inl (c', d') → okC c' d' ∧ ¬(c'.1 = 4 ∧ c'.2 = 3)
  | [], c, c', d, d', h, h2, hc => by simp only [cnt, Sum.inl.injEq, Prod.mk.injEq] at hc; obtain ⟨rfl, rfl⟩ := hc; exact ⟨h, h2⟩
  | x :: l, c, c', d, d', h, h2, hc => by
    simp only [cnt] at hc
    split at hc
    · cases hc
    · rename_i hd
      simp only [Bool.or_eq_true, Bool.not_eq_true', not_or, Bool.not_eq_true, Bool.not_eq_false] at hd
      obtain ⟨rfl, _⟩ := hd
      cases hr : cnt (bG c x) (doneC c x) l with
      | inr k => rw [hr] at hc; cases hc
      | inl r =>
        rw [hr] at hc
        cases hc
        exact cnt_two (stepC_ok h) (stepC_two h) hr
theorem cntR_ok {b s : Int} {l : List Nat} (h : (cA b s l).2.2.1 = 0) : 0 ≤ (cA b s l).1.1 ∧ (cA b s l).1.1 ≤ 4 ∧ 0 ≤ (cA b s l).1.2.1 ∧ (cA b s l).1.2.1 ≤ 3 ∧ ¬((cA b s l).1.1 = 4 ∧ (cA b s l).1.2.1 = 3) := by
  unfold cA at h ⊢
  split at h
  rotate_left
  · simp at h
  rename_i hin
  rw [if_pos hin]
  split at h
  rotate_left
  · simp at h
  rename_i hl
  rw [if_pos hl]
  cases hc : cnt (b, s) false l with
  | inr k => rw [hc] at h; simp at h
  | inl q =>
    obtain ⟨c', d'⟩ := q
    simp only
    have := cnt_two (c := (b, s)) (d := false) (by simp only [okC]; omega) (by simp only; omega) hc
    obtain ⟨⟨o1, o2, o3, o4, _⟩, o6⟩ := this
    exact ⟨o1, o3, o2, o4, o6⟩
theorem h28 (x : St × List Nat × Unit) (r : CntA) (h : S28 x = some r) : ∃ n w, dFn C28 P28 128 (bW Tryz.f28) Tryz.f28.results.toList n (A28.v x) = some w ∧ w.c = ((Cod.tup (Row.cons (Cod.agg (Row.cons cI (Row.cons cI Row.nil))) (Row.cons cS (Row.cons cI Row.nil)))).v r).c := by
  obtain ⟨s, l, u⟩ := x
  obtain ⟨⟩ := u
  unfold S28 at h
  simp only at h
  split at h
  rotate_left
  · cases h
  rename_i hl
  cases h
  refine ⟨0, (Cod.tup (Row.cons (Cod.agg (Row.cons cI (Row.cons cI Row.nil))) (Row.cons cS (Row.cons cI Row.nil)))).v (cntA s l), ?_, rfl⟩
  rw [q28]
  have s1 : S60b (s, (), ()) = some (onE s) := rfl
  have s2 : S81 (s.balls, s.strikes, l, ()) = some (cA s.balls s.strikes l) := by unfold S81; rw [if_pos hl.1]
  rw [s1, obind_some, s2, obind_some]
  unfold cntA
  by_cases h0 : onE s = 0
  · rw [if_neg (by simpa using h0)]
    have d0 : (!(onE s == (0 : Int))) = false := by simp [h0]
    simp only [d0, cond_false]
    by_cases h1 : (cA s.balls s.strikes l).2.2.1 = 0
    · have d1 : (!((cA s.balls s.strikes l).2.2.1 == (0 : Int))) = false := by simp [h1]
      have s3 : S82 (((cA s.balls s.strikes l).1.1, (cA s.balls s.strikes l).1.2.1, ()), l, ()) = some (askC ((cA s.balls s.strikes l).1.1, (cA s.balls s.strikes l).1.2.1) l) := by
        unfold S82; rw [if_pos ⟨hl.2, cntR_ok h1⟩]
      simp only [d1, cond_false, s3, obind_some]
      rw [if_neg (by simpa using h1)]
      rfl
    · have d1 : (!((cA s.balls s.strikes l).2.2.1 == (0 : Int))) = true := by simp [h1]
      simp only [d1, cond_true]
      rw [if_pos h1]
      rfl
  · rw [if_pos h0]
    have d0 : (!(onE s == (0 : Int))) = true := by simp [h0]
    simp only [d0, cond_true]
    rfl

def K28 : Con Tryz.prog gT := Con.of 28 A28 (Cod.tup (Row.cons (Cod.agg (Row.cons cI (Row.cons cI Row.nil))) (Row.cons cS (Row.cons cI Row.nil)))) S28 (Fn.of mixed aK Tryz.func28 (by kernel_rfl : Tryz.f28.body = some (bW Tryz.f28)) [K60b, K81, K82] A28 (Cod.tup (Row.cons (Cod.agg (Row.cons cI (Row.cons cI Row.nil))) (Row.cons cS (Row.cons cI Row.nil)))) S28 C28 P28 128 rfl rfl gdOK eqOK rfl (by kernel_rfl) (fun x => ⟨of_decide_eq_true (by kernel_rfl), by kernel_rfl⟩) h28)

/-! dugoutlaw02.RuleCounts -/
def A4 : Row ((St) × (List Nat) × Unit) := (Row.cons (Cod.agg rSt) (Row.cons cS Row.nil))
def P4 : Plan := ⟨64, fun _ => none, fun _ => none⟩
def C4 : Cfg V := cfgS [K17, Kw27, K28, K29, K30] (fun _ => false)
theorem q4 (n : Nat) (s : St) (l : List Nat) : dFn C4 P4 128 (bW Tryz.f4) Tryz.f4.results.toList n (A4.v (s, l, ())) = (cond (decide ((26 : Int) < ((l.length : Nat) : Int))) (bH (Sw27 (())) fun r15 => (some (.bool r15))) (bH (S28 (s, l, ())) fun r16 => (bH (S17 (s, ())) fun r17 => (cond (r17 == (0 : Int)) (cond s.over (cond ((r16.1.1 == (0 : Int)) && ((r16.1.2.1 == (0 : Int)) && true)) (cond (decide (r16.2.1 = [])) (cond (r16.2.2.1 == (20 : Int)) (bH (Sw27 (())) fun r18 => (some (.bool r18))) (some (.bool false))) (some (.bool false))) (some (.bool false))) (cond (r17 == (0 : Int)) (bH (S29 (s.balls, s.strikes, l, ())) fun r19 => (cond (r19.2.2.1 == (0 : Int)) (bH (S30 ((r19.1.1, r19.1.2.1, ()), l, ())) fun r20 => (cond ((r16.1.1 == r19.1.1) && ((r16.1.2.1 == r19.1.2.1) && true)) (cond (decide (r16.2.1 = r20)) (cond (r16.2.2.1 == r19.2.2.1) (bH (Sw27 (())) fun r21 => (some (.bool r21))) (some (.bool false))) (some (.bool false))) (some (.bool false)))) (cond ((r16.1.1 == (0 : Int)) && ((r16.1.2.1 == (0 : Int)) && true)) (cond (decide (r16.2.1 = [])) (cond (r16.2.2.1 == r19.2.2.1) (bH (Sw27 (())) fun r22 => (some (.bool r22))) (some (.bool false))) (some (.bool false))) (some (.bool false))))) (cond ((r16.1.1 == (0 : Int)) && ((r16.1.2.1 == (0 : Int)) && true)) (cond (decide (r16.2.1 = [])) (cond (r16.2.2.1 == r17) (bH (Sw27 (())) fun r23 => (some (.bool r23))) (some (.bool false))) (some (.bool false))) (some (.bool false))))) (cond (r17 == (0 : Int)) (bH (S29 (s.balls, s.strikes, l, ())) fun r24 => (cond (r24.2.2.1 == (0 : Int)) (bH (S30 ((r24.1.1, r24.1.2.1, ()), l, ())) fun r25 => (cond ((r16.1.1 == r24.1.1) && ((r16.1.2.1 == r24.1.2.1) && true)) (cond (decide (r16.2.1 = r25)) (cond (r16.2.2.1 == r24.2.2.1) (bH (Sw27 (())) fun r26 => (some (.bool r26))) (some (.bool false))) (some (.bool false))) (some (.bool false)))) (cond ((r16.1.1 == (0 : Int)) && ((r16.1.2.1 == (0 : Int)) && true)) (cond (decide (r16.2.1 = [])) (cond (r16.2.2.1 == r24.2.2.1) (bH (Sw27 (())) fun r27 => (some (.bool r27))) (some (.bool false))) (some (.bool false))) (some (.bool false))))) (cond ((r16.1.1 == (0 : Int)) && ((r16.1.2.1 == (0 : Int)) && true)) (cond (decide (r16.2.1 = [])) (cond (r16.2.2.1 == r17) (bH (Sw27 (())) fun r28 => (some (.bool r28))) (some (.bool false))) (some (.bool false))) (some (.bool false)))))))) := by
  have h : dFn C4 P4 128 (bW Tryz.f4) Tryz.f4.results.toList n (A4.v (s, l, ())) = (cond (decide ((26 : Int) < ((l.length : Nat) : Int))) (cond (bZ.ok (bZ.v (()))) (bH (Sw27 (bZ.dec (bZ.v (())))) fun r15 => (some (.bool r15))) none) (cond (A28.ok (A28.v (s, l, ()))) (bH (S28 (A28.dec (A28.v (s, l, ())))) fun r16 => (cond (A17.ok (A17.v (s, ()))) (bH (S17 (A17.dec (A17.v (s, ())))) fun r17 => (cond (r17 == (0 : Int)) (cond s.over (cond ((r16.1.1 == (0 : Int)) && ((r16.1.2.1 == (0 : Int)) && true)) (cond (decide (r16.2.1 = [])) (cond (r16.2.2.1 == (20 : Int)) (cond (bZ.ok (bZ.v (()))) (bH (Sw27 (bZ.dec (bZ.v (())))) fun r18 => (some (.bool r18))) none) (some (.bool false))) (some (.bool false))) (some (.bool false))) (cond (r17 == (0 : Int)) (cond (A29.ok (A29.v (s.balls, s.strikes, l, ()))) (bH (S29 (A29.dec (A29.v (s.balls, s.strikes, l, ())))) fun r19 => (cond (r19.2.2.1 == (0 : Int)) (cond (A30.ok (A30.v ((r19.1.1, r19.1.2.1, ()), l, ()))) (bH (S30 (A30.dec (A30.v ((r19.1.1, r19.1.2.1, ()), l, ())))) fun r20 => (cond ((r16.1.1 == r19.1.1) && ((r16.1.2.1 == r19.1.2.1) && true)) (cond (decide (r16.2.1 = r20)) (cond (r16.2.2.1 == r19.2.2.1) (cond (bZ.ok (bZ.v (()))) (bH (Sw27 (bZ.dec (bZ.v (())))) fun r21 => (some (.bool r21))) none) (some (.bool false))) (some (.bool false))) (some (.bool false)))) none) (cond ((r16.1.1 == (0 : Int)) && ((r16.1.2.1 == (0 : Int)) && true)) (cond (decide (r16.2.1 = [])) (cond (r16.2.2.1 == r19.2.2.1) (cond (bZ.ok (bZ.v (()))) (bH (Sw27 (bZ.dec (bZ.v (())))) fun r22 => (some (.bool r22))) none) (some (.bool false))) (some (.bool false))) (some (.bool false))))) none) (cond ((r16.1.1 == (0 : Int)) && ((r16.1.2.1 == (0 : Int)) && true)) (cond (decide (r16.2.1 = [])) (cond (r16.2.2.1 == r17) (cond (bZ.ok (bZ.v (()))) (bH (Sw27 (bZ.dec (bZ.v (())))) fun r23 => (some (.bool r23))) none) (some (.bool false))) (some (.bool false))) (some (.bool false))))) (cond (r17 == (0 : Int)) (cond (A29.ok (A29.v (s.balls, s.strikes, l, ()))) (bH (S29 (A29.dec (A29.v (s.balls, s.strikes, l, ())))) fun r24 => (cond (r24.2.2.1 == (0 : Int)) (cond (A30.ok (A30.v ((r24.1.1, r24.1.2.1, ()), l, ()))) (bH (S30 (A30.dec (A30.v ((r24.1.1, r24.1.2.1, ()), l, ())))) fun r25 => (cond ((r16.1.1 == r24.1.1) && ((r16.1.2.1 == r24.1.2.1) && true)) (cond (decide (r16.2.1 = r25)) (cond (r16.2.2.1 == r24.2.2.1) (cond (bZ.ok (bZ.v (()))) (bH (Sw27 (bZ.dec (bZ.v (())))) fun r26 => (some (.bool r26))) none) (some (.bool false))) (some (.bool false))) (some (.bool false)))) none) (cond ((r16.1.1 == (0 : Int)) && ((r16.1.2.1 == (0 : Int)) && true)) (cond (decide (r16.2.1 = [])) (cond (r16.2.2.1 == r24.2.2.1) (cond (bZ.ok (bZ.v (()))) (bH (Sw27 (bZ.dec (bZ.v (())))) fun r27 => (some (.bool r27))) none) (some (.bool false))) (some (.bool false))) (some (.bool false))))) none) (cond ((r16.1.1 == (0 : Int)) && ((r16.1.2.1 == (0 : Int)) && true)) (cond (decide (r16.2.1 = [])) (cond (r16.2.2.1 == r17) (cond (bZ.ok (bZ.v (()))) (bH (Sw27 (bZ.dec (bZ.v (())))) fun r28 => (some (.bool r28))) none) (some (.bool false))) (some (.bool false))) (some (.bool false)))))) none)) none)) := by kernel_rfl
  simpa only [Row.okv, Row.dv, cond_true] using h


def S4 (x : St × List Nat × Unit) : Option Bool := if bytesB x.2.1 = true ∧ x.2.1.length < 9223372036854775808 then some true else none
theorem h4 (x : St × List Nat × Unit) (r : Bool) (h : S4 x = some r) : ∃ n w, dFn C4 P4 128 (bW Tryz.f4) Tryz.f4.results.toList n (A4.v x) = some w ∧ w.c = (cB.v r).c := by
  obtain ⟨s, l, u⟩ := x
  obtain ⟨⟩ := u
  unfold S4 at h
  simp only at h
  split at h
  rotate_left
  · cases h
  rename_i hl
  cases h
  refine ⟨0, cB.v true, ?_, rfl⟩
  rw [q4]
  have s0 : Sw27 () = some true := rfl
  have s1 : S28 (s, l, ()) = some (cntA s l) := by unfold S28; rw [if_pos hl]
  have s2 : S17 (s, ()) = some (stE s) := rfl
  have s3 : S29 (s.balls, s.strikes, l, ()) = some (cA s.balls s.strikes l) := by unfold S29; rw [if_pos hl.2]
  have s4 : S30 (((cA s.balls s.strikes l).1.1, (cA s.balls s.strikes l).1.2.1, ()), l, ()) = some (askC ((cA s.balls s.strikes l).1.1, (cA s.balls s.strikes l).1.2.1) l) := by
    unfold S30; rw [if_pos hl.2]
  simp only [s0, s1, s2, s3, s4, obind_some, cntA, onE_eq]
  by_cases h26 : decide ((26 : Int) < ((l.length : Nat) : Int)) = true
  · simp only [h26, cond_true]; rfl
  simp only [Bool.not_eq_true] at h26
  simp only [h26, cond_false]
  by_cases h0 : stE s = 0
  · cases ho : s.over with
    | true => simp [h0, cB]
    | false =>
      by_cases h1 : (cA s.balls s.strikes l).2.2.1 = 0
      · simp [h0, h1, cB]
      · have d1 : ((cA s.balls s.strikes l).2.2.1 == (0 : Int)) = false := by simpa using h1
        simp [h0, h1, d1, cB]
  · have d0 : (stE s == (0 : Int)) = false := by simpa using h0
    cases ho : s.over <;> simp [h0, d0, cB]

def K4 : Con Tryz.prog gT := Con.of 4 A4 cB S4 (Fn.of mixed aK Tryz.func4 (by kernel_rfl : Tryz.f4.body = some (bW Tryz.f4)) [K17, Kw27, K28, K29, K30] A4 cB S4 C4 P4 128 rfl rfl gdOK eqOK rfl (by kernel_rfl) (fun x => ⟨of_decide_eq_true (by kernel_rfl), by kernel_rfl⟩) h4)


def F4 : List EVal → Option EVal := fOf A4 cB S4
theorem fn4 : FnT 4 F4 := K4.ok
theorem F4_e {s : St} {l : List Nat} (hb : bytesB l = true) (hl : l.length < 9223372036854775808) : F4 [.agg (eSt s), .str l] = some (.bool true) := by
  have e : V.cs (A4.v (s, l, ())) = [.agg (eSt s), .str l] := by
    show V.cs [V.agg (rSt.v s), V.str l] = _
    simp only [V.cs, V.c, vSt_c]
  unfold F4 fOf
  rw [← e, A4.rt, Option.bind_some]
  unfold S4
  rw [if_pos ⟨hb, hl⟩]
  simp only [Option.map_some, cB, V.c]

end
end Go.Ev
