import Derived.Test.YtdhnjbgggkdiiaaGreatDoorBld3
set_option linter.unusedSimpArgs false
set_option linter.unusedVariables false
namespace Go.Ev
open Go.RowKit Go.Proofs
set_option linter.defProp false
def TF136Join := And.intro (And.intro (And.intro (And.intro (And.intro (@Tryz.underlying3) (And.intro (@sz3) (@bK))) (And.intro (@I3s) (And.intro (@I3b) (@bJ)))) (And.intro (And.intro (@bL) (And.intro (@Tryz.underlying5) (@sz5))) (And.intro (And.intro (@info5) (@I5s)) (And.intro (@I5b) (@zero5))))) (And.intro (And.intro (And.intro (@grow5) (And.intro (@Tryz.underlying9) (@sz9))) (And.intro (And.intro (@bZ) (@I9s)) (And.intro (@I9b) (@bX)))) (And.intro (And.intro (@cA) (And.intro (@Tryz.underlying56) (@sz56))) (And.intro (And.intro (@info56) (@I56s)) (And.intro (@I56b) (@zero56)))))) (And.intro (And.intro (And.intro (And.intro (@grow56) (And.intro (@Tryz.underlying134) (@sz134))) (And.intro (@info134) (And.intro (@I134s) (@I134b)))) (And.intro (And.intro (@zero134) (And.intro (@grow134) (@Tryz.underlying135))) (And.intro (And.intro (@sz135) (@info135)) (And.intro (@I135s) (@I135b))))) (And.intro (And.intro (And.intro (@zero135) (And.intro (@grow135) (@Tryz.underlying137))) (And.intro (And.intro (@sz137) (@fok137)) (And.intro (@info137) (@I137s)))) (And.intro (And.intro (@I137b) (And.intro (@zero137) (@grow137))) (And.intro (And.intro (@call105) (@call108)) (And.intro (@call163) (@Tryz.results136))))))
set_option maxRecDepth 20000
set_option maxHeartbeats 8000000

/-! words joined by a blank -/
def eStrs (l : List (List Nat)) : List (List EVal) := l.map fun w => [.str w]
def dStrsL : List (List EVal) → Option (List (List Nat))
  | [] => some []
  | [.str w] :: l => (dStrsL l).map (w :: ·)
  | _ => none
theorem dStrsL_inv : ∀ {els : List (List EVal)} {l : List (List Nat)}, dStrsL els = some l → els = eStrs l
  | [], l, h => by simp only [dStrsL, Option.some.injEq] at h; subst h; rfl
  | x :: els, l, h => by
    unfold dStrsL at h
    split at h
    · rename_i heq; cases heq
    · rename_i n els' heq
      cases heq
      cases hd : dStrsL els with
      | none => rw [hd] at h; cases h
      | some l' => rw [hd] at h; cases h; rw [dStrsL_inv hd]; rfl
    · cases h
theorem dStrsL_e (l : List (List Nat)) : dStrsL (eStrs l) = some l := by
  induction l with
  | nil => rfl
  | cons a l ih => simp only [eStrs, List.map_cons, dStrsL]; rw [show l.map (fun n => [EVal.str n]) = eStrs l from rfl, ih]; rfl
theorem eStrs_get (l : List (List Nat)) (i : Nat) : (eStrs l)[i]? = (l[i]?).map fun w => [.str w] := by simp [eStrs]
theorem eStrs_length (l : List (List Nat)) : (eStrs l).length = l.length := by simp [eStrs]
theorem eStrs_drop (l : List (List Nat)) (k : Nat) : (eStrs l).drop k = eStrs (l.drop k) := by simp [eStrs]
theorem lensOK_eStrs (l : List (List Nat)) : lensOK 1 (eStrs l) = true := by simp [lensOK, eStrs]
/-- each word with a blank bV it -/
def blk (r : List (List Nat)) : List Nat := (r.map fun w => 32 :: w).flatten
theorem blk_cons (w : List Nat) (r : List (List Nat)) : blk (w :: r) = 32 :: (w ++ blk r) := by simp [blk]
theorem blk_append (a r : List (List Nat)) : blk (a ++ r) = blk a ++ blk r := by simp [blk]
def dS (l : List (List Nat)) : Nat := l.flatten.length
theorem lenS_take {l : List (List Nat)} {k : Nat} {w : List Nat} (h : l[k]? = some w) : dS (l.take (k + 1)) = dS (l.take k) + w.length := by
  unfold dS; rw [List.take_add_one, h]; simp
theorem lenS_append (a c : List (List Nat)) : dS (a ++ c) = dS a + dS c := by simp [dS]
theorem lenS_le {l : List (List Nat)} {k : Nat} : dS (l.take k) ≤ dS l := by
  have := lenS_append (l.take k) (l.drop k)
  rw [List.take_append_drop] at this
  omega
theorem blk_length (r : List (List Nat)) : (blk r).length = r.length + dS r := by
  induction r with
  | nil => rfl
  | cons w r ih => rw [blk_cons]; simp only [List.length_cons, List.length_append, ih, dS, List.flatten_cons]; omega
def joinB : List (List Nat) → List Nat
  | [] => []
  | w :: r => w ++ blk r
def F136 : List EVal → Option EVal
  | [.lsl els, .str [32]] => (dStrsL els).bind fun l => if (2 ≤ l.length ∧ l.length ≤ 1000) ∧ dS l ≤ 100000 ∧ aU l.flatten = true then some (.str (joinB l)) else none
  | _ => none
theorem e136 {l : List (List Nat)} (h1 : 2 ≤ l.length) (h2 : l.length ≤ 1000) (h3 : dS l ≤ 100000) (h4 : aU l.flatten = true) : F136 [.lsl (eStrs l), .str [32]] = some (.str (joinB l)) := by
  simp only [F136, dStrsL_e, Option.bind_some]; rw [if_pos ⟨⟨h1, h2⟩, h3, h4⟩]
theorem bytesB_append' {a c : List Nat} : aU (a ++ c) = (aU a && aU c) := by simp [aU]
theorem joinB_bytes {l : List (List Nat)} (h : aU l.flatten = true) : aU (joinB l) = true := by
  have hb : ∀ r : List (List Nat), aU r.flatten = true → aU (blk r) = true := by
    intro r hr
    simp only [aU, List.all_eq_true, List.mem_flatten, decide_eq_true_eq] at hr
    simp only [aU, blk, List.all_eq_true, List.mem_flatten, List.mem_map, decide_eq_true_eq]
    rintro x ⟨_, ⟨w, hw, rfl⟩, hx⟩
    rcases List.mem_cons.1 hx with rfl | hx
    · omega
    · exact hr x ⟨w, hw, hx⟩
  cases l with
  | nil => rfl
  | cons w r =>
    simp only [List.flatten_cons, bytesB_append', Bool.and_eq_true] at h
    simp only [joinB, bytesB_append', h.1, hb r h.2, Bool.and_self]
theorem fn136 : FnT 136 F136 := by
  refine Fn.intro mixed aJ Tryz.func136 rfl [] (fun _ h => by cases h) ?_
  intro args v hF
  unfold F136 at hF
  split at hF
  rotate_left
  · cases hF
  intro Q hV
  have hQ := aW.of hV
  rename_i els
  cases hx : dStrsL els with
  | none => rw [hx] at hF; cases hF
  | some l =>
  rw [hx] at hF
  simp only [Option.bind_some] at hF
  split at hF
  rotate_left
  · cases hF
  rename_i hc
  cases hF
  obtain ⟨⟨k2, k1000⟩, hL, hB⟩ := hc
  obtain rfl := dStrsL_inv hx
  have hbytes := joinB_bytes hB
  refine Top.view (aF.mode (n := 0) (m := 0) (l := []) (k := []) 128 (by omega)) ?_
  refine Top.view (aF.start (n := 75) rfl (by simp)) (aD aJ _ _ _ _ ?_)
  have z0 : ((l.length : Int) == 0) = false := by rw [beq_eq_false_iff_ne]; omega
  have z1 : ((l.length : Int) == 1) = false := by rw [beq_eq_false_iff_ne]; omega
  apply wp_cut
  · intro R hR
    (try simp only [aI, SS, aA, Nat.reduceLT])
    exact hR
  apply wp_cut
  · intro R hR
    (try simp only [SS, TF136Join, aA, Nat.reduceLT, Nat.reduceEqDiff, reduceCtorEq, eStrs_length, z0, z1])
    exact hR
  apply wp_cut
  · intro R hR
    (try simp only [SS, aA, Nat.reduceLT])
    exact hR
  have q0 : decide ((0 : Int) < ((1 : Nat) : Int)) = true := by decide
  have w1 : IntKind.i64.wrap ((l.length : Int) - 1) = ((l.length - 1 : Nat) : Int) := by rw [aP] <;> omega
  have c1 : (((l.length - 1 : Nat) : Int) = 0) = False := by simp only [eq_iff_iff, iff_false]; omega
  obtain ⟨d, hd1, hd2⟩ : ∃ d : Int, IntKind.i64.wrap (Int.tdiv 9223372036854775807 ((l.length - 1 : Nat) : Int)) = d ∧ 1 < d := by
    have hn : (0 : Int) < ((l.length - 1 : Nat) : Int) := by omega
    have e1 : Int.tdiv 9223372036854775807 ((l.length - 1 : Nat) : Int) = 9223372036854775807 / ((l.length - 1 : Nat) : Int) := Int.tdiv_eq_ediv_of_nonneg (by omega)
    have e2 : (2 : Int) ≤ 9223372036854775807 / ((l.length - 1 : Nat) : Int) := Int.le_ediv_of_mul_le hn (by omega)
    have e3 : 9223372036854775807 / ((l.length - 1 : Nat) : Int) ≤ 9223372036854775807 := Int.ediv_le_self _ (by omega)
    refine ⟨_, rfl, ?_⟩
    rw [e1, aP] <;> omega
  have q1 : decide (d ≤ ((1 : Nat) : Int)) = false := by simp; omega
  have w2 : IntKind.i64.wrap (((1 : Nat) : Int) * ((l.length - 1 : Nat) : Int)) = ((l.length - 1 : Nat) : Int) := by rw [Int.natCast_one, Int.one_mul, aP] <;> omega
  have w3 : IntKind.i64.wrap ((0 : Int) + ((l.length - 1 : Nat) : Int)) = ((l.length - 1 : Nat) : Int) := by rw [Int.zero_add, aP] <;> omega
  (try simp only [SS, TF136Join, aA, Nat.reduceLT, Nat.reduceEqDiff, reduceCtorEq, eStrs_length, q0, w1, c1, hd1, q1, w2, w3])
  refine aT (Top.loop (I := fun s : { j : Nat // j ≤ l.length } => (mkF 75 [(41, .int .i64 (s.1 : Nat)), (40, .int .i64 (l.length : Int)), (39, .lsl (eStrs l)), (5, .int .i64 ((l.length - 1 + dS (l.take s.1) : Nat) : Int)), (0, .lsl (eStrs l)), (1, .str [32])], mkH 0 [] 128 [])) (μ := fun s => l.length - s.1) ⟨0, by omega⟩ (aF.sub (by simp [look, dS])) ?_)
  rintro ⟨j, hj⟩
  refine aD aJ _ _ _ _ ?_
  dsimp only
  have hlj := lenS_le (l := l) (k := j)
  by_cases hjl : j < l.length
  · obtain ⟨w, hw⟩ : ∃ w, l[j]? = some w := ⟨l[j], List.getElem?_eq_getElem hjl⟩
    have hlw := lenS_take hw
    have hlj2 := lenS_le (l := l) (k := j + 1)
    have q2 : decide ((j : Int) < (l.length : Int)) = true := by simp; omega
    have q3 : IntKind.i64.wrap ((j : Int) + 1) = ((j + 1 : Nat) : Int) := by rw [aP] <;> omega
    have w4 : IntKind.i64.wrap ((9223372036854775807 : Int) - ((l.length - 1 + dS (l.take j) : Nat) : Int)) = (9223372036854775807 : Int) - ((l.length - 1 + dS (l.take j) : Nat) : Int) := by rw [aP] <;> omega
    have q4 : decide ((9223372036854775807 : Int) - ((l.length - 1 + dS (l.take j) : Nat) : Int) < (w.length : Int)) = false := by simp only [decide_eq_false_iff_not]; omega
    have w5 : IntKind.i64.wrap (((l.length - 1 + dS (l.take j) : Nat) : Int) + (w.length : Int)) = ((l.length - 1 + dS (l.take (j + 1)) : Nat) : Int) := by rw [hlw, aP] <;> omega
    (try simp only [SS, TF136Join, aA, Nat.reduceLT, Nat.reduceEqDiff, reduceCtorEq, eStrs_get, hw, q2, q3, w4, q4, w5])
    exact ⟨⟨j + 1, hjl⟩, by simp; omega, aF.sub (by simp [look])⟩
  obtain rfl : j = l.length := by omega
  have q2 : decide ((l.length : Int) < (l.length : Int)) = false := by simp
  rw [List.take_length]
  obtain ⟨T, hT⟩ : ∃ T, T = l.length - 1 + dS l := ⟨_, rfl⟩
  rw [← hT]
  obtain ⟨w0, r, hl⟩ : ∃ w r, l = w :: r := by
    cases l with
    | nil => simp at k2
    | cons w r => exact ⟨w, r, rfl⟩
  have hll : l.length = r.length + 1 := by rw [hl]; rfl
  have hT2 : T = w0.length + (blk r).length := by
    rw [hT, hll, blk_length, hl]; simp only [dS, List.flatten_cons, List.length_append]; omega
  have hTr : 0 < (blk r).length := by rw [blk_length]; omega
  have hTb : T ≤ 200000 := by rw [hT]; omega
  have hl0 : l[0]? = some w0 := by rw [hl]; rfl
  have hjb : joinB l = w0 ++ blk r := by rw [hl]; rfl
  (try simp only [SS, TF136Join, aA, Nat.reduceLT, Nat.reduceEqDiff, reduceCtorEq, ↓bB, q2])
  refine ct163 (fun _ => rfl) (fun _ => rfl) (by omega) (by omega) (by omega) (by omega) rfl rfl ?_
  intro l1 B1 _
  have hz : ((0 : Nat) : Int) = 0 := rfl
  (try simp only [SS, TF136Join, aA, Nat.reduceLT, Nat.reduceEqDiff, Nat.reduceAdd, reduceCtorEq, ↓bB, eStrs_get, hl0])
  refine ct105P (fun _ => rfl) (by omega) (by omega) B1 (by simp; omega) ?_
  intro l2 B2 _
  rw [List.nil_append, show T - w0.length = (blk r).length by omega] at B2
  have hd1' : (eStrs l).drop 1 = eStrs r := by rw [eStrs_drop, hl]; rfl
  have c4 : ((0 : Int) ≤ 1) = True := by decide
  have c5 : ((1 : Int) ≤ (l.length : Int)) = True := by simp only [eq_iff_iff, iff_true]; omega
  have c6 : Int.toNat 1 = 1 := rfl
  have c7 : (eStrs l).take l.length = eStrs l := by rw [← eStrs_length l, List.take_length]
  (try simp only [SS, TF136Join, aA, bG, Nat.reduceLT, Nat.reduceEqDiff, reduceCtorEq, eStrs_length, hd1', lensOK_eStrs, c4, c5, c6, c7])
  refine aT (Top.loop (I := fun s : { x : Nat × List (Nat × Option EObj) // x.1 ≤ r.length ∧ BldP 0 (w0 ++ blk (r.take x.1)) (blk (r.drop x.1)).length 2 x.2 } => (mkF 75 [(65, .int .i64 (s.1.1 : Nat)), (64, .int .i64 (r.length : Int)), (63, .lsl (eStrs r)), (8, .ptr 0 0), (1, .str [32])], mkH 2 s.1.2 128 [])) (μ := fun s => r.length - s.1.1) ⟨(0, l2), by simp, by simpa [blk] using B2⟩ (aF.sub (by simp [look])) ?_)
  rintro ⟨⟨i, l3⟩, hi, B3⟩
  dsimp only at hi B3
  refine aD aJ _ _ _ _ ?_
  dsimp only
  have hbt : (blk (r.take i)).length ≤ (blk r).length := by
    conv => rhs; rw [← List.take_append_drop i r]
    rw [blk_append]; simp
  by_cases hil : i < r.length
  · obtain ⟨w, hw⟩ : ∃ w, r[i]? = some w := ⟨r[i], List.getElem?_eq_getElem hil⟩
    have hdr : r.drop i = w :: r.drop (i + 1) := by
      obtain ⟨_, rfl⟩ := List.getElem?_eq_some_iff.1 hw
      exact List.drop_eq_getElem_cons hil
    have hlen : (blk (r.drop i)).length = 1 + w.length + (blk (r.drop (i + 1))).length := by rw [hdr, blk_cons]; simp; omega
    have hbr : (blk (r.take i)).length + (blk (r.drop i)).length = (blk r).length := by
      conv => rhs; rw [← List.take_append_drop i r]
      rw [blk_append, List.length_append]
    have q5 : decide ((i : Int) < (r.length : Int)) = true := by simp; omega
    have q6 : IntKind.i64.wrap ((i : Int) + 1) = ((i + 1 : Nat) : Int) := by rw [aP] <;> omega
    (try simp only [SS, TF136Join, aA, Nat.reduceLT, Nat.reduceEqDiff, ↓bB, q5, eStrs_get, hw])
    refine ct105P (fun _ => rfl) (by simp; omega) (by omega) B3 (by simp; omega) ?_
    intro l4 B4 _
    (try simp only [SS, TF136Join, aA, Nat.reduceLT, Nat.reduceEqDiff, ↓bB])
    refine ct105P (fun _ => rfl) (by simp; omega) (by omega) B4 (by simp; omega) ?_
    intro l5 B5 _
    (try simp only [SS, aA, Nat.reduceLT, Nat.reduceEqDiff, q6])
    refine ⟨⟨(i + 1, l5), hil, ?_⟩, by simp; omega, aF.sub (by simp [look])⟩
    have e1 : w0 ++ blk (r.take i) ++ [32] ++ w = w0 ++ blk (r.take (i + 1)) := by
      rw [List.take_add_one, hw, blk_append]; simp [blk]
    have e2 : (blk (r.drop i)).length - [32].length - w.length = (blk (r.drop (i + 1))).length := by rw [hlen]; simp; omega
    rw [e1, e2] at B5
    exact B5
  obtain rfl : i = r.length := by omega
  have q5 : decide ((r.length : Int) < (r.length : Int)) = false := by simp
  rw [List.take_length, List.drop_length, ← hjb] at B3
  (try simp only [SS, TF136Join, aA, Nat.reduceLT, Nat.reduceEqDiff, ↓bB, q5])
  refine ct108 hbytes ?_ (by omega) B3.full ?_ ?_
  · rw [hjb]
    intro h
    rw [(List.append_eq_nil_iff.1 h).2] at hTr
    simp at hTr
  · rw [hjb]; simp; omega
  intro l4
  (try simp only [SS, aA, Nat.reduceLT, Nat.reduceEqDiff])
  (refine hQ _ _ _ (aC (by first | exact .inl rfl | exact .inr rfl) ?_); simp only [SS, TF136Join, Nat.reduceLT, Nat.reduceEqDiff])
end Go.Ev
