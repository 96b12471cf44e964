import Derived.Test.YtcdmpceicmbckaaGreatDoorCnt
set_option linter.unusedSimpArgs false
set_option linter.unusedVariables false
namespace Go.Ev
open Go.RowKit Go.Proofs
set_option linter.defProp false
def TF137Cnt2 := And.intro (And.intro (And.intro (And.intro (@Tryz.underlying9) (@sz9)) (And.intro (@info9) (@I9s))) (And.intro (And.intro (@I9b) (@zero9)) (And.intro (@grow9) (@Tryz.underlying21)))) (And.intro (And.intro (And.intro (@sz21) (@info21)) (And.intro (@I21s) (@I21b))) (And.intro (And.intro (@zero21) (@grow21)) (And.intro (@call190) (@Tryz.results137))))
def TF190Cnt2 := And.intro (And.intro (And.intro (And.intro (@Tryz.underlying3) (@sz3)) (And.intro (@bP) (And.intro (@I3s) (@I3b)))) (And.intro (And.intro (@bN) (And.intro (@bQ) (@Tryz.underlying9))) (And.intro (@sz9) (And.intro (@info9) (@I9s))))) (And.intro (And.intro (And.intro (@I9b) (And.intro (@zero9) (@grow9))) (And.intro (@Tryz.underlying21) (And.intro (@sz21) (@info21)))) (And.intro (And.intro (@I21s) (And.intro (@I21b) (@zero21))) (And.intro (@grow21) (And.intro (@call214) (@Tryz.results190)))))
def TF214Cnt2 := And.intro (And.intro (And.intro (And.intro (And.intro (@Tryz.underlying3) (@sz3)) (And.intro (@bP) (@I3s))) (And.intro (And.intro (@I3b) (@bN)) (And.intro (@bQ) (@Tryz.underlying5)))) (And.intro (And.intro (And.intro (@sz5) (@info5)) (And.intro (@I5s) (@I5b))) (And.intro (And.intro (@zero5) (@grow5)) (And.intro (@Tryz.underlying9) (@sz9))))) (And.intro (And.intro (And.intro (And.intro (@info9) (@I9s)) (And.intro (@I9b) (@zero9))) (And.intro (And.intro (@grow9) (@Tryz.underlying21)) (And.intro (@sz21) (@info21)))) (And.intro (And.intro (And.intro (@I21s) (@I21b)) (And.intro (@zero21) (@grow21))) (And.intro (And.intro (@call230) (@call231)) (And.intro (@call232) (@Tryz.results214)))))
def TF230Cnt2 := And.intro (And.intro (And.intro (And.intro (@Tryz.underlying5) (@sz5)) (And.intro (@info5) (@I5s))) (And.intro (And.intro (@I5b) (@zero5)) (And.intro (@grow5) (@Tryz.underlying9)))) (And.intro (And.intro (And.intro (@sz9) (@info9)) (And.intro (@I9s) (@I9b))) (And.intro (And.intro (@zero9) (@grow9)) (And.intro (@call245) (@Tryz.results230))))
def TF231Cnt2 := And.intro (And.intro (And.intro (@Tryz.underlying21) (@sz21)) (And.intro (@info21) (@I21s))) (And.intro (And.intro (@I21b) (@zero21)) (And.intro (@grow21) (@Tryz.results231)))
def TF245Cnt2 := And.intro (And.intro (And.intro (@Tryz.underlying5) (And.intro (@sz5) (@info5))) (And.intro (And.intro (@I5s) (@I5b)) (And.intro (@zero5) (@grow5)))) (And.intro (And.intro (And.intro (@Tryz.underlying9) (@sz9)) (And.intro (@info9) (@I9s))) (And.intro (And.intro (@I9b) (@zero9)) (And.intro (@grow9) (@Tryz.results245))))
set_option maxRecDepth 20000
set_option maxHeartbeats 4000000

/-! a byte's place -/
theorem ext184 {h : H} {l : List Nat} {c : Int} : aU Tryz.prog h 251 [.str l, .int .u8 c] = eIndexByte h [.str l, .int .u8 c] := by kernel_rfl
theorem idx_none {l : List Nat} {c i : Nat} (h : ∀ x ∈ l, x < 128) (hc : 128 ≤ c) : indexByteE l c i = -1 := by
  induction l generalizing i with
  | nil => rfl
  | cons x l ih =>
    unfold indexByteE
    rw [if_neg (by have := h x List.mem_cons_self; omega)]
    exact ih fun y hy => h y (List.mem_cons_of_mem _ hy)
def F170 : List EVal → Option EVal
  | [.str l, .int .u8 c] => if 0 ≤ c ∧ c < 256 then some (.int .i64 (indexByteE l c.toNat 0)) else none
  | _ => none
theorem fn170 : FnT 245 F170 := by
  refine Fn.intro mixed aK Tryz.func245 rfl [] (fun _ h => by cases h) ?_
  intro args v hF
  unfold F170 at hF
  split at hF
  rotate_left
  · cases hF
  intro Q hV
  have hQ := aV.of hV
  rename_i l c
  split at hF
  rotate_left
  · cases hF
  rename_i hc
  have hc1 : (0 ≤ c) = True := by simp; omega
  have hc2 : (c < 256) = True := by simp; omega
  cases hF
  refine Top.view (aH.start (n := 8) rfl (by simp)) (aC aK _ _ _ _ ?_)
  (try simp only [aT, SS, aA, Nat.reduceLT, Nat.reduceEqDiff, reduceCtorEq, ext184, eIndexByte, hc1, hc2])
  (refine hQ _ _ _ (aD (by first | exact .inl rfl | exact .inr rfl) ?_); simp only [SS, TF245Cnt2, Nat.reduceLT, Nat.reduceEqDiff, reduceCtorEq])
def F145 : List EVal → Option EVal
  | [.str l, .int .u8 c] => if 0 ≤ c ∧ c < 256 then some (.int .i64 (indexByteE l c.toNat 0)) else none
  | _ => none
theorem fn145 : FnT 230 F145 := by
  refine Fn.intro mixed aK Tryz.func230 rfl [(245, F170)] (by simp only [List.forall_mem_cons]; exact ⟨fn170, fun _ h => by cases h⟩) ?_
  intro args v hF
  unfold F145 at hF
  split at hF
  rotate_left
  · cases hF
  intro Q hV
  have hQ := aV.of hV
  rename_i l c
  split at hF
  rotate_left
  · cases hF
  rename_i hc
  cases hF
  refine Top.view (aH.start (n := 8) rfl (by simp)) (aC aK _ _ _ _ ?_)
  have h170 : F170 [.str l, .int .u8 c] = some (.int .i64 (indexByteE l c.toNat 0)) := by show (if _ then _ else _) = _; rw [if_pos hc]
  (try simp only [aT, SS, TF230Cnt2, aE, aA, Nat.reduceLT, Nat.reduceEqDiff, reduceCtorEq, h170])
  (refine hQ _ _ _ (aD (by first | exact .inl rfl | exact .inr rfl) ?_); simp only [SS, TF230Cnt2, Nat.reduceLT, Nat.reduceEqDiff, reduceCtorEq])

/-! runes -/
def validB (r : Int) : Bool := decide (r < 55296) || (decide (57343 < r) && decide (r ≤ 1114111))
def F196 : List EVal → Option EVal
  | [.int .i32 r] => if 0 ≤ r then some (.bool (validB r)) else none
  | _ => none
theorem fn196 : FnT 231 F196 := by
  refine Fn.intro mixed aK Tryz.func231 rfl [] (fun _ h => by cases h) ?_
  intro args v hF
  unfold F196 at hF
  split at hF
  rotate_left
  · cases hF
  intro Q hV
  have hQ := aV.of hV
  rename_i r
  split at hF
  rotate_left
  · cases hF
  rename_i hr
  have c0 : decide (0 ≤ r) = true := by simpa using hr
  cases hF
  refine Top.view (aH.start (n := 17) rfl (by simp)) (aC aK _ _ _ _ ?_)
  ((try simp only [aT, SS, TF231Cnt2, aE, setRange, bF, aA, aF, aQ, aP, aJ, aB, Nat.reduceLT, Nat.reduceEqDiff, Nat.reduceAdd, Nat.reduceMul, Nat.reduceSub, Nat.reduceLeDiff, Nat.reduceBEq, reduceCtorEq, c0]); (repeat' ((first | apply wpStep_not | apply wpStep_sym | apply wpCond_not | apply wpCond_sym | apply wpDStep_not | apply wpDStep_sym) <;> intro h <;> simp only [h, SS, TF231Cnt2, aE, setRange, bF, aA, aF, aQ, aP, aJ, aB, Nat.reduceLT, Nat.reduceEqDiff, Nat.reduceAdd, Nat.reduceMul, Nat.reduceSub, Nat.reduceLeDiff, Nat.reduceBEq, reduceCtorEq, c0])))
  all_goals ((refine hQ _ _ _ (aD (by first | exact .inl rfl | exact .inr rfl) ?_); simp only [SS, TF231Cnt2, aE, setRange, bF, aA, aF, aQ, aP, aJ, aB, Nat.reduceLT, Nat.reduceEqDiff, Nat.reduceAdd, Nat.reduceMul, Nat.reduceSub, Nat.reduceLeDiff, Nat.reduceBEq, reduceCtorEq]); simp [validB, *])

theorem runeE_cases (r : Int) (h : 128 ≤ r) : (∃ a b : Nat, runeE r = [a, b] ∧ 128 ≤ b ∧ b < 256) ∨ (∃ a b c : Nat, runeE r = [a, b, c] ∧ 128 ≤ c ∧ c < 256) ∨ (∃ a b c d : Nat, runeE r = [a, b, c, d] ∧ 128 ≤ d ∧ d < 256) := by
  unfold runeE Utf8.encode
  have hc : ∃ n : Nat, (if Utf8.valid r then r.toNat else Utf8.runeError) = n ∧ 128 ≤ n := by
    split
    · exact ⟨_, rfl, by omega⟩
    · exact ⟨_, rfl, by decide⟩
  obtain ⟨n, hn, h128⟩ := hc
  simp only [hn]
  have e : ∀ k : Nat, (UInt8.ofNat (128 + k % 64)).toNat = 128 + k % 64 := fun k => by
    simp
    omega
  rw [if_neg (by omega)]
  split
  · exact .inl ⟨_, _, rfl, by rw [e]; omega, by rw [e]; omega⟩
  split
  · exact .inr (.inl ⟨_, _, _, rfl, by rw [e]; omega, by rw [e]; omega⟩)
  · exact .inr (.inr ⟨_, _, _, _, rfl, by rw [e]; omega, by rw [e]; omega⟩)

def pitchL : List Nat := [66, 67, 83, 70, 88, 72]
def F176 : List EVal → Option EVal
  | [.str l, .int .i32 r] => if 128 ≤ r ∧ l = pitchL then some (.int .i64 (-1)) else none
  | _ => none
theorem fn176 : FnT 214 F176 := by
  refine Fn.intro mixed aK Tryz.func214 rfl [(230, F145), (231, F196)] (by simp only [List.forall_mem_cons]; exact ⟨fn145, fn196, fun _ h => by cases h⟩) ?_
  intro args v hF
  unfold F176 at hF
  split at hF
  rotate_left
  · cases hF
  intro Q hV
  have hQ := aV.of hV
  rename_i l r
  split at hF
  rotate_left
  · cases hF
  rename_i hr
  obtain ⟨hr, rfl⟩ := hr
  cases hF
  refine Top.view (aH.start (n := 187) rfl (by simp)) (aC aK _ _ _ _ ?_)
  have c0 : decide (0 ≤ r) = true := by simp; omega
  have c1 : decide (r < 128) = false := by simp; omega
  have h196 : F196 [.int .i32 r] = some (.bool (validB r)) := by show (if _ then _ else _) = _; rw [if_pos (by omega)]
  cases h1 : (r == 65533) with
  | true =>
    (try simp only [aT, SS, TF214Cnt2, aA, Nat.reduceLT, Nat.reduceEqDiff, reduceCtorEq, c0, c1, h1])
    refine wp_of_top (Top.loop (I := fun s : { k : Nat // k ≤ 6 } => (mkF 187 [(175, .ptr 0 0)], mkH 1 [(0, some (.iter pitchL s.1))] 0 [])) (μ := fun s => 6 - s.1) ⟨0, by omega⟩ (aH.sub (by simp [aX])) ?_)
    rintro ⟨k, hk⟩
    refine aC aK _ _ _ _ ?_
    by_cases hlt : k < 6
    · obtain ⟨x, hx, hx2⟩ : ∃ x, pitchL[k]? = some x ∧ x < 128 := by
        obtain rfl | rfl | rfl | rfl | rfl | rfl : k = 0 ∨ k = 1 ∨ k = 2 ∨ k = 3 ∨ k = 4 ∨ k = 5 := by omega
        all_goals exact ⟨_, rfl, by decide⟩
      have c2 := next_ascii hx hx2
      have c3 : k < pitchL.length := hlt
      have c4 : ((x : Int) == 65533) = false := by simp; omega
      (try simp only [SS, aA, Nat.reduceLT, Nat.reduceEqDiff, c2, c3, c4])
      exact ⟨⟨k + 1, hlt⟩, by simp; omega, (aH.drop (by simp [aX, below]) (by simp [aG, belowO]) (by simp [aG]))⟩
    · have c3 : ¬ k < pitchL.length := hlt
      (try simp only [SS, aA, Nat.reduceLT, Nat.reduceEqDiff, reduceCtorEq, c3])
      (refine hQ _ _ _ (aD (by first | exact .inl rfl | exact .inr rfl) ?_); simp only [SS, TF214Cnt2, Nat.reduceLT, Nat.reduceEqDiff])
  | false =>
  cases h2 : validB r with
  | false =>
    (try simp only [aT, SS, TF214Cnt2, aE, aA, Nat.reduceLT, Nat.reduceEqDiff, reduceCtorEq, c0, c1, h1, h196, h2])
    (refine hQ _ _ _ (aD (by first | exact .inl rfl | exact .inr rfl) ?_); simp only [SS, TF214Cnt2, Nat.reduceLT, Nat.reduceEqDiff, reduceCtorEq])
  | true =>
  rcases runeE_cases r hr with ⟨a, b, hru, hb1, hb2⟩ | ⟨a, b1, b, hru, hb1, hb2⟩ | ⟨a, b1, b2, b, hru, hb1, hb2⟩
  · have w2 : IntKind.i64.wrap ((((2 : Nat)) : Int) - 1) = 1 := by rw [wrap_id] <;> omega
    (try simp only [aT, SS, TF214Cnt2, aE, aA, aF, Nat.reduceLT, Nat.reduceEqDiff, Nat.reduceAdd, reduceCtorEq, c0, c1, h1, h196, h2, hru, w2])
    refine wp_of_top (Top.loop (I := fun _ : Unit => (mkF 187 [(10, .int .i64 0), (9, .int .i64 1), (8, .int .i64 1), (7, .str [a, b]), (0, .str pitchL)], H.start)) (μ := fun _ => 0) () (aH.sub (by simp [aX])) ?_)
    intro _
    refine aC aK _ _ _ _ ?_
    have p0 : decide ((1 : Int) < (pitchL.length : Int)) = true := by decide
    have p1 : pitchL[1]? = some 67 := rfl
    have p2 : ((67 : Nat) : Int) = 67 := rfl
    have p3 : ((67 : Int) == (b : Int)) = false := by simp; omega
    have p4 : IntKind.i64.wrap ((1 : Int) + 1) = 2 := by rw [wrap_id] <;> omega
    have p5 : pitchL.length = 6 := rfl
    have p7 : ((2 : Int) ≤ ((6 : Nat) : Int)) = True := by simp
    have p6 : (pitchL.take 6).drop 2 = [83, 70, 88, 72] := rfl
    have h145 : F145 [.str [83, 70, 88, 72], .int .u8 (b : Int)] = some (.int .i64 (-1)) := by
      show (if _ then _ else _) = _
      rw [if_pos (by omega), Int.toNat_natCast, idx_none (by decide) hb1]
    (try simp only [SS, TF214Cnt2, aA, Nat.reduceLT, Nat.reduceEqDiff, reduceCtorEq, p0])
    refine wp_of_draw (Top.draw mixed aK (by kernel_rfl) ?_)
    (try simp only [SS, TF214Cnt2, Nat.reduceLT, Nat.reduceEqDiff, reduceCtorEq, p1, p2, p3, Int.reduceToNat, Int.reduceLE])
    refine ⟨by kernel_rfl, ?_⟩
    (try simp only [aT, SS, TF214Cnt2, aE, setRange, bF, aA, aF, aQ, aP, aJ, aB, Nat.reduceLT, Nat.reduceEqDiff, Nat.reduceAdd, Nat.reduceMul, Nat.reduceSub, Nat.reduceLeDiff, Nat.reduceBEq, reduceCtorEq])
    refine wp_of_draw (Top.draw mixed aK (by kernel_rfl) ?_)
    (try simp only [SS, TF214Cnt2, aE, aA, aP, Nat.reduceLT, Nat.reduceEqDiff, reduceCtorEq, p4, p5, p6, p7, Int.reduceToNat, Int.reduceLE, h145])
    refine ⟨by kernel_rfl, ?_⟩
    (try simp only [SS, aA, Nat.reduceLT, Int.reduceLT])
    (refine hQ _ _ _ (aD (by first | exact .inl rfl | exact .inr rfl) ?_); simp only [SS, TF214Cnt2, Nat.reduceLT, Nat.reduceEqDiff, reduceCtorEq])
  · have w2 : IntKind.i64.wrap ((((3 : Nat)) : Int) - 1) = 2 := by rw [wrap_id] <;> omega
    (try simp only [aT, SS, TF214Cnt2, aE, aA, aF, Nat.reduceLT, Nat.reduceEqDiff, Nat.reduceAdd, reduceCtorEq, c0, c1, h1, h196, h2, hru, w2])
    refine wp_of_top (Top.loop (I := fun _ : Unit => (mkF 187 [(10, .int .i64 0), (9, .int .i64 2), (8, .int .i64 2), (7, .str [a, b1, b]), (0, .str pitchL)], H.start)) (μ := fun _ => 0) () (aH.sub (by simp [aX])) ?_)
    intro _
    refine aC aK _ _ _ _ ?_
    have p0 : decide ((2 : Int) < (pitchL.length : Int)) = true := by decide
    have p1 : pitchL[2]? = some 83 := rfl
    have p2 : ((83 : Nat) : Int) = 83 := rfl
    have p3 : ((83 : Int) == (b : Int)) = false := by simp; omega
    have p4 : IntKind.i64.wrap ((2 : Int) + 1) = 3 := by rw [wrap_id] <;> omega
    have p5 : pitchL.length = 6 := rfl
    have p7 : ((3 : Int) ≤ ((6 : Nat) : Int)) = True := by simp
    have p6 : (pitchL.take 6).drop 3 = [70, 88, 72] := rfl
    have h145 : F145 [.str [70, 88, 72], .int .u8 (b : Int)] = some (.int .i64 (-1)) := by
      show (if _ then _ else _) = _
      rw [if_pos (by omega), Int.toNat_natCast, idx_none (by decide) hb1]
    (try simp only [SS, TF214Cnt2, aA, Nat.reduceLT, Nat.reduceEqDiff, reduceCtorEq, p0])
    refine wp_of_draw (Top.draw mixed aK (by kernel_rfl) ?_)
    (try simp only [SS, TF214Cnt2, Nat.reduceLT, Nat.reduceEqDiff, reduceCtorEq, p1, p2, p3, Int.reduceToNat, Int.reduceLE])
    refine ⟨by kernel_rfl, ?_⟩
    (try simp only [aT, SS, TF214Cnt2, aE, setRange, bF, aA, aF, aQ, aP, aJ, aB, Nat.reduceLT, Nat.reduceEqDiff, Nat.reduceAdd, Nat.reduceMul, Nat.reduceSub, Nat.reduceLeDiff, Nat.reduceBEq, reduceCtorEq])
    refine wp_of_draw (Top.draw mixed aK (by kernel_rfl) ?_)
    (try simp only [SS, TF214Cnt2, aE, aA, aP, Nat.reduceLT, Nat.reduceEqDiff, reduceCtorEq, p4, p5, p6, p7, Int.reduceToNat, Int.reduceLE, h145])
    refine ⟨by kernel_rfl, ?_⟩
    (try simp only [SS, aA, Nat.reduceLT, Int.reduceLT])
    (refine hQ _ _ _ (aD (by first | exact .inl rfl | exact .inr rfl) ?_); simp only [SS, TF214Cnt2, Nat.reduceLT, Nat.reduceEqDiff, reduceCtorEq])
  · have w2 : IntKind.i64.wrap ((((4 : Nat)) : Int) - 1) = 3 := by rw [wrap_id] <;> omega
    (try simp only [aT, SS, TF214Cnt2, aE, aA, aF, Nat.reduceLT, Nat.reduceEqDiff, Nat.reduceAdd, reduceCtorEq, c0, c1, h1, h196, h2, hru, w2])
    refine wp_of_top (Top.loop (I := fun _ : Unit => (mkF 187 [(10, .int .i64 0), (9, .int .i64 3), (8, .int .i64 3), (7, .str [a, b1, b2, b]), (0, .str pitchL)], H.start)) (μ := fun _ => 0) () (aH.sub (by simp [aX])) ?_)
    intro _
    refine aC aK _ _ _ _ ?_
    have p0 : decide ((3 : Int) < (pitchL.length : Int)) = true := by decide
    have p1 : pitchL[3]? = some 70 := rfl
    have p2 : ((70 : Nat) : Int) = 70 := rfl
    have p3 : ((70 : Int) == (b : Int)) = false := by simp; omega
    have p4 : IntKind.i64.wrap ((3 : Int) + 1) = 4 := by rw [wrap_id] <;> omega
    have p5 : pitchL.length = 6 := rfl
    have p7 : ((4 : Int) ≤ ((6 : Nat) : Int)) = True := by simp
    have p6 : (pitchL.take 6).drop 4 = [88, 72] := rfl
    have h145 : F145 [.str [88, 72], .int .u8 (b : Int)] = some (.int .i64 (-1)) := by
      show (if _ then _ else _) = _
      rw [if_pos (by omega), Int.toNat_natCast, idx_none (by decide) hb1]
    (try simp only [SS, TF214Cnt2, aA, Nat.reduceLT, Nat.reduceEqDiff, reduceCtorEq, p0])
    refine wp_of_draw (Top.draw mixed aK (by kernel_rfl) ?_)
    (try simp only [SS, TF214Cnt2, Nat.reduceLT, Nat.reduceEqDiff, reduceCtorEq, p1, p2, p3, Int.reduceToNat, Int.reduceLE])
    refine ⟨by kernel_rfl, ?_⟩
    (try simp only [aT, SS, TF214Cnt2, aE, setRange, bF, aA, aF, aQ, aP, aJ, aB, Nat.reduceLT, Nat.reduceEqDiff, Nat.reduceAdd, Nat.reduceMul, Nat.reduceSub, Nat.reduceLeDiff, Nat.reduceBEq, reduceCtorEq])
    refine wp_of_draw (Top.draw mixed aK (by kernel_rfl) ?_)
    (try simp only [SS, TF214Cnt2, aE, aA, aP, Nat.reduceLT, Nat.reduceEqDiff, reduceCtorEq, p4, p5, p6, p7, Int.reduceToNat, Int.reduceLE, h145])
    refine ⟨by kernel_rfl, ?_⟩
    (try simp only [SS, aA, Nat.reduceLT, Int.reduceLT])
    (refine hQ _ _ _ (aD (by first | exact .inl rfl | exact .inr rfl) ?_); simp only [SS, TF214Cnt2, Nat.reduceLT, Nat.reduceEqDiff, reduceCtorEq])

def F154 : List EVal → Option EVal
  | [.str l, .int .i32 r] => if 128 ≤ r ∧ l = pitchL then some (.bool false) else none
  | _ => none
theorem fn154 : FnT 190 F154 := by
  refine Fn.intro mixed aK Tryz.func190 rfl [(214, F176)] (by simp only [List.forall_mem_cons]; exact ⟨fn176, fun _ h => by cases h⟩) ?_
  intro args v hF
  unfold F154 at hF
  split at hF
  rotate_left
  · cases hF
  intro Q hV
  have hQ := aV.of hV
  rename_i l r
  split at hF
  rotate_left
  · cases hF
  rename_i hr
  cases hF
  refine Top.view (aH.start (n := 9) rfl (by simp)) (aC aK _ _ _ _ ?_)
  have h176 : F176 [.str l, .int .i32 r] = some (.int .i64 (-1)) := by show (if _ then _ else _) = _; rw [if_pos hr]
  have p0 : decide ((0 : Int) ≤ -1) = false := by decide
  (try simp only [aT, SS, TF190Cnt2, aE, aA, Nat.reduceLT, Nat.reduceEqDiff, reduceCtorEq, h176, p0])
  (refine hQ _ _ _ (aD (by first | exact .inl rfl | exact .inr rfl) ?_); simp only [SS, TF190Cnt2, Nat.reduceLT, Nat.reduceEqDiff, reduceCtorEq])
def F117h : List EVal → Option EVal
  | [.int .i32 r] => if 128 ≤ r then some (.bool false) else none
  | _ => none
theorem fn117h : FnT 137 F117h := by
  refine Fn.intro mixed aK Tryz.func137 rfl [(190, F154)] (by simp only [List.forall_mem_cons]; exact ⟨fn154, fun _ h => by cases h⟩) ?_
  intro args v hF
  unfold F117h at hF
  split at hF
  rotate_left
  · cases hF
  intro Q hV
  have hQ := aV.of hV
  rename_i r
  split at hF
  rotate_left
  · cases hF
  rename_i hr
  cases hF
  refine Top.view (aH.start (n := 5) rfl (by simp)) (aC aK _ _ _ _ ?_)
  have h154 : F154 [.str [66, 67, 83, 70, 88, 72], .int .i32 r] = some (.bool false) := by show (if _ then _ else _) = _; rw [if_pos ⟨hr, rfl⟩]
  have e0 : List.map UInt8.toNat [66, 67, 83, 70, 88, 72] = [66, 67, 83, 70, 88, 72] := by decide
  (try simp only [aT, SS, TF137Cnt2, aE, aA, Nat.reduceLT, Nat.reduceEqDiff, reduceCtorEq, e0, h154])
  (refine hQ _ _ _ (aD (by first | exact .inl rfl | exact .inr rfl) ?_); simp only [SS, TF137Cnt2, Nat.reduceLT, Nat.reduceEqDiff, reduceCtorEq])
set_option maxRecDepth 100000 in
theorem isP_runs : ((List.range 128).all fun r => allBool (isP r) (run Tryz.prog gT quiet 1000 (.call 137 [.int .i32 (Int.ofNat r)] H.start))) = true := by kernel_rfl
def F117l : List EVal → Option EVal
  | [.int .i32 r] => if 0 ≤ r ∧ r < 128 then some (.bool (isP r.toNat)) else none
  | _ => none
theorem fn117l : FnT 137 F117l := by
  refine run_bool (n := 1000) fun a u h => ?_
  unfold F117l at h
  split at h
  rotate_left
  · cases h
  rename_i r
  split at h
  rotate_left
  · cases h
  rename_i hr
  cases h
  refine ⟨_, rfl, ?_⟩
  have := List.all_eq_true.1 isP_runs r.toNat (by simp; omega)
  rw [show Int.ofNat r.toNat = r from Int.toNat_of_nonneg hr.1] at this
  exact this
def F117 : List EVal → Option EVal
  | [.int .i32 r] => if 0 ≤ r then some (.bool (isP r.toNat)) else none
  | _ => none
theorem isP_high {n : Nat} (h : 128 ≤ n) : isP n = false := by
  simp [isP]; omega
theorem fn117 : FnT 137 F117 := by
  refine Fn.or fun a v h => ?_
  unfold F117 at h
  split at h
  rotate_left
  · cases h
  rename_i r
  split at h
  rotate_left
  · cases h
  rename_i hr
  cases h
  by_cases hl : r < 128
  · exact ⟨F117l, fn117l, by show (if _ then _ else _) = _; rw [if_pos ⟨hr, hl⟩]⟩
  · refine ⟨F117h, fn117h, ?_⟩
    show (if _ then _ else _) = _
    rw [if_pos (by omega), isP_high (by omega)]
end Go.Ev
