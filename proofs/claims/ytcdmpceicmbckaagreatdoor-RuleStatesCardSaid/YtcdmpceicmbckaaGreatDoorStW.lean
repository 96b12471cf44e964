import Derived.Test.YtcdmpceicmbckaaGreatDoorEvC
import Derived.Test.YtcdmpceicmbckaaGreatDoorStV
set_option linter.unusedSimpArgs false
set_option linter.unusedVariables false
namespace Go.Ev
open Go.RowKit Go.Proofs
set_option linter.defProp false
def TF26StW := And.intro (And.intro (And.intro (@Tryz.underlying3) (And.intro (@sz3) (@bP))) (And.intro (And.intro (@I3s) (@I3b)) (And.intro (@bM) (@bQ)))) (And.intro (And.intro (And.intro (@Tryz.underlying30) (@sz30)) (And.intro (@info30) (@I30s))) (And.intro (And.intro (@I30b) (@zero30)) (And.intro (@grow30) (@Tryz.results26))))
set_option maxRecDepth 100000
set_option maxHeartbeats 4000000

/-! closed calls -/
noncomputable def wordsR : EVal := .lsl [[.str [112, 105, 116, 99, 104, 101, 115]], [.str [101, 118, 101, 110, 116]], [.str [98, 97, 116, 116, 101, 114]], [.str [114, 117, 110, 110, 101, 114, 115]], [.str [98, 97, 116, 116, 101, 114, 39, 115, 32, 119, 97, 121]], [.str [116, 104, 105, 114, 100, 32, 115, 116, 114, 105, 107, 101]], [.str [105, 110, 102, 105, 101, 108, 100, 32, 102, 108, 121]], [.str [119, 97, 121, 115]], [.str [98, 97, 108, 107]], [.str [97, 119, 97, 114, 100, 115]], [.str [111, 114, 100, 101, 114]], [.str [111, 117, 116, 115]], [.str [108, 97, 116, 101, 32, 114, 117, 110, 115]]]
noncomputable def startS : EVal := .agg [.int .i64 1, .int .i64 0, .int .i64 0, .int .i64 0, .int .i64 0, .int .i64 0, .int .i64 0, .int .i64 0, .int .i64 1, .int .i64 1, .int .i64 0, .int .i64 0, .bool false]
noncomputable def T1020 : List EVal → Option EVal := tbl [([], wordsR)]
noncomputable def T1021 : List EVal → Option EVal := tbl [([], wordsR)]
noncomputable def T1019 : List EVal → Option EVal := tbl [([wordsR, wordsR], .bool true)]
noncomputable def T1022 : List EVal → Option EVal := tbl [([], startS)]
noncomputable def T1023 : List EVal → Option EVal := tbl [([], startS)]
theorem aw20 : aM Tryz.prog wordsR (run Tryz.prog gT (aO []) 3000 (.call 20 [] H.start)) = true := by kernel_rfl
theorem aw21 : aM Tryz.prog wordsR (run Tryz.prog gT (aO []) 3000 (.call 21 [] H.start)) = true := by kernel_rfl
theorem aw19 : aM Tryz.prog (.bool true) (run Tryz.prog gT (aO []) 3000 (.call 19 [wordsR, wordsR] H.start)) = true := by kernel_rfl
theorem aw22 : aM Tryz.prog startS (run Tryz.prog gT (aO []) 3000 (.call 22 [] H.start)) = true := by kernel_rfl
theorem aw23 : aM Tryz.prog startS (run Tryz.prog gT (aO []) 3000 (.call 23 [] H.start)) = true := by kernel_rfl
theorem fn1020 : FnT 20 T1020 := Fn.tbl mixed aK [] (fun _ h => by cases h) (n := 3000) (by simp only [List.forall_mem_cons]; exact ⟨aw20, fun _ h => by cases h⟩)
theorem fn1021 : FnT 21 T1021 := Fn.tbl mixed aK [] (fun _ h => by cases h) (n := 3000) (by simp only [List.forall_mem_cons]; exact ⟨aw21, fun _ h => by cases h⟩)
theorem fn1019 : FnT 19 T1019 := Fn.tbl mixed aK [] (fun _ h => by cases h) (n := 3000) (by simp only [List.forall_mem_cons]; exact ⟨aw19, fun _ h => by cases h⟩)
theorem fn1022 : FnT 22 T1022 := Fn.tbl mixed aK [] (fun _ h => by cases h) (n := 3000) (by simp only [List.forall_mem_cons]; exact ⟨aw22, fun _ h => by cases h⟩)
theorem fn1023 : FnT 23 T1023 := Fn.tbl mixed aK [] (fun _ h => by cases h) (n := 3000) (by simp only [List.forall_mem_cons]; exact ⟨aw23, fun _ h => by cases h⟩)
theorem e1020 : T1020 [] = some (.lsl [[.str [112, 105, 116, 99, 104, 101, 115]], [.str [101, 118, 101, 110, 116]], [.str [98, 97, 116, 116, 101, 114]], [.str [114, 117, 110, 110, 101, 114, 115]], [.str [98, 97, 116, 116, 101, 114, 39, 115, 32, 119, 97, 121]], [.str [116, 104, 105, 114, 100, 32, 115, 116, 114, 105, 107, 101]], [.str [105, 110, 102, 105, 101, 108, 100, 32, 102, 108, 121]], [.str [119, 97, 121, 115]], [.str [98, 97, 108, 107]], [.str [97, 119, 97, 114, 100, 115]], [.str [111, 114, 100, 101, 114]], [.str [111, 117, 116, 115]], [.str [108, 97, 116, 101, 32, 114, 117, 110, 115]]]) := rfl
theorem e1021 : T1021 [] = some (.lsl [[.str [112, 105, 116, 99, 104, 101, 115]], [.str [101, 118, 101, 110, 116]], [.str [98, 97, 116, 116, 101, 114]], [.str [114, 117, 110, 110, 101, 114, 115]], [.str [98, 97, 116, 116, 101, 114, 39, 115, 32, 119, 97, 121]], [.str [116, 104, 105, 114, 100, 32, 115, 116, 114, 105, 107, 101]], [.str [105, 110, 102, 105, 101, 108, 100, 32, 102, 108, 121]], [.str [119, 97, 121, 115]], [.str [98, 97, 108, 107]], [.str [97, 119, 97, 114, 100, 115]], [.str [111, 114, 100, 101, 114]], [.str [111, 117, 116, 115]], [.str [108, 97, 116, 101, 32, 114, 117, 110, 115]]]) := rfl
theorem e1019 : T1019 [.lsl [[.str [112, 105, 116, 99, 104, 101, 115]], [.str [101, 118, 101, 110, 116]], [.str [98, 97, 116, 116, 101, 114]], [.str [114, 117, 110, 110, 101, 114, 115]], [.str [98, 97, 116, 116, 101, 114, 39, 115, 32, 119, 97, 121]], [.str [116, 104, 105, 114, 100, 32, 115, 116, 114, 105, 107, 101]], [.str [105, 110, 102, 105, 101, 108, 100, 32, 102, 108, 121]], [.str [119, 97, 121, 115]], [.str [98, 97, 108, 107]], [.str [97, 119, 97, 114, 100, 115]], [.str [111, 114, 100, 101, 114]], [.str [111, 117, 116, 115]], [.str [108, 97, 116, 101, 32, 114, 117, 110, 115]]], .lsl [[.str [112, 105, 116, 99, 104, 101, 115]], [.str [101, 118, 101, 110, 116]], [.str [98, 97, 116, 116, 101, 114]], [.str [114, 117, 110, 110, 101, 114, 115]], [.str [98, 97, 116, 116, 101, 114, 39, 115, 32, 119, 97, 121]], [.str [116, 104, 105, 114, 100, 32, 115, 116, 114, 105, 107, 101]], [.str [105, 110, 102, 105, 101, 108, 100, 32, 102, 108, 121]], [.str [119, 97, 121, 115]], [.str [98, 97, 108, 107]], [.str [97, 119, 97, 114, 100, 115]], [.str [111, 114, 100, 101, 114]], [.str [111, 117, 116, 115]], [.str [108, 97, 116, 101, 32, 114, 117, 110, 115]]]] = some (.bool true) := by kernel_rfl
theorem e1022 : T1022 [] = some (.agg [.int .i64 1, .int .i64 0, .int .i64 0, .int .i64 0, .int .i64 0, .int .i64 0, .int .i64 0, .int .i64 0, .int .i64 1, .int .i64 1, .int .i64 0, .int .i64 0, .bool false]) := rfl
theorem e1023 : T1023 [] = some (.agg [.int .i64 1, .int .i64 0, .int .i64 0, .int .i64 0, .int .i64 0, .int .i64 0, .int .i64 0, .int .i64 0, .int .i64 1, .int .i64 1, .int .i64 0, .int .i64 0, .bool false]) := rfl
theorem eq25s : eqX Tryz.prog 25 (.agg [.int .i64 1, .int .i64 0, .int .i64 0, .int .i64 0, .int .i64 0, .int .i64 0, .int .i64 0, .int .i64 0, .int .i64 1, .int .i64 1, .int .i64 0, .int .i64 0, .bool false]) (.agg [.int .i64 1, .int .i64 0, .int .i64 0, .int .i64 0, .int .i64 0, .int .i64 0, .int .i64 0, .int .i64 0, .int .i64 1, .int .i64 1, .int .i64 0, .int .i64 0, .bool false]) = some true := by kernel_rfl
theorem eq33 {a b c d : Bool} : eqX Tryz.prog 33 (.agg [.bool a, .bool b, .bool c, .bool d]) (.agg [.bool a, .bool b, .bool c, .bool d]) = some true := by
  cases a <;> cases b <;> cases c <;> cases d <;> kernel_rfl

/-! lists of numbers -/
def F1026 : List EVal → Option EVal
  | [a, b] => match dInts a, dInts b with
    | some l, some m => some (.bool (decide (l = m)))
    | _, _ => none
  | _ => none
theorem e1026 {l m : List Int} (h : l.length < 9223372036854775808) (h2 : m.length < 9223372036854775808) : F1026 [.lsl (aX l), .lsl (aX m)] = some (.bool (decide (l = m))) := by
  simp only [F1026, dInts_e h, dInts_e h2]
theorem fn1026 : FnT 26 F1026 := by
  refine Fn.intro mixed aK Tryz.func26 rfl [] (fun _ h => by cases h) ?_
  intro args v hF
  unfold F1026 at hF
  split at hF
  rotate_left
  · cases hF
  intro Q hV
  have hQ := aY.of hV
  rename_i a b
  split at hF
  rotate_left
  · cases hF
  rename_i l m hl hm
  cases hF
  obtain ⟨rfl, hll⟩ := dInts_inv hl
  obtain ⟨rfl, hml⟩ := dInts_inv hm
  clear hl hm
  refine Top.view (aF.start (n := 26) rfl (by simp)) (aH aK _ _ _ _ ?_)
  by_cases hlen : l.length = m.length
  rotate_left
  · have c1 : ((l.length : Int) == (m.length : Int)) = false := by simp; omega
    (try simp only [aV, SS, TF26StW, aA, Nat.reduceLT, Nat.reduceEqDiff, reduceCtorEq, eInts_length, c1])
    (refine hQ _ _ _ (aJ (by first | exact .inl rfl | exact .inr rfl) ?_); simp only [SS, TF26StW, Nat.reduceLT, Nat.reduceEqDiff, reduceCtorEq])
    have : l ≠ m := fun e => hlen (by rw [e])
    simp [this]
  have c1 : ((l.length : Int) == (m.length : Int)) = true := by simp; omega
  (try simp only [aV, SS, TF26StW, aA, Nat.reduceLT, Nat.reduceEqDiff, reduceCtorEq, eInts_length, c1])
  refine wp_of_top (Top.loop (I := fun s : { k : Nat // k ≤ l.length ∧ decide (l = m) = decide (l.drop k = m.drop k) } => (mkF 26 [(5, .int .i64 (s.1 : Nat)), (1, .lsl (aX m)), (0, .lsl (aX l))], H.start)) (μ := fun s => l.length - s.1) ⟨0, by simp⟩ (aF.sub (by simp [aL])) ?_)
  rintro ⟨k, hk, hf⟩
  refine aH aK _ _ _ _ ?_
  by_cases hlt : k < l.length
  · obtain ⟨x, hx⟩ : ∃ x, l[k]? = some x := ⟨l[k], List.getElem?_eq_getElem hlt⟩
    obtain ⟨y, hy⟩ : ∃ y, m[k]? = some y := ⟨m[k], List.getElem?_eq_getElem (by omega)⟩
    have c1 : decide ((k : Int) < (l.length : Int)) = true := by simp; omega
    have c2 : IntKind.i64.wrap ((k : Int) + 1) = ((k + 1 : Nat) : Int) := by rw [wrap_id] <;> omega
    have hd1 : l.drop k = x :: l.drop (k + 1) := by
      obtain ⟨h1, h2⟩ := List.getElem?_eq_some_iff.1 hx
      rw [List.drop_eq_getElem_cons h1, h2]
    have hd2 : m.drop k = y :: m.drop (k + 1) := by
      obtain ⟨h1, h2⟩ := List.getElem?_eq_some_iff.1 hy
      rw [List.drop_eq_getElem_cons h1, h2]
    have hkm : ((k : Int) < (m.length : Int)) = True := by simp; omega
    have hkl : ((k : Int) < (l.length : Int)) = True := by simp; omega
    by_cases h0 : x = y
    · have c0 : (x == y) = true := by simp [h0]
      (try simp only [SS, TF26StW, aA, Nat.reduceLT, Nat.reduceEqDiff, reduceCtorEq, eInts_length, hkl])
      refine wp_of_draw (Top.draw mixed aK (by kernel_rfl) ?_)
      (try simp only [SS, TF26StW, aA, Nat.reduceLT, Nat.reduceEqDiff, reduceCtorEq, eInts_get, c2, hx, hy, c0])
      refine ⟨by kernel_rfl, ?_⟩
      (try simp only [aV, SS, TF26StW, aI, setRange, bA, aA, aN, aT, aS, aP, aC, Nat.reduceLT, Nat.reduceEqDiff, Nat.reduceAdd, Nat.reduceMul, Nat.reduceSub, Nat.reduceLeDiff, Nat.reduceBEq, reduceCtorEq, c2])
      exact ⟨⟨k + 1, hlt, by rw [hf, hd1, hd2, h0]; simp⟩, by simp; omega, aF.sub (by simp [aL])⟩
    · have c0 : (x == y) = false := by simp [h0]
      (try simp only [SS, TF26StW, aA, Nat.reduceLT, Nat.reduceEqDiff, reduceCtorEq, eInts_length, hkl])
      refine wp_of_draw (Top.draw mixed aK (by kernel_rfl) ?_)
      (try simp only [SS, TF26StW, aA, Nat.reduceLT, Nat.reduceEqDiff, reduceCtorEq, eInts_get, hx, hy, c0])
      refine ⟨by kernel_rfl, ?_⟩
      (try simp only [aV, SS, TF26StW, aI, setRange, bA, aA, aN, aT, aS, aP, aC, Nat.reduceLT, Nat.reduceEqDiff, Nat.reduceAdd, Nat.reduceMul, Nat.reduceSub, Nat.reduceLeDiff, Nat.reduceBEq, reduceCtorEq])
      (refine hQ _ _ _ (aJ (by first | exact .inl rfl | exact .inr rfl) ?_); simp only [SS, TF26StW, Nat.reduceLT, Nat.reduceEqDiff, reduceCtorEq])
      rw [hf, hd1, hd2]
      simp [h0]
  · have c1 : decide ((k : Int) < (l.length : Int)) = false := by simp; omega
    (try simp only [SS, TF26StW, aA, Nat.reduceLT, Nat.reduceEqDiff, reduceCtorEq, eInts_length, c1])
    (refine hQ _ _ _ (aJ (by first | exact .inl rfl | exact .inr rfl) ?_); simp only [SS, TF26StW, Nat.reduceLT, Nat.reduceEqDiff, reduceCtorEq])
    rw [hf, List.drop_eq_nil_of_le (by omega), List.drop_eq_nil_of_le (by omega)]; rfl
end Go.Ev
