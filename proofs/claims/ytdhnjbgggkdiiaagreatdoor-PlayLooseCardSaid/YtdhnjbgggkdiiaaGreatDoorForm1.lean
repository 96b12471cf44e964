import Derived.Test.YtdhnjbgggkdiiaaGreatDoorCnt2
set_option linter.unusedSimpArgs false
set_option linter.unusedVariables false
namespace Go.Ev
open Go.RowKit Go.Proofs
set_option linter.defProp false
def TF80Form1 := And.intro (And.intro (And.intro (And.intro (@Tryz.underlying3) (And.intro (@sz3) (@bK))) (And.intro (@I3s) (And.intro (@I3b) (@bJ)))) (And.intro (And.intro (@bL) (And.intro (@Tryz.underlying9) (@sz9))) (And.intro (@bZ) (And.intro (@I9s) (@I9b))))) (And.intro (And.intro (And.intro (@bX) (And.intro (@cA) (@Tryz.underlying21))) (And.intro (@sz21) (And.intro (@info21) (@I21s)))) (And.intro (And.intro (@I21b) (And.intro (@zero21) (@grow21))) (And.intro (@call117) (And.intro (@call119) (@Tryz.results80)))))
def TF84Form1 := And.intro (And.intro (And.intro (And.intro (@Tryz.underlying3) (@sz3)) (And.intro (@bK) (And.intro (@I3s) (@I3b)))) (And.intro (And.intro (@bJ) (And.intro (@bL) (@Tryz.underlying5))) (And.intro (@sz5) (And.intro (@info5) (@I5s))))) (And.intro (And.intro (And.intro (@I5b) (And.intro (@zero5) (@grow5))) (And.intro (@Tryz.underlying9) (And.intro (@sz9) (@bZ)))) (And.intro (And.intro (@I9s) (And.intro (@I9b) (@bX))) (And.intro (@cA) (And.intro (@call74) (@Tryz.results84)))))
set_option maxRecDepth 20000
set_option maxHeartbeats 4000000

/-! the pitches of a play -/
/-- each is a pitch, and none comes behind a last one -/
def pitchesOK : List Nat → Bool
  | [] => true
  | x :: l => isP x && (!lastP x || l.isEmpty) && pitchesOK l
def pitchE (l : List Nat) : Int := if l.length ≤ 24 then (if pitchesOK l = true then 0 else 14) else 5
theorem pitchesOK_drop {l : List Nat} {k x : Nat} (h : l[k]? = some x) : pitchesOK (l.drop k) = (isP x && (!lastP x || !decide ((k : Int) < (l.length : Int) - 1)) && pitchesOK (l.drop (k + 1))) := by
  obtain ⟨hk, rfl⟩ := List.getElem?_eq_some_iff.1 h
  rw [List.drop_eq_getElem_cons hk]
  have e : (l.drop (k + 1)).isEmpty = !decide ((k : Int) < (l.length : Int) - 1) := by
    rw [Bool.eq_iff_iff]
    simp only [List.isEmpty_iff, List.drop_eq_nil_iff, Bool.not_eq_true', decide_eq_false_iff_not]
    omega
  rw [pitchesOK, e]
def F80 : List EVal → Option EVal
  | [.str l] => if aU l = true then some (.int .i64 (pitchE l)) else none
  | _ => none
theorem e117n {x : Nat} : F117 [.int .i32 (x : Int)] = some (.bool (isP x)) := by
  simp only [F117]
  rw [if_pos (by omega), Int.toNat_natCast]
theorem fn80 : FnT 80 F80 := by
  refine Fn.intro mixed aJ Tryz.func80 rfl [(117, F117), (119, F119)] (by simp only [List.forall_mem_cons]; exact ⟨fn117, fn119, fun _ h => by cases h⟩) ?_
  intro args v hF
  unfold F80 at hF
  split at hF
  rotate_left
  · cases hF
  intro Q hV
  have hQ := aW.of hV
  rename_i l
  split at hF
  rotate_left
  · cases hF
  rename_i hby
  cases hF
  refine Top.view (aF.start (n := 28) rfl (by simp)) (aD aJ _ _ _ _ ?_)
  by_cases hl : l.length ≤ 24
  rotate_left
  · have c1 : decide ((24 : Int) < (l.length : Int)) = true := by simp; omega
    (try simp only [aI, SS, TF80Form1, aA, Nat.reduceLT, Nat.reduceEqDiff, reduceCtorEq, c1])
    (refine hQ _ _ _ (aC (by first | exact .inl rfl | exact .inr rfl) ?_); simp only [SS, TF80Form1, Nat.reduceLT, Nat.reduceEqDiff, reduceCtorEq])
    simp [pitchE, hl]
  have c1 : decide ((24 : Int) < (l.length : Int)) = false := by simp; omega
  have hE : pitchE l = if pitchesOK l = true then 0 else 14 := by simp [pitchE, hl]
  rw [hE] at hQ
  clear hE
  have w1 : IntKind.i64.wrap ((l.length : Int) - 1) = (l.length : Int) - 1 := by rw [aP] <;> omega
  (try simp only [aI, SS, TF80Form1, aA, Nat.reduceLT, Nat.reduceEqDiff, reduceCtorEq, c1])
  refine aT (Top.loop (I := fun s : { k : Nat // k ≤ l.length ∧ pitchesOK l = pitchesOK (l.drop k) } => (mkF 28 [(9, .ptr 0 0), (0, .str l)], mkH 1 [(0, some (.iter l s.1))] 0 [])) (μ := fun s => l.length - s.1) ⟨0, by simp⟩ (aF.drop (by simp [look, below]) (by simp [aB, aR]) (by simp [aB])) ?_)
  rintro ⟨k, hk, hf⟩
  refine aD aJ _ _ _ _ ?_
  by_cases hlt : k < l.length
  rotate_left
  · (try simp only [SS, aA, Nat.reduceLT, Nat.reduceEqDiff, reduceCtorEq, hlt])
    (refine hQ _ _ _ (aC (by first | exact .inl rfl | exact .inr rfl) ?_); simp only [SS, TF80Form1, Nat.reduceLT, Nat.reduceEqDiff, reduceCtorEq])
    have : l.drop k = [] := List.drop_eq_nil_of_le (by omega)
    rw [hf, this]; rfl
  obtain ⟨x, hx⟩ : ∃ x, l[k]? = some x := ⟨l[k], List.getElem?_eq_getElem hlt⟩
  have hfd := pitchesOK_drop hx
  by_cases ha : x < 128
  rotate_left
  · have hp := isP_high (n := x) (by omega)
    obtain ⟨r, w, c4, hr⟩ := next_high hby hx ha
    have hp2 := isP_high hr
    (try simp only [SS, TF80Form1, aH, aA, Nat.reduceLT, Nat.reduceEqDiff, reduceCtorEq, hlt, c4, e117n, hp2])
    (refine hQ _ _ _ (aC (by first | exact .inl rfl | exact .inr rfl) ?_); simp only [SS, TF80Form1, Nat.reduceLT, Nat.reduceEqDiff, reduceCtorEq])
    rw [hf, hfd, hp]; rfl
  have c4 := next_ascii hx ha
  cases hp : isP x with
  | false =>
    (try simp only [SS, TF80Form1, aH, aA, Nat.reduceLT, Nat.reduceEqDiff, reduceCtorEq, hlt, c4, e117n, hp])
    (refine hQ _ _ _ (aC (by first | exact .inl rfl | exact .inr rfl) ?_); simp only [SS, TF80Form1, Nat.reduceLT, Nat.reduceEqDiff, reduceCtorEq])
    rw [hf, hfd, hp]; rfl
  | true =>
  cases hla : lastP x with
  | false =>
    (try simp only [SS, TF80Form1, aH, aA, Nat.reduceLT, Nat.reduceEqDiff, reduceCtorEq, hlt, c4, e117n, e119n, hp, hla])
    exact ⟨⟨k + 1, hlt, by rw [hf, hfd, hp, hla]; rfl⟩, by simp; omega, (aF.drop (by simp [look, below]) (by simp [aB, aR]) (by simp [aB]))⟩
  | true =>
  cases hd : decide ((k : Int) < (l.length : Int) - 1) with
  | true =>
    (try simp only [SS, TF80Form1, aH, aA, Nat.reduceLT, Nat.reduceEqDiff, reduceCtorEq, hlt, c4, e117n, e119n, hp, hla, w1, hd])
    (refine hQ _ _ _ (aC (by first | exact .inl rfl | exact .inr rfl) ?_); simp only [SS, TF80Form1, Nat.reduceLT, Nat.reduceEqDiff, reduceCtorEq])
    rw [hf, hfd, hp, hla, hd]; rfl
  | false =>
    (try simp only [SS, TF80Form1, aH, aA, Nat.reduceLT, Nat.reduceEqDiff, reduceCtorEq, hlt, c4, e117n, e119n, hp, hla, w1, hd])
    exact ⟨⟨k + 1, hlt, by rw [hf, hfd, hp, hla, hd]; rfl⟩, by simp; omega, (aF.drop (by simp [look, below]) (by simp [aB, aR]) (by simp [aB]))⟩

theorem hasC_P (x : Nat) : hasC [66, 67, 83, 70, 88, 72] (x : Int) = isP x := by
  simp only [hasC, List.any_cons, List.any_nil, Bool.or_false, isP]
  rw [Bool.eq_iff_iff]
  simp only [Bool.or_eq_true, beq_iff_eq]
  omega
theorem hasC_last (x : Nat) : hasC [88, 72] (x : Int) = lastP x := by
  simp only [hasC, List.any_cons, List.any_nil, Bool.or_false, lastP]
  rw [Bool.eq_iff_iff]
  simp only [Bool.or_eq_true, beq_iff_eq]
  omega
theorem e74P {x : Nat} : F74 [.str [UInt8.toNat 66, UInt8.toNat 67, UInt8.toNat 83, UInt8.toNat 70, UInt8.toNat 88, UInt8.toNat 72], .int .u8 (x : Int)] = some (.bool (isP x)) := by
  show F74 [.str [66, 67, 83, 70, 88, 72], .int .u8 (x : Int)] = _
  simp only [F74]
  rw [if_pos (by simp), hasC_P]
theorem e74L {x : Nat} : F74 [.str [UInt8.toNat 88, UInt8.toNat 72], .int .u8 (x : Int)] = some (.bool (lastP x)) := by
  show F74 [.str [88, 72], .int .u8 (x : Int)] = _
  simp only [F74]
  rw [if_pos (by simp), hasC_last]
def F84 : List EVal → Option EVal
  | [.str l] => some (.int .i64 (pitchE l))
  | _ => none
theorem fn84 : FnT 84 F84 := by
  refine Fn.intro mixed aJ Tryz.func84 rfl [(74, F74)] (by simp only [List.forall_mem_cons]; exact ⟨fn74, fun _ h => by cases h⟩) ?_
  intro args v hF
  unfold F84 at hF
  split at hF
  rotate_left
  · cases hF
  intro Q hV
  have hQ := aW.of hV
  rename_i l
  cases hF
  refine Top.view (aF.start (n := 31) rfl (by simp)) (aD aJ _ _ _ _ ?_)
  by_cases hl : l.length ≤ 24
  rotate_left
  · have c1 : decide ((24 : Int) < (l.length : Int)) = true := by simp; omega
    (try simp only [aI, SS, TF84Form1, aA, Nat.reduceLT, Nat.reduceEqDiff, reduceCtorEq, c1])
    (refine hQ _ _ _ (aC (by first | exact .inl rfl | exact .inr rfl) ?_); simp only [SS, TF84Form1, Nat.reduceLT, Nat.reduceEqDiff, reduceCtorEq])
    simp [pitchE, hl]
  have c1 : decide ((24 : Int) < (l.length : Int)) = false := by simp; omega
  have hE : pitchE l = if pitchesOK l = true then 0 else 14 := by simp [pitchE, hl]
  rw [hE] at hQ
  clear hE
  have w1 : IntKind.i64.wrap ((l.length : Int) - 1) = (l.length : Int) - 1 := by rw [aP] <;> omega
  (try simp only [aI, SS, TF84Form1, aA, Nat.reduceLT, Nat.reduceEqDiff, reduceCtorEq, c1])
  refine aT (Top.loop (I := fun s : { k : Nat // k ≤ l.length ∧ pitchesOK l = pitchesOK (l.drop k) } => (mkF 31 [(3, .int .i64 (s.1 : Nat)), (0, .str l)], mkH 0 [] 0 [])) (μ := fun s => l.length - s.1) ⟨0, by simp⟩ (aF.drop (by simp [look, below]) (by simp [aB, aR]) (by simp [aB])) ?_)
  rintro ⟨k, hk, hf⟩
  refine aD aJ _ _ _ _ ?_
  by_cases hlt : k < l.length
  rotate_left
  · have c2 : decide ((k : Int) < (l.length : Int)) = false := by simp; omega
    (try simp only [SS, TF84Form1, aA, Nat.reduceLT, Nat.reduceEqDiff, reduceCtorEq, c2])
    (refine hQ _ _ _ (aC (by first | exact .inl rfl | exact .inr rfl) ?_); simp only [SS, TF84Form1, Nat.reduceLT, Nat.reduceEqDiff, reduceCtorEq])
    have : l.drop k = [] := List.drop_eq_nil_of_le (by omega)
    rw [hf, this]; rfl
  obtain ⟨x, hx⟩ : ∃ x, l[k]? = some x := ⟨l[k], List.getElem?_eq_getElem hlt⟩
  have hfd := pitchesOK_drop hx
  have c2 : decide ((k : Int) < (l.length : Int)) = true := by simp; omega
  have c3 : IntKind.i64.wrap ((k : Int) + 1) = ((k + 1 : Nat) : Int) := by rw [aP] <;> omega
  cases hp : isP x with
  | false =>
    (try simp only [SS, TF84Form1, aH, aA, Nat.reduceLT, Nat.reduceEqDiff, reduceCtorEq, c2, hx, e74P, hp])
    (refine hQ _ _ _ (aC (by first | exact .inl rfl | exact .inr rfl) ?_); simp only [SS, TF84Form1, Nat.reduceLT, Nat.reduceEqDiff, reduceCtorEq])
    rw [hf, hfd, hp]; rfl
  | true =>
  cases hla : lastP x with
  | false =>
    (try simp only [SS, TF84Form1, aH, aA, Nat.reduceLT, Nat.reduceEqDiff, reduceCtorEq, c2, c3, hx, e74P, e74L, hp, hla])
    exact ⟨⟨k + 1, hlt, by rw [hf, hfd, hp, hla]; rfl⟩, by simp; omega, (aF.drop (by simp [look, below]) (by simp [aB, aR]) (by simp [aB]))⟩
  | true =>
  cases hd : decide ((k : Int) < (l.length : Int) - 1) with
  | true =>
    (try simp only [SS, TF84Form1, aH, aA, Nat.reduceLT, Nat.reduceEqDiff, reduceCtorEq, c2, hx, e74P, e74L, hp, hla, w1, hd])
    (refine hQ _ _ _ (aC (by first | exact .inl rfl | exact .inr rfl) ?_); simp only [SS, TF84Form1, Nat.reduceLT, Nat.reduceEqDiff, reduceCtorEq])
    rw [hf, hfd, hp, hla, hd]; rfl
  | false =>
    (try simp only [SS, TF84Form1, aH, aA, Nat.reduceLT, Nat.reduceEqDiff, reduceCtorEq, c2, c3, hx, e74P, e74L, hp, hla, w1, hd])
    exact ⟨⟨k + 1, hlt, by rw [hf, hfd, hp, hla, hd]; rfl⟩, by simp; omega, (aF.drop (by simp [look, below]) (by simp [aB, aR]) (by simp [aB]))⟩
end Go.Ev
