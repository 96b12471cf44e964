import Derived.Test.YtdhnjbgggkdiiaaGreatDoorParseV
set_option linter.unusedSimpArgs false
set_option linter.unusedVariables false
namespace Go.Ev
open Go.RowKit Go.Proofs
set_option linter.defProp false
def TF164Iter := And.intro (And.intro (And.intro (And.intro (@Tryz.underlying3) (@sz3)) (And.intro (@cE) (@I3s))) (And.intro (And.intro (@I3b) (@cA)) (And.intro (@cF) (@Tryz.underlying9)))) (And.intro (And.intro (And.intro (@sz9) (@cB)) (And.intro (@I9s) (@I9b))) (And.intro (And.intro (@bY) (@cC)) (And.intro (@call165) (@Tryz.results164))))
set_option maxRecDepth 20000
set_option maxHeartbeats 8000000

/-! the words of a string, gone over -/
theorem headB_no (l : List Nat) : ∀ x ∈ dK l, x ≠ 32 := by
  induction l with
  | nil => intro x hx; cases hx
  | cons b l ih =>
    by_cases hb : b = 32
    · subst hb; intro x hx; simp [dK] at hx
    · have h2 : dK (b :: l) = b :: dK l := by simp [dK, hb]
      rw [h2]
      intro x hx
      rcases List.mem_cons.1 hx with rfl | hx
      · exact hb
      · exact ih x hx
theorem cutB : ∀ {l : List Nat}, hasB32 l = true → l = dK l ++ 32 :: tailB l
  | [], h => by simp [hasB32] at h
  | b :: l, h => by
    by_cases hb : b = 32
    · subst hb; simp [dK, tailB]
    · have h1 : hasB32 (b :: l) = hasB32 l := by simp [hasB32, hb]
      have h2 : dK (b :: l) = b :: dK l := by simp [dK, hb]
      have h3 : tailB (b :: l) = tailB l := by simp [tailB, h2]
      rw [h2, h3, List.cons_append, ← cutB (by rw [← h1]; exact h)]
theorem splitB_yes {l : List Nat} (h : hasB32 l = true) : bI 32 l = dK l :: bI 32 (tailB l) := by
  conv => lhs; rw [cutB h]
  exact splitC_cut (headB_no l)
theorem splitB_no {l : List Nat} (h : hasB32 l = false) : bI 32 l = [l] := splitC_word fun x hx e => by
  subst e
  have : hasB32 l = true := List.any_eq_true.2 ⟨32, hx, by simp⟩
  rw [h] at this; cases this
theorem tail_drop {S : List Nat} {a : Nat} : tailB (S.drop a) = S.drop (a + ((dK (S.drop a)).length + 1)) := by rw [tailB, List.drop_drop]

abbrev KW : Table := [(165, F165), (138, F138), (130, F130), (139, F139), (140, F140), (141, F141), (18, F18)]
theorem ct164 {S : List Nat} {bx yid m : Nat} {kk : List (Nat × Option (Nat × TypeId))} {INV : Nat → Nat → Nat → List (Nat × Option EObj) → Prop} {STOP : Nat → List (Nat × Option EObj) → Prop} {N0 : Nat} {l0 : List (Nat × Option EObj)} {k : EVal → H → Prop}
    (hS : S.length ≤ 5000) (hbx : bx < 16000) (hb : ∀ i a N l, INV i a N l → aP l bx = some (.row [.str S] 9 0 0 false)) (h0 : INV 0 0 N0 l0)
    (hR : ∀ (i a N : Nat) (l : List (Nat × Option EObj)) (w : List Nat) (k : EVal → H → Prop), INV i a N l → a ≤ S.length → i ≤ a → (bI 32 S)[i]? = some w →
      (∀ N' l', INV (i + 1) (a + w.length + 1) N' l' → k (.bool true) (mkH N' l' m kk)) → (∀ N' l', STOP N' l' → k (.bool false) (mkH N' l' m kk)) →
      RoundT Tryz.prog gT (dZ KW) yid [.int .i64 (a : Nat), .str w] (mkH N l m kk) k)
    (hkS : ∀ N l, STOP N l → k (.tup []) (mkH N l m kk)) (hkE : ∀ a N l, INV (bI 32 S).length a N l → k (.tup []) (mkH N l m kk)) :
    bZ Tryz.prog gT (dZ KW) 164 [.yieldf yid, .ptr bx 0] (mkH N0 l0 m kk) k := by
  refine bZ.intro Tryz.func164 rfl ?_
  refine Top.view (aT.start (n := 29) rfl (by simp)) (aR aV _ _ _ _ ?_)
  ((try simp only [aO, SS, TF164Iter, aM, setRange, aN, aC, aB, aF, aE, aD, aA, Nat.reduceLT, Nat.reduceEqDiff, Nat.reduceAdd, Nat.reduceMul, Nat.reduceSub, Nat.reduceLeDiff, Nat.reduceBEq, reduceCtorEq]); (repeat' ((first | apply aJ | apply aI | apply aL | apply aK | apply aH | apply aG) <;> intro h <;> simp only [h, SS, TF164Iter, aM, setRange, aN, aC, aB, aF, aE, aD, aA, Nat.reduceLT, Nat.reduceEqDiff, Nat.reduceAdd, Nat.reduceMul, Nat.reduceSub, Nat.reduceLeDiff, Nat.reduceBEq, reduceCtorEq])))
  refine bR (Top.loop (I := fun s : { x : Nat × Nat × Nat × List (Nat × Option EObj) // x.2.1 ≤ S.length ∧ x.1 ≤ x.2.1 ∧ bI 32 (S.drop x.2.1) = (bI 32 S).drop x.1 ∧ INV x.1 x.2.1 x.2.2.1 x.2.2.2 } => (mkF 29 [(3, .int .i64 (s.1.2.1 : Nat)), (1, .ptr bx 0), (0, .yieldf yid)], mkH s.1.2.2.1 s.1.2.2.2 m kk)) (μ := fun s => S.length - s.1.2.1) ⟨(0, 0, N0, l0), by simp, by simp, by simp, h0⟩ (aT.sub (by simp [look])) ?_)
  rintro ⟨⟨i, a, N, l⟩, ha, hia, hsp, hI⟩
  dsimp only at ha hia hsp hI
  refine aR aV _ _ _ _ ?_
  dsimp only
  have hbl := hb _ _ _ _ hI
  have b1 : ((a : Int) ≤ (S.length : Int)) = True := by simp; omega
  have t2 : S.take S.length = S := List.take_length
  have u32 : UInt8.toNat 32 = 32 := rfl
  have h165 := e165 (l := S.drop a) (by simp; omega)
  unfold cutE at h165
  cases hh : hasB32 (S.drop a) with
  | true =>
    rw [if_pos hh] at h165
    rw [splitB_yes hh, tail_drop] at hsp
    have hlt := headB_len hh
    rw [List.length_drop] at hlt
    have hwi : (bI 32 S)[i]? = some (dK (S.drop a)) := by
      have : ((bI 32 S).drop i)[0]? = some (dK (S.drop a)) := by rw [← hsp]; rfl
      simpa using this
    have hd : bI 32 (S.drop (a + (dK (S.drop a)).length + 1)) = (bI 32 S).drop (i + 1) := by
      have := congrArg (List.drop 1) hsp
      simpa [Nat.add_assoc] using this
    generalize dK (S.drop a) = w at *
    have w1 : IntKind.i64.wrap ((w.length : Int) + ((1 : Nat) : Int)) = ((w.length + 1 : Nat) : Int) := by rw [bN] <;> omega
    have w1' : IntKind.i64.wrap ((w.length : Int) + 1) = ((w.length + 1 : Nat) : Int) := by rw [bN] <;> omega
    have w2 : IntKind.i64.wrap ((a : Int) + ((w.length + 1 : Nat) : Int)) = ((a + (w.length + 1) : Nat) : Int) := by rw [bN] <;> omega
    ((try simp only [aO, SS, TF164Iter, aM, setRange, aN, aC, aB, aF, aE, aD, aA, Nat.reduceLT, Nat.reduceEqDiff, Nat.reduceAdd, Nat.reduceMul, Nat.reduceSub, Nat.reduceLeDiff, Nat.reduceBEq, reduceCtorEq, hbx, hbl, b1, t2, u32, h165]); (repeat' ((first | apply aJ | apply aI | apply aL | apply aK | apply aH | apply aG) <;> intro h <;> simp only [h, SS, TF164Iter, aM, setRange, aN, aC, aB, aF, aE, aD, aA, Nat.reduceLT, Nat.reduceEqDiff, Nat.reduceAdd, Nat.reduceMul, Nat.reduceSub, Nat.reduceLeDiff, Nat.reduceBEq, reduceCtorEq, hbx, hbl, b1, t2, u32, h165])))
    refine hR i a N l w _ hI ha hia hwi ?_ ?_
    · intro N' l' hI'
      ((try simp only [aO, SS, TF164Iter, aM, setRange, aN, aC, aB, aF, aE, aD, aA, Nat.reduceLT, Nat.reduceEqDiff, Nat.reduceAdd, Nat.reduceMul, Nat.reduceSub, Nat.reduceLeDiff, Nat.reduceBEq, reduceCtorEq, w1, w1', w2]); (repeat' ((first | apply aJ | apply aI | apply aL | apply aK | apply aH | apply aG) <;> intro h <;> simp only [h, SS, TF164Iter, aM, setRange, aN, aC, aB, aF, aE, aD, aA, Nat.reduceLT, Nat.reduceEqDiff, Nat.reduceAdd, Nat.reduceMul, Nat.reduceSub, Nat.reduceLeDiff, Nat.reduceBEq, reduceCtorEq, w1, w1', w2])))
      refine ⟨⟨(i + 1, a + (w.length + 1), N', l'), by show a + (w.length + 1) ≤ _; omega, by show i + 1 ≤ a + (w.length + 1); omega, hd, hI'⟩, by show S.length - (a + (w.length + 1)) < S.length - a; omega, aT.sub (by simp [look, w1, w1', w2])⟩
    · intro N' l' hS'
      ((try simp only [aO, SS, TF164Iter, aM, setRange, aN, aC, aB, aF, aE, aD, aA, Nat.reduceLT, Nat.reduceEqDiff, Nat.reduceAdd, Nat.reduceMul, Nat.reduceSub, Nat.reduceLeDiff, Nat.reduceBEq, reduceCtorEq]); (repeat' ((first | apply aJ | apply aI | apply aL | apply aK | apply aH | apply aG) <;> intro h <;> simp only [h, SS, TF164Iter, aM, setRange, aN, aC, aB, aF, aE, aD, aA, Nat.reduceLT, Nat.reduceEqDiff, Nat.reduceAdd, Nat.reduceMul, Nat.reduceSub, Nat.reduceLeDiff, Nat.reduceBEq, reduceCtorEq])))
      exact cL (.inl rfl) rfl rfl (hkS _ _ hS')
  | false =>
    rw [if_neg (by rw [hh]; simp)] at h165
    rw [splitB_no hh] at hsp
    have hwi : (bI 32 S)[i]? = some (S.drop a) := by
      have : ((bI 32 S).drop i)[0]? = some (S.drop a) := by rw [← hsp]; rfl
      simpa using this
    have hln : i + 1 = (bI 32 S).length := by
      have := congrArg List.length hsp
      simp only [List.length_cons, List.length_nil, List.length_drop] at this
      omega
    ((try simp only [aO, SS, TF164Iter, aM, setRange, aN, aC, aB, aF, aE, aD, aA, Nat.reduceLT, Nat.reduceEqDiff, Nat.reduceAdd, Nat.reduceMul, Nat.reduceSub, Nat.reduceLeDiff, Nat.reduceBEq, reduceCtorEq, hbx, hbl, b1, t2, u32, h165]); (repeat' ((first | apply aJ | apply aI | apply aL | apply aK | apply aH | apply aG) <;> intro h <;> simp only [h, SS, TF164Iter, aM, setRange, aN, aC, aB, aF, aE, aD, aA, Nat.reduceLT, Nat.reduceEqDiff, Nat.reduceAdd, Nat.reduceMul, Nat.reduceSub, Nat.reduceLeDiff, Nat.reduceBEq, reduceCtorEq, hbx, hbl, b1, t2, u32, h165])))
    refine hR i a N l _ _ hI ha hia hwi ?_ ?_
    · intro N' l' hI'
      rw [hln] at hI'
      ((try simp only [aO, SS, TF164Iter, aM, setRange, aN, aC, aB, aF, aE, aD, aA, Nat.reduceLT, Nat.reduceEqDiff, Nat.reduceAdd, Nat.reduceMul, Nat.reduceSub, Nat.reduceLeDiff, Nat.reduceBEq, reduceCtorEq]); (repeat' ((first | apply aJ | apply aI | apply aL | apply aK | apply aH | apply aG) <;> intro h <;> simp only [h, SS, TF164Iter, aM, setRange, aN, aC, aB, aF, aE, aD, aA, Nat.reduceLT, Nat.reduceEqDiff, Nat.reduceAdd, Nat.reduceMul, Nat.reduceSub, Nat.reduceLeDiff, Nat.reduceBEq, reduceCtorEq])))
      exact cL (.inl rfl) rfl rfl (hkE _ _ _ hI')
    · intro N' l' hS'
      ((try simp only [aO, SS, TF164Iter, aM, setRange, aN, aC, aB, aF, aE, aD, aA, Nat.reduceLT, Nat.reduceEqDiff, Nat.reduceAdd, Nat.reduceMul, Nat.reduceSub, Nat.reduceLeDiff, Nat.reduceBEq, reduceCtorEq]); (repeat' ((first | apply aJ | apply aI | apply aL | apply aK | apply aH | apply aG) <;> intro h <;> simp only [h, SS, TF164Iter, aM, setRange, aN, aC, aB, aF, aE, aD, aA, Nat.reduceLT, Nat.reduceEqDiff, Nat.reduceAdd, Nat.reduceMul, Nat.reduceSub, Nat.reduceLeDiff, Nat.reduceBEq, reduceCtorEq])))
      exact cL (.inl rfl) rfl rfl (hkS _ _ hS')
end Go.Ev
