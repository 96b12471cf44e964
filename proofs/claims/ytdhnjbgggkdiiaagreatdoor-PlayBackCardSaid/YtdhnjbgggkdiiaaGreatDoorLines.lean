import Derived.Test.YtdhnjbgggkdiiaaGreatDoorLine1
set_option linter.unusedSimpArgs false
set_option linter.unusedVariables false
namespace Go.Ev
open Go.RowKit Go.Proofs
set_option linter.defProp false
def TF109Lines := And.intro (And.intro (And.intro (@Tryz.underlying9) (@sz9)) (And.intro (@cB) (@I9s))) (And.intro (And.intro (@I9b) (@bY)) (And.intro (@cC) (@Tryz.results109)))
def TF144Lines := And.intro (And.intro (And.intro (And.intro (@Tryz.underlying3) (@sz3)) (And.intro (@cE) (And.intro (@I3s) (@I3b)))) (And.intro (And.intro (@cA) (And.intro (@cF) (@Tryz.underlying5))) (And.intro (@sz5) (And.intro (@eF) (@I5s))))) (And.intro (And.intro (And.intro (@I5b) (And.intro (@dY) (@eG))) (And.intro (@Tryz.underlying9) (And.intro (@sz9) (@cB)))) (And.intro (And.intro (@I9s) (And.intro (@I9b) (@bY))) (And.intro (@cC) (And.intro (@call145) (@Tryz.results144)))))
set_option maxRecDepth 20000
set_option maxHeartbeats 8000000

/-! the lines of a string, gone over -/
def hasN (c : Nat) (l : List Nat) : Bool := l.any (· == c)
def eJ (c : Nat) (l : List Nat) : List Nat := l.takeWhile (· != c)
def tailN (c : Nat) (l : List Nat) : List Nat := l.drop ((eJ c l).length + 1)
section
variable {c : Nat}
theorem hasN_cons {b : Nat} {l : List Nat} (hb : ¬ b = c) : hasN c (b :: l) = hasN c l := by simp [hasN, hb]
theorem headN_cons {b : Nat} {l : List Nat} (hb : ¬ b = c) : eJ c (b :: l) = b :: eJ c l := by simp [eJ, hb]
theorem headN_self {l : List Nat} : eJ c (c :: l) = [] := by simp [eJ]
theorem indexC : ∀ {l : List Nat} {i : Nat}, indexByteE l c i = if hasN c l = true then ((i + (eJ c l).length : Nat) : Int) else -1
  | [], _ => rfl
  | b :: l, i => by
    unfold indexByteE
    by_cases hb : b = c
    · subst hb
      simp [hasN, eJ]
    · rw [if_neg hb, indexC, hasN_cons hb, headN_cons hb]
      split
      · rw [List.length_cons]; congr 1; omega
      · rfl
theorem headN_len : ∀ {l : List Nat}, hasN c l = true → (eJ c l).length < l.length
  | [], h => by simp [hasN] at h
  | b :: l, h => by
    by_cases hb : b = c
    · subst hb; simp [eJ]
    · rw [headN_cons hb, List.length_cons, List.length_cons]
      have := headN_len (l := l) (by rw [← hasN_cons hb]; exact h)
      omega
theorem headN_no : ∀ (l : List Nat), ∀ x ∈ eJ c l, x ≠ c
  | [], x, hx => by cases hx
  | b :: l, x, hx => by
    by_cases hb : b = c
    · subst hb; rw [headN_self] at hx; cases hx
    · rw [headN_cons hb] at hx
      rcases List.mem_cons.1 hx with rfl | hx
      · exact hb
      · exact headN_no l x hx
theorem cutC : ∀ {l : List Nat}, hasN c l = true → l = eJ c l ++ c :: tailN c l
  | [], h => by simp [hasN] at h
  | b :: l, h => by
    by_cases hb : b = c
    · subst hb; simp [eJ, tailN]
    · have h3 : tailN c (b :: l) = tailN c l := by simp [tailN, headN_cons hb]
      rw [h3, headN_cons hb, List.cons_append, ← cutC (by rw [← hasN_cons hb]; exact h)]
theorem splitC_yes {l : List Nat} (h : hasN c l = true) : bI c l = eJ c l :: bI c (tailN c l) := by
  conv => lhs; rw [cutC h]
  exact splitC_cut (headN_no l)
theorem splitC_no {l : List Nat} (h : hasN c l = false) : bI c l = [l] := splitC_word fun x hx e => by
  subst e
  have : hasN x l = true := List.any_eq_true.2 ⟨x, hx, by simp⟩
  rw [h] at this; cases this
theorem headN_take {l : List Nat} (h : hasN c l = true) : l.take ((eJ c l).length + 1) = eJ c l ++ [c] := by
  have e : ∀ w r : List Nat, (w ++ c :: r).take (w.length + 1) = w ++ [c] := fun w r => by rw [show w ++ c :: r = (w ++ [c]) ++ r by simp, List.take_left' (by simp)]
  have h2 := cutC h
  have h3 := e (eJ c l) (tailN c l)
  rw [← h2] at h3
  exact h3
end
abbrev KP : Table := [(145, F145), (110, F110)]
theorem ct109 {S : List Nat} {N m : Nat} {l : List (Nat × Option EObj)} {kk : List (Nat × Option (Nat × TypeId))} {k : EVal → H → Prop} (hN : N < 16000)
    (hk : k (.func 144 [.ptr N 0]) (mkH (N + 1) ((N, some (.row [.str S] 9 0 0 false)) :: l) m kk)) : bZ Tryz.prog gT (dZ KP) 109 [.str S] (mkH N l m kk) k := by
  refine bZ.intro Tryz.func109 rfl ?_
  refine Top.view (aT.start (n := 4) rfl (by simp)) (aR aV _ _ _ _ ?_)
  have e1 : ∀ (h : H) (cs : List EVal), eMakeFunc h 144 #[] (some cs) = some (.val (.func 144 cs) h) := fun _ _ => rfl
  ((try simp only [aO, SS, TF109Lines, aM, setRange, aN, aC, aB, aF, aE, aD, aA, Nat.reduceLT, Nat.reduceEqDiff, Nat.reduceAdd, Nat.reduceMul, Nat.reduceSub, Nat.reduceLeDiff, Nat.reduceBEq, reduceCtorEq, hN, e1]); (repeat' ((first | apply aJ | apply aI | apply aL | apply aK | apply aH | apply aG) <;> intro h <;> simp only [h, SS, TF109Lines, aM, setRange, aN, aC, aB, aF, aE, aD, aA, Nat.reduceLT, Nat.reduceEqDiff, Nat.reduceAdd, Nat.reduceMul, Nat.reduceSub, Nat.reduceLeDiff, Nat.reduceBEq, reduceCtorEq, hN, e1])))
  exact cL (es := [.func 144 [.ptr N 0]]) (.inl rfl) rfl (by simp only [SS, TF109Lines, aM, setRange, aN, aC, aB, aF, aE, aD, aA, Nat.reduceLT, Nat.reduceEqDiff, Nat.reduceAdd, Nat.reduceMul, Nat.reduceSub, Nat.reduceLeDiff, Nat.reduceBEq, reduceCtorEq]) hk
theorem ct144 {S : List Nat} {bx yid m : Nat} {kk : List (Nat × Option (Nat × TypeId))} {INV : Nat → List Nat → Nat → List (Nat × Option EObj) → Prop} {STOP : Nat → List (Nat × Option EObj) → Prop} {N0 : Nat} {l0 : List (Nat × Option EObj)} {k : EVal → H → Prop}
    (hS : S.length ≤ 5000) (hbx : bx < 16000) (hb : ∀ i T N l, INV i T N l → aP l bx = some (.row [.str T] 9 0 0 false)) (h0 : INV 0 S N0 l0)
    (hR : ∀ (i N : Nat) (T : List Nat) (l : List (Nat × Option EObj)) (k : EVal → H → Prop), INV i T N l → T.length ≤ S.length → hasN 10 T = true →
      (∀ N' l', INV (i + 1) (tailN 10 T) N' l' → k (.bool true) (mkH N' l' m kk)) → (∀ N' l', STOP N' l' → k (.bool false) (mkH N' l' m kk)) →
      RoundT Tryz.prog gT (dZ KP) yid [.str (eJ 10 T ++ [10])] (mkH N ((bx, some (.row [.str (tailN 10 T)] 9 0 0 false)) :: l) m kk) k)
    (hR2 : ∀ (i N : Nat) (T : List Nat) (l : List (Nat × Option EObj)) (k : EVal → H → Prop), INV i T N l → T.length ≤ S.length → T ≠ [] → hasN 10 T = false →
      (∀ N' l', STOP N' l' → k (.bool false) (mkH N' l' m kk)) → RoundT Tryz.prog gT (dZ KP) yid [.str T] (mkH N ((bx, some (.row [.str []] 9 0 0 false)) :: l) m kk) k)
    (hkS : ∀ N l, STOP N l → k (.tup []) (mkH N l m kk)) (hkE : ∀ i N l, INV i [] N l → k (.tup []) (mkH N l m kk)) :
    bZ Tryz.prog gT (dZ KP) 144 [.yieldf yid, .ptr bx 0] (mkH N0 l0 m kk) k := by
  refine bZ.intro Tryz.func144 rfl ?_
  refine Top.view (aT.start (n := 25) rfl (by simp)) (aR aV _ _ _ _ ?_)
  ((try simp only [aO, SS, TF144Lines, aM, setRange, aN, aC, aB, aF, aE, aD, aA, Nat.reduceLT, Nat.reduceEqDiff, Nat.reduceAdd, Nat.reduceMul, Nat.reduceSub, Nat.reduceLeDiff, Nat.reduceBEq, reduceCtorEq]); (repeat' ((first | apply aJ | apply aI | apply aL | apply aK | apply aH | apply aG) <;> intro h <;> simp only [h, SS, TF144Lines, aM, setRange, aN, aC, aB, aF, aE, aD, aA, Nat.reduceLT, Nat.reduceEqDiff, Nat.reduceAdd, Nat.reduceMul, Nat.reduceSub, Nat.reduceLeDiff, Nat.reduceBEq, reduceCtorEq])))
  refine bR (Top.loop (I := fun s : { x : Nat × List Nat × Nat × List (Nat × Option EObj) // x.2.1.length ≤ S.length ∧ INV x.1 x.2.1 x.2.2.1 x.2.2.2 } => (mkF 25 [(1, .ptr bx 0), (0, .yieldf yid)], mkH s.1.2.2.1 s.1.2.2.2 m kk)) (μ := fun s => s.1.2.1.length) ⟨(0, S, N0, l0), Nat.le_refl _, h0⟩ (aT.sub (by simp [look])) ?_)
  rintro ⟨⟨i, T, N, l⟩, hT, hI⟩
  dsimp only at hT hI
  refine aR aV _ _ _ _ ?_
  dsimp only
  have hbl := hb _ _ _ _ hI
  by_cases hT0 : T = []
  · subst hT0
    have q0 : decide ((0 : Int) < 0) = false := by decide
    ((try simp only [aO, SS, TF144Lines, aM, setRange, aN, aC, aB, aF, aE, aD, aA, Nat.reduceLT, Nat.reduceEqDiff, Nat.reduceAdd, Nat.reduceMul, Nat.reduceSub, Nat.reduceLeDiff, Nat.reduceBEq, reduceCtorEq, hbx, hbl, q0]); (repeat' ((first | apply aJ | apply aI | apply aL | apply aK | apply aH | apply aG) <;> intro h <;> simp only [h, SS, TF144Lines, aM, setRange, aN, aC, aB, aF, aE, aD, aA, Nat.reduceLT, Nat.reduceEqDiff, Nat.reduceAdd, Nat.reduceMul, Nat.reduceSub, Nat.reduceLeDiff, Nat.reduceBEq, reduceCtorEq, hbx, hbl, q0])))
    exact cL (es := []) (.inr rfl) rfl rfl (hkE _ _ _ hI)
  have hTl : 0 < T.length := List.length_pos_iff.2 hT0
  have q0 : decide ((0 : Int) < (T.length : Int)) = true := by simp; omega
  have h145 : F145 [.str T, .int .u8 10] = some (.int .i64 (indexByteE T 10 0)) := rfl
  rw [indexC, Nat.zero_add] at h145
  cases hh : hasN 10 T with
  | true =>
    rw [if_pos hh] at h145
    have hlt := headN_len hh
    have htk := headN_take hh
    have htl : T.drop ((eJ 10 T).length + 1) = tailN 10 T := rfl
    have hrr := fun k => hR i N T l k hI hT hh
    have hlen : (tailN 10 T).length < T.length := by simp only [tailN, List.length_drop]; omega
    generalize eJ 10 T = w at *
    generalize tailN 10 T = r at *
    have q1 : decide ((0 : Int) ≤ (w.length : Int)) = true := by simp
    have w1 : IntKind.i64.wrap ((w.length : Int) + 1) = ((w.length + 1 : Nat) : Int) := by rw [bN] <;> omega
    have b1 : (((w.length + 1 : Nat) : Int) ≤ (T.length : Int)) = True := by simp only [eq_iff_iff, iff_true]; omega
    have t1 : T.take T.length = T := List.take_length
    ((try simp only [aO, SS, TF144Lines, aM, setRange, aN, aC, aB, aF, aE, aD, aA, Nat.reduceLT, Nat.reduceEqDiff, Nat.reduceAdd, Nat.reduceMul, Nat.reduceSub, Nat.reduceLeDiff, Nat.reduceBEq, reduceCtorEq, hbx, hbl, q0, h145, q1]); (repeat' ((first | apply aJ | apply aI | apply aL | apply aK | apply aH | apply aG) <;> intro h <;> simp only [h, SS, TF144Lines, aM, setRange, aN, aC, aB, aF, aE, aD, aA, Nat.reduceLT, Nat.reduceEqDiff, Nat.reduceAdd, Nat.reduceMul, Nat.reduceSub, Nat.reduceLeDiff, Nat.reduceBEq, reduceCtorEq, hbx, hbl, q0, h145, q1])))
    refine bV (Top.draw mixed aV (by kernel_rfl) ?_)
    ((try simp only [aO, SS, TF144Lines, aM, setRange, aN, aC, aB, aF, aE, aD, aA, Nat.reduceLT, Nat.reduceEqDiff, Nat.reduceAdd, Nat.reduceMul, Nat.reduceSub, Nat.reduceLeDiff, Nat.reduceBEq, reduceCtorEq, hbx, hbl, w1, b1, t1, htk, htl]); (repeat' ((first | apply aJ | apply aI | apply aL | apply aK | apply aH | apply aG) <;> intro h <;> simp only [h, SS, TF144Lines, aM, setRange, aN, aC, aB, aF, aE, aD, aA, Nat.reduceLT, Nat.reduceEqDiff, Nat.reduceAdd, Nat.reduceMul, Nat.reduceSub, Nat.reduceLeDiff, Nat.reduceBEq, reduceCtorEq, hbx, hbl, w1, b1, t1, htk, htl])))
    refine ⟨by kernel_rfl, ?_⟩
    ((try simp only [aO, SS, TF144Lines, aM, setRange, aN, aC, aB, aF, aE, aD, aA, Nat.reduceLT, Nat.reduceEqDiff, Nat.reduceAdd, Nat.reduceMul, Nat.reduceSub, Nat.reduceLeDiff, Nat.reduceBEq, reduceCtorEq]); (repeat' ((first | apply aJ | apply aI | apply aL | apply aK | apply aH | apply aG) <;> intro h <;> simp only [h, SS, TF144Lines, aM, setRange, aN, aC, aB, aF, aE, aD, aA, Nat.reduceLT, Nat.reduceEqDiff, Nat.reduceAdd, Nat.reduceMul, Nat.reduceSub, Nat.reduceLeDiff, Nat.reduceBEq, reduceCtorEq])))
    refine hrr _ ?_ ?_
    · intro N' l' hI'
      ((try simp only [aO, SS, TF144Lines, aM, setRange, aN, aC, aB, aF, aE, aD, aA, Nat.reduceLT, Nat.reduceEqDiff, Nat.reduceAdd, Nat.reduceMul, Nat.reduceSub, Nat.reduceLeDiff, Nat.reduceBEq, reduceCtorEq]); (repeat' ((first | apply aJ | apply aI | apply aL | apply aK | apply aH | apply aG) <;> intro h <;> simp only [h, SS, TF144Lines, aM, setRange, aN, aC, aB, aF, aE, aD, aA, Nat.reduceLT, Nat.reduceEqDiff, Nat.reduceAdd, Nat.reduceMul, Nat.reduceSub, Nat.reduceLeDiff, Nat.reduceBEq, reduceCtorEq])))
      exact ⟨⟨(i + 1, r, N', l'), by show r.length ≤ _; omega, hI'⟩, by show r.length < T.length; omega, aT.sub (by simp [look])⟩
    · intro N' l' hS'
      ((try simp only [aO, SS, TF144Lines, aM, setRange, aN, aC, aB, aF, aE, aD, aA, Nat.reduceLT, Nat.reduceEqDiff, Nat.reduceAdd, Nat.reduceMul, Nat.reduceSub, Nat.reduceLeDiff, Nat.reduceBEq, reduceCtorEq]); (repeat' ((first | apply aJ | apply aI | apply aL | apply aK | apply aH | apply aG) <;> intro h <;> simp only [h, SS, TF144Lines, aM, setRange, aN, aC, aB, aF, aE, aD, aA, Nat.reduceLT, Nat.reduceEqDiff, Nat.reduceAdd, Nat.reduceMul, Nat.reduceSub, Nat.reduceLeDiff, Nat.reduceBEq, reduceCtorEq])))
      exact cL (es := []) (.inl rfl) rfl rfl (hkS _ _ hS')
  | false =>
    rw [if_neg (by rw [hh]; simp)] at h145
    have q1 : decide ((0 : Int) ≤ -1) = false := by decide
    ((try simp only [aO, SS, TF144Lines, aM, setRange, aN, aC, aB, aF, aE, aD, aA, Nat.reduceLT, Nat.reduceEqDiff, Nat.reduceAdd, Nat.reduceMul, Nat.reduceSub, Nat.reduceLeDiff, Nat.reduceBEq, reduceCtorEq, hbx, hbl, q0, h145, q1]); (repeat' ((first | apply aJ | apply aI | apply aL | apply aK | apply aH | apply aG) <;> intro h <;> simp only [h, SS, TF144Lines, aM, setRange, aN, aC, aB, aF, aE, aD, aA, Nat.reduceLT, Nat.reduceEqDiff, Nat.reduceAdd, Nat.reduceMul, Nat.reduceSub, Nat.reduceLeDiff, Nat.reduceBEq, reduceCtorEq, hbx, hbl, q0, h145, q1])))
    refine hR2 i N T l _ hI hT hT0 hh ?_
    intro N' l' hS'
    ((try simp only [aO, SS, TF144Lines, aM, setRange, aN, aC, aB, aF, aE, aD, aA, Nat.reduceLT, Nat.reduceEqDiff, Nat.reduceAdd, Nat.reduceMul, Nat.reduceSub, Nat.reduceLeDiff, Nat.reduceBEq, reduceCtorEq]); (repeat' ((first | apply aJ | apply aI | apply aL | apply aK | apply aH | apply aG) <;> intro h <;> simp only [h, SS, TF144Lines, aM, setRange, aN, aC, aB, aF, aE, aD, aA, Nat.reduceLT, Nat.reduceEqDiff, Nat.reduceAdd, Nat.reduceMul, Nat.reduceSub, Nat.reduceLeDiff, Nat.reduceBEq, reduceCtorEq])))
    exact cL (es := []) (.inl rfl) rfl rfl (hkS _ _ hS')
end Go.Ev
