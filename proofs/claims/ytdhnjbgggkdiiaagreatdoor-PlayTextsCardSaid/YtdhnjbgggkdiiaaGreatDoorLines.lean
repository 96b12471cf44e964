import Derived.Test.YtdhnjbgggkdiiaaGreatDoorLine1
set_option linter.unusedSimpArgs false
set_option linter.unusedVariables false
namespace Go.Ev
open Go.RowKit Go.Proofs
set_option linter.defProp false
def TF109Lines := And.intro (And.intro (And.intro (@Tryz.underlying9) (@sz9)) (And.intro (@bI) (@I9s))) (And.intro (And.intro (@I9b) (@bH)) (And.intro (@bJ) (@Tryz.results109)))
def TF144Lines := And.intro (And.intro (And.intro (And.intro (@Tryz.underlying3) (@sz3)) (And.intro (@bN) (And.intro (@I3s) (@I3b)))) (And.intro (And.intro (@bL) (And.intro (@bO) (@Tryz.underlying5))) (And.intro (@sz5) (And.intro (@dK) (@I5s))))) (And.intro (And.intro (And.intro (@I5b) (And.intro (@dG) (@dL))) (And.intro (@Tryz.underlying9) (And.intro (@sz9) (@bI)))) (And.intro (And.intro (@I9s) (And.intro (@I9b) (@bH))) (And.intro (@bJ) (And.intro (@call145) (@Tryz.results144)))))
set_option maxRecDepth 20000
set_option maxHeartbeats 8000000

/-! the lines of a string, gone over -/
def hasN (c : Nat) (l : List Nat) : Bool := l.any (· == c)
def dY (c : Nat) (l : List Nat) : List Nat := l.takeWhile (· != c)
def tailN (c : Nat) (l : List Nat) : List Nat := l.drop ((dY c l).length + 1)
section
variable {c : Nat}
theorem hasN_cons {b : Nat} {l : List Nat} (hb : ¬ b = c) : hasN c (b :: l) = hasN c l := by simp [hasN, hb]
theorem headN_cons {b : Nat} {l : List Nat} (hb : ¬ b = c) : dY c (b :: l) = b :: dY c l := by simp [dY, hb]
theorem headN_self {l : List Nat} : dY c (c :: l) = [] := by simp [dY]
theorem indexC : ∀ {l : List Nat} {i : Nat}, indexByteE l c i = if hasN c l = true then ((i + (dY c l).length : Nat) : Int) else -1
  | [], _ => rfl
  | b :: l, i => by
    unfold indexByteE
    by_cases hb : b = c
    · subst hb
      simp [hasN, dY]
    · rw [if_neg hb, indexC, hasN_cons hb, headN_cons hb]
      split
      · rw [List.length_cons]; congr 1; omega
      · rfl
theorem headN_len : ∀ {l : List Nat}, hasN c l = true → (dY c l).length < l.length
  | [], h => by simp [hasN] at h
  | b :: l, h => by
    by_cases hb : b = c
    · subst hb; simp [dY]
    · rw [headN_cons hb, List.length_cons, List.length_cons]
      have := headN_len (l := l) (by rw [← hasN_cons hb]; exact h)
      omega
theorem headN_no : ∀ (l : List Nat), ∀ x ∈ dY c l, x ≠ c
  | [], x, hx => by cases hx
  | b :: l, x, hx => by
    by_cases hb : b = c
    · subst hb; rw [headN_self] at hx; cases hx
    · rw [headN_cons hb] at hx
      rcases List.mem_cons.1 hx with rfl | hx
      · exact hb
      · exact headN_no l x hx
theorem cutC : ∀ {l : List Nat}, hasN c l = true → l = dY c l ++ c :: tailN c l
  | [], h => by simp [hasN] at h
  | b :: l, h => by
    by_cases hb : b = c
    · subst hb; simp [dY, tailN]
    · have h3 : tailN c (b :: l) = tailN c l := by simp [tailN, headN_cons hb]
      rw [h3, headN_cons hb, List.cons_append, ← cutC (by rw [← hasN_cons hb]; exact h)]
theorem splitC_yes {l : List Nat} (h : hasN c l = true) : aT c l = dY c l :: aT c (tailN c l) := by
  conv => lhs; rw [cutC h]
  exact splitC_cut (headN_no l)
theorem splitC_no {l : List Nat} (h : hasN c l = false) : aT c l = [l] := splitC_word fun x hx e => by
  subst e
  have : hasN x l = true := List.any_eq_true.2 ⟨x, hx, by simp⟩
  rw [h] at this; cases this
theorem headN_take {l : List Nat} (h : hasN c l = true) : l.take ((dY c l).length + 1) = dY c l ++ [c] := by
  have e : ∀ w r : List Nat, (w ++ c :: r).take (w.length + 1) = w ++ [c] := fun w r => by rw [show w ++ c :: r = (w ++ [c]) ++ r by simp, List.take_left' (by simp)]
  have h2 := cutC h
  have h3 := e (dY c l) (tailN c l)
  rw [← h2] at h3
  exact h3
end
abbrev KP : Table := [(145, F145), (110, F110)]
theorem ct109 {S : List Nat} {N m : Nat} {l : List (Nat × Option EObj)} {kk : List (Nat × Option (Nat × TypeId))} {k : EVal → H → Prop} (hN : N < 16000)
    (hk : k (.func 144 [.ptr N 0]) (mkH (N + 1) ((N, some (.row [.str S] 9 0 0 false)) :: l) m kk)) : bS Tryz.prog gT (dU KP) 109 [.str S] (mkH N l m kk) k := by
  refine bS.intro Tryz.func109 rfl ?_
  refine Top.view (aH.start (n := 4) rfl (by simp)) (aD aI _ _ _ _ ?_)
  have e1 : ∀ (h : H) (cs : List EVal), eMakeFunc h 144 #[] (some cs) = some (.val (.func 144 cs) h) := fun _ _ => rfl
  (try simp only [aG, SS, aA, Nat.reduceLT, Nat.reduceEqDiff, reduceCtorEq, e1])
  exact bX (es := [.func 144 [.ptr N 0]]) (.inl rfl) rfl (by simp only [SS, TF109Lines, Nat.reduceLT, Nat.reduceEqDiff, reduceCtorEq]) hk
theorem ct144 {S : List Nat} {bx yid m : Nat} {kk : List (Nat × Option (Nat × TypeId))} {INV : Nat → List Nat → Nat → List (Nat × Option EObj) → Prop} {STOP : Nat → List (Nat × Option EObj) → Prop} {N0 : Nat} {l0 : List (Nat × Option EObj)} {k : EVal → H → Prop}
    (hS : S.length ≤ 5000) (hbx : bx < 16000) (hb : ∀ i T N l, INV i T N l → aB l bx = some (.row [.str T] 9 0 0 false)) (h0 : INV 0 S N0 l0)
    (hR : ∀ (i N : Nat) (T : List Nat) (l : List (Nat × Option EObj)) (k : EVal → H → Prop), INV i T N l → T.length ≤ S.length → hasN 10 T = true →
      (∀ N' l', INV (i + 1) (tailN 10 T) N' l' → k (.bool true) (mkH N' l' m kk)) → (∀ N' l', STOP N' l' → k (.bool false) (mkH N' l' m kk)) →
      RoundT Tryz.prog gT (dU KP) yid [.str (dY 10 T ++ [10])] (mkH N ((bx, some (.row [.str (tailN 10 T)] 9 0 0 false)) :: l) m kk) k)
    (hR2 : ∀ (i N : Nat) (T : List Nat) (l : List (Nat × Option EObj)) (k : EVal → H → Prop), INV i T N l → T.length ≤ S.length → T ≠ [] → hasN 10 T = false →
      (∀ N' l', STOP N' l' → k (.bool false) (mkH N' l' m kk)) → RoundT Tryz.prog gT (dU KP) yid [.str T] (mkH N ((bx, some (.row [.str []] 9 0 0 false)) :: l) m kk) k)
    (hkS : ∀ N l, STOP N l → k (.tup []) (mkH N l m kk)) (hkE : ∀ i N l, INV i [] N l → k (.tup []) (mkH N l m kk)) :
    bS Tryz.prog gT (dU KP) 144 [.yieldf yid, .ptr bx 0] (mkH N0 l0 m kk) k := by
  refine bS.intro Tryz.func144 rfl ?_
  refine Top.view (aH.start (n := 25) rfl (by simp)) (aD aI _ _ _ _ ?_)
  (try simp only [aG, SS])
  refine aU (Top.loop (I := fun s : { x : Nat × List Nat × Nat × List (Nat × Option EObj) // x.2.1.length ≤ S.length ∧ INV x.1 x.2.1 x.2.2.1 x.2.2.2 } => (mkF 25 [(1, .ptr bx 0), (0, .yieldf yid)], mkH s.1.2.2.1 s.1.2.2.2 m kk)) (μ := fun s => s.1.2.1.length) ⟨(0, S, N0, l0), Nat.le_refl _, h0⟩ (aH.sub (by simp [look])) ?_)
  rintro ⟨⟨i, T, N, l⟩, hT, hI⟩
  dsimp only at hT hI
  refine aD aI _ _ _ _ ?_
  dsimp only
  have hbl := hb _ _ _ _ hI
  by_cases hT0 : T = []
  · subst hT0
    have q0 : decide ((0 : Int) < 0) = false := by decide
    (try simp only [SS, TF144Lines, aA, Nat.reduceLT, Nat.reduceEqDiff, reduceCtorEq, hbx, hbl, q0])
    exact bX (es := []) (.inr rfl) rfl rfl (hkE _ _ _ hI)
  have hTl : 0 < T.length := List.length_pos_iff.2 hT0
  have q0 : decide ((0 : Int) < (T.length : Int)) = true := by simp; omega
  have h145 : F145 [.str T, .int .u8 10] = some (.int .i64 (indexByteE T 10 0)) := rfl
  rw [indexC, Nat.zero_add] at h145
  cases hh : hasN 10 T with
  | true =>
    rw [if_pos hh] at h145
    have hlt := headN_len hh
    have htk := headN_take hh
    have htl : T.drop ((dY 10 T).length + 1) = tailN 10 T := rfl
    have hrr := fun k => hR i N T l k hI hT hh
    have hlen : (tailN 10 T).length < T.length := by simp only [tailN, List.length_drop]; omega
    generalize dY 10 T = w at *
    generalize tailN 10 T = r at *
    have q1 : decide ((0 : Int) ≤ (w.length : Int)) = true := by simp
    have w1 : IntKind.i64.wrap ((w.length : Int) + 1) = ((w.length + 1 : Nat) : Int) := by rw [aR] <;> omega
    have b1 : (((w.length + 1 : Nat) : Int) ≤ (T.length : Int)) = True := by simp only [eq_iff_iff, iff_true]; omega
    have t1 : T.take T.length = T := List.take_length
    (try simp only [SS, TF144Lines, aF, aA, Nat.reduceLT, Nat.reduceEqDiff, reduceCtorEq, hbx, hbl, q0, h145])
    refine aX (Top.draw mixed aI (by kernel_rfl) ?_)
    (try simp only [SS, TF144Lines, setRange, aA, aQ, Nat.reduceLT, Nat.reduceEqDiff, reduceCtorEq, hbx, hbl, w1, b1, t1, htk, htl])
    refine ⟨by kernel_rfl, ?_⟩
    (try simp only [aG, SS, TF144Lines, aF, setRange, bQ, aA, aL, bB, aQ, aO, aE, Nat.reduceLT, Nat.reduceEqDiff, Nat.reduceAdd, Nat.reduceMul, Nat.reduceSub, Nat.reduceLeDiff, Nat.reduceBEq, reduceCtorEq])
    refine hrr _ ?_ ?_
    · intro N' l' hI'
      (try simp only [SS, aA, Nat.reduceLT, Nat.reduceEqDiff, reduceCtorEq])
      exact ⟨⟨(i + 1, r, N', l'), by show r.length ≤ _; omega, hI'⟩, by show r.length < T.length; omega, aH.sub (by simp [look])⟩
    · intro N' l' hS'
      (try simp only [SS, aA, Nat.reduceLT, Nat.reduceEqDiff, reduceCtorEq])
      exact bX (es := []) (.inl rfl) rfl rfl (hkS _ _ hS')
  | false =>
    rw [if_neg (by rw [hh]; simp)] at h145
    have q1 : decide ((0 : Int) ≤ -1) = false := by decide
    (try simp only [SS, TF144Lines, aF, setRange, aA, Nat.reduceLT, Nat.reduceEqDiff, reduceCtorEq, hbx, hbl, q0, h145, q1])
    refine hR2 i N T l _ hI hT hT0 hh ?_
    intro N' l' hS'
    (try simp only [SS, aA, Nat.reduceLT, Nat.reduceEqDiff, reduceCtorEq])
    exact bX (es := []) (.inl rfl) rfl rfl (hkS _ _ hS')
end Go.Ev
