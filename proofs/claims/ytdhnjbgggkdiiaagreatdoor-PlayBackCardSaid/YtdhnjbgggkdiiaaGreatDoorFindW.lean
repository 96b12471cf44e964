import Derived.Test.YtdhnjbgggkdiiaaGreatDoorIter
set_option linter.unusedSimpArgs false
set_option linter.unusedVariables false
namespace Go.Ev
open Go.RowKit Go.Proofs
set_option linter.defProp false
def bO := And.intro (And.intro (And.intro (And.intro (@Tryz.underlying3) (@sz3)) (And.intro (@cE) (@I3s))) (And.intro (And.intro (@I3b) (@cA)) (And.intro (@cF) (And.intro (@Tryz.underlying9) (@sz9))))) (And.intro (And.intro (And.intro (@cB) (@I9s)) (And.intro (@I9b) (And.intro (@bY) (@cC)))) (And.intro (And.intro (@call130) (@call137)) (And.intro (@call138) (And.intro (@call139) (@Tryz.results99)))))
def TF137FindW := And.intro (And.intro (And.intro (@Tryz.underlying9) (@sz9)) (And.intro (@cB) (@I9s))) (And.intro (And.intro (@I9b) (@bY)) (And.intro (@cC) (@Tryz.results137)))
set_option maxRecDepth 20000
set_option maxHeartbeats 8000000

/-! the first wrong word -/
theorem setParams_two {n p q : Nat} {l : List (Nat × EVal)} {v u : EVal} (hp : p < n) (hq : q < n) : setParams n (T.ofL l) [p, q] [v, u] = some (T.ofL ((q, u) :: (p, v) :: l)) := by
  simp only [setParams, Bool.cond_eq_ite, Nat.blt_eq, hp, hq, if_true]; rfl
section
variable {P : Program} {g : G} {K : bW}
theorem roundExit_of {lp : EObj} {id n d i : Nat} {a b : Code} {k : EVal → H → Prop} {f : EFr} {h : H} {t : T EVal} {ps : List Tmp} (hlp : lp = .loop .ready none n t ps a b d) (hg : h.get id = some (cY .busy none lp))
    (hk : k (.bool false) (h.put id (cY .done (some (.exit i)) lp))) : roundEnd id k (.exit i) f h := by
  subst hlp
  unfold roundEnd
  rw [hg]; exact hk
theorem rangeExit_of {lp : EObj} {id n d i : Nat} {a b : Code} {v : EVal} {f1 : EFr} {Q : dG} {h : H} {t : T EVal} {ps : List Tmp} (hlp : lp = .loop .ready none n t ps a b d) (hg : h.get id = some (cY .done (some (.exit i)) lp))
    (hk : Q (.exit i) f1 (h.put id (cY .exhausted (some (.exit i)) lp))) : rangeEnd id f1 Q v h := by
  subst hlp
  unfold rangeEnd
  rw [hg]; exact ⟨by simp [cY], hk⟩
end
theorem ct137 {S : List Nat} {N m : Nat} {l : List (Nat × Option EObj)} {kk : List (Nat × Option (Nat × TypeId))} {k : EVal → H → Prop} (hN : N < 16000)
    (hk : k (.func 164 [.ptr N 0]) (mkH (N + 1) ((N, some (.row [.str S] 9 0 0 false)) :: l) m kk)) : bZ Tryz.prog gT (dZ KW) 137 [.str S] (mkH N l m kk) k := by
  refine bZ.intro Tryz.func137 rfl ?_
  refine Top.view (aT.start (n := 4) rfl (by simp)) (aR aV _ _ _ _ ?_)
  have e1 : ∀ (h : H) (cs : List EVal), eMakeFunc h 164 #[] (some cs) = some (.val (.func 164 cs) h) := fun _ _ => rfl
  ((try simp only [aO, SS, TF137FindW, aM, setRange, aN, aC, aB, aF, aE, aD, aA, Nat.reduceLT, Nat.reduceEqDiff, Nat.reduceAdd, Nat.reduceMul, Nat.reduceSub, Nat.reduceLeDiff, Nat.reduceBEq, reduceCtorEq, hN, e1]); (repeat' ((first | apply aJ | apply aI | apply aL | apply aK | apply aH | apply aG) <;> intro h <;> simp only [h, SS, TF137FindW, aM, setRange, aN, aC, aB, aF, aE, aD, aA, Nat.reduceLT, Nat.reduceEqDiff, Nat.reduceAdd, Nat.reduceMul, Nat.reduceSub, Nat.reduceLeDiff, Nat.reduceBEq, reduceCtorEq, hN, e1])))
  exact cL (es := [.func 164 [.ptr N 0]]) (.inl rfl) rfl (by simp only [SS, TF137FindW, aM, setRange, aN, aC, aB, aF, aE, aD, aA, Nat.reduceLT, Nat.reduceEqDiff, Nat.reduceAdd, Nat.reduceMul, Nat.reduceSub, Nat.reduceLeDiff, Nat.reduceBEq, reduceCtorEq]) hk
def fwE (S : List Nat) : EVal := match cW 0 0 (bI 32 S) with
  | some a => .tup [.int .i64 (a : Nat), .bool true]
  | none => .tup [.int .i64 (S.length : Nat), .bool (decide ((bI 32 S).length < 2))]
theorem ct99 {S : List Nat} {m : Nat} {o : EObj} {k : EVal → H → Prop} (hby : aZ S = true) (hS : S.length ≤ 5000)
    (hk : k (fwE S) (mkH 6 [(0, some o)] m [])) : bZ Tryz.prog gT (dZ KW) 99 [.str S] (mkH 1 [(0, some o)] m []) k := by
  refine bZ.out (bZ.intro Tryz.func99 rfl ?_)
  refine Top.view (aT.start (n := 48) rfl (by simp)) (aR aV _ _ _ _ ?_)
  ((try simp only [aO, SS, bO, aM, setRange, aN, aC, aB, aF, aE, aD, aA, Nat.reduceLT, Nat.reduceEqDiff, Nat.reduceAdd, Nat.reduceMul, Nat.reduceSub, Nat.reduceLeDiff, Nat.reduceBEq, reduceCtorEq, ↓aS]); (repeat' ((first | apply aJ | apply aI | apply aL | apply aK | apply aH | apply aG) <;> intro h <;> simp only [h, SS, bO, aM, setRange, aN, aC, aB, aF, aE, aD, aA, Nat.reduceLT, Nat.reduceEqDiff, Nat.reduceAdd, Nat.reduceMul, Nat.reduceSub, Nat.reduceLeDiff, Nat.reduceBEq, reduceCtorEq, ↓aS])))
  refine ct137 (by omega) ?_
  ((try simp only [aO, SS, bO, aM, setRange, aN, aC, aB, aF, aE, aD, aA, Nat.reduceLT, Nat.reduceEqDiff, Nat.reduceAdd, Nat.reduceMul, Nat.reduceSub, Nat.reduceLeDiff, Nat.reduceBEq, reduceCtorEq]); (repeat' ((first | apply aJ | apply aI | apply aL | apply aK | apply aH | apply aG) <;> intro h <;> simp only [h, SS, bO, aM, setRange, aN, aC, aB, aF, aE, aD, aA, Nat.reduceLT, Nat.reduceEqDiff, Nat.reduceAdd, Nat.reduceMul, Nat.reduceSub, Nat.reduceLeDiff, Nat.reduceBEq, reduceCtorEq])))
  refine wp_of_range (Top.rangeFunc (kf := 164) (caps := [.ptr 3 0]) aV (by simp only [ev_tmp, T.get_ofL, look, Nat.reduceLT, Nat.reduceEqDiff, if_true, if_false]) (by kernel_rfl) ?_)
  simp only [mkH_n, mkH_new, Nat.reduceAdd]
  refine bZ.capture fun lp hlp hb hx0 => ?_
  have hsl := split_len (c := 32) S
  refine bZ.inn (HV.of (l2 := [(5, some lp), (4, some (.deferred false)), (3, some (.row [.str S] 9 0 0 false)), (2, some (.row [.int .i64 ((0 : Nat) : Int)] 3 0 0 false)), (1, some (.row [.int .i64 (-1)] 3 0 0 false)), (0, some o)]) (by simp [aP])) ?_
  refine ct164 (S := S) (INV := fun i a N l => cW 0 0 (bI 32 S) = cW i a ((bI 32 S).drop i) ∧ N = 6 ∧ l = [(5, some lp), (4, some (.deferred false)), (3, some (.row [.str S] 9 0 0 false)), (2, some (.row [.int .i64 (i : Nat)] 3 0 0 false)), (1, some (.row [.int .i64 (-1)] 3 0 0 false)), (0, some o)])
    (STOP := fun N l => ∃ i a : Nat, cW 0 0 (bI 32 S) = some a ∧ N = 6 ∧ a ≤ S.length ∧ l = [(5, some (cY .done (some (.exit 0)) lp)), (4, some (.deferred false)), (3, some (.row [.str S] 9 0 0 false)), (2, some (.row [.int .i64 (i : Nat)] 3 0 0 false)), (1, some (.row [.int .i64 (a : Nat)] 3 0 0 false)), (0, some o)])
    hS (by omega) ?_ ⟨rfl, rfl, rfl⟩ ?_ ?_ ?_
  · rintro i a N l ⟨_, rfl, rfl⟩
    simp [aP]
  · rintro i a N l w k ⟨hw, rfl, rfl⟩ ha hia hwi hkT hkF
    rw [wrongAt_drop hwi] at hw
    have hmem : w ∈ bI 32 S := List.mem_of_getElem? hwi
    have hwb := split_bytes hby w hmem
    have hwl : w.length ≤ 5001 := by have := lenS_mem hmem; omega
    refine RoundT.out ?_
    refine RoundT.intro (by simp only [cT, aP, Nat.reduceLT, Nat.reduceEqDiff, if_true, if_false]; rw [hlp]) (setParams_two (by omega) (by omega)) ?_
    simp only [mkD_eq, mkH_n]
    refine aR aV _ _ _ _ ?_
    ((try simp only [aO, SS, bO, aM, setRange, aN, aC, aB, aF, aE, aD, aA, Nat.reduceLT, Nat.reduceEqDiff, Nat.reduceAdd, Nat.reduceMul, Nat.reduceSub, Nat.reduceLeDiff, Nat.reduceBEq, reduceCtorEq]); (repeat' ((first | apply aJ | apply aI | apply aL | apply aK | apply aH | apply aG) <;> intro h <;> simp only [h, SS, bO, aM, setRange, aN, aC, aB, aF, aE, aD, aA, Nat.reduceLT, Nat.reduceEqDiff, Nat.reduceAdd, Nat.reduceMul, Nat.reduceSub, Nat.reduceLeDiff, Nat.reduceBEq, reduceCtorEq])))
    refine roundMid_of (by simp only [cT, aP, Nat.reduceLT, Nat.reduceEqDiff, if_true, if_false]; rw [hlp]) ?_
    simp only [mkH_put, ← hb]
    refine Top.unview (aR aV _ _ _ _ ?_)
    have h138 : F138 [.str w] = some (.bool (pitW w)) := by simp only [F138]; rw [if_pos ⟨hwb, by omega⟩]
    have h139 : F139 [.str w] = some (.bool (mvW w)) := by simp only [F139]; rw [if_pos ⟨hwb, by omega⟩]
    have h130 : F130 [.str w] = some (.bool (isEv w)) := by simp only [F130]; rw [if_pos hwb]
    have u45 : UInt8.toNat 45 = 45 := rfl
    have w1 : IntKind.i64.wrap ((i : Int) + 1) = ((i + 1 : Nat) : Int) := by rw [bN] <;> omega
    have w1' : IntKind.i64.wrap ((i : Int) + ((1 : Nat) : Int)) = ((i + 1 : Nat) : Int) := by rw [bN] <;> omega
    have hT : dP i w = true → ∀ fl, bM (some 6) Tryz.prog (roundEnd 5 fun v h' => ∃ h2, HV Tryz.prog h' h2 ∧ k v h2) .normal (mkD 48 fl [] (some 5)) (mkH 6 [(2, some (.row [.int .i64 ((i + 1 : Nat) : Int)] 3 0 0 false)), (5, some (cY .busy none lp)), (5, some lp), (4, some (.deferred false)), (3, some (.row [.str S] 9 0 0 false)), (2, some (.row [.int .i64 (i : Nat)] 3 0 0 false)), (1, some (.row [.int .i64 (-1)] 3 0 0 false)), (0, some o)] m []) := by
      intro hr fl
      rw [if_pos hr] at hw
      refine ⟨_, _, aT.subD (l2 := []) (by simp), roundEnd_of (by simp only [cT, aP, Nat.reduceLT, Nat.reduceEqDiff, if_true, if_false]; rw [hb]) ?_⟩
      simp only [mkH_put, ← hlp]
      refine ⟨_, HV.of ?_, hkT _ _ ⟨hw, rfl, rfl⟩⟩
      simp [aP]
    have hF : dP i w = false → ∀ fl, bM (some 6) Tryz.prog (roundEnd 5 fun v h' => ∃ h2, HV Tryz.prog h' h2 ∧ k v h2) (.exit 0) (mkD 48 fl [] (some 5)) (mkH 6 [(1, some (.row [.int .i64 (a : Nat)] 3 0 0 false)), (5, some (cY .busy none lp)), (5, some lp), (4, some (.deferred false)), (3, some (.row [.str S] 9 0 0 false)), (2, some (.row [.int .i64 (i : Nat)] 3 0 0 false)), (1, some (.row [.int .i64 (-1)] 3 0 0 false)), (0, some o)] m []) := by
      intro hr fl
      rw [if_neg (by rw [hr]; simp)] at hw
      refine ⟨_, _, aT.subD (l2 := []) (by simp), roundExit_of hlp (by simp only [cT, aP, Nat.reduceLT, Nat.reduceEqDiff, if_true, if_false]) ?_⟩
      simp only [mkH_put]
      refine ⟨_, HV.of ?_, hkF _ _ ⟨i, a, hw, rfl, ha, rfl⟩⟩
      simp [aP]
    by_cases h0 : i = 0
    · have q0 : ((i : Int) == 0) = true := by simp [h0]
      have hr : dP i w = pitW w := by simp [dP, h0]
      cases hp : pitW w with
      | true =>
        rw [hp] at h138 hr
        ((try simp only [aO, SS, bO, aM, setRange, aN, aC, aB, aF, aE, aD, aA, Nat.reduceLT, Nat.reduceEqDiff, Nat.reduceAdd, Nat.reduceMul, Nat.reduceSub, Nat.reduceLeDiff, Nat.reduceBEq, reduceCtorEq, q0, h138, w1, w1']); (repeat' ((first | apply aJ | apply aI | apply aL | apply aK | apply aH | apply aG) <;> intro h <;> simp only [h, SS, bO, aM, setRange, aN, aC, aB, aF, aE, aD, aA, Nat.reduceLT, Nat.reduceEqDiff, Nat.reduceAdd, Nat.reduceMul, Nat.reduceSub, Nat.reduceLeDiff, Nat.reduceBEq, reduceCtorEq, q0, h138, w1, w1'])))
        exact hT hr _
      | false =>
        rw [hp] at h138 hr
        ((try simp only [aO, SS, bO, aM, setRange, aN, aC, aB, aF, aE, aD, aA, Nat.reduceLT, Nat.reduceEqDiff, Nat.reduceAdd, Nat.reduceMul, Nat.reduceSub, Nat.reduceLeDiff, Nat.reduceBEq, reduceCtorEq, q0, h138]); (repeat' ((first | apply aJ | apply aI | apply aL | apply aK | apply aH | apply aG) <;> intro h <;> simp only [h, SS, bO, aM, setRange, aN, aC, aB, aF, aE, aD, aA, Nat.reduceLT, Nat.reduceEqDiff, Nat.reduceAdd, Nat.reduceMul, Nat.reduceSub, Nat.reduceLeDiff, Nat.reduceBEq, reduceCtorEq, q0, h138])))
        exact hF hr _
    have q0 : ((i : Int) == 0) = false := by simp; omega
    by_cases h1 : i = 1
    · have q1 : ((i : Int) == 1) = true := by simp [h1]
      have hr : dP i w = (decide (w = [45]) || isEv w) := by simp [dP, h1]
      cases hd : decide (w = [45]) with
      | true =>
        rw [hd, Bool.true_or] at hr
        ((try simp only [aO, SS, bO, aM, setRange, aN, aC, aB, aF, aE, aD, aA, Nat.reduceLT, Nat.reduceEqDiff, Nat.reduceAdd, Nat.reduceMul, Nat.reduceSub, Nat.reduceLeDiff, Nat.reduceBEq, reduceCtorEq, q0, q1, u45, hd, w1, w1']); (repeat' ((first | apply aJ | apply aI | apply aL | apply aK | apply aH | apply aG) <;> intro h <;> simp only [h, SS, bO, aM, setRange, aN, aC, aB, aF, aE, aD, aA, Nat.reduceLT, Nat.reduceEqDiff, Nat.reduceAdd, Nat.reduceMul, Nat.reduceSub, Nat.reduceLeDiff, Nat.reduceBEq, reduceCtorEq, q0, q1, u45, hd, w1, w1'])))
        exact hT hr _
      | false =>
        rw [hd, Bool.false_or] at hr
        cases hp : isEv w with
        | true =>
          rw [hp] at h130 hr
          ((try simp only [aO, SS, bO, aM, setRange, aN, aC, aB, aF, aE, aD, aA, Nat.reduceLT, Nat.reduceEqDiff, Nat.reduceAdd, Nat.reduceMul, Nat.reduceSub, Nat.reduceLeDiff, Nat.reduceBEq, reduceCtorEq, q0, q1, u45, hd, h130, w1, w1']); (repeat' ((first | apply aJ | apply aI | apply aL | apply aK | apply aH | apply aG) <;> intro h <;> simp only [h, SS, bO, aM, setRange, aN, aC, aB, aF, aE, aD, aA, Nat.reduceLT, Nat.reduceEqDiff, Nat.reduceAdd, Nat.reduceMul, Nat.reduceSub, Nat.reduceLeDiff, Nat.reduceBEq, reduceCtorEq, q0, q1, u45, hd, h130, w1, w1'])))
          exact hT hr _
        | false =>
          rw [hp] at h130 hr
          ((try simp only [aO, SS, bO, aM, setRange, aN, aC, aB, aF, aE, aD, aA, Nat.reduceLT, Nat.reduceEqDiff, Nat.reduceAdd, Nat.reduceMul, Nat.reduceSub, Nat.reduceLeDiff, Nat.reduceBEq, reduceCtorEq, q0, q1, u45, hd, h130]); (repeat' ((first | apply aJ | apply aI | apply aL | apply aK | apply aH | apply aG) <;> intro h <;> simp only [h, SS, bO, aM, setRange, aN, aC, aB, aF, aE, aD, aA, Nat.reduceLT, Nat.reduceEqDiff, Nat.reduceAdd, Nat.reduceMul, Nat.reduceSub, Nat.reduceLeDiff, Nat.reduceBEq, reduceCtorEq, q0, q1, u45, hd, h130])))
          exact hF hr _
    have q1 : ((i : Int) == 1) = false := by simp; omega
    have v1 : UInt8.toNat 108 = 108 := rfl
    have v2 : UInt8.toNat 97 = 97 := rfl
    have v3 : UInt8.toNat 116 = 116 := rfl
    have v4 : UInt8.toNat 101 = 101 := rfl
    by_cases h2 : i = 2
    · have q2 : ((i : Int) == 2) = true := by simp [h2]
      have hr : dP i w = (decide (w = [108, 97, 116, 101]) || mvW w) := by rw [dP, if_neg h0, if_neg h1, if_pos h2]; rfl
      cases hd : decide (w = [108, 97, 116, 101]) with
      | true =>
        rw [hd, Bool.true_or] at hr
        ((try simp only [aO, SS, bO, aM, setRange, aN, aC, aB, aF, aE, aD, aA, Nat.reduceLT, Nat.reduceEqDiff, Nat.reduceAdd, Nat.reduceMul, Nat.reduceSub, Nat.reduceLeDiff, Nat.reduceBEq, reduceCtorEq, q0, q1, q2, v1, v2, v3, v4, hd, w1, w1']); (repeat' ((first | apply aJ | apply aI | apply aL | apply aK | apply aH | apply aG) <;> intro h <;> simp only [h, SS, bO, aM, setRange, aN, aC, aB, aF, aE, aD, aA, Nat.reduceLT, Nat.reduceEqDiff, Nat.reduceAdd, Nat.reduceMul, Nat.reduceSub, Nat.reduceLeDiff, Nat.reduceBEq, reduceCtorEq, q0, q1, q2, v1, v2, v3, v4, hd, w1, w1'])))
        exact hT hr _
      | false =>
        rw [hd, Bool.false_or] at hr
        cases hp : mvW w with
        | true =>
          rw [hp] at h139 hr
          ((try simp only [aO, SS, bO, aM, setRange, aN, aC, aB, aF, aE, aD, aA, Nat.reduceLT, Nat.reduceEqDiff, Nat.reduceAdd, Nat.reduceMul, Nat.reduceSub, Nat.reduceLeDiff, Nat.reduceBEq, reduceCtorEq, q0, q1, q2, v1, v2, v3, v4, hd, h139, w1, w1']); (repeat' ((first | apply aJ | apply aI | apply aL | apply aK | apply aH | apply aG) <;> intro h <;> simp only [h, SS, bO, aM, setRange, aN, aC, aB, aF, aE, aD, aA, Nat.reduceLT, Nat.reduceEqDiff, Nat.reduceAdd, Nat.reduceMul, Nat.reduceSub, Nat.reduceLeDiff, Nat.reduceBEq, reduceCtorEq, q0, q1, q2, v1, v2, v3, v4, hd, h139, w1, w1'])))
          exact hT hr _
        | false =>
          rw [hp] at h139 hr
          ((try simp only [aO, SS, bO, aM, setRange, aN, aC, aB, aF, aE, aD, aA, Nat.reduceLT, Nat.reduceEqDiff, Nat.reduceAdd, Nat.reduceMul, Nat.reduceSub, Nat.reduceLeDiff, Nat.reduceBEq, reduceCtorEq, q0, q1, q2, v1, v2, v3, v4, hd, h139]); (repeat' ((first | apply aJ | apply aI | apply aL | apply aK | apply aH | apply aG) <;> intro h <;> simp only [h, SS, bO, aM, setRange, aN, aC, aB, aF, aE, aD, aA, Nat.reduceLT, Nat.reduceEqDiff, Nat.reduceAdd, Nat.reduceMul, Nat.reduceSub, Nat.reduceLeDiff, Nat.reduceBEq, reduceCtorEq, q0, q1, q2, v1, v2, v3, v4, hd, h139])))
          exact hF hr _
    have q2 : ((i : Int) == 2) = false := by simp; omega
    have hr : dP i w = mvW w := by simp [dP, h0, h1, h2]
    cases hp : mvW w with
    | true =>
      rw [hp] at h139 hr
      ((try simp only [aO, SS, bO, aM, setRange, aN, aC, aB, aF, aE, aD, aA, Nat.reduceLT, Nat.reduceEqDiff, Nat.reduceAdd, Nat.reduceMul, Nat.reduceSub, Nat.reduceLeDiff, Nat.reduceBEq, reduceCtorEq, q0, q1, q2, h139, w1, w1']); (repeat' ((first | apply aJ | apply aI | apply aL | apply aK | apply aH | apply aG) <;> intro h <;> simp only [h, SS, bO, aM, setRange, aN, aC, aB, aF, aE, aD, aA, Nat.reduceLT, Nat.reduceEqDiff, Nat.reduceAdd, Nat.reduceMul, Nat.reduceSub, Nat.reduceLeDiff, Nat.reduceBEq, reduceCtorEq, q0, q1, q2, h139, w1, w1'])))
      exact hT hr _
    | false =>
      rw [hp] at h139 hr
      ((try simp only [aO, SS, bO, aM, setRange, aN, aC, aB, aF, aE, aD, aA, Nat.reduceLT, Nat.reduceEqDiff, Nat.reduceAdd, Nat.reduceMul, Nat.reduceSub, Nat.reduceLeDiff, Nat.reduceBEq, reduceCtorEq, q0, q1, q2, h139]); (repeat' ((first | apply aJ | apply aI | apply aL | apply aK | apply aH | apply aG) <;> intro h <;> simp only [h, SS, bO, aM, setRange, aN, aC, aB, aF, aE, aD, aA, Nat.reduceLT, Nat.reduceEqDiff, Nat.reduceAdd, Nat.reduceMul, Nat.reduceSub, Nat.reduceLeDiff, Nat.reduceBEq, reduceCtorEq, q0, q1, q2, h139])))
      exact hF hr _
  · rintro N l ⟨i, a, hw, rfl, ha, rfl⟩
    refine rangeExit_of (i := 0) hlp (by simp only [cT, aP, Nat.reduceLT, Nat.reduceEqDiff, if_true, if_false]) ?_
    simp only [mkH_put, mkD_eq]
    have q1 : decide ((0 : Int) ≤ (a : Int)) = true := by simp
    ((try simp only [aO, SS, bO, aM, setRange, aN, aC, aB, aF, aE, aD, aA, Nat.reduceLT, Nat.reduceEqDiff, Nat.reduceAdd, Nat.reduceMul, Nat.reduceSub, Nat.reduceLeDiff, Nat.reduceBEq, reduceCtorEq, q1]); (repeat' ((first | apply aJ | apply aI | apply aL | apply aK | apply aH | apply aG) <;> intro h <;> simp only [h, SS, bO, aM, setRange, aN, aC, aB, aF, aE, aD, aA, Nat.reduceLT, Nat.reduceEqDiff, Nat.reduceAdd, Nat.reduceMul, Nat.reduceSub, Nat.reduceLeDiff, Nat.reduceBEq, reduceCtorEq, q1])))
    refine cL (es := [.int .i64 (a : Nat), .bool true]) (.inl rfl) (by simp only [mkD_defers, takeAll, cT, aP, Nat.reduceLT, Nat.reduceEqDiff, if_true, if_false, mkH_put]; rfl) (by simp only [SS, bO, aM, setRange, aN, aC, aB, aF, aE, aD, aA, Nat.reduceLT, Nat.reduceEqDiff, Nat.reduceAdd, Nat.reduceMul, Nat.reduceSub, Nat.reduceLeDiff, Nat.reduceBEq, reduceCtorEq]) ?_
    refine ⟨_, HV.of ?_, by simp only [fwE, hw] at hk; exact hk⟩
    simp [aP]
  · rintro a N l ⟨hw, rfl, rfl⟩
    refine rangeEnd_of (by simp only [cT, aP, Nat.reduceLT, Nat.reduceEqDiff, if_true, if_false]; rw [hlp]) ?_
    simp only [mkH_put, mkD_eq, ← hx0]
    have q1 : decide ((0 : Int) ≤ -1) = false := by decide
    have q2 : decide (((bI 32 S).length : Int) < 2) = decide ((bI 32 S).length < 2) := by rw [Bool.eq_iff_iff]; simp; omega
    rw [List.drop_length] at hw
    ((try simp only [aO, SS, bO, aM, setRange, aN, aC, aB, aF, aE, aD, aA, Nat.reduceLT, Nat.reduceEqDiff, Nat.reduceAdd, Nat.reduceMul, Nat.reduceSub, Nat.reduceLeDiff, Nat.reduceBEq, reduceCtorEq, q1]); (repeat' ((first | apply aJ | apply aI | apply aL | apply aK | apply aH | apply aG) <;> intro h <;> simp only [h, SS, bO, aM, setRange, aN, aC, aB, aF, aE, aD, aA, Nat.reduceLT, Nat.reduceEqDiff, Nat.reduceAdd, Nat.reduceMul, Nat.reduceSub, Nat.reduceLeDiff, Nat.reduceBEq, reduceCtorEq, q1])))
    refine bV (Top.draw mixed aV (by kernel_rfl) ?_)
    ((try simp only [aO, SS, bO, aM, setRange, aN, aC, aB, aF, aE, aD, aA, Nat.reduceLT, Nat.reduceEqDiff, Nat.reduceAdd, Nat.reduceMul, Nat.reduceSub, Nat.reduceLeDiff, Nat.reduceBEq, reduceCtorEq, q2]); (repeat' ((first | apply aJ | apply aI | apply aL | apply aK | apply aH | apply aG) <;> intro h <;> simp only [h, SS, bO, aM, setRange, aN, aC, aB, aF, aE, aD, aA, Nat.reduceLT, Nat.reduceEqDiff, Nat.reduceAdd, Nat.reduceMul, Nat.reduceSub, Nat.reduceLeDiff, Nat.reduceBEq, reduceCtorEq, q2])))
    refine ⟨by kernel_rfl, ?_⟩
    ((try simp only [aO, SS, bO, aM, setRange, aN, aC, aB, aF, aE, aD, aA, Nat.reduceLT, Nat.reduceEqDiff, Nat.reduceAdd, Nat.reduceMul, Nat.reduceSub, Nat.reduceLeDiff, Nat.reduceBEq, reduceCtorEq]); (repeat' ((first | apply aJ | apply aI | apply aL | apply aK | apply aH | apply aG) <;> intro h <;> simp only [h, SS, bO, aM, setRange, aN, aC, aB, aF, aE, aD, aA, Nat.reduceLT, Nat.reduceEqDiff, Nat.reduceAdd, Nat.reduceMul, Nat.reduceSub, Nat.reduceLeDiff, Nat.reduceBEq, reduceCtorEq])))
    refine cL (es := [.int .i64 (S.length : Nat), .bool (decide ((bI 32 S).length < 2))]) (.inl rfl) (by simp only [mkD_defers, takeAll, cT, aP, Nat.reduceLT, Nat.reduceEqDiff, if_true, if_false, mkH_put]; rfl) (by simp only [SS, bO, aM, setRange, aN, aC, aB, aF, aE, aD, aA, Nat.reduceLT, Nat.reduceEqDiff, Nat.reduceAdd, Nat.reduceMul, Nat.reduceSub, Nat.reduceLeDiff, Nat.reduceBEq, reduceCtorEq]) ?_
    refine ⟨_, HV.of ?_, by simp only [fwE, hw, cW] at hk; exact hk⟩
    simp [aP]
end Go.Ev
