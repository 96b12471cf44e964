import Derived.Test.YtdhnjbgggkdiiaaGreatDoorParseV
set_option linter.unusedSimpArgs false
set_option linter.unusedVariables false
namespace Go.Ev
open Go.RowKit Go.Proofs
set_option linter.defProp false
def TF164Iter := And.intro (And.intro (And.intro (And.intro (@Tryz.underlying3) (@sz3)) (And.intro (@bN) (@I3s))) (And.intro (And.intro (@I3b) (@bL)) (And.intro (@bO) (@Tryz.underlying9)))) (And.intro (And.intro (And.intro (@sz9) (@bI)) (And.intro (@I9s) (@I9b))) (And.intro (And.intro (@bH) (@bJ)) (And.intro (@call165) (@Tryz.results164))))
set_option maxRecDepth 20000
set_option maxHeartbeats 8000000

/-! the words of a string, gone over -/
theorem headB_no (l : List Nat) : ∀ x ∈ cW l, x ≠ 32 := by
  induction l with
  | nil => intro x hx; cases hx
  | cons b l ih =>
    by_cases hb : b = 32
    · subst hb; intro x hx; simp [cW] at hx
    · have h2 : cW (b :: l) = b :: cW l := by simp [cW, hb]
      rw [h2]
      intro x hx
      rcases List.mem_cons.1 hx with rfl | hx
      · exact hb
      · exact ih x hx
theorem cutB : ∀ {l : List Nat}, hasB32 l = true → l = cW l ++ 32 :: tailB l
  | [], h => by simp [hasB32] at h
  | b :: l, h => by
    by_cases hb : b = 32
    · subst hb; simp [cW, tailB]
    · have h1 : hasB32 (b :: l) = hasB32 l := by simp [hasB32, hb]
      have h2 : cW (b :: l) = b :: cW l := by simp [cW, hb]
      have h3 : tailB (b :: l) = tailB l := by simp [tailB, h2]
      rw [h2, h3, List.cons_append, ← cutB (by rw [← h1]; exact h)]
theorem splitB_yes {l : List Nat} (h : hasB32 l = true) : aT 32 l = cW l :: aT 32 (tailB l) := by
  conv => lhs; rw [cutB h]
  exact splitC_cut (headB_no l)
theorem splitB_no {l : List Nat} (h : hasB32 l = false) : aT 32 l = [l] := splitC_word fun x hx e => by
  subst e
  have : hasB32 l = true := List.any_eq_true.2 ⟨32, hx, by simp⟩
  rw [h] at this; cases this
theorem tail_drop {S : List Nat} {a : Nat} : tailB (S.drop a) = S.drop (a + ((cW (S.drop a)).length + 1)) := by rw [tailB, List.drop_drop]

abbrev KW : Table := [(165, F165), (138, F138), (130, F130), (139, F139), (140, F140), (141, F141), (18, F18)]
theorem ct164 {S : List Nat} {bx yid m : Nat} {kk : List (Nat × Option (Nat × TypeId))} {INV : Nat → Nat → Nat → List (Nat × Option EObj) → Prop} {STOP : Nat → List (Nat × Option EObj) → Prop} {N0 : Nat} {l0 : List (Nat × Option EObj)} {k : EVal → H → Prop}
    (hS : S.length ≤ 5000) (hbx : bx < 16000) (hb : ∀ i a N l, INV i a N l → aB l bx = some (.row [.str S] 9 0 0 false)) (h0 : INV 0 0 N0 l0)
    (hR : ∀ (i a N : Nat) (l : List (Nat × Option EObj)) (w : List Nat) (k : EVal → H → Prop), INV i a N l → a ≤ S.length → i ≤ a → (aT 32 S)[i]? = some w →
      (∀ N' l', INV (i + 1) (a + w.length + 1) N' l' → k (.bool true) (mkH N' l' m kk)) → (∀ N' l', STOP N' l' → k (.bool false) (mkH N' l' m kk)) →
      RoundT Tryz.prog gT (dU KW) yid [.int .i64 (a : Nat), .str w] (mkH N l m kk) k)
    (hkS : ∀ N l, STOP N l → k (.tup []) (mkH N l m kk)) (hkE : ∀ a N l, INV (aT 32 S).length a N l → k (.tup []) (mkH N l m kk)) :
    bS Tryz.prog gT (dU KW) 164 [.yieldf yid, .ptr bx 0] (mkH N0 l0 m kk) k := by
  refine bS.intro Tryz.func164 rfl ?_
  refine Top.view (aH.start (n := 29) rfl (by simp)) (aD aI _ _ _ _ ?_)
  (try simp only [aG, SS, aA, Nat.reduceLT])
  refine aU (Top.loop (I := fun s : { x : Nat × Nat × Nat × List (Nat × Option EObj) // x.2.1 ≤ S.length ∧ x.1 ≤ x.2.1 ∧ aT 32 (S.drop x.2.1) = (aT 32 S).drop x.1 ∧ INV x.1 x.2.1 x.2.2.1 x.2.2.2 } => (mkF 29 [(3, .int .i64 (s.1.2.1 : Nat)), (1, .ptr bx 0), (0, .yieldf yid)], mkH s.1.2.2.1 s.1.2.2.2 m kk)) (μ := fun s => S.length - s.1.2.1) ⟨(0, 0, N0, l0), by simp, by simp, by simp, h0⟩ (aH.sub (by simp [look])) ?_)
  rintro ⟨⟨i, a, N, l⟩, ha, hia, hsp, hI⟩
  dsimp only at ha hia hsp hI
  refine aD aI _ _ _ _ ?_
  dsimp only
  have hbl := hb _ _ _ _ hI
  have b1 : ((a : Int) ≤ (S.length : Int)) = True := by simp; omega
  have t2 : S.take S.length = S := List.take_length
  have u32 : UInt8.toNat 32 = 32 := rfl
  have h165 := e165 (l := S.drop a) (by simp; omega)
  unfold cutE at h165
  cases hh : hasB32 (S.drop a) with
  | true =>
    rw [if_pos hh] at h165
    rw [splitB_yes hh, tail_drop] at hsp
    have hlt := headB_len hh
    rw [List.length_drop] at hlt
    have hwi : (aT 32 S)[i]? = some (cW (S.drop a)) := by
      have : ((aT 32 S).drop i)[0]? = some (cW (S.drop a)) := by rw [← hsp]; rfl
      simpa using this
    have hd : aT 32 (S.drop (a + (cW (S.drop a)).length + 1)) = (aT 32 S).drop (i + 1) := by
      have := congrArg (List.drop 1) hsp
      simpa [Nat.add_assoc] using this
    generalize cW (S.drop a) = w at *
    have w1 : IntKind.i64.wrap ((w.length : Int) + ((1 : Nat) : Int)) = ((w.length + 1 : Nat) : Int) := by rw [aR] <;> omega
    have w1' : IntKind.i64.wrap ((w.length : Int) + 1) = ((w.length + 1 : Nat) : Int) := by rw [aR] <;> omega
    have w2 : IntKind.i64.wrap ((a : Int) + ((w.length + 1 : Nat) : Int)) = ((a + (w.length + 1) : Nat) : Int) := by rw [aR] <;> omega
    (try simp only [SS, TF164Iter, aF, aA, aQ, Nat.reduceLT, Nat.reduceEqDiff, reduceCtorEq, hbx, hbl, b1, t2, u32, h165])
    refine hR i a N l w _ hI ha hia hwi ?_ ?_
    · intro N' l' hI'
      (try simp only [SS, TF164Iter, aA, Nat.reduceLT, Nat.reduceEqDiff, reduceCtorEq, w1', w2])
      refine ⟨⟨(i + 1, a + (w.length + 1), N', l'), by show a + (w.length + 1) ≤ _; omega, by show i + 1 ≤ a + (w.length + 1); omega, hd, hI'⟩, by show S.length - (a + (w.length + 1)) < S.length - a; omega, aH.sub (by simp [look])⟩
    · intro N' l' hS'
      (try simp only [SS, aA, Nat.reduceLT, Nat.reduceEqDiff, reduceCtorEq])
      exact bX (.inl rfl) rfl rfl (hkS _ _ hS')
  | false =>
    rw [if_neg (by rw [hh]; simp)] at h165
    rw [splitB_no hh] at hsp
    have hwi : (aT 32 S)[i]? = some (S.drop a) := by
      have : ((aT 32 S).drop i)[0]? = some (S.drop a) := by rw [← hsp]; rfl
      simpa using this
    have hln : i + 1 = (aT 32 S).length := by
      have := congrArg List.length hsp
      simp only [List.length_cons, List.length_nil, List.length_drop] at this
      omega
    (try simp only [SS, TF164Iter, aF, aA, aQ, Nat.reduceLT, Nat.reduceEqDiff, reduceCtorEq, hbx, hbl, b1, t2, u32, h165])
    refine hR i a N l _ _ hI ha hia hwi ?_ ?_
    · intro N' l' hI'
      rw [hln] at hI'
      (try simp only [SS, aA, Nat.reduceLT, Nat.reduceEqDiff, reduceCtorEq])
      exact bX (.inl rfl) rfl rfl (hkE _ _ _ hI')
    · intro N' l' hS'
      (try simp only [SS, aA, Nat.reduceLT, Nat.reduceEqDiff, reduceCtorEq])
      exact bX (.inl rfl) rfl rfl (hkS _ _ hS')
end Go.Ev
namespace Go.Ev
open Go.RowKit Go.Proofs
set_option linter.defProp false
def TF99FindW := And.intro (And.intro (And.intro (And.intro (@Tryz.underlying3) (@sz3)) (And.intro (@bN) (@I3s))) (And.intro (And.intro (@I3b) (@bL)) (And.intro (@bO) (And.intro (@Tryz.underlying9) (@sz9))))) (And.intro (And.intro (And.intro (@bI) (@I9s)) (And.intro (@I9b) (And.intro (@bH) (@bJ)))) (And.intro (And.intro (@call130) (@call137)) (And.intro (@call138) (And.intro (@call139) (@Tryz.results99)))))
def TF137FindW := And.intro (And.intro (And.intro (@Tryz.underlying9) (@sz9)) (And.intro (@bI) (@I9s))) (And.intro (And.intro (@I9b) (@bH)) (And.intro (@bJ) (@Tryz.results137)))
set_option maxRecDepth 20000
set_option maxHeartbeats 8000000

/-! the first wrong word -/
theorem setParams_two {n p q : Nat} {l : List (Nat × EVal)} {v u : EVal} (hp : p < n) (hq : q < n) : setParams n (T.ofL l) [p, q] [v, u] = some (T.ofL ((q, u) :: (p, v) :: l)) := by
  simp only [setParams, Bool.cond_eq_ite, Nat.blt_eq, hp, hq, if_true]; rfl
section
variable {P : Program} {g : G} {K : bP}
theorem roundExit_of {lp : EObj} {id n d i : Nat} {a b : Code} {k : EVal → H → Prop} {f : EFr} {h : H} {t : T EVal} {ps : List Tmp} (hlp : lp = .loop .ready none n t ps a b d) (hg : h.get id = some (cN .busy none lp))
    (hk : k (.bool false) (h.put id (cN .done (some (.exit i)) lp))) : roundEnd id k (.exit i) f h := by
  subst hlp
  unfold roundEnd
  rw [hg]; exact hk
theorem rangeExit_of {lp : EObj} {id n d i : Nat} {a b : Code} {v : EVal} {f1 : EFr} {Q : cT} {h : H} {t : T EVal} {ps : List Tmp} (hlp : lp = .loop .ready none n t ps a b d) (hg : h.get id = some (cN .done (some (.exit i)) lp))
    (hk : Q (.exit i) f1 (h.put id (cN .exhausted (some (.exit i)) lp))) : rangeEnd id f1 Q v h := by
  subst hlp
  unfold rangeEnd
  rw [hg]; exact ⟨by simp [], hk⟩
end
theorem ct137 {S : List Nat} {N m : Nat} {l : List (Nat × Option EObj)} {kk : List (Nat × Option (Nat × TypeId))} {k : EVal → H → Prop} (hN : N < 16000)
    (hk : k (.func 164 [.ptr N 0]) (mkH (N + 1) ((N, some (.row [.str S] 9 0 0 false)) :: l) m kk)) : bS Tryz.prog gT (dU KW) 137 [.str S] (mkH N l m kk) k := by
  refine bS.intro Tryz.func137 rfl ?_
  refine Top.view (aH.start (n := 4) rfl (by simp)) (aD aI _ _ _ _ ?_)
  have e1 : ∀ (h : H) (cs : List EVal), eMakeFunc h 164 #[] (some cs) = some (.val (.func 164 cs) h) := fun _ _ => rfl
  (try simp only [aG, SS, aA, Nat.reduceLT, Nat.reduceEqDiff, reduceCtorEq, e1])
  exact bX (es := [.func 164 [.ptr N 0]]) (.inl rfl) rfl (by simp only [SS, TF137FindW, Nat.reduceLT, Nat.reduceEqDiff, reduceCtorEq]) hk
def fwE (S : List Nat) : EVal := match cO 0 0 (aT 32 S) with
  | some a => .tup [.int .i64 (a : Nat), .bool true]
  | none => .tup [.int .i64 (S.length : Nat), .bool (decide ((aT 32 S).length < 2))]
theorem ct99 {S : List Nat} {m : Nat} {o : EObj} {k : EVal → H → Prop} (hby : aM S = true) (hS : S.length ≤ 5000)
    (hk : k (fwE S) (mkH 6 [(0, some o)] m [])) : bS Tryz.prog gT (dU KW) 99 [.str S] (mkH 1 [(0, some o)] m []) k := by
  refine bS.out (bS.intro Tryz.func99 rfl ?_)
  refine Top.view (aH.start (n := 48) rfl (by simp)) (aD aI _ _ _ _ ?_)
  (try simp only [aG, SS, TF99FindW, setRange, aA, Nat.reduceLT, Nat.reduceEqDiff, Nat.reduceAdd, reduceCtorEq, ↓bA])
  refine ct137 (by omega) ?_
  (try simp only [SS, Nat.reduceLT, Nat.reduceAdd])
  refine wp_of_range (Top.rangeFunc (kf := 164) (caps := [.ptr 3 0]) aI (by simp only [ev_tmp, T.get_ofL, look, Nat.reduceLT, Nat.reduceEqDiff, if_true, if_false]) (by kernel_rfl) ?_)
  simp only [mkH_n, mkH_new, Nat.reduceAdd]
  refine bS.capture fun lp hlp hb hx0 => ?_
  have hsl := split_len (c := 32) S
  refine bS.inn (HV.of (l2 := [(5, some lp), (4, some (.deferred false)), (3, some (.row [.str S] 9 0 0 false)), (2, some (.row [.int .i64 ((0 : Nat) : Int)] 3 0 0 false)), (1, some (.row [.int .i64 (-1)] 3 0 0 false)), (0, some o)]) (by simp [aB])) ?_
  refine ct164 (S := S) (INV := fun i a N l => cO 0 0 (aT 32 S) = cO i a ((aT 32 S).drop i) ∧ N = 6 ∧ l = [(5, some lp), (4, some (.deferred false)), (3, some (.row [.str S] 9 0 0 false)), (2, some (.row [.int .i64 (i : Nat)] 3 0 0 false)), (1, some (.row [.int .i64 (-1)] 3 0 0 false)), (0, some o)])
    (STOP := fun N l => ∃ i a : Nat, cO 0 0 (aT 32 S) = some a ∧ N = 6 ∧ a ≤ S.length ∧ l = [(5, some (cN .done (some (.exit 0)) lp)), (4, some (.deferred false)), (3, some (.row [.str S] 9 0 0 false)), (2, some (.row [.int .i64 (i : Nat)] 3 0 0 false)), (1, some (.row [.int .i64 (a : Nat)] 3 0 0 false)), (0, some o)])
    hS (by omega) ?_ ⟨rfl, rfl, rfl⟩ ?_ ?_ ?_
  · rintro i a N l ⟨_, rfl, rfl⟩
    simp [aB]
  · rintro i a N l w k ⟨hw, rfl, rfl⟩ ha hia hwi hkT hkF
    rw [wrongAt_drop hwi] at hw
    have hmem : w ∈ aT 32 S := List.mem_of_getElem? hwi
    have hwb := split_bytes hby w hmem
    have hwl : w.length ≤ 5001 := by have := lenS_mem hmem; omega
    refine RoundT.out ?_
    refine RoundT.intro (by simp only [cB, aB, Nat.reduceLT, Nat.reduceEqDiff, if_true, if_false]; rw [hlp]) (setParams_two (by omega) (by omega)) ?_
    simp only [mkD_eq, mkH_n]
    refine aD aI _ _ _ _ ?_
    (try simp only [SS, aA, Nat.reduceLT, Nat.reduceEqDiff, reduceCtorEq])
    refine roundMid_of (by simp only [cB, aB, Nat.reduceLT, Nat.reduceEqDiff, if_true, if_false]; rw [hlp]) ?_
    simp only [mkH_put, ← hb]
    refine Top.unview (aD aI _ _ _ _ ?_)
    have h138 : F138 [.str w] = some (.bool (pitW w)) := by simp only [F138]; rw [if_pos ⟨hwb, by omega⟩]
    have h139 : F139 [.str w] = some (.bool (mvW w)) := by simp only [F139]; rw [if_pos ⟨hwb, by omega⟩]
    have h130 : F130 [.str w] = some (.bool (isEv w)) := by simp only [F130]; rw [if_pos hwb]
    have u45 : UInt8.toNat 45 = 45 := rfl
    have w1 : IntKind.i64.wrap ((i : Int) + 1) = ((i + 1 : Nat) : Int) := by rw [aR] <;> omega
    have w1' : IntKind.i64.wrap ((i : Int) + ((1 : Nat) : Int)) = ((i + 1 : Nat) : Int) := by rw [aR] <;> omega
    have hT : cR i w = true → ∀ fl, aS (some 6) Tryz.prog (roundEnd 5 fun v h' => ∃ h2, HV Tryz.prog h' h2 ∧ k v h2) .normal (mkD 48 fl [] (some 5)) (mkH 6 [(2, some (.row [.int .i64 ((i + 1 : Nat) : Int)] 3 0 0 false)), (5, some (cN .busy none lp)), (5, some lp), (4, some (.deferred false)), (3, some (.row [.str S] 9 0 0 false)), (2, some (.row [.int .i64 (i : Nat)] 3 0 0 false)), (1, some (.row [.int .i64 (-1)] 3 0 0 false)), (0, some o)] m []) := by
      intro hr fl
      rw [if_pos hr] at hw
      refine ⟨_, _, aH.subD (l2 := []) (by simp), roundEnd_of (by simp only [cB, aB, Nat.reduceLT, Nat.reduceEqDiff, if_true, if_false]; rw [hb]) ?_⟩
      simp only [mkH_put, ← hlp]
      refine ⟨_, HV.of ?_, hkT _ _ ⟨hw, rfl, rfl⟩⟩
      simp [aB]
    have hF : cR i w = false → ∀ fl, aS (some 6) Tryz.prog (roundEnd 5 fun v h' => ∃ h2, HV Tryz.prog h' h2 ∧ k v h2) (.exit 0) (mkD 48 fl [] (some 5)) (mkH 6 [(1, some (.row [.int .i64 (a : Nat)] 3 0 0 false)), (5, some (cN .busy none lp)), (5, some lp), (4, some (.deferred false)), (3, some (.row [.str S] 9 0 0 false)), (2, some (.row [.int .i64 (i : Nat)] 3 0 0 false)), (1, some (.row [.int .i64 (-1)] 3 0 0 false)), (0, some o)] m []) := by
      intro hr fl
      rw [if_neg (by rw [hr]; simp)] at hw
      refine ⟨_, _, aH.subD (l2 := []) (by simp), roundExit_of hlp (by simp only [cB, aB, Nat.reduceLT, Nat.reduceEqDiff, if_true, if_false]) ?_⟩
      simp only [mkH_put]
      refine ⟨_, HV.of ?_, hkF _ _ ⟨i, a, hw, rfl, ha, rfl⟩⟩
      simp [aB]
    by_cases h0 : i = 0
    · have q0 : ((i : Int) == 0) = true := by simp [h0]
      have hr : cR i w = pitW w := by simp [cR, h0]
      cases hp : pitW w with
      | true =>
        rw [hp] at h138 hr
        (try simp only [SS, TF99FindW, aF, setRange, aA, Nat.reduceLT, Nat.reduceEqDiff, reduceCtorEq, q0, h138, w1])
        exact hT hr _
      | false =>
        rw [hp] at h138 hr
        (try simp only [SS, TF99FindW, aF, setRange, aA, Nat.reduceLT, Nat.reduceEqDiff, reduceCtorEq, q0, h138])
        exact hF hr _
    have q0 : ((i : Int) == 0) = false := by simp; omega
    by_cases h1 : i = 1
    · have q1 : ((i : Int) == 1) = true := by simp [h1]
      have hr : cR i w = (decide (w = [45]) || isEv w) := by simp [cR, h1]
      cases hd : decide (w = [45]) with
      | true =>
        rw [hd, Bool.true_or] at hr
        (try simp only [SS, TF99FindW, setRange, aA, Nat.reduceLT, Nat.reduceEqDiff, reduceCtorEq, q0, q1, u45, hd, w1])
        exact hT hr _
      | false =>
        rw [hd, Bool.false_or] at hr
        cases hp : isEv w with
        | true =>
          rw [hp] at h130 hr
          (try simp only [SS, TF99FindW, aF, setRange, aA, Nat.reduceLT, Nat.reduceEqDiff, reduceCtorEq, q0, q1, u45, hd, h130, w1])
          exact hT hr _
        | false =>
          rw [hp] at h130 hr
          (try simp only [SS, TF99FindW, aF, setRange, aA, Nat.reduceLT, Nat.reduceEqDiff, reduceCtorEq, q0, q1, u45, hd, h130])
          exact hF hr _
    have q1 : ((i : Int) == 1) = false := by simp; omega
    have v1 : UInt8.toNat 108 = 108 := rfl
    have v2 : UInt8.toNat 97 = 97 := rfl
    have v3 : UInt8.toNat 116 = 116 := rfl
    have v4 : UInt8.toNat 101 = 101 := rfl
    by_cases h2 : i = 2
    · have q2 : ((i : Int) == 2) = true := by simp [h2]
      have hr : cR i w = (decide (w = [108, 97, 116, 101]) || mvW w) := by rw [cR, if_neg h0, if_neg h1, if_pos h2]; rfl
      cases hd : decide (w = [108, 97, 116, 101]) with
      | true =>
        rw [hd, Bool.true_or] at hr
        (try simp only [SS, TF99FindW, setRange, aA, Nat.reduceLT, Nat.reduceEqDiff, reduceCtorEq, q0, q1, q2, v1, v2, v3, v4, hd, w1])
        exact hT hr _
      | false =>
        rw [hd, Bool.false_or] at hr
        cases hp : mvW w with
        | true =>
          rw [hp] at h139 hr
          (try simp only [SS, TF99FindW, aF, setRange, aA, Nat.reduceLT, Nat.reduceEqDiff, reduceCtorEq, q0, q1, q2, v1, v2, v3, v4, hd, h139, w1])
          exact hT hr _
        | false =>
          rw [hp] at h139 hr
          (try simp only [SS, TF99FindW, aF, setRange, aA, Nat.reduceLT, Nat.reduceEqDiff, reduceCtorEq, q0, q1, q2, v1, v2, v3, v4, hd, h139])
          exact hF hr _
    have q2 : ((i : Int) == 2) = false := by simp; omega
    have hr : cR i w = mvW w := by simp [cR, h0, h1, h2]
    cases hp : mvW w with
    | true =>
      rw [hp] at h139 hr
      (try simp only [SS, TF99FindW, aF, setRange, aA, Nat.reduceLT, Nat.reduceEqDiff, reduceCtorEq, q0, q1, q2, h139, w1])
      exact hT hr _
    | false =>
      rw [hp] at h139 hr
      (try simp only [SS, TF99FindW, aF, setRange, aA, Nat.reduceLT, Nat.reduceEqDiff, reduceCtorEq, q0, q1, q2, h139])
      exact hF hr _
  · rintro N l ⟨i, a, hw, rfl, ha, rfl⟩
    refine rangeExit_of (i := 0) hlp (by simp only [cB, aB, Nat.reduceLT, Nat.reduceEqDiff, if_true, if_false]) ?_
    simp only [mkH_put, mkD_eq]
    have q1 : decide ((0 : Int) ≤ (a : Int)) = true := by simp
    (try simp only [SS, TF99FindW, aA, Nat.reduceLT, Nat.reduceEqDiff, reduceCtorEq])
    refine bX (es := [.int .i64 (a : Nat), .bool true]) (.inl rfl) (by simp only [mkD_defers, takeAll, cB, aB, Nat.reduceLT, Nat.reduceEqDiff, if_true, if_false, mkH_put]; rfl) (by simp only [SS, TF99FindW, Nat.reduceLT, Nat.reduceEqDiff, reduceCtorEq]) ?_
    refine ⟨_, HV.of ?_, by simp only [fwE, hw] at hk; exact hk⟩
    simp [aB]
  · rintro a N l ⟨hw, rfl, rfl⟩
    refine rangeEnd_of (by simp only [cB, aB, Nat.reduceLT, Nat.reduceEqDiff, if_true, if_false]; rw [hlp]) ?_
    simp only [mkH_put, mkD_eq, ← hx0]
    have q1 : decide ((0 : Int) ≤ -1) = false := by decide
    have q2 : decide (((aT 32 S).length : Int) < 2) = decide ((aT 32 S).length < 2) := by rw [Bool.eq_iff_iff]; simp; omega
    rw [List.drop_length] at hw
    (try simp only [SS, TF99FindW, aA, Nat.reduceLT, Nat.reduceEqDiff, reduceCtorEq, q1])
    refine aX (Top.draw mixed aI (by kernel_rfl) ?_)
    (try simp only [SS, TF99FindW, Nat.reduceLT, Nat.reduceEqDiff, reduceCtorEq, q2])
    refine ⟨by kernel_rfl, ?_⟩
    (try simp only [aG, SS, TF99FindW, aF, setRange, bQ, aA, aL, bB, aQ, aO, aE, Nat.reduceLT, Nat.reduceEqDiff, Nat.reduceAdd, Nat.reduceMul, Nat.reduceSub, Nat.reduceLeDiff, Nat.reduceBEq, reduceCtorEq])
    refine bX (es := [.int .i64 (S.length : Nat), .bool (decide ((aT 32 S).length < 2))]) (.inl rfl) (by simp only [mkD_defers, takeAll, cB, aB, Nat.reduceLT, Nat.reduceEqDiff, if_true, if_false, mkH_put]; rfl) (by simp only [SS, TF99FindW, Nat.reduceLT, Nat.reduceEqDiff, reduceCtorEq]) ?_
    refine ⟨_, HV.of ?_, by simp only [fwE, hw, cO] at hk; exact hk⟩
    simp [aB]
end Go.Ev
