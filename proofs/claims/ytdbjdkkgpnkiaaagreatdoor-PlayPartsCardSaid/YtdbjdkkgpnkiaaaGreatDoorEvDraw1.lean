import Derived.Test.YtdbjdkkgpnkiaaaGreatDoorEvRun
import Derived.Orders
set_option linter.unusedSimpArgs false
set_option linter.unusedVariables false
namespace Go.Ev
open Go.RowKit

/-! equality of values -/
mutual
theorem EVal.beq_eq : ∀ {a b : EVal}, EVal.beq a b = true → a = b
  | .unk, .unk, _ => rfl
  | .bool a, .bool b, h => by simp [EVal.beq] at h; rw [h]
  | .int k a, .int k' b, h => by simp [EVal.beq] at h; rw [h.1, h.2]
  | .str a, .str b, h => by simp [EVal.beq] at h; rw [h]
  | .nilp, .nilp, _ => rfl
  | .gptr a b, .gptr c d, h => by simp [EVal.beq] at h; rw [h.1, h.2]
  | .ptr a b, .ptr c d, h => by simp [EVal.beq] at h; rw [h.1, h.2]
  | .nilslice, .nilslice, _ => rfl
  | .slice a b c x, .slice d e f y, h => by simp [EVal.beq] at h; obtain ⟨⟨⟨rfl, rfl⟩, rfl⟩, rfl⟩ := h; rfl
  | .nilmap, .nilmap, _ => rfl
  | .map a, .map b, h => by simp [EVal.beq] at h; rw [h]
  | .nilfunc, .nilfunc, _ => rfl
  | .nilif, .nilif, _ => rfl
  | .func f a, .func f' b, h => by
    simp [EVal.beq] at h
    rw [h.1, beqL_eq h.2]
  | .yieldf a, .yieldf b, h => by simp [EVal.beq] at h; rw [h]
  | .iface t a, .iface u b, h => by
    simp [EVal.beq] at h
    rw [h.1, EVal.beq_eq h.2]
  | .agg a, .agg b, h => by simp only [EVal.beq] at h; rw [beqL_eq h]
  | .tup a, .tup b, h => by simp only [EVal.beq] at h; rw [beqL_eq h]
  | .lsl a, .lsl b, h => by simp only [EVal.beq] at h; rw [beqLL_eq h]
  | .lptr a i, .lptr b j, h => by
    simp [EVal.beq] at h
    rw [h.1, beqL_eq h.2]
  | .gsl i a, .gsl j b, h => by
    simp [EVal.beq] at h
    rw [h.1, beqLL_eq h.2]
theorem beqL_eq : ∀ {a b : List EVal}, beqL a b = true → a = b
  | [], [], _ => rfl
  | a :: l, b :: m, h => by
    simp only [beqL, Bool.and_eq_true] at h
    rw [EVal.beq_eq h.1, beqL_eq h.2]
theorem beqLL_eq : ∀ {a b : List (List EVal)}, beqLL a b = true → a = b
  | [], [], _ => rfl
  | a :: l, b :: m, h => by
    simp only [beqLL, Bool.and_eq_true] at h
    rw [beqL_eq h.1, beqLL_eq h.2]
end

/-! sets of operations, as numbers -/
theorem hasB_eq (m i : Nat) : hasB m i = m.testBit i := by
  unfold hasB
  show (!Nat.beq (1 &&& (m >>> i)) 0) = _
  unfold Nat.testBit
  cases h : (1 &&& (m >>> i)) with
  | zero => rfl
  | succ n => rfl

theorem nthM_nil (i : Nat) : nthM [] i = 0 := rfl
theorem nthM_cons (x : Nat) (l : List Nat) (i : Nat) : nthM (x :: l) i = bif Nat.beq i 0 then x else nthM l (Nat.pred i) := rfl

theorem orAll_spec {A : List Nat} : ∀ {l : List Nat} {j : Nat}, hasB (orAll A l) j = true → j ∈ l ∨ ∃ q ∈ l, hasB (nthM A q) j = true
  | [], j, h => by
    rw [hasB_eq] at h
    have : orAll A [] = 0 := rfl
    rw [this, Nat.zero_testBit] at h; cases h
  | x :: l, j, h => by
    have e : orAll A (x :: l) = ((1 <<< x) ||| nthM A x) ||| orAll A l := rfl
    rw [hasB_eq, e, Nat.testBit_or, Nat.testBit_or, Bool.or_eq_true, Bool.or_eq_true] at h
    rcases h with (h | h) | h
    · rw [Nat.testBit_shiftLeft, Bool.and_eq_true] at h
      obtain ⟨h1, h2⟩ := h
      simp only [ge_iff_le, decide_eq_true_eq] at h1
      have : j - x = 0 := by
        cases hq : j - x with
        | zero => rfl
        | succ n => rw [hq] at h2; simp [Nat.testBit_succ] at h2
      have : j = x := by omega
      subst this
      exact .inl (.head _)
    · exact .inr ⟨x, .head _, by rw [hasB_eq]; exact h⟩
    · rcases orAll_spec (l := l) (by rw [hasB_eq]; exact h) with h | ⟨q, hq, h⟩
      · exact .inl (.tail _ h)
      · exact .inr ⟨q, .tail _ hq, h⟩

theorem allLt_spec {i : Nat} : ∀ {l : List Nat}, allLt i l = true → ∀ j ∈ l, j < i
  | [], _, j, h => by cases h
  | x :: l, h, j, hj => by
    have e : allLt i (x :: l) = bif Nat.blt x i then allLt i l else false := rfl
    rw [e, Bool.cond_eq_ite] at h
    split at h
    · rename_i hx
      rcases List.mem_cons.1 hj with rfl | hj
      · simpa using hx
      · exact allLt_spec h j hj
    · cases h

theorem ancOK_spec {A : List Nat} : ∀ {l : List Oper} {k : Nat}, ancOK A l k = true → ∀ i o, l[i]? = some o →
    (∀ j, hasB (nthM A (k + i)) j = true → j ∈ directs o ∨ ∃ q ∈ directs o, hasB (nthM A q) j = true) ∧ ∀ j ∈ directs o, j < k + i
  | [], _, _, i, o, h => by simp at h
  | x :: l, k, hk, i, o, h => by
    have e : ancOK A (x :: l) k = bif Nat.beq (nthM A k) (orAll A (directs x)) then bif allLt k (directs x) then ancOK A l (k + 1) else false else false := rfl
    rw [e, Bool.cond_eq_ite] at hk
    split at hk
    · rename_i h1
      rw [Bool.cond_eq_ite] at hk
      split at hk
      · rename_i h2
        cases i with
        | zero =>
          simp only [List.getElem?_cons_zero, Option.some.injEq] at h; subst h
          refine ⟨fun j hj => ?_, allLt_spec h2⟩
          rw [Nat.add_zero, Nat.eq_of_beq_eq_true h1] at hj
          exact orAll_spec hj
        | succ i =>
          have := ancOK_spec hk i o (by simpa using h)
          rwa [show k + 1 + i = k + (i + 1) from by omega] at this
      · cases hk
    · cases hk

theorem fieldT_spec {n t s j : Nat} (hj : j < n) (h : hasB t (s * n + j) = true) : hasB (fieldT n t s) j = true := by
  rw [hasB_eq] at h ⊢
  show ((t >>> (s * n)) &&& ((1 <<< n) - 1)).testBit j = true
  rw [Nat.testBit_and, Nat.testBit_shiftRight, h, Nat.one_shiftLeft, Nat.testBit_two_pow_sub_one]
  simp [hj]

theorem putB_same (n t s i : Nat) : hasB (putB n t s i) (s * n + i) = true := by
  rw [hasB_eq]
  show (t ||| (1 <<< (s * n + i))).testBit (s * n + i) = true
  rw [Nat.testBit_or, Nat.testBit_shiftLeft]
  simp

theorem putB_keep {n t s i j : Nat} (h : hasB t j = true) : hasB (putB n t s i) j = true := by
  rw [hasB_eq] at h ⊢
  show (t ||| (1 <<< (s * n + i))).testBit j = true
  rw [Nat.testBit_or, h, Bool.true_or]

theorem within_spec {a m j : Nat} (h : within a m = true) (hj : hasB m j = true) : hasB a j = true := by
  rw [hasB_eq] at hj ⊢
  have h1 : (m &&& a) = m := Nat.eq_of_beq_eq_true h
  rw [← h1, Nat.testBit_and, Bool.and_eq_true] at hj
  exact hj.2

theorem readsIn_spec {n a w : Nat} : ∀ {l : List Nat}, readsIn n a w l = true → ∀ s ∈ l, within a (fieldT n w s) = true
  | [], _, s, h => by cases h
  | x :: l, h, s, hs => by
    have e : readsIn n a w (x :: l) = bif within a (fieldT n w x) then readsIn n a w l else false := rfl
    rw [e, Bool.cond_eq_ite] at h
    split at h
    · rename_i h1
      rcases List.mem_cons.1 hs with rfl | hs
      · exact h1
      · exact readsIn_spec h s hs
    · cases h

theorem putAll_keep {n i : Nat} : ∀ {l : List Nat} {t j : Nat}, hasB t j = true → hasB (putAll n i l t) j = true
  | [], _, _, h => h
  | x :: l, t, j, h => putAll_keep (l := l) (putB_keep h)

theorem putAll_same {n i : Nat} : ∀ {l : List Nat} {t s : Nat}, s ∈ l → hasB (putAll n i l t) (s * n + i) = true
  | x :: l, t, s, h => by
    rcases List.mem_cons.1 h with rfl | h
    · exact putAll_keep (l := l) (putB_same _ _ _ _)
    · exact putAll_same (l := l) h

theorem putD_keep {n t i j : Nat} {d : Option Tmp} (h : hasB t j = true) : hasB (putD n t i d) j = true := by
  cases d with
  | none => exact h
  | some s => exact putB_keep h

/-- Two operations that touch one slot, one of them writing. -/
def Meets (ops : Array Oper) (x y : Oper) : Prop := ∃ s, (x.dst = some s ∧ (s ∈ readsOf ops y ∨ y.dst = some s)) ∨ (y.dst = some s ∧ s ∈ readsOf ops x)

theorem pairsGo_spec {ops : Array Oper} {A : List Nat} {n : Nat} : ∀ {l pre : List Oper} {w q : Nat}, pairsGo ops A n l pre.length w q = true → pre.length + l.length ≤ n →
    (∀ j x s, pre[j]? = some x → x.dst = some s → hasB w (s * n + j) = true) → (∀ j x s, pre[j]? = some x → s ∈ readsOf ops x → hasB q (s * n + j) = true) →
    ∀ i j x y, (pre ++ l)[i]? = some x → (pre ++ l)[j]? = some y → pre.length ≤ j → i < j → Meets ops x y → hasB (nthM A j) i = true
  | [], pre, w, q, _, _, _, _, i, j, x, y, hx, hy, hj, _, _ => by
    rw [List.append_nil] at hy
    have := (List.getElem?_eq_some_iff.1 hy).1
    omega
  | o :: l, pre, w, q, hg, hn, hw, hq, i, j, x, y, hx, hy, hj, hij, hm => by
    have e : pairsGo ops A n (o :: l) pre.length w q = bif readsIn n (nthM A pre.length) w (readsOf ops o) then bif dstIn n (nthM A pre.length) w q o.dst then pairsGo ops A n l (pre.length + 1) (putD n w pre.length o.dst) (putAll n pre.length (readsOf ops o) q) else false else false := rfl
    rw [e, Bool.cond_eq_ite] at hg
    split at hg
    rotate_left
    · cases hg
    rename_i h1
    rw [Bool.cond_eq_ite] at hg
    split at hg
    rotate_left
    · cases hg
    rename_i h2
    by_cases hje : j = pre.length
    · subst hje
      have hy' : y = o := by simpa using hy.symm
      subst hy'
      have hx' : pre[i]? = some x := by rwa [List.getElem?_append_left (by omega)] at hx
      have hin : i < n := by omega
      obtain ⟨s, ⟨hd, hr | hr⟩ | ⟨hd, hr⟩⟩ := hm
      · exact within_spec (readsIn_spec h1 s hr) (fieldT_spec hin (hw i x s hx' hd))
      · unfold dstIn at h2
        rw [hr] at h2
        simp only [Bool.cond_eq_ite] at h2
        split at h2
        · rename_i h3; exact within_spec h3 (fieldT_spec hin (hw i x s hx' hd))
        · cases h2
      · unfold dstIn at h2
        rw [hd] at h2
        simp only [Bool.cond_eq_ite] at h2
        split at h2
        · exact within_spec h2 (fieldT_spec hin (hq i x s hx' hr))
        · cases h2
    · have hl : (pre ++ [o]).length = pre.length + 1 := by simp
      have ea : pre ++ o :: l = (pre ++ [o]) ++ l := by simp
      rw [ea] at hx hy
      refine pairsGo_spec (l := l) (pre := pre ++ [o]) (by rw [hl]; exact hg) (by rw [hl]; simp at hn; omega) ?_ ?_ i j x y hx hy (by rw [hl]; omega) hij hm
      · intro j' x' s hx' hd
        by_cases hlt : j' < pre.length
        · rw [List.getElem?_append_left hlt] at hx'
          exact putD_keep (hw j' x' s hx' hd)
        · have : j' = pre.length := by
            have := (List.getElem?_eq_some_iff.1 hx').1
            simp at this; omega
          subst this
          have : x' = o := by simpa using hx'.symm
          subst this
          rw [hd]
          exact putB_same _ _ _ _
      · intro j' x' s hx' hd
        by_cases hlt : j' < pre.length
        · rw [List.getElem?_append_left hlt] at hx'
          exact putAll_keep (hq j' x' s hx' hd)
        · have : j' = pre.length := by
            have := (List.getElem?_eq_some_iff.1 hx').1
            simp at this; omega
          subst this
          have : x' = o := by simpa using hx'.symm
          subst this
          exact putAll_same hd

theorem staticOK_spec {ops : Array Oper} {A : List Nat} (h : staticOK ops A = true) : ancOK A ops.toList 0 = true ∧
    ∀ (i j : Nat) (x y : Oper), ops.toList[i]? = some x → ops.toList[j]? = some y → i < j → Meets ops x y → hasB (nthM A j) i = true := by
  unfold staticOK at h
  rw [Bool.cond_eq_ite] at h
  split at h
  · rename_i h1
    refine ⟨h1, fun i j x y hx hy hij hm => ?_⟩
    exact pairsGo_spec (pre := []) h (by simp) (fun _ _ _ h => by simp at h) (fun _ _ _ h => by simp at h) i j x y (by simpa using hx) (by simpa using hy) (Nat.zero_le _) hij hm
  · cases h

theorem restr_get {t : T EVal} : ∀ {l : List Nat} {s : Nat} {e : EVal}, (restr t l).get s = some e → s ∈ l ∧ t.get s = some e
  | [], s, e, h => by have := T.get_full _ _ _ h; cases this
  | x :: l, s, e, h => by
    have h : ((restr t l).set x (t.get x)).get s = some e := h
    rcases T.get_set _ _ _ _ h with ⟨rfl, h1⟩ | ⟨_, h1⟩
    · exact ⟨.head _, h1⟩
    · have := restr_get h1
      exact ⟨.tail _ this.1, this.2⟩

section
variable {P : Program} {g : G} {K : Known} {r : Rec}

def HFree (F : H → Option EOut) : Prop := ∀ h out, F h = some out → ∃ v, out = .val v h ∧ ∀ h', F h' = some (.val v h')

theorem HFree.mk (x : Option EVal) : HFree (mk x) := by
  intro h out he
  cases x with
  | none => cases he
  | some v => simp only [Go.Ev.mk, Option.map_some, Option.some.injEq] at he; exact ⟨v, he.symm, fun _ => rfl⟩

theorem HFree.none : HFree (fun _ => none) := fun _ _ he => by cases he
theorem HFree.val (v : EVal) : HFree (fun h => some (.val v h)) := fun h out he => by
  simp only [Option.some.injEq] at he; exact ⟨v, he.symm, fun _ => rfl⟩

theorem pure_op {t : T EVal} {o : Oper} (hp : isPure o = true) : HFree (fun h => eOp P g h t o) := by
  obtain ⟨dst, op, ty, pos, after, guard⟩ := o
  cases op <;> first | (cases hp; done) | skip
  case move x => exact HFree.mk (ev t x)
  case assign x => exact HFree.mk (ev t x)
  case pick c a b =>
    show HFree (fun h => ePick h (ev t a) (ev t b) (ev t c))
    unfold ePick
    split
    · exact HFree.mk _
    · exact HFree.mk _
    · exact HFree.none
  case build ty parts =>
    show HFree (fun h => eBuild P h ty (evParts t parts.toList))
    unfold eBuild
    split
    · unfold eBuildS
      split
      · split
        · exact HFree.val _
        · exact HFree.none
      · exact HFree.none
    · unfold eBuildA
      split
      · split
        · exact HFree.val _
        · exact HFree.none
      · exact HFree.none
    · exact HFree.none
  case nilCheck x =>
    show HFree (fun h => eNil h (ev t x))
    unfold eNil
    split <;> first | exact HFree.val _ | exact HFree.none
  case binOp op ty x y z =>
    show HFree (fun h => eBinOp P h op ty (ev t x) (ev t y))
    unfold eBinOp
    split <;> first | exact HFree.mk _ | exact HFree.none
  case unOp op ty x =>
    show HFree (fun h => eUnOp h op (ev t x))
    unfold eUnOp
    split <;> first | exact HFree.mk _ | exact HFree.none
  case slice ty x lo hi mx =>
    cases mx with
    | some _ => cases hp
    | none =>
    show HFree (fun h => eSliceOp P h ty (ev t x) (evOpt t lo) (evOpt t hi))
    unfold eSliceOp
    split <;> first | exact HFree.mk _ | exact HFree.none
  case fieldAddr s x f =>
    show HFree (fun h => eFieldAddrOp P h s f (ev t x))
    unfold eFieldAddrOp
    split <;> first | exact HFree.mk _ | exact HFree.none
  case field s x f =>
    show HFree (fun h => eFieldOp P h s f (ev t x))
    unfold eFieldOp
    split <;> first | exact HFree.mk _ | exact HFree.none
  case indexAddr s x f =>
    show HFree (fun h => eIndexAddrOp P h s (ev t x) (ev t f))
    unfold eIndexAddrOp
    split <;> first | exact HFree.mk _ | exact HFree.none
  case index s x f =>
    show HFree (fun h => eIndexOp P h s (ev t x) (ev t f))
    unfold eIndexOp
    split <;> first | exact HFree.mk _ | exact HFree.none
  case extract x f =>
    show HFree (fun h => eExtract h f (ev t x))
    unfold eExtract
    split <;> first | exact HFree.mk _ | exact HFree.none

theorem mk_same {x : Option EVal} {h h' : H} {v : EVal} (he : mk x h = some (.val v h')) : h' = h := by
  cases x with
  | none => cases he
  | some u => simp only [mk, Option.map_some, Option.some.injEq, EOut.val.injEq] at he; exact he.2.symm

theorem quiet_op {h h' : H} {t : T EVal} {o : Oper} {v : EVal} (hp : isQuiet o = true) (he : eOp P g h t o = some (.val v h')) : h' = h := by
  obtain ⟨dst, op, ty, pos, after, guard⟩ := o
  cases op <;> first | (cases hp; done) | skip
  case load ty a =>
    have he : eLoadOp P g h ty (ev t a) = some (.val v h') := he
    unfold eLoadOp at he
    split at he
    · exact mk_same he
    · cases he
  case lookup ty x i ok =>
    have he : eLookupOp P h ty ok (ev t x) (ev t i) = some (.val v h') := he
    unfold eLookupOp at he
    split at he
    · exact mk_same he
    · cases he
  case convert a b x =>
    have he : eConvOp P h a b (ev t x) = some (.val v h') := he
    unfold eConvOp at he
    split at he
    · exact mk_same he
    · cases he
  case makeFunc fn first caps =>
    cases fn <;> first | (cases hp; done) | skip
    rename_i f
    have he : eMakeFunc h f first (evs t caps.toList) = some (.val v h') := he
    unfold eMakeFunc at he
    split at he
    · split at he
      · simp only [Option.some.injEq, EOut.val.injEq] at he; exact he.2.symm
      · cases he
    · cases he
  case call c =>
    have he : eCall P h t c.callee c.argTypes (evs t c.args.toList) = some (.val v h') := he
    have hp : (match c.callee with
      | .builtin .len => true
      | .builtin .cap => true
      | .builtin .unsafeSliceData => true
      | _ => false) = true := hp
    unfold eCall at he
    split at he
    · cases he
    · rename_i args hargs
      have hb : ∀ b, c.callee = .builtin b → eCallB P h b c.argTypes args = some (.val v h') := by
        intro b hb; rw [hb] at he; exact he
      split at hp
      · rename_i hc
        have := hb _ hc
        unfold eCallB eBuiltin at this
        simp only at this
        split at this
        · rename_i v1 h1 hq
          simp only [Option.some.injEq, EOut.val.injEq] at this
          obtain ⟨_, rfl⟩ := this
          split at hq
          · simp only [Option.map_eq_some_iff, Prod.mk.injEq] at hq
            obtain ⟨_, _, _, h2⟩ := hq; exact h2.symm
          · cases hq
        · cases this
      · rename_i hc
        have := hb _ hc
        unfold eCallB eBuiltin at this
        simp only at this
        split at this
        · rename_i v1 h1 hq
          simp only [Option.some.injEq, EOut.val.injEq] at this
          obtain ⟨_, rfl⟩ := this
          split at hq
          · simp only [Option.map_eq_some_iff, Prod.mk.injEq] at hq
            obtain ⟨_, _, _, h2⟩ := hq; exact h2.symm
          · cases hq
        · cases this
      · rename_i hc
        have := hb _ hc
        unfold eCallB eBuiltin at this
        simp only at this
        split at this
        · rename_i v1 h1 hq
          simp only [Option.some.injEq, EOut.val.injEq] at this
          obtain ⟨_, rfl⟩ := this
          split at hq
          · simp only [Option.some.injEq, Prod.mk.injEq] at hq; exact hq.2.symm
          · split at hq
            · cases hq
            · simp only [Option.some.injEq, Prod.mk.injEq] at hq; exact hq.2.symm
          · cases hq
        · cases this
      · cases hp
end
end Go.Ev
