import Derived.Test.YtdbjdkkgpnkiaaaGreatDoorEvWp
set_option linter.unusedSimpArgs false
set_option linter.unusedVariables false
namespace Go.Ev
open Go.RowKit

/-! a memory that has grown: what looked into the elder one sees the same -/
def HGrow (h hh : H) : Prop := ∀ id e, h.get id = some e → hh.get id = some e
theorem HGrow.refl (h : H) : HGrow h h := fun _ _ x => x
theorem HGrow.trans {a b c : H} (h1 : HGrow a b) (h2 : HGrow b c) : HGrow a c := fun id e x => h2 id e (h1 id e x)
theorem HGrow.new {h : H} {o : EObj} (hn : h.get h.n = none) : HGrow h (h.new o) := fun id e x => by
  have hne : h.n ≠ id := fun e2 => by rw [← e2, hn] at x; cases x
  show (h.t.set h.n (some o)).get id = some e
  rw [T.get_set_ne _ _ _ _ (Ne.symm hne)]; exact x

section
variable {P : Program} {g : G} {K : Known} {h hh : H}
theorem row_ext (hg : HGrow h hh) {x : EVal} {r : List EVal × Nat} (he : row? g h x = some r) : row? g hh x = some r := by
  unfold row? at he ⊢
  split at he
  · exact he
  · split at he
    · rename_i hget
      rw [hg _ _ hget]; exact he
    · cases he
  · exact he
  · cases he
theorem load_ext (hg : HGrow h hh) {t : TypeId} {x v : EVal} (he : eLoad P g h t x = some v) : eLoad P g hh t x = some v := by
  unfold eLoad at he ⊢
  split at he
  · rename_i hr
    rw [row_ext hg hr]; exact he
  · cases he
theorem lookup_ext (hg : HGrow h hh) {t : TypeId} {x i v : EVal} {ok : Bool} (he : eLookup P h t x i ok = some v) : eLookup P hh t x i ok = some v := by
  unfold eLookup at he ⊢
  split at he
  · split at he
    · rename_i hk
      simp only [hk, if_true]
      split at he
      · exact he
      · split at he
        · rename_i hget
          rw [hg _ _ hget]; exact he
        · cases he
      · cases he
    · cases he
  · cases he
theorem convert_ext (hg : HGrow h hh) {s d : TypeId} {x v : EVal} (he : eConvert P h s d x = some v) : eConvert P hh s d x = some v := by
  unfold eConvert at he ⊢
  split at he
  · exact he
  · exact he
  · exact he
  · split at he
    · rename_i hget
      rw [hg _ _ hget]; exact he
    · cases he
  · split at he
    · rename_i hget
      rw [hg _ _ hget]; exact he
    · cases he
  · cases he
theorem len_ext (hg : HGrow h hh) {t : TypeId} {x v : EVal} (he : eLen P h t x = some v) : eLen P hh t x = some v := by
  unfold eLen at he ⊢
  split at he
  · exact he
  · exact he
  · exact he
  · exact he
  · split at he
    · exact he
    · unfold eLenM at he ⊢
      split at he
      · rename_i hget
        rw [hg _ _ hget]; exact he
      · cases he
    · cases he
  · cases he
theorem argB_ext (hg : HGrow h hh) {x v : EVal} (he : argB P h x = some v) : argB P hh x = some v := by
  unfold argB at he ⊢
  split at he
  · split at he
    · rename_i hget
      rw [hg _ _ hget]; exact he
    · cases he
  · exact he
theorem argsB_ext (hg : HGrow h hh) : ∀ {l l' : List EVal}, argsB P h l = some l' → argsB P hh l = some l'
  | [], _, he => he
  | x :: l, l', he => by
    unfold argsB at he ⊢
    split at he
    · rename_i a b ha hb
      rw [argB_ext hg ha, argsB_ext hg hb]; exact he
    · cases he
theorem kcall_ext (hg : HGrow h hh) {f : FuncId} {args : List EVal} {v : EVal} (he : kcall P K h f args = some v) : kcall P K hh f args = some v := by
  unfold kcall at he ⊢
  split at he
  · rename_i ts ha
    rw [argsB_ext hg ha]; exact he
  · cases he
theorem mk_ext {x : Option EVal} {v : EVal} {h1 : H} (he : Go.Ev.mk x h = some (.val v h1)) : x = some v := by
  cases x with
  | none => cases he
  | some u => cases he; rfl
/-- what looks and turns nothing sees the same in a memory that has grown -/
theorem quiet_ext (hg : HGrow h hh) {t : T EVal} {o : Oper} {v : EVal} {h1 : H} (hq : isQuiet o = true) (he : eOp P g h t o = some (.val v h1)) : ∃ h2, eOp P g hh t o = some (.val v h2) := by
  unfold isQuiet at hq
  unfold eOp at he ⊢
  split at hq
  · rename_i ty a heq
    rw [heq] at he ⊢
    simp only [eLoadOp] at he ⊢
    split at he
    · rename_i x hx
      have := mk_ext he
      rw [load_ext hg this]; exact ⟨_, rfl⟩
    · cases he
  · rename_i heq
    rw [heq] at he ⊢
    simp only [eLookupOp] at he ⊢
    split at he
    · have := mk_ext he
      rw [lookup_ext hg this]; exact ⟨_, rfl⟩
    · cases he
  · rename_i heq
    rw [heq] at he ⊢
    simp only [eConvOp] at he ⊢
    split at he
    · have := mk_ext he
      rw [convert_ext hg this]; exact ⟨_, rfl⟩
    · cases he
  · rename_i heq
    rw [heq] at he ⊢
    simp only [eMakeFunc] at he ⊢
    split at he
    · split at he
      · cases he; rename_i hs; simp only [hs, if_true]; exact ⟨_, rfl⟩
      · cases he
    · cases he
  · rename_i c heq
    rw [heq] at he ⊢
    simp only [eCall] at he ⊢
    split at he
    · cases he
    · split at hq
      · rename_i hc
        rw [hc] at he ⊢
        simp only [eCallB, eBuiltin] at he ⊢
        split at he
        · rename_i u h2 hb
          split at hb
          · simp only [Option.map_eq_some_iff] at hb
            obtain ⟨w, hl, e⟩ := hb
            cases e
            cases he
            rw [len_ext hg hl]; exact ⟨_, rfl⟩
          · cases hb
        · cases he
      · rename_i hc
        rw [hc] at he ⊢
        simp only [eCallB, eBuiltin] at he ⊢
        split at he
        · rename_i u h2 hb
          split at hb
          · simp only [Option.map_eq_some_iff] at hb
            obtain ⟨w, hl, e⟩ := hb
            cases e
            cases he
            rw [hl]; exact ⟨_, rfl⟩
          · cases hb
        · cases he
      · rename_i hc
        rw [hc] at he ⊢
        simp only [eCallB, eBuiltin] at he ⊢
        split at he
        · rename_i u h2 hb
          split at hb
          · cases hb; cases he; exact ⟨_, rfl⟩
          · split at hb
            · cases hb
            · rename_i hcond
              cases hb
              cases he
              simp only [hcond, if_false]
              exact ⟨_, rfl⟩
          · cases hb
        · cases he
      · cases hq
  · cases hq
/-- a call of the program is one in a memory that has grown -/
theorem enter_ext {t : T EVal} {o : Oper} {f : FuncId} {args : List EVal} {h1 : H} (he : eOp P g h t o = some (.enter f args h1)) : h1 = h ∧ eOp P g hh t o = some (.enter f args hh) := by
  have nomk : ∀ x : Option EVal, Go.Ev.mk x h ≠ some (.enter f args h1) := fun x e => by cases x <;> cases e
  unfold eOp at he ⊢
  split at he
  all_goals try (exfalso; exact nomk _ he)
  all_goals try (exfalso; simp only [ePick, eAlloc, eBox, eBuild, eBuildS, eBuildA, eBuildSlice, eBuildSlice', eLoadOp, eStoreOp, eNil, eBinOp, eUnOp, eConvOp, eMakeFunc, eMakeSlice, eMakeSlice', eSliceOp, eFieldAddrOp, eFieldOp, eIndexAddrOp, eIndexOp, eLookupOp, eUpdateOp, eRange, eEntry, eEntry', eNextS, eNextS', eExtract] at he; repeat' (split at he)
                 all_goals first | (cases he; done) | exact nomk _ he)
  · cases he
  · exfalso
    unfold eRange at he
    repeat' (split at he)
    all_goals first | (cases he; done) | exact nomk _ he | (unfold eRangeMap at he; split at he <;> cases he)
  · rename_i c heq
    unfold eCall at he ⊢
    split at he
    · cases he
    · rename_i args' ha
      split at he
      · simp only [eCallB] at he
        split at he <;> cases he
      · simp only [eCallV] at he ⊢
        split at he
        · rename_i f' cs hv
          unfold eCallF at he ⊢
          split at he
          · rename_i fn hfn
            split at he
            · exfalso
              simp only [eExtern, eIndexByte, eNoEscape, eNoZero] at he
              repeat' (split at he)
              all_goals first | (cases he; done) | exact nomk _ he
            · rename_i hb
              cases he
              simp only [hb]
              exact ⟨trivial, by simp⟩
          · cases he
        · cases he
        · cases he
      · cases he
  · cases he
end

/-- what makes a new object, and nothing else -/
def isNew (o : Oper) : Bool :=
  match o.op with
  | .alloc _ => true
  | .box _ _ => true
  | _ => false
noncomputable def extB (o : Oper) (h : H) : Bool := isNew o && (h.get h.n).isNone
theorem extB_q {o : Oper} {h : H} : extB o h = (isNew o && (h.get h.n).isNone) := (rfl)
theorem new_grow {P : Program} {g : G} {h h1 : H} {t : T EVal} {o : Oper} {v : EVal} (hb : extB o h = true) (he : eOp P g h t o = some (.val v h1)) : HGrow h h1 := by
  unfold extB isNew at hb
  simp only [Bool.and_eq_true, Option.isNone_iff_eq_none] at hb
  obtain ⟨h2, h3⟩ := hb
  unfold eOp at he
  split at h2
  · rename_i heq
    rw [heq] at he
    simp only [eAlloc] at he
    split at he
    · cases he; exact .new h3
    · cases he
  · rename_i heq
    rw [heq] at he
    simp only [eBox] at he
    split at he
    · cases he; exact .new h3
    · cases he
  · cases h2

mutual
theorem EVal.beq_refl : ∀ a : EVal, EVal.beq a a = true
  | .unk => rfl
  | .bool a => by simp [EVal.beq]
  | .int k a => by simp [EVal.beq]
  | .str a => by simp [EVal.beq]
  | .nilp => rfl
  | .gptr a b => by simp [EVal.beq]
  | .ptr a b => by simp [EVal.beq]
  | .nilslice => rfl
  | .slice a b c x => by simp [EVal.beq]
  | .nilmap => rfl
  | .map a => by simp [EVal.beq]
  | .nilfunc => rfl
  | .nilif => rfl
  | .func f a => by simp [EVal.beq, beqL_refl a]
  | .yieldf a => by simp [EVal.beq]
  | .iface t a => by simp [EVal.beq, EVal.beq_refl a]
  | .agg a => by simp only [EVal.beq]; exact beqL_refl a
  | .tup a => by simp only [EVal.beq]; exact beqL_refl a
  | .lsl a => by simp only [EVal.beq]; exact beqLL_refl a
  | .lptr a i => by simp [EVal.beq, beqL_refl a]
  | .gsl i a => by simp [EVal.beq, beqLL_refl a]
theorem beqL_refl : ∀ l : List EVal, beqL l l = true
  | [] => rfl
  | a :: l => by simp [beqL, EVal.beq_refl a, beqL_refl l]
theorem beqLL_refl : ∀ l : List (List EVal), beqLL l l = true
  | [] => rfl
  | a :: l => by simp [beqLL, beqL_refl a, beqLL_refl l]
end
end Go.Ev
