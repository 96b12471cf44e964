import Derived.Test.YtdbjdkkgpnkiaaaGreatDoorEvOps2
import Derived.ChangeKeysEq
import Derived.Laws.StructEq
set_option linter.unusedSimpArgs false
set_option linter.unusedVariables false
namespace Go.Ev
open Go.RowKit

theorem map_toNat_inj {a b : List UInt8} (h : a.map UInt8.toNat = b.map UInt8.toNat) : a = b := by
  induction a generalizing b with
  | nil => cases b with
    | nil => rfl
    | cons => simp at h
  | cons x a ih => cases b with
    | nil => simp at h
    | cons y b =>
      simp only [List.map_cons, List.cons.injEq] at h
      rw [UInt8.toNat_inj.1 h.1, ih h.2]

theorem bytes_eq {a b : ByteArray} {l m : List Nat} (ha : a.data.toList.map UInt8.toNat = l) (hb : b.data.toList.map UInt8.toNat = m) : (a.toList == b.toList) = decide (l = m) := by
  rw [ByteArray.toList_eq, ByteArray.toList_eq, Bool.eq_iff_iff]
  simp only [beq_iff_eq, decide_eq_true_eq]
  subst ha hb
  exact ⟨fun h => by rw [h], map_toNat_inj⟩

theorem bytesLess_eq : ∀ (a b : List UInt8), Op.bytesLess a b = lessL (a.map UInt8.toNat) (b.map UInt8.toNat)
  | _, [] => by cases ‹List UInt8› <;> simp [Op.bytesLess, lessL]
  | [], _ :: _ => by simp [Op.bytesLess, lessL]
  | x :: a, y :: b => by
    have h1 : (x < y : Bool) = decide (x.toNat < y.toNat) := by simp [UInt8.lt_iff_toNat_lt]
    have h2 : (x == y) = (x.toNat == y.toNat) := by rw [Bool.eq_iff_iff]; simp [UInt8.toNat_inj]
    simp only [Op.bytesLess, List.map_cons, lessL, bytesLess_eq a b]
    rw [h2]; congr 1

section
variable {P : Program} {B0 : Nat} {W0 : Base} {ρ : Loc} {h : H} {w : World} {g : G}

theorem eqBasic_sound {t : TypeId} {a b : EVal} {u v : Value} (hu : VRel ρ a u) (hv : VRel ρ b v) {r : Bool} (he : eqBasic P t a b = some r) (d : Nat) (w : World) :
    (Op.equalIn (d + 1) t u v).run P w = .ok r w ∧ aggT P t = some false := by
  unfold eqBasic at he
  split at he
  · rename_i k hk
    unfold eqIntE at he
    split at he
    · cases hu; cases hv
      split at he
      · rename_i hkk; subst hkk
        simp only [Option.some.injEq] at he; subst he
        exact ⟨run_equalIn_int w d t _ _ _ _ hk, by simp [aggT, hk]⟩
      · cases he
    · cases he
  · rename_i hk
    unfold eqStrE at he
    split at he
    · cases hu; cases hv
      rename_i s hs s' hs'
      simp only [Option.some.injEq] at he; subst he
      rw [run_equalIn_string w d t _ _ hk, bytes_eq hs hs']
      exact ⟨rfl, by simp [aggT, hk]⟩
    · cases he
  · rename_i hk
    unfold eqBoolE at he
    split at he
    · cases hu; cases hv
      simp only [Option.some.injEq] at he; subst he
      exact ⟨run_equalIn_bool' w d t _ _ hk, by simp [aggT, hk]⟩
    · cases he
  · cases he

theorem run_part_plain {t : TypeId} (ha : aggT P t = some false) {cs : Array Value} {o : Nat} {v : Value} (hv : cs[o]? = some v) (w : World) : (part t cs o).run P w = .ok v w := by
  simp [part, run_isAgg ha, hv]

theorem eqFields_sound {xs ys : List EVal} {us vs : Array Value} (hx : VsRel ρ xs us.toList) (hy : VsRel ρ ys vs.toList) (d : Nat) (w : World) : ∀ (fs : List Field) {r : Bool},
    eqFieldsE P fs xs ys = some r → (Op.eqFields (d + 1) us vs fs).run P w = .ok r w
  | [], r, he => by simp only [eqFieldsE, Option.some.injEq] at he; subst he; rfl
  | f :: fs, r, he => by
    simp only [eqFieldsE] at he
    split at he
    · cases he
    · rename_i hn
      split at he
      · rename_i a b ha hb
        obtain ⟨u, hu, ru⟩ := hx.get ha
        obtain ⟨v, hv, rv⟩ := hy.get hb
        have hu' : us[f.offset]? = some u := by simpa using hu
        have hv' : vs[f.offset]? = some v := by simpa using hv
        split at he
        · rename_i hq
          obtain ⟨h1, h2⟩ := eqBasic_sound ru rv hq d w
          simp only [Op.eqFields, ne_eq, hn, not_false_eq_true, if_true, Sem.run_bind, run_part_plain h2 hu', run_part_plain h2 hv', Result.andThen_ok, h1, Bool.not_true, Bool.false_eq_true, if_false]
          exact eqFields_sound hx hy d w fs he
        · rename_i hq
          simp only [Option.some.injEq] at he; subst he
          obtain ⟨h1, h2⟩ := eqBasic_sound ru rv hq d w
          simp [Op.eqFields, hn, run_part_plain h2 hu', run_part_plain h2 hv', h1]
        · cases he
      · cases he

theorem eqItems_sound {e : TypeId} (hs : P.cellsOf e = 1) {us vs : Array Value} (d : Nat) (w : World) : ∀ (xs ys : List EVal) (k : Nat) {r : Bool},
    VsRel ρ xs (us.toList.drop k) → VsRel ρ ys (vs.toList.drop k) → eqItemsE P e xs ys = some r → (Op.eqItems (d + 1) e (P.cellsOf e) us vs (List.range' k xs.length)).run P w = .ok r w
  | [], [], k, r, _, _, he => by simp only [eqItemsE, Option.some.injEq] at he; subst he; rfl
  | [], _ :: _, k, r, _, _, he => by simp [eqItemsE] at he
  | _ :: _, [], k, r, _, _, he => by simp [eqItemsE] at he
  | a :: xs, b :: ys, k, r, hx, hy, he => by
    simp only [eqItemsE] at he
    obtain ⟨u, hu, ru⟩ := hx.get (i := 0) (e := a) (by simp)
    obtain ⟨v, hv, rv⟩ := hy.get (i := 0) (e := b) (by simp)
    have hu' : us[k * P.cellsOf e]? = some u := by rw [hs, Nat.mul_one]; simpa [List.getElem?_drop] using hu
    have hv' : vs[k * P.cellsOf e]? = some v := by rw [hs, Nat.mul_one]; simpa [List.getElem?_drop] using hv
    have hx' : VsRel ρ xs (us.toList.drop (k + 1)) := by have := hx.drop 1; simpa [List.drop_drop] using this
    have hy' : VsRel ρ ys (vs.toList.drop (k + 1)) := by have := hy.drop 1; simpa [List.drop_drop] using this
    split at he
    · rename_i hq
      obtain ⟨h1, h2⟩ := eqBasic_sound ru rv hq d w
      simp only [List.length_cons, List.range'_succ, Op.eqItems, Sem.run_bind, run_part_plain h2 hu', run_part_plain h2 hv', Result.andThen_ok, h1, Bool.not_true, Bool.false_eq_true, if_false, Sem.run_ite]
      exact eqItems_sound hs d w xs ys (k + 1) hx' hy' he
    · rename_i hq
      simp only [Option.some.injEq] at he; subst he
      obtain ⟨h1, h2⟩ := eqBasic_sound ru rv hq d w
      simp [List.range'_succ, Op.eqItems, run_part_plain h2 hu', run_part_plain h2 hv', h1]
    · cases he

theorem eqAgg_sound {t : TypeId} {xs ys : List EVal} {us vs : Array Value} (hx : VsRel ρ xs us.toList) (hy : VsRel ρ ys vs.toList) {r : Bool} (he : eqAgg P t xs ys = some r) (w : World) :
    P.eqGuardType P.depth t = false ∧ (Op.equalIn 10000 t (.agg us) (.agg vs)).run P w = .ok r w := by
  unfold eqAgg at he
  split at he
  · cases he
  · rename_i hg
    refine ⟨hg, ?_⟩
    split at he
    · rename_i fs hu
      split at he
      · cases he
      · rename_i hp
        have hf : P.fieldsOf t = fs := by simp [Program.fieldsOf, hu]
        rw [run_equalIn_struct w 9999 t us vs (by rw [hf]; exact hu) hp, hf]
        exact eqFields_sound hx hy 9998 w _ he
    · rename_i n e hu
      split at he
      · rename_i hs
        split at he
        · rename_i hl
          cases hi : P.info? e with
          | none => simp [sizeT, hi] at hs
          | some i =>
            have hc : P.cellsOf e = 1 := by simpa [sizeT, Program.cellsOf, hi] using hs
            rw [run_equalIn_array w 9999 us vs hu hi, List.range_eq_range']
            have := eqItems_sound (P := P) (ρ := ρ) hc (us := us) (vs := vs) 9998 w xs ys 0 (by simpa using hx) (by simpa using hy) he
            rw [hl.1] at this
            exact this
        · cases he
      · cases he
    · cases he

theorem run_equal_of {t : TypeId} {u v : Value} {r : Bool} {w : World} (hq : ∀ d, (Op.equalIn (d + 1) t u v).run P w = .ok r w)
    (h1 : binOp .eql t u v = (do pure (.bool (← Op.equal t u v)))) (h2 : binOp .neq t u v = (do pure (.bool (!(← Op.equal t u v))))) :
    (binOp .eql t u v).run P w = .ok (.bool r) w ∧ (binOp .neq t u v).run P w = .ok (.bool !r) w := by
  have h' : (Op.equal t u v).run P w = .ok r w := hq 9999
  rw [h1, h2]
  simp [h']

set_option maxHeartbeats 1600000 in
theorem bin_sound {op : BinOp} {t : TypeId} {x y : Operand} {a b e : EVal} {u v : Value} (hu : VRel ρ a u) (hv : VRel ρ b v) (he : eBin P op t a b = some e) (w : World) :
    ∃ r, (do eqGuard op t x y u v; binOp op t u v : Sem Value).run P w = .ok r w ∧ VRel ρ e r := by
  unfold eBin at he
  split at he
  · cases hu
    split at he
    · cases hv
      rename_i k n k' m
      unfold eInt2 at he
      rw [eqGuard_at_int]
      split at he
      · unfold eShl at he
        split at he
        · cases he
        · rename_i hb
          simp only [Option.some.injEq] at he; subst he
          refine ⟨_, ?_, .int _ _⟩; simp [binOp, Op.shift, hb]
      · unfold eShr at he
        split at he
        · cases he
        · rename_i hb
          simp only [Option.some.injEq] at he; subst he
          refine ⟨_, ?_, .int _ _⟩; simp [binOp, Op.shift, hb]
      · rename_i n1 n2
        split at he
        · rename_i hk; subst hk
          unfold eInt at he
          split at he <;> first
            | (simp only [Option.some.injEq] at he; subst he; first | (refine ⟨_, ?_, .int _ _⟩; simp [binOp, Op.intArith, Op.intBits, Op.intCmp]; done) | (refine ⟨_, ?_, .bool _⟩; simp [binOp, Op.intArith, Op.intBits, Op.intCmp]; done))
            | (split at he
               · cases he
               · rename_i hz
                 simp only [Option.some.injEq] at he; subst he
                 refine ⟨_, ?_, .int _ _⟩; simp [binOp, Op.intDiv, hz])
            | cases he
        · cases he
    · cases he
  · cases hu
    rename_i s hs
    split at he
    · cases hv
      rename_i s' hs'
      rw [eqGuard_at_string]
      unfold eStr at he
      have hl : s.size = s.data.toList.length := by rw [Array.length_toList]; rfl
      have hl' : s'.size = s'.data.toList.length := by rw [Array.length_toList]; rfl
      have h1 := bytes_eq hs hs'
      have h2 : Op.bytesLess s.toList s'.toList = lessL (s.data.toList.map UInt8.toNat) (s'.data.toList.map UInt8.toNat) := by
        rw [ByteArray.toList_eq, ByteArray.toList_eq, bytesLess_eq]
      rw [hs, hs'] at h2
      split at he
      · split at he
        · rename_i hlt
          simp only [Option.some.injEq] at he; subst he
          refine ⟨.string (s ++ s'), ?_, .str _ _ ?_⟩
          · have hsz : (s.size : Int) + (s'.size : Int) ≤ 9223372036854775807 := by
              rw [hl, hl']
              rw [← hs, ← hs'] at hlt
              simp only [List.length_map] at hlt
              omega
            simp [binOp, Op.stringOp, hsz]
          · rw [← hs, ← hs']; simp [ByteArray.data_append]
        · cases he
      all_goals first
        | (simp only [Option.some.injEq] at he; subst he
           refine ⟨_, ?_, .bool _⟩; simp [binOp, Op.stringOp, h1, h2])
        | cases he
    · cases he
  · rename_i hni hns
    unfold eOther at he
    have key : ∀ r, eqX P t a b = some r → (eqGuard op t x y u v).run P w = .ok () w ∧ (binOp .eql t u v).run P w = .ok (.bool r) w ∧ (binOp .neq t u v).run P w = .ok (.bool !r) w := by
      intro r hr
      unfold eqX at hr
      split at hr
      · rename_i hk
        unfold eqBoolE at hr
        split at hr
        · cases hu; cases hv
          simp only [Option.some.injEq] at hr; subst hr
          exact ⟨by rw [eqGuard_at_bool]; rfl, run_eql_bool w t _ _ hk, run_neq_bool w t _ _ hk⟩
        · cases hr
      · rename_i el hk
        split at hr
        rotate_left
        · cases hr
        rename_i hsz
        unfold sizeT at hsz
        cases hinf : P.info? el with
        | none => simp [hinf] at hsz
        | some inf =>
        unfold eqNil at hr
        split at hr
        · rename_i i o j q
          split at hr
          · rename_i hij
            obtain ⟨rfl, rfl⟩ := hij
            simp only [Option.some.injEq] at hr; subst hr
            cases hu with | ptr _ _ b1 C1 h1 =>
            cases hv with | ptr _ _ b2 C2 h2 =>
            rw [h1] at h2; cases h2
            refine ⟨by rw [eqGuard_at_pointer]; rfl, run_equal_of (fun d => ?_) (by simp only [binOp]) (by simp only [binOp])⟩
            simp [Op.equalIn, run_underlying hk, sizeOf, typeInfo, hinf, sameAddr]
          · cases hr
        all_goals cases hr
        all_goals (cases hu <;> cases hv)
        all_goals exact ⟨by rw [eqGuard_at_pointer]; rfl, run_equal_of (fun d => by simp [Op.equalIn, run_underlying hk]) (by simp only [binOp]) (by simp only [binOp])⟩
      · rename_i hk
        unfold eqNilS at hr
        split at hr <;> cases hr
        all_goals (cases hu <;> cases hv)
        all_goals exact ⟨by rw [eqGuard_at_slice]; rfl, run_equal_of (fun d => by simp [Op.equalIn, run_underlying hk]) (by simp only [binOp]) (by simp only [binOp])⟩
      · rename_i hk
        unfold eqNilM at hr
        split at hr <;> cases hr
        all_goals (cases hu <;> cases hv)
        all_goals exact ⟨by rw [eqGuard_at_map]; rfl, run_equal_of (fun d => by simp [Op.equalIn, run_underlying hk]) (by simp only [binOp]) (by simp only [binOp])⟩
      · rename_i hk
        unfold eqNilF at hr
        split at hr <;> cases hr
        all_goals (cases hu <;> cases hv)
        all_goals exact ⟨by first | (rw [eqGuard_at_nilFunc]; rfl) | (rw [eqGuard_at_func]; rfl), run_equal_of (fun d => by simp [Op.equalIn, run_underlying hk]) (by simp only [binOp]) (by simp only [binOp])⟩
      · split at hr
        · cases hu; cases hv
          rename_i us hus vs hvs
          obtain ⟨h1, h2⟩ := eqAgg_sound hus hvs hr w
          refine ⟨run_eqGuard_agg w op t x y us vs h1, ?_, ?_⟩
          · rw [run_eql_struct, h2]; rfl
          · rw [run_neq_struct, h2]; rfl
        · cases hr
      · cases hr
    split at he
    · cases hr : eqX P t a b with
      | none => simp [hr] at he
      | some r =>
        obtain ⟨h1, h2, _⟩ := key r hr
        simp only [hr, Option.map_some, Option.some.injEq] at he; subst he
        refine ⟨_, ?_, .bool _⟩; simp [h1, h2]
    · cases hr : eqX P t a b with
      | none => simp [hr] at he
      | some r =>
        obtain ⟨h1, _, h3⟩ := key r hr
        simp only [hr, Option.map_some, Option.some.injEq] at he; subst he
        refine ⟨_, ?_, .bool _⟩; simp [h1, h3]
    · cases he

theorem un_sound {op : UnOp} {a e : EVal} {u : Value} (hu : VRel ρ a u) (he : eUn op a = some e) (w : World) : ∃ r, (Op.unary op u).run P w = .ok r w ∧ VRel ρ e r := by
  unfold eUn at he
  split at he
  · cases hu
    simp only [Option.some.injEq] at he; subst he
    refine ⟨_, ?_, .int _ _⟩; simp [Op.unary, Op.intArith]
  · cases hu
    simp only [Option.some.injEq] at he; subst he
    refine ⟨_, ?_, .bool _⟩; simp [Op.unary]
  · cases he
end
end Go.Ev
