import Derived.Test.YtdbjdkkgpnkiaaaGreatDoorEvOps3
set_option linter.unusedSimpArgs false
set_option linter.unusedVariables false
namespace Go.Ev
open Go.RowKit

section
variable {P : Program} {B0 : Nat} {W0 : Base} {ρ : Loc} {h : H} {w : World} {g : G}

theorem repl_length (z : List EVal) (n : Nat) : (repl z n).length = n * z.length := by
  induction n with
  | zero => simp [repl]
  | succ n ih => simp [repl, ih, Nat.succ_mul]; omega

theorem repl_get (z : List EVal) : ∀ (n i : Nat), i < n * z.length → (repl z n)[i]? = z[i % z.length]?
  | 0, i, h => by simp at h
  | n + 1, i, h => by
    simp only [repl]
    by_cases hi : i < z.length
    · rw [List.getElem?_append_left hi, Nat.mod_eq_of_lt hi]
    · have h' : i - z.length < n * z.length := by rw [Nat.succ_mul] at h; omega
      rw [List.getElem?_append_right (by omega), repl_get z n _ h']
      congr 1
      rw [← Nat.mod_eq_sub_mod (by omega)]

theorem repl_rel {z : List EVal} {u : Array Value} (hz : VsRel ρ z u.toList) (n : Nat) : VsRel ρ (repl z n) ((Array.range (n * z.length)).map (u[· % u.size]!)).toList := by
  have hl : z.length = u.size := by rw [hz.length]; simp
  refine .of_get (by simp [repl_length]) fun i e v he hv => ?_
  have hi : i < n * z.length := by have := (List.getElem?_eq_some_iff.1 he).1; rwa [repl_length] at this
  rw [repl_get z n i hi] at he
  have hpos : 0 < z.length := by
    rcases Nat.eq_zero_or_pos z.length with h0 | h0
    · rw [h0] at hi; simp at hi
    · exact h0
  have hm : i % u.size < u.size := by rw [← hl]; exact Nat.mod_lt _ hpos
  have : v = u[i % u.size] := by
    have h2 : ((Array.range (n * z.length)).map (u[· % u.size]!)).toList[i]? = some (u[i % u.size]!) := by
      simp only [Array.toList_map, Array.toList_range, List.getElem?_map, List.getElem?_range hi, Option.map_some]
    rw [h2] at hv
    simp only [Option.some.injEq] at hv
    rw [← hv]
    simp [hm]
  subst this
  refine hz.get2 (i := i % z.length) he ?_
  rw [hl]
  simp [hm]

theorem map_range0 (f : Nat → Value) : Array.map f (Array.range 0) = #[] := by apply Array.ext'; simp

theorem buildSlice_sound (R : HRel P B0 W0 ρ h w) {t : TypeId} {len : Nat} {ps : List (Nat × EVal)} {qs : Array (Nat × Value)} (hp : PRel ρ ps qs.toList) {e : EVal} {h' : H}
    (he : eBuildSlice P h t len (some ps) = some (.val e h')) : GoodV P B0 W0 ρ w (Instr.buildSlice t len qs) e h' := by
  unfold eBuildSlice at he
  split at he
  · rename_i el ps' hu h1
    simp only [Option.some.injEq] at h1; subst h1
    split at he
    · rename_i sz z hsz hz
      unfold eBuildSlice' at he
      split at he
      · rename_i hlim
        split at he
        · rename_i cs hf
          simp only [Option.some.injEq, EOut.val.injEq] at he
          obtain ⟨rfl, rfl⟩ := he
          obtain ⟨u, hur, hr, _⟩ := zero_sound (ρ := ρ) hz w
          have hl : u.cells.size = sz := by rw [← hlim.2, hr.length]; simp
          have hrr := repl_rel hr len
          rw [hlim.2] at hrr
          obtain ⟨ws, hw, hr'⟩ := fill_sound _ _ _ _ _ hp hrr hf
          simp only [Array.toArray_toList] at hw
          refine GoodV.newRow R (us := ws.toArray) (t := el) (v := .slice (some ⟨w.heap.size, 0, none⟩) len len) (by simpa using hr') ?_ (.slice _ _ _ _ _ _ (Loc.add_self _ _ _))
          have hlim' : ¬ (len * sz > 2 ^ 24) := by have := hlim.1; omega
          simp only [Instr.buildSlice, Sem.run_bind, run_underlying hu, Result.andThen_ok, sizeOf_sound hsz, if_neg hlim', Sem.run_pure]
          by_cases h0 : len * sz = 0
          · simp only [h0, map_range0] at hw
            simp [h0, map_range0, hw, newRow]
          · simp [h0, hur, hw, newRow]
        · cases he
      · cases he
    · cases he
  · cases he

theorem run_askRoom (n : Nat) (w : World) : (askRoom n).run P w = .ok () w := by unfold askRoom; split <;> rfl

theorem wrap_small {n : Int} (h0 : 0 ≤ n) (h1 : n < 100000) : IntKind.i64.wrap n = n := by
  unfold IntKind.wrap
  have h : n % (2 ^ IntKind.i64.bits : Int) = n := Int.emod_eq_of_lt h0 (by have : (2 ^ IntKind.i64.bits : Int) = 18446744073709551616 := by decide
                                                                            omega)
  simp only [h]
  have h2 : (2 ^ (IntKind.i64.bits - 1) : Int) = 9223372036854775808 := by decide
  rw [h2]
  simp; omega

theorem makeSlice_sound (R : HRel P B0 W0 ρ h w) {t : TypeId} {k k' : IntKind} {a b : Int} {e : EVal} {h' : H}
    (he : eMakeSlice P h t (some (.int k a)) (some (.int k' b)) = some (.val e h')) : GoodV P B0 W0 ρ w (Instr.makeSlice t (.int k a) (.int k' b)) e h' := by
  unfold eMakeSlice at he
  simp only at he
  split at he
  · rename_i el hu
    unfold eMakeSlice' at he
    split at he
    · rename_i sz z hsz hz
      split at he
      · rename_i hc
        obtain ⟨h1, h2, h3, h4, h5⟩ := hc
        simp only [Option.some.injEq, EOut.val.injEq] at he
        obtain ⟨rfl, rfl⟩ := he
        obtain ⟨u, hur, hr, _⟩ := zero_sound (ρ := ρ) hz w
        have hl : u.cells.size = sz := by rw [← h5, hr.length]; simp
        have hrr := repl_rel hr b.toNat
        rw [h5] at hrr
        refine GoodV.newRow R (us := (Array.range (b.toNat * sz)).map (u.cells[· % u.cells.size]!)) (t := el) (v := .slice (some ⟨w.heap.size, 0, none⟩) a.toNat b.toNat) hrr ?_ (.slice _ _ _ _ _ _ (Loc.add_self _ _ _))
        cases hi : P.info? el with
        | none => simp [sizeT, hi] at hsz
        | some i =>
          have hb : i.bytes < 1000 := by simpa [Program.bytesOf, hi] using h4
          have wa := wrap_small h1 (by omega)
          have wb := wrap_small (n := b) (by omega) h3
          have hmul : (i.bytes : Int) * b ≤ 1000 * 100000 := by
            have h6 : (i.bytes : Int) ≤ 1000 := by omega
            exact Int.mul_le_mul h6 (by omega) (by omega) (by omega)
          have c1 : (decide (IntKind.i64.wrap b < 0) || decide ((i.bytes : Int) * IntKind.i64.wrap b > 2 ^ 48) || decide (IntKind.i64.wrap a < 0) || decide (IntKind.i64.wrap a > IntKind.i64.wrap b)) = false := by
            rw [wa, wb]
            simp only [Bool.or_eq_false_iff, decide_eq_false_iff_not]
            have : (2 ^ 48 : Int) = 281474976710656 := by decide
            refine ⟨⟨⟨by omega, by omega⟩, by omega⟩, by omega⟩
          simp only [Instr.makeSlice, Sem.run_bind, run_underlying hu, Result.andThen_ok, asInt, asIntOf, Sem.run_pure, typeInfo, run_program, hi, c1, Bool.false_eq_true, if_false, run_askRoom, sizeOf_sound hsz]
          rw [wb, wa]
          by_cases h0 : b.toNat * sz = 0
          · simp [h0, map_range0, newRow]
          · simp [h0, hur, newRow]
      · cases he
    · cases he
  · cases he

theorem convert_sound (R : HRel P B0 W0 ρ h w) {s d : TypeId} {x e : EVal} {v : Value} (hx : VRel ρ x v) (he : eConvert P h s d x = some e) : ∃ r, (convert s d v).run P w = .ok r w ∧ VRel ρ e r := by
  unfold eConvert at he
  split at he
  · rename_i ds k k' n hs hd
    cases hx
    simp only [Option.some.injEq] at he; subst he
    refine ⟨_, ?_, .int _ _⟩
    simp only [convert, Sem.run_bind, run_underlying hs, run_underlying hd, Result.andThen_ok]
    cases ds <;> simp [Conv.intToInt]
  · rename_i ds k n hs hd
    cases hx
    simp only [Option.some.injEq] at he; subst he
    refine ⟨.string (Utf8.encode n), ?_, .str _ _ rfl⟩
    simp only [convert, Sem.run_bind, run_underlying hs, run_underlying hd, Result.andThen_ok]
    cases ds <;> simp [Conv.intToString]
  · rename_i ds l hs hd
    cases hx
    rename_i bs hbs
    simp only [Option.some.injEq] at he; subst he
    refine ⟨.string bs, ?_, .str _ _ hbs⟩
    simp only [convert, Sem.run_bind, run_underlying hs, run_underlying hd, Result.andThen_ok]
    cases ds <;> simp
  · rename_i t id o hs hd
    cases hx
    rename_i b C hb
    split at he
    · rename_i cs el lo hi sl hg
      split at he
      · rename_i hc
        simp only [Option.some.injEq] at he; subst he
        obtain ⟨b', C', hb', cv, hw, hr, _⟩ := R.objs _ _ hg
        rw [hb] at hb'; cases hb'
        refine ⟨_, ?_, .ptr _ _ _ _ hb⟩
        have hlen := hr.length
        have hoff : o < cv.size := by
          rw [List.length_take] at hlen; simp at hlen; omega
        have hsh : w.shape? b = some (el, cv.size) := by simp [World.shape?, hw]
        obtain ⟨sz, hsz⟩ : ∃ sz, sizeT P t = some sz := by
          cases hq : sizeT P t with
          | none => simp [hq] at hc
          | some sz => exact ⟨sz, rfl⟩
        have hsz0 : sz ≠ 0 := by simpa [hsz] using hc.2
        simp only [convert, Sem.run_bind, run_underlying hs, run_underlying hd, Result.andThen_ok]
        simp [Conv.unsafePointer, run_underlying hs, run_underlying hd, Conv.seenAt, viewAt, cellsIn, shape, Sem.run, hsh, sizeOf_sound hsz, hsz0]
        intro hh; omega
      · cases he
    · cases he
  · rename_i u id o hs hd
    cases hx
    rename_i b C hb
    split at he
    · rename_i cs el lo hi hg
      split at he
      · rename_i hc
        simp only [Option.some.injEq] at he; subst he
        obtain ⟨b', C', hb', cv, hw, hr, hsz', _⟩ := R.objs _ _ hg
        rw [hb] at hb'; cases hb'
        refine ⟨_, ?_, .ptr _ _ _ _ hb⟩
        have hcs := hsz' rfl
        have hsh : w.shape? b = some (el, cv.size) := by simp [World.shape?, hw]
        obtain ⟨sz, hsz⟩ : ∃ sz, sizeT P u = some sz := by
          cases hq : sizeT P u with
          | none => simp [hq] at hc
          | some sz => exact ⟨sz, rfl⟩
        have hsz0 : sz ≠ 0 := by simpa [hsz] using hc.1
        have hl : liesAt P P.depth el (cv.size / P.cellsOf el) o u 1 = true := by rw [hcs]; exact hc.2
        simp only [convert, Sem.run_bind, run_underlying hs, run_underlying hd, Result.andThen_ok]
        simp [Conv.unsafePointer, run_underlying hs, run_underlying hd, Conv.seenAt, viewAt, variablesAt, shape, Sem.run, hsh, sizeOf_sound hsz, hl, run_program]
      · cases he
    · cases he
  · cases he

def OptRel (ρ : Loc) (x : Option EVal) (v : Option Value) : Prop := match x, v with | none, none => True | some e, some u => VRel ρ e u | _, _ => False

theorem evOpt_rel {t : T EVal} {E : Operand → Value} (hE : ERel ρ t E) {x : Option Operand} {e : Option EVal} (he : evOpt t x = some e) : OptRel ρ e (x.map E) := by
  cases x with
  | none => simp only [evOpt, Option.some.injEq] at he; subst he; trivial
  | some o =>
    simp only [evOpt] at he
    split at he
    · rename_i e' h1
      simp only [Option.some.injEq] at he; subst he
      exact hE _ _ h1
    · cases he

theorem bound_none {d y b : Nat} {x : Option EVal} (hx : OptRel ρ x none) (he : bound x d y = some b) : b = d := by
  cases x with
  | none => simp only [bound, Option.some.injEq] at he; exact he.symm
  | some e => exact hx.elim

theorem bound_some {d y b : Nat} {x : Option EVal} {u : Value} (hx : OptRel ρ x (some u)) (he : bound x d y = some b) (y' : Nat) (hy : y ≤ y') (code : BoundsCode) (w : World) :
    (Instr.sliceBound u y' code).run P w = .ok b w := by
  cases x with
  | none => exact hx.elim
  | some e =>
    have hx : VRel ρ e u := hx
    unfold bound at he
    split at he
    · rename_i heq; cases heq
    · rename_i heq
      cases heq
      cases hx
      split at he
      · rename_i hc
        simp only [Option.some.injEq] at he; subst he
        have hc' : 0 ≤ ‹Int› ∧ ‹Int› ≤ (y' : Int) := ⟨hc.1, by omega⟩
        simp [Instr.sliceBound, asIntOf, hc']
      · cases he
    · cases he

theorem bounds_sound {lo hi : Option EVal} {l r : Option Value} (hl : OptRel ρ lo l) (hr : OptRel ρ hi r) {isS : Bool} {len cap a b : Nat} {top : Nat} (hb : bound hi len top = some b) (ha : bound lo 0 b = some a)
    (htop : top ≤ cap) (w : World) : (Instr.sliceBounds isS len cap l r none).run P w = .ok (a, b, cap) w := by
  unfold Instr.sliceBounds
  cases r with
  | none =>
    have h1 := bound_none hr hb
    subst h1
    cases l with
    | none => have h2 := bound_none hl ha; subst h2; simp
    | some u => simp [bound_some (P := P) hl ha b (Nat.le_refl _) .sliceB w]
  | some u' =>
    have h1 := fun code => bound_some (P := P) hr hb cap htop code w
    cases l with
    | none => have h2 := bound_none hl ha; subst h2; simp [h1]
    | some u => simp [h1, bound_some (P := P) hl ha b (Nat.le_refl _) .sliceB w]

theorem bound_le {x : Option EVal} {d y b : Nat} (hd : d ≤ y) (he : bound x d y = some b) : b ≤ y := by
  unfold bound at he
  split at he
  · simp only [Option.some.injEq] at he; omega
  · split at he
    · simp only [Option.some.injEq] at he; omega
    · cases he
  · cases he

theorem sliceL_sound {t el : TypeId} {els : List (List EVal)} {e : EVal} {v : Value} {lo hi : Option EVal} {l r : Option Value} (hu : P.underlying t = some (.slice el)) (hx : VRel ρ (.lsl els) v) (hl : OptRel ρ lo l) (hr : OptRel ρ hi r)
    (he : eSliceL P el els lo hi = some e) (w : World) : ∃ u, (Instr.sliceAt t v l r none).run P w = .ok u w ∧ VRel ρ e u := by
  unfold eSliceL at he
  split at he
  · rename_i y sz hy hs
    split at he
    · rename_i a ha
      split at he
      · rename_i hlens
        simp only [Option.some.injEq] at he; subst he
        have hy1 := bound_le (Nat.le_refl _) hy
        have ha1 := bound_le (Nat.zero_le _) ha
        cases hx with
        | lsl _ us b o c sz' pre rest hf hv hw ho hz hc =>
          have hbnd := bounds_sound (P := P) (isS := true) (cap := c) hl hr hy ha hc w
          simp only [Instr.sliceAt, Sem.run_bind, run_underlying hu, Result.andThen_ok, Instr.slice, hbnd, sizeOf_sound hs, Sem.run_pure]
          refine ⟨_, rfl, ?_⟩
          have hz' := VssRel.lens hv hz hlens
          by_cases hya : y = a
          · subst hya
            have : (els.take y).drop y = [] := by apply List.drop_eq_nil_of_le; simp; omega
            rw [this, Nat.sub_self]
            split <;> exact .lsl0 _ _
          · have hne : els ≠ [] := by rintro rfl; simp at hy1; omega
            obtain rfl := hz'.resolve_left hne
            rw [if_neg (by omega)]
            simpa [Addr.add_lit] using VRel.sub hf hv hw ho hz (c := c - a) ha1 hy1 (by omega)
        | lsl0 p c =>
          simp at hy1; subst hy1
          have ha0 : a = 0 := by omega
          subst ha0
          have hbnd := bounds_sound (P := P) (isS := true) (cap := c) hl hr hy ha (Nat.zero_le _) w
          simp only [List.length_nil] at hbnd
          simp only [Instr.sliceAt, Sem.run_bind, run_underlying hu, Result.andThen_ok, Instr.slice, hbnd, sizeOf_sound hs, Sem.run_pure]
          refine ⟨_, rfl, ?_⟩
          simp only [List.take_nil, List.drop_nil]
          split <;> exact .lsl0 _ _
        | lsln =>
          simp at hy1; subst hy1
          have ha0 : a = 0 := by omega
          subst ha0
          have hbnd := bounds_sound (P := P) (isS := true) (cap := 0) hl hr hy ha (Nat.zero_le _) w
          simp only [List.length_nil] at hbnd
          refine ⟨.slice none 0 0, ?_, by simpa using .lsln⟩
          simp [Instr.sliceAt, run_underlying hu, Instr.slice, hbnd, sizeOf_sound hs]
      · cases he
    · cases he
  · cases he

theorem slice_sound {t : TypeId} {x e : EVal} {v : Value} {lo hi : Option EVal} {l r : Option Value} (hx : VRel ρ x v) (hl : OptRel ρ lo l) (hr : OptRel ρ hi r)
    (he : eSlice P t x lo hi = some e) (w : World) : ∃ u, (Instr.sliceAt t v l r none).run P w = .ok u w ∧ VRel ρ e u := by
  unfold eSlice at he
  split at he
  · rename_i s hu
    cases hx
    rename_i bs hbs
    split at he
    · rename_i b hb
      split at he
      · rename_i a ha
        simp only [Option.some.injEq] at he; subst he
        have hlen : bs.size = s.length := by rw [← hbs, List.length_map, Array.length_toList]; rfl
        have hbnd := bounds_sound (P := P) (isS := false) (cap := bs.size) hl hr hb ha (by omega) w
        rw [← hlen] at hbnd
        refine ⟨.string (bs.extract a b), ?_, .str _ _ ?_⟩
        · simp [Instr.sliceAt, run_underlying hu, Instr.slice, hbnd]
        · rw [← hbs]
          simp only [ByteArray.data_extract, Array.toList_extract, List.map_drop, List.map_take, List.extract_eq_drop_take']
      · cases he
    · cases he
  · rename_i el hu
    cases hx
    split at he
    · rename_i b _ hb hs
      split at he
      · rename_i a ha
        simp only [Option.some.injEq] at he; subst he
        have hbnd := bounds_sound (P := P) (isS := true) (cap := 0) hl hr hb ha (by omega) w
        have hb0 := bound_le (Nat.le_refl _) hb
        have ha0 := bound_le (Nat.zero_le _) ha
        obtain rfl : b = 0 := by omega
        obtain rfl : a = 0 := by omega
        refine ⟨.slice none 0 0, ?_, .nilslice⟩
        simp [Instr.sliceAt, run_underlying hu, Instr.slice, hbnd, sizeOf_sound hs]
      · cases he
    · cases he
  · rename_i el id off len c hu
    cases hx
    rename_i b C hb
    split at he
    · rename_i y sz hy hs
      split at he
      · rename_i a ha
        simp only [Option.some.injEq] at he; subst he
        have hbnd := bounds_sound (P := P) (isS := true) (cap := c) hl hr hy ha (Nat.le_refl _) w
        refine ⟨_, ?_, .slice _ _ _ _ _ _ hb⟩
        simp only [Instr.sliceAt, Sem.run_bind, run_underlying hu, Result.andThen_ok, Instr.slice, hbnd, sizeOf_sound hs, Sem.run_pure]
        split <;> simp [Addr.add_lit]
      · cases he
    · cases he
  · rename_i el id off len s hu
    cases hx with
    | slack _ _ _ _ c b C hb hc hn =>
    split at he
    · rename_i y sz hy hs
      split at he
      · rename_i a ha
        split at he
        · rename_i hcond
          simp only [Option.some.injEq] at he; subst he
          have hbnd := bounds_sound (P := P) (isS := true) (cap := c) hl hr hy ha hn w
          have hy1 := bound_le (Nat.le_refl _) hy
          have ha1 := bound_le (Nat.zero_le _) ha
          refine ⟨_, ?_, .slack id (off + a * sz) (y - a) (s + a) (c - a) b C hb (by omega) (by omega)⟩
          simp only [Instr.sliceAt, Sem.run_bind, run_underlying hu, Result.andThen_ok, Instr.slice, hbnd, sizeOf_sound hs, Sem.run_pure]
          split
          · rename_i hca
            have : a = 0 := by rcases hcond with h0 | h0 <;> omega
            subst this; simp
          · simp [Addr.add_lit]
        · cases he
      · cases he
    · cases he
  · rename_i el els hu
    exact sliceL_sound hu hx hl hr he w
  · rename_i el id els hu
    exact sliceL_sound hu hx.unG hl hr he w
  · rename_i n el id off hu
    cases hx
    rename_i b C hb
    split at he
    · rename_i y sz hy hs
      split at he
      · rename_i a ha
        simp only [Option.some.injEq] at he; subst he
        have hbnd := bounds_sound (P := P) (isS := false) (cap := n) hl hr hy ha (Nat.le_refl _) w
        refine ⟨_, ?_, .slice _ _ _ _ _ _ hb⟩
        simp only [Instr.sliceAt, Sem.run_bind, run_underlying hu, Result.andThen_ok, Instr.sureAddr, hbnd, sizeOf_sound hs, Sem.run_pure]
        by_cases hna : n = a <;> simp [hna, Addr.add_lit]
      · cases he
    · cases he
  · cases he

theorem shift_sound {k : Nat} {x e : EVal} {v : Value} (hx : VRel ρ x v) (he : eShift k x = some e) : ∃ a : Addr, v = .pointer (some a) ∧ VRel ρ e (.pointer (some (a.add k))) := by
  unfold eShift at he
  split at he
  · cases hx
    rename_i b C hb
    simp only [Option.some.injEq] at he; subst he
    exact ⟨_, rfl, by rw [Addr.add_lit]; exact .ptr _ _ _ _ hb⟩
  · cases hx
    simp only [Option.some.injEq] at he; subst he
    exact ⟨_, rfl, by rw [Addr.add_lit]; exact .gptr _ _⟩
  · cases hx with
    | lptr _ _ us b base pre rest hf hs hw ho =>
      simp only [Option.some.injEq] at he; subst he
      exact ⟨_, rfl, by rw [Addr.add_lit, Nat.add_assoc]; exact .lptr _ _ us b base pre rest hf hs hw ho⟩
  · cases he

theorem fieldAddr_sound {s : TypeId} {f : Nat} {x e : EVal} {v : Value} (hx : VRel ρ x v) (he : eFieldAddr P s x f = some e) (w : World) : ∃ u, (Instr.fieldAt s v f).run P w = .ok u w ∧ VRel ρ e u := by
  unfold eFieldAddr at he
  split at he
  · rename_i fs hu
    split at he
    · rename_i fd hf
      split at he
      · rename_i sz hs
        split at he
        · cases he
        · rename_i h0
          obtain ⟨a, rfl, hr⟩ := shift_sound hx he
          exact ⟨_, by simp [Instr.fieldAt, run_underlying hu, hf, Instr.sureAddr, fieldPlace, sizeOf_sound hs, h0], hr⟩
      · cases he
    · cases he
  · cases he

theorem part_sound {t : TypeId} {cs : List EVal} {vs : Array Value} (hr : VsRel ρ cs vs.toList) {o : Nat} {e : EVal} (he : ePart P t cs o = some e) (w : World) :
    ∃ u, (part t vs o).run P w = .ok u w ∧ VRel ρ e u := by
  unfold ePart at he
  cases ha : aggT P t with
  | none => rw [ha] at he; cases he
  | some x =>
    rw [ha] at he
    cases x with
    | false =>
      simp only [eLoad'] at he
      obtain ⟨u, hu, r⟩ := hr.get he
      exact ⟨u, run_part_plain ha (by simpa using hu) w, r⟩
    | true =>
      simp only [eLoad'] at he
      split at he
      · rename_i i hi
        split at he
        · rename_i r hrr
          simp only [Option.some.injEq] at he; subst he
          unfold takeN at hrr
          simp only at hrr
          split at hrr
          · rename_i hl
            simp only [Option.some.injEq] at hrr; subst hrr
            refine ⟨.agg (vs.extract o (o + i.size)), by simp [part, run_isAgg ha, sizeOf, typeInfo, hi], .agg _ _ ?_⟩
            have := (hr.drop o).take i.size
            simpa [Array.toList_extract, List.extract_eq_drop_take'] using this
          · cases hrr
        · cases he
      · cases he

theorem field_sound {s : TypeId} {f : Nat} {x e : EVal} {v : Value} (hx : VRel ρ x v) (he : eField P s x f = some e) (w : World) : ∃ u, (Instr.field s v f).run P w = .ok u w ∧ VRel ρ e u := by
  unfold eField at he
  split at he
  · rename_i fs cs hu
    cases hx
    rename_i vs hvs
    split at he
    · rename_i fd hf
      obtain ⟨u, h1, h2⟩ := part_sound hvs he w
      exact ⟨u, by simp [Instr.field, run_underlying hu, hf, asAgg, h1], h2⟩
    · cases he
  · cases he

theorem indexL_sound {t el : TypeId} {els : List (List EVal)} {e : EVal} {v : Value} {k : IntKind} {n : Int} (hu : P.underlying t = some (.slice el)) (hx : VRel ρ (.lsl els) v)
    (he : eIndexL P el els n = some e) (w : World) : ∃ u, (Instr.indexAt t v (.int k n)).run P w = .ok u w ∧ VRel ρ e u := by
  unfold eIndexL at he
  split at he
  · rename_i h0
    split at he
    · rename_i cs hcs
      split at he
      · rename_i hs
        simp only [Option.some.injEq] at he; subst he
        have hlt : n.toNat < els.length := (List.getElem?_eq_some_iff.1 hcs).1
        cases hx with
        | lsl _ us b o c sz' pre rest hf hv hw ho hz hc =>
          obtain ⟨u, hu1, r⟩ := hv.get hcs
          have hlu := hz u (List.mem_of_getElem? hu1)
          have hlc : cs.length = sz' := by rw [r.length, hlu]
          have hsub := VRel.sub hf hv hw ho hz (lo := n.toNat) (hi := n.toNat + 1) (c := 1) (by omega) (by omega) (by omega)
          have hn : n < (els.length : Int) := by omega
          refine ⟨.pointer (some ⟨b, o + n.toNat * sz', none⟩), by simp [Instr.indexAt, asIntOf, run_underlying hu, h0, hn, sizeOf_sound hs, Addr.add_lit, hlc], ?_⟩
          have hl := VssRel.length hv
          have hfl := flatten_len us hz
          have hpl : (pre.drop o).length = us.length * sz' + rest.length := by rw [hw, List.length_append, hfl]
          have hle : n.toNat * sz' ≤ us.length * sz' := Nat.mul_le_mul_right _ (by omega)
          refine .lptr cs 0 u b (o + n.toNat * sz') pre ((us.drop (n.toNat + 1)).flatten ++ rest) hf r ?_ (by rw [List.length_drop] at hpl; omega)
          rw [← List.drop_drop, hw, List.drop_append_of_le_length (by rw [hfl]; exact hle), drop_flatten us _ hz, ← List.append_assoc]
          congr 1
          have : us.drop n.toNat = u :: us.drop (n.toNat + 1) := by
            rw [List.drop_eq_getElem_cons (by omega)]
            congr 1
            have := (List.getElem?_eq_some_iff.1 hu1).2
            exact this
          rw [this, List.flatten_cons]
        | lsl0 p c => simp at hcs
        | lsln => simp at hcs
      · cases he
    · cases he
  · cases he

theorem indexAddr_sound {t : TypeId} {x ix e : EVal} {v i : Value} (hx : VRel ρ x v) (hi : VRel ρ ix i) (he : eIndexAddr P t x ix = some e) (w : World) : ∃ u, (Instr.indexAt t v i).run P w = .ok u w ∧ VRel ρ e u := by
  unfold eIndexAddr at he
  split at he
  · rename_i k n
    cases hi
    split at he
    · rename_i len el hu
      unfold eIndexAddr' at he
      split at he
      · rename_i sz hs
        split at he
        · rename_i hc
          obtain ⟨a, rfl, hr⟩ := shift_sound hx he
          exact ⟨_, by simp [Instr.indexAt, asIntOf, run_underlying hu, Instr.sureAddr, hc, sizeOf_sound hs], hr⟩
        · cases he
      · cases he
    · rename_i el hu
      split at he
      · rename_i id o len c
        unfold eIndexAddr' at he
        split at he
        · rename_i sz hs
          split at he
          · rename_i hc
            have key : ∀ (b C c' : Nat), ρ id = some (b, C) → v = .slice (some ⟨b, o, none⟩) len c' → ∃ u, (Instr.indexAt t v (.int k n)).run P w = .ok u w ∧ VRel ρ e u := by
              intro b C c' hb hv
              subst hv
              simp only [eShift, Option.some.injEq] at he; subst he
              exact ⟨_, by simp [Instr.indexAt, asIntOf, run_underlying hu, hc, sizeOf_sound hs, Addr.add_lit], .ptr _ _ _ _ hb⟩
            cases hx with
            | slice _ _ _ _ b C hb => exact key _ _ _ hb rfl
            | slack _ _ _ _ c b C hb hc hn => exact key _ _ _ hb rfl
          · cases he
        · cases he
      · exact indexL_sound hu hx he w
      · exact indexL_sound hu hx.unG he w
      · cases he
    · cases he
  · cases he

theorem index_sound {t : TypeId} {x ix e : EVal} {v i : Value} (hx : VRel ρ x v) (hi : VRel ρ ix i) (he : eIndex P t x ix = some e) (w : World) : ∃ u, (Instr.index t v i).run P w = .ok u w ∧ VRel ρ e u := by
  unfold eIndex at he
  split at he
  · rename_i k n
    cases hi
    split at he
    · rename_i len el hu
      split at he
      · rename_i cs
        cases hx
        rename_i vs hvs
        split at he
        · rename_i sz hs
          split at he
          · rename_i hc
            obtain ⟨u, h1, h2⟩ := part_sound hvs he w
            exact ⟨u, by simp [Instr.index, asIntOf, run_underlying hu, hc, sizeOf_sound hs, h1], h2⟩
          · cases he
        · cases he
      · cases he
    · rename_i hu
      split at he
      · rename_i s
        cases hx
        rename_i bs hbs
        split at he
        · rename_i h0
          split at he
          · rename_i b hb
            simp only [Option.some.injEq] at he; subst he
            rw [← hbs, List.getElem?_map] at hb
            cases hc : bs.data.toList[n.toNat]? with
            | none => rw [hc] at hb; cases hb
            | some c =>
              rw [hc] at hb
              simp only [Option.map_some, Option.some.injEq] at hb
              have hlt : n.toNat < bs.size := by
                have := (List.getElem?_eq_some_iff.1 hc).1
                rw [Array.length_toList] at this; exact this
              have hget : bs[n.toNat]? = some c := by
                rw [ByteArray.getElem?_lt' _ _ hlt]
                have := (List.getElem?_eq_some_iff.1 hc).2
                rw [← this]; rfl
              refine ⟨.int .u8 c.toNat, by simp [Instr.index, asIntOf, run_underlying hu, h0, hget], ?_⟩
              rw [← hb]; exact .int _ _
          · cases he
        · cases he
      · cases he
    · cases he
  · cases he

theorem extract_sound {i : Nat} {x e : EVal} {v : Value} {h h' : H} (hx : VRel ρ x v) (he : eExtract h i (some x) = some (.val e h')) (w : World) : h' = h ∧ ∃ u, (Instr.extract v i).run P w = .ok u w ∧ VRel ρ e u := by
  unfold eExtract at he
  split at he
  · rename_i l heq
    simp only [Option.some.injEq] at heq; subst heq
    cases hx
    rename_i vs hvs
    unfold mk at he
    cases hl : l[i]? with
    | none => rw [hl] at he; cases he
    | some e' =>
      rw [hl] at he
      simp only [Option.map_some, Option.some.injEq, EOut.val.injEq] at he
      obtain ⟨rfl, rfl⟩ := he
      obtain ⟨u, hu, r⟩ := hvs.get hl
      have hu' : vs[i]? = some u := by simpa using hu
      exact ⟨rfl, u, by simp [Instr.extract, hu'], r⟩
  · cases he
end
end Go.Ev
