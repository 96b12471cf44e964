import Derived.Test.YtdbjdkkgpnkiaaaGreatDoorEvOps4
import Derived.Laws.Append
import Derived.Lib.UnsafeStr
set_option linter.unusedSimpArgs false
set_option linter.unusedVariables false
namespace Go.Ev
open Go.RowKit

section
variable {P : Program} {B0 : Nat} {W0 : Base} {ρ : Loc} {h : H} {w : World} {g : G}

theorem bytesOf_rel (s : ByteArray) : VsRel ρ (bytesOfE (s.data.toList.map UInt8.toNat)) (s.data.toList.map fun b => .int .u8 b.toNat) := by
  unfold bytesOfE
  refine .of_get (by simp) fun i e v he hv => ?_
  simp only [List.map_map, List.getElem?_map] at he hv
  cases hc : s.data.toList[i]? with
  | none => rw [hc] at he; cases he
  | some c =>
    rw [hc] at he hv
    simp only [Option.map_some, Option.some.injEq, Function.comp] at he hv
    subst he hv
    exact .int _ _

theorem size_eq (s : ByteArray) : s.size = s.data.toList.length := by rw [Array.length_toList]; rfl

theorem fz_cell {fro : Nat → Option (List Value)} (hF : FzOK fro w) {b o : Nat} {pre a rest : List Value} (hf : fro b = some pre) (hw : pre.drop o = a ++ rest) (ho : o ≤ pre.length) {j : Nat} {u : Value} (hu : a[j]? = some u) :
    w.cell? ⟨b, o + j, none⟩ = some u := by
  obtain ⟨arr, e, m, h1, more, h2⟩ := hF _ _ hf
  simp only [World.cell?, h1]
  have h3 : arr.toList[o + j]? = some u := by
    rw [h2, ← List.getElem?_drop, List.drop_append_of_le_length ho, hw, List.append_assoc, List.getElem?_append_left (List.getElem?_eq_some_iff.1 hu).1]
    exact hu
  simpa using h3

theorem VssRel.flatten {ρ : Loc} {els : List (List EVal)} {us : List (List Value)} (h : VssRel ρ els us) : VsRel ρ els.flatten us.flatten := by
  induction els generalizing us with
  | nil => cases h; exact .nil
  | cons e es ih => cases h with | cons _ v _ vs h hs => rw [List.flatten_cons, List.flatten_cons]; exact h.append (ih hs)

theorem srcL_sound (R : HRel P B0 W0 ρ h w) {sz : Nat} {els : List (List EVal)} {v : Value} (hx : VRel ρ (.lsl els) v) {r : List EVal} {n : Nat} (he : (if lensOK sz els = true then some (els.flatten, els.length) else none) = some (r, n)) :
    ∃ vs : List Value, VsRel ρ r vs ∧ r.length = n * sz ∧ (Builtin.lenOf v).run P w = .ok n w ∧ ∀ m, m ≤ n → ∀ w', w'.heap = w.heap → (Builtin.firstCells sz m v).run P w' = .ok (vs.take (m * sz)).toArray w' := by
  split at he
  · rename_i hl
    simp only [Option.some.injEq, Prod.mk.injEq] at he
    obtain ⟨rfl, rfl⟩ := he
    cases hx with
    | lsl _ us b o c sz' pre rest hf hv hw ho hz hc =>
      have hlens := VssRel.lens hv hz hl
      have hfl := flatten_len us hz
      have hvl := VssRel.length hv
      have hflr := (VssRel.flatten hv).length
      have e0 : els = [] ∨ sz = sz' := hlens
      refine ⟨us.flatten, (VssRel.flatten hv).mono (Loc.fz_le ρ), ?_, rfl, fun m hm w' hw' => ?_⟩
      · rcases e0 with rfl | rfl
        · simp
        · rw [hflr, hfl, hvl]
      · rcases e0 with rfl | rfl
        · simp at hm; subst hm
          have := run_loadCells_list (P := P) w' ⟨b, o, none⟩ [] (fun j u hu => by cases hu)
          simpa [Builtin.firstCells] using this
        · have hF : FzOK ρ.fro w' := FzOK.keep R.fz fun b pre _ => by rw [hw']
          have hle : m * sz ≤ us.length * sz := Nat.mul_le_mul_right _ (by omega)
          have hlen : (us.flatten.take (m * sz)).length = m * sz := by rw [List.length_take, hfl]; omega
          have := run_loadCells_list (P := P) w' ⟨b, o, none⟩ (us.flatten.take (m * sz)) (fun j u hu => by
            rw [Addr.add_lit]
            refine fz_cell hF hf hw ho ?_
            rw [List.getElem?_take] at hu
            split at hu
            · exact hu
            · cases hu)
          rw [hlen] at this
          exact this
    | lsl0 p c =>
      refine ⟨[], .nil, by simp, rfl, fun m hm w' hw' => ?_⟩
      simp at hm; subst hm
      have := run_loadCells_list (P := P) w' p [] (fun j u hu => by cases hu)
      simpa [Builtin.firstCells] using this
    | lsln => exact ⟨[], .nil, by simp, rfl, fun m hm w' _ => by simp [Builtin.firstCells]⟩
  · cases he

/-- The elements that an append or a copy takes. -/
theorem src_sound (R : HRel P B0 W0 ρ h w) {sz : Nat} {x : EVal} {v : Value} (hx : VRel ρ x v) {r : List EVal} {n : Nat} (he : srcCells h sz x = some (r, n)) :
    ∃ vs : List Value, VsRel ρ r vs ∧ r.length = n * sz ∧ (Builtin.lenOf v).run P w = .ok n w ∧ ∀ m, m ≤ n → ∀ w', w'.heap = w.heap → (Builtin.firstCells sz m v).run P w' = .ok (vs.take (m * sz)).toArray w' := by
  unfold srcCells at he
  split at he
  · cases hx
    simp only [Option.some.injEq, Prod.mk.injEq] at he
    obtain ⟨rfl, rfl⟩ := he
    exact ⟨[], .nil, by simp, rfl, fun m hm w' _ => by simp [Builtin.firstCells]⟩
  · rename_i id off len c
    split at he
    · rename_i cs e lo hi sl hg
      split at he
      · rename_i r' hr
        simp only [Option.some.injEq, Prod.mk.injEq] at he
        obtain ⟨rfl, rfl⟩ := he
        have key : ∀ (b C c' : Nat), ρ id = some (b, C) → v = .slice (some ⟨b, off, none⟩) len c' →
            ∃ vs : List Value, VsRel ρ r' vs ∧ r'.length = len * sz ∧ (Builtin.lenOf v).run P w = .ok len w ∧ ∀ m, m ≤ len → ∀ w', w'.heap = w.heap → (Builtin.firstCells sz m v).run P w' = .ok (vs.take (m * sz)).toArray w' := by
          intro b C c' hb hv
          subst hv
          obtain ⟨b', C', hb', cv, hw, hrel, _⟩ := R.objs _ _ hg
          rw [hb] at hb'; cases hb'
          unfold takeN at hr
          simp only at hr
          split at hr
          · rename_i hl
            simp only [Option.some.injEq] at hr
            subst hr
            refine ⟨_, (hrel.drop off).take (len * sz), hl, rfl, fun m hm w' hw' => ?_⟩
            have hmul : m * sz ≤ len * sz := Nat.mul_le_mul_right _ hm
            have hlen : ((((cv.toList.take cs.length).drop off).take (len * sz)).take (m * sz)).length = m * sz := by
              have := ((hrel.drop off).take (len * sz)).length
              rw [hl] at this
              rw [List.length_take, ← this]; omega
            have hrun := run_loadCells_list (P := P) w' ⟨b, off, none⟩ ((((cv.toList.take cs.length).drop off).take (len * sz)).take (m * sz)) (fun j u hu => by
              rw [Addr.add_lit]
              rw [List.getElem?_take] at hu
              split at hu
              · rw [List.getElem?_take] at hu
                split at hu
                · rw [List.getElem?_drop, List.getElem?_take] at hu
                  split at hu
                  · simp only [World.cell?, hw', hw]; simpa using hu
                  · cases hu
                · cases hu
              · cases hu)
            rw [hlen] at hrun
            exact hrun
          · cases hr
        cases hx with
        | slice _ _ _ _ b C hb => exact key _ _ _ hb rfl
        | slack _ _ _ _ c b C hb hc hn => exact key _ _ _ hb rfl
      · cases he
    · cases he
  · cases hx
    rename_i s hs
    split at he
    · rename_i h1
      subst h1
      simp only [Option.some.injEq, Prod.mk.injEq] at he
      obtain ⟨rfl, rfl⟩ := he
      subst hs
      refine ⟨s.data.toList.map fun b => .int .u8 b.toNat, bytesOf_rel s, by simp [bytesOfE], by simp only [Builtin.lenOf, Sem.run_pure, List.length_map, size_eq], fun m hm w' _ => ?_⟩
      simp only [Builtin.firstCells, Sem.run_pure, Nat.mul_one]
      congr 1
      apply Array.ext'
      simp [ByteArray.data_extract, List.extract_eq_drop_take', List.map_take]
    · cases he
  · exact srcL_sound R hx he
  · exact srcL_sound R hx.unG he
  · cases he

theorem zeroCells_size (z : Array Value) (n : Nat) : (Builtin.zeroCells z n).size = n * z.size := by simp [Builtin.zeroCells]

theorem growOK_spec {e : TypeId} {sz bytes need : Nat} (hg : growOK P e sz bytes need = true) : ∃ z, zeroE P e = some z ∧ z.length = sz ∧ 1 ≤ bytes ∧ bytes * need ≤ 1000000 := by
  unfold growOK at hg
  split at hg
  · rename_i z hz
    simp only [Bool.and_eq_true, beq_iff_eq, Nat.ble_eq] at hg
    exact ⟨z, hz, hg.1.1, hg.1.2, hg.2⟩
  · cases hg

/-- The walk of an append that makes a new row. -/
theorem run_append_grow {t t2 ty e : TypeId} (ht : P.underlying t = some (.slice e)) (ht2 : (∃ e2, P.underlying t2 = some (.slice e2)) ∨ P.underlying t2 = some .string) {rest : List TypeId} {i : TypeInfo} (hi : P.info? e = some i)
    {base : Option Addr} {sLen sCap n : Nat} {v : Value} {os ns : List Value} (hlen : (Builtin.lenOf v).run P w = .ok n w) (hneed : sCap < sLen + n)
    (hos : (Builtin.firstCells i.size sLen (.slice base sLen sCap)).run P w = .ok os.toArray w) (hns : ∀ w', w'.heap = w.heap → (Builtin.firstCells i.size n v).run P w' = .ok ns.toArray w')
    (hos' : ∀ w', w'.heap = w.heap → (Builtin.firstCells i.size sLen (.slice base sLen sCap)).run P w' = .ok os.toArray w')
    (hosl : os.length = sLen * i.size) (hnsl : ns.length = n * i.size) (hok : growOK P e i.size i.bytes (sLen + n) = true) :
    ∃ (C : Nat) (rs : List Value), (Builtin.append_ (t :: t2 :: rest).toArray ty #[.slice base sLen sCap, v]).run P w =
        .ok (.slice (some ⟨w.heap.size, 0, none⟩) (sLen + n) C) (w.drew.alloc (.cells (os ++ ns ++ rs).toArray e)) ∧
      sLen + n ≤ C ∧ (os ++ ns ++ rs).length = C * i.size := by
  obtain ⟨z, hz, hzl, hb1, hb2⟩ := growOK_spec hok
  have hgs := growslice_fits (bytes := i.bytes) hneed (by rw [Nat.mul_comm]; omega)
  generalize hq : (Question.appendCap (sLen + n) sCap e).cut (w.tape w.drawn (Question.appendCap (sLen + n) sCap e)) = C
  have hC : sLen + n ≤ C := by rw [← hq]; exact Nat.le_add_right _ _
  obtain ⟨u, hu, hur, _⟩ := zero_sound (ρ := Loc.nil) hz w.drew
  have husz : u.cells.size = i.size := by rw [← hzl, hur.length]; simp
  refine ⟨C, (Builtin.zeroCells u.cells (C - (sLen + n))).toList, ?_, hC, ?_⟩
  · have h2 : ¬ (281474976710656 < Builtin.nextslicecap (sLen + n) sCap * i.bytes) := by omega
    have h3 : ¬ (sLen + n ≤ sCap) := by omega
    have hb0 : i.bytes ≠ 0 := by omega
    have hf : (Question.appendCap (sLen + n) sCap e).forced = false := rfl
    have hold := hos' w.drew rfl
    have hnew := hns w.drew rfl
    rcases ht2 with ⟨e2, ht2⟩ | ht2
    all_goals
      simp only [Builtin.append_, List.getElem?_toArray, List.getElem?_cons_zero, List.getElem?_cons_succ, Sem.run_bind, run_underlying ht, run_underlying ht2, Result.andThen_ok, sizeOf, typeInfo, run_program, hi, Sem.run_pure]
      simp [hlen, h3, h2, hb0, hi, typeInfo, hf, hq, run_askRoom, hold, hnew, hu, newRow]
      have hab : os.toArray ++ (ns.toArray ++ Builtin.zeroCells u.cells (C - (sLen + n))) = (os ++ (ns ++ (Builtin.zeroCells u.cells (C - (sLen + n))).toList)).toArray := by apply Array.ext'; simp
      rw [hab]
  · simp only [List.length_append, hosl, hnsl, Array.length_toList, zeroCells_size, husz]
    have : (sLen + n) * i.size + (C - (sLen + n)) * i.size = C * i.size := by rw [← Nat.add_mul]; congr 1; omega
    rw [← this, Nat.add_mul]


theorem HRel.kill (R : HRel P B0 W0 ρ h w) (id : Nat) : HRel P B0 W0 ρ (h.kill id) w :=
  ⟨R.below, R.base, R.dom, R.lo, fun i j _ _ _ _ _ h1 h2 r1 r2 => R.inj i j _ _ _ _ _ (H.get_kill h1).2 (H.get_kill h2).2 r1 r2, fun i o h1 => R.objs i o (H.get_kill h1).2, R.fz, fun b pre hb i C o h1 => R.free b pre hb i C o (H.get_kill h1).2, R.fz0, R.mdom, R.toks, R.tnew, R.tinj⟩

theorem grow_sound (R : HRel P B0 W0 ρ h w) {t t2 ty e : TypeId} (ht : P.underlying t = some (.slice e)) (ht2 : (∃ e2, P.underlying t2 = some (.slice e2)) ∨ P.underlying t2 = some .string) {rest : List TypeId} {i : TypeInfo} (hi : P.info? e = some i)
    {base : Option Addr} {sLen sCap n : Nat} {v : Value} {os ns : List Value} {old new : List EVal} (ho : VsRel ρ old os) (hn : VsRel ρ new ns) (hlen : (Builtin.lenOf v).run P w = .ok n w) (hneed : sCap < sLen + n)
    (hos : ∀ w', w'.heap = w.heap → (Builtin.firstCells i.size sLen (.slice base sLen sCap)).run P w' = .ok os.toArray w') (hns : ∀ w', w'.heap = w.heap → (Builtin.firstCells i.size n v).run P w' = .ok ns.toArray w')
    (hosl : os.length = sLen * i.size) (hnsl : ns.length = n * i.size) (hok : growOK P e i.size i.bytes (sLen + n) = true) :
    GoodV P B0 W0 ρ w (Builtin.append_ (t :: t2 :: rest).toArray ty #[.slice base sLen sCap, v]) (.slice h.n 0 (sLen + n) (.slack 0)) (h.new (.row (old ++ new) e 0 0 true)) := by
  obtain ⟨C, rs, hrun, hC, hsz⟩ := run_append_grow (ty := ty) (rest := rest) ht ht2 hi hlen hneed (hos w rfl) hns hos hosl hnsl hok
  have R1 : HRel P B0 W0 ρ h w.drew := R.drew
  have hsize : w.drew.heap.size = w.heap.size := rfl
  have hnew : VsRel ρ (old ++ new) ((os ++ ns ++ rs).toArray.toList.take (old ++ new).length) := by
    have e1 : ((os ++ ns ++ rs).toArray.toList.take (old ++ new).length) = os ++ ns := by
      have : (old ++ new).length = (os ++ ns).length := by simp [ho.length, hn.length]
      rw [this]; exact List.take_left' rfl
    rw [e1]
    exact ho.append hn
  refine ⟨_, _, _, Loc.le_add R1.fresh, R1.new (.row (old ++ new) e 0 0 true) (.cells (os ++ ns ++ rs).toArray e) C ⟨_, rfl, hnew.mono (Loc.le_add R1.fresh), (fun h => by cases h), fun _ => ⟨i, hi, by simpa using hsz⟩⟩, hrun, ?_⟩
  exact .slack _ _ _ _ C _ C (Loc.add_self _ _ _) (by omega) hC

theorem eGrow_spec {e : TypeId} {sz bytes need : Nat} {old new : List EVal} {r : EVal} {h' : H} (he : eGrow P h e sz bytes old new need = some (r, h')) :
    growOK P e sz bytes need = true ∧ r = .slice h.n 0 need (.slack 0) ∧ h' = h.new (.row (old ++ new) e 0 0 true) := by
  unfold eGrow at he
  split at he
  · rename_i hg
    simp only [Option.some.injEq, Prod.mk.injEq] at he
    exact ⟨hg, he.1.symm, he.2.symm⟩
  · cases he

theorem run_append_room {t t2 ty e : TypeId} (ht : P.underlying t = some (.slice e)) (ht2 : (∃ e2, P.underlying t2 = some (.slice e2)) ∨ P.underlying t2 = some .string) {rest : List TypeId} {i : TypeInfo} (hi : P.info? e = some i)
    {b off sLen sCap n : Nat} {v : Value} {ns : List Value} {w' : World} (hlen : (Builtin.lenOf v).run P w = .ok n w) (hneed : sLen + n ≤ sCap)
    (hns : (Builtin.firstCells i.size n v).run P w = .ok ns.toArray w) (hst : (storeCells ⟨b, off + sLen * i.size, none⟩ ns).run P w = .ok () w') :
    (Builtin.append_ (t :: t2 :: rest).toArray ty #[.slice (some ⟨b, off, none⟩) sLen sCap, v]).run P w = .ok (.slice (some ⟨b, off, none⟩) (sLen + n) sCap) w' := by
  rcases ht2 with ⟨e2, ht2⟩ | ht2
  all_goals
    simp only [Builtin.append_, List.getElem?_toArray, List.getElem?_cons_zero, List.getElem?_cons_succ, Sem.run_bind, run_underlying ht, run_underlying ht2, Result.andThen_ok, sizeOf, typeInfo, run_program, hi, Sem.run_pure]
    simp [hlen, hneed, hns, Addr.add_lit, hst]

theorem heap_src (R : HRel P B0 W0 ρ h w) {sz : Nat} {x : EVal} {v : Value} (hx : VRel ρ x v) {r : List EVal} {n : Nat} (he : srcCells h sz x = some (r, n)) :
    ∃ vs : List Value, VsRel ρ r vs ∧ vs.length = n * sz ∧ (Builtin.lenOf v).run P w = .ok n w ∧ ∀ w', w'.heap = w.heap → (Builtin.firstCells sz n v).run P w' = .ok vs.toArray w' := by
  obtain ⟨vs, h1, h2, h3, h4⟩ := src_sound R hx he
  have hl : vs.length = n * sz := by rw [← h1.length, h2]
  refine ⟨vs, h1, hl, h3, fun w' hw => ?_⟩
  have := h4 n (Nat.le_refl _) w' hw
  rwa [List.take_of_length_le (by omega)] at this
end
end Go.Ev
