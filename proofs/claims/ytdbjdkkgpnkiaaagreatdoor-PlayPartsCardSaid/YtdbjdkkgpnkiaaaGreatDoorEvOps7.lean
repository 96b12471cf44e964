import Derived.Test.YtdbjdkkgpnkiaaaGreatDoorEvOps6
import Derived.MapKept
import Derived.Laws.RangeString
set_option linter.unusedSimpArgs false
set_option linter.unusedVariables false
namespace Go.Ev
open Go.RowKit Go.MapKept

section
variable {P : Program} {B0 : Nat} {W0 : Base} {ρ : Loc} {h : H} {w : World} {g : G}

theorem bytesE_sound : ∀ (es : List EVal) (l : List Nat) (vs : List Value), bytesE es = some l → VsRel ρ es vs → ∃ bs : List UInt8, bs.map UInt8.toNat = l ∧ vs = bs.map fun b => .int .u8 b.toNat
  | [], l, vs, he, hr => by
    simp only [bytesE, Option.some.injEq] at he; subst he
    cases hr
    exact ⟨[], rfl, rfl⟩
  | e :: es, l, vs, he, hr => by
    cases hr with
    | cons _ v _ vs hv hs =>
    unfold bytesE at he
    split at he
    · rename_i heq; cases heq
    · rename_i b es' heq
      cases heq
      cases hv
      split at he
      · rename_i hlt
        split at he
        · rename_i m hm
          simp only [Option.some.injEq] at he; subst he
          obtain ⟨bs, h1, h2⟩ := bytesE_sound es m vs hm hs
          refine ⟨UInt8.ofNat b.toNat :: bs, ?_, ?_⟩
          · rw [List.map_cons, h1, UInt8.toNat_ofNat_of_lt' (by show b.toNat < 256; omega)]
          · rw [h2, List.map_cons, UInt8.toNat_ofNat_of_lt' (by show b.toNat < 256; omega)]
            congr 2; omega
        · cases he
      · cases he
    · cases he

theorem unsafeString_sound (R : HRel P B0 W0 ρ h w) {pt it ty e : TypeId} (hp : P.underlying pt = some (.pointer e)) {x r : EVal} {v : Value} {n : Int} {h' : H} (hx : VRel ρ x v) (he : eUnsafeString P h e x n = some (r, h')) :
    GoodV P B0 W0 ρ w (Builtin.unsafeString_ #[pt, it] ty #[v, .int .i64 n]) r h' := by
  unfold eUnsafeString at he
  split at he
  · cases hx
    split at he
    · rename_i h0
      subst h0
      simp only [Option.some.injEq, Prod.mk.injEq] at he
      obtain ⟨rfl, rfl⟩ := he
      exact GoodV.same R (Lib.run_unsafeString_none w pt it ty none) (.str _ _ rfl)
    · cases he
  · rename_i id off
    cases hx
    rename_i b C hb
    split at he
    · rename_i h0
      subst h0
      simp only [Option.some.injEq, Prod.mk.injEq] at he
      obtain ⟨rfl, rfl⟩ := he
      exact GoodV.same R (Lib.run_unsafeString_none w pt it ty _) (.str _ _ rfl)
    · rename_i h0
      split at he
      · rename_i hc
        obtain ⟨hpos, hlt, rfl⟩ := hc
        unfold eUnsafeString' at he
        split at he
        · rename_i cs e' lo hi sl hg
          split at he
          · rename_i hc2
            obtain ⟨rfl, rfl, hhi, hsz⟩ := hc2
            split at he
            · rename_i rr hrr
              split at he
              · rename_i l hl
                simp only [Option.some.injEq, Prod.mk.injEq] at he
                obtain ⟨rfl, rfl⟩ := he
                obtain ⟨b', C', hb', cv, hw, hrel, hx1, hx2⟩ := R.objs _ _ hg
                rw [hb] at hb'; cases hb'
                unfold takeN at hrr
                simp only [List.drop_zero] at hrr
                split at hrr
                · rename_i hlen
                  simp only [Option.some.injEq] at hrr; subst hrr
                  have hrel2 := hrel.take n.toNat
                  obtain ⟨bs, hbs1, hbs2⟩ := bytesE_sound _ _ _ hl hrel2
                  have hcell1 : P.cellsOf e' = 1 := by
                    simp only [sizeT, Option.map_eq_some_iff] at hsz
                    obtain ⟨i, hi1, hi2⟩ := hsz
                    simp [Program.cellsOf, hi1, hi2]
                  have hbl : bs.length = n.toNat := by
                    have := hrel2.length
                    rw [hlen, hbs2] at this; simpa using this.symm
                  have hcl := hrel.length
                  have hle : cs.length ≤ cv.size := by simp at hcl; omega
                  have hlc : n.toNat ≤ cs.length := by
                    rw [List.length_take] at hlen; omega
                  have hrun := Lib.run_unsafeString_row (P := P) w pt it ty e' hp hcell1 b cv.size (by simp [World.shape?, hw]) bs (by intro hh; subst hh; simp at hbl; omega) (by omega) (by omega) (by
                    intro j x hj
                    rw [Addr.add_lit]
                    have : ((cv.toList.take cs.length).take n.toNat)[j]? = some (.int .u8 x.toNat) := by rw [hbs2]; simp [hj]
                    rw [List.getElem?_take] at this
                    split at this
                    · rw [List.getElem?_take] at this
                      split at this
                      · simp only [World.cell?, hw]; simpa using this
                      · cases this
                    · cases this)
                  have hn : ((bs.length : Nat) : Int) = n := by omega
                  rw [hn] at hrun
                  refine ⟨_, _, ρ, Loc.le_refl _, ?_, hrun, .str _ _ (by simpa using hbs1)⟩
                  have hne : bs.length ≠ 0 := by omega
                  have hfz : (w.freeze ⟨b, 0, none⟩ bs.length).heap[b]? = some (.cells cv e' (0, n.toNat)) := by
                    simp only [World.freeze, hne, if_false, Array.getElem?_modify, hw, if_true, Option.map_some, Option.some.injEq, Obj.cells.injEq, true_and]
                    split
                    · simp [hbl]
                    · simp [hbl]; omega
                  refine R.put hg hb (Lib.below_freeze (Below.refl _ _) (R.lo _ _ _ hb).1 _) (by simp [World.freeze, hne]) (fun k hk => by simp [World.freeze, hne, Array.getElem?_modify, Ne.symm hk]) ?_
                  exact ⟨cv, hfz, hrel, hx1, hx2⟩
                · cases hrr
              · cases he
            · cases he
          · cases he
        · cases he
      · cases he
  · cases he


/-! ranges over strings -/
theorem HRel.newObj (R : HRel P B0 W0 ρ h w) {s : Sem Value} {o : EObj} {obj : Obj} {e : EVal} {v : Value} (ho : ORel P (ρ.add h.n (w.heap.size, 0)) o 0 (some obj))
    (hs : s.run P w = .ok v (w.alloc obj)) (hv : VRel (ρ.add h.n (w.heap.size, 0)) e v) : GoodV P B0 W0 ρ w s e (h.new o) :=
  ⟨v, _, _, Loc.le_add R.fresh, R.new o obj 0 ho, hs, hv⟩

theorem getObj_run {b : Nat} {o : Obj} (hw : w.heap[b]? = some o) (hne : ∀ c e f, o ≠ .cells c e f) : (getObj b).run P w = .ok o w := by
  cases o <;> simp [getObj, Sem.run, hw] <;> exact absurd rfl (hne _ _ _)

theorem setObj_run {b : Nat} {o o' : Obj} (hw : w.heap[b]? = some o) (hne : ∀ c e f, o ≠ .cells c e f) : (setObj b o').run P w = .ok () { w with heap := w.heap.setIfInBounds b o' } := by
  cases o <;> simp [setObj, Sem.run, hw] <;> exact absurd rfl (hne _ _ _)

theorem heap_set {b : Nat} {o o' : Obj} (hb : w.heap[b]? = some o) : (w.heap.setIfInBounds b o')[b]? = some o' ∧ ∀ r', r' ≠ b → (w.heap.setIfInBounds b o')[r']? = w.heap[r']? := by
  have hlt : b < w.heap.size := (Array.getElem?_eq_some_iff.1 hb).1
  exact ⟨by simp [hlt], fun r' hne => by simp [Ne.symm hne]⟩

/-- An object that is no row is turned. -/
theorem HRel.setObj (R : HRel P B0 W0 ρ h w) {id b C : Nat} {o o' : EObj} {obj obj' : Obj} (hg : h.get id = some o) (hb : ρ id = some (b, C)) (hw : w.heap[b]? = some obj) (ho : ORel P ρ o' C (some obj')) :
    HRel P B0 W0 ρ (h.put id o') { w with heap := w.heap.setIfInBounds b obj' } := by
  obtain ⟨h1, h2⟩ := heap_set (o' := obj') hw
  refine R.put hg hb ⟨rfl, rfl, rfl, by simp, fun k hk => h2 k (by have := (R.lo _ _ _ hb).1; omega)⟩ (by simp) (fun k hk => h2 k hk) ?_
  show ORel P ρ o' C ((w.heap.setIfInBounds b obj')[b]?)
  rw [h1]; exact ho

theorem range_sound (R : HRel P B0 W0 ρ h w) {t : TypeId} {x e : EVal} {v : Value} {h' : H} (hx : VRel ρ x v) (he : eRange P h t (some x) = some (.val e h')) : GoodV P B0 W0 ρ w (Instr.range t v) e h' := by
  unfold eRange at he
  split at he
  · rename_i l heq
    simp only [Option.some.injEq] at heq; subst heq
    cases hx
    rename_i s hs
    split at he
    · rename_i hu
      simp only [Option.some.injEq, EOut.val.injEq] at he
      obtain ⟨rfl, rfl⟩ := he
      refine R.newObj (obj := .stringIter s 0) (v := .pointer (some ⟨w.heap.size, 0, none⟩)) ⟨s, hs, rfl⟩ ?_ (.ptr _ _ _ _ (Loc.add_self _ _ _))
      simp [Instr.range, run_underlying hu]
    · cases he
  · rename_i m heq
    simp only [Option.some.injEq] at heq; subst heq
    cases hx
    rename_i b C hb
    split at he
    · rename_i kt el hu
      unfold eRangeMap at he
      split at he
      · rename_i es c hg
        simp only [Option.some.injEq, EOut.val.injEq] at he
        obtain ⟨rfl, rfl⟩ := he
        obtain ⟨b', C', hb', ms, hw, hm⟩ := R.objs _ _ hg
        rw [hb] at hb'; cases hb'
        refine R.newObj (obj := .mapIter (some b) c #[] c) (v := .pointer (some ⟨w.heap.size, 0, none⟩)) ⟨b, C, (Loc.le_add R.fresh).own _ _ hb, by simp⟩ ?_ (.ptr _ _ _ _ (Loc.add_self _ _ _))
        simp [Instr.range, run_underlying hu, getObj_run (P := P) hw (by intro c e f hh; cases hh)]
      · cases he
    · cases he
  · cases he

theorem nextS_sound (R : HRel P B0 W0 ρ h w) {x e : EVal} {v : Value} {h' : H} (ty : TypeId) (hx : VRel ρ x v) (he : eNextS h (some x) = some (.val e h')) : GoodV P B0 W0 ρ w (Instr.next v true ty) e h' := by
  unfold eNextS at he
  split at he
  · rename_i id heq
    simp only [Option.some.injEq] at heq; subst heq
    cases hx
    rename_i b C hb
    split at he
    · rename_i l pos hg
      obtain ⟨b', C', hb', s, hs, hw⟩ := R.objs _ _ hg
      rw [hb] at hb'; cases hb'
      have hgo := getObj_run (P := P) hw (by intro c e f hh; cases hh)
      have hls : l.length = s.size := by rw [← hs, List.length_map, ← size_eq]
      unfold eNextS' at he
      split at he
      · rename_i hlt
        split at he
        · rename_i c wd hn
          simp only [Option.some.injEq, EOut.val.injEq] at he
          obtain ⟨rfl, rfl⟩ := he
          have hps : pos < s.size := by omega
          have hdec : Utf8.decode s pos = (c, wd) := by
            unfold asciiNext at hn
            split at hn
            · rename_i b1 hb1
              split at hn
              · rename_i h128
                simp only [Option.some.injEq, Prod.mk.injEq] at hn
                obtain ⟨rfl, rfl⟩ := hn
                have hbb : s[pos].toNat = b1 := by
                  rw [← hs, List.getElem?_map] at hb1
                  cases hq : s.data.toList[pos]? with
                  | none => rw [hq] at hb1; cases hb1
                  | some q =>
                    rw [hq] at hb1
                    simp only [Option.map_some, Option.some.injEq] at hb1
                    rw [← hb1]
                    have := (List.getElem?_eq_some_iff.1 hq).2
                    rw [← this]; rfl
                have := decode_ascii s pos hps (by rw [hbb]; exact h128)
                rw [hbb] at this
                exact this
              · have hss : (⟨(l.map UInt8.ofNat).toArray⟩ : ByteArray) = s := by
                  rw [← hs, List.map_map]
                  have : (UInt8.ofNat ∘ UInt8.toNat) = fun x : UInt8 => x := by funext x; simp
                  rw [this, List.map_id']
                rw [hss] at hn
                exact Option.some.inj hn
            · cases hn
          have hso := setObj_run (P := P) (o' := .stringIter s (pos + wd)) hw (by intro c e f hh; cases hh)
          refine ⟨_, _, ρ, Loc.le_refl _, R.setObj hg hb hw ⟨s, hs, rfl⟩, ?_, .tup _ #[.bool true, .int .i64 pos, .int .i32 c] (.cons _ _ _ _ (.bool _) (.cons _ _ _ _ (.int _ _) (.cons _ _ _ _ (.int _ _) .nil)))⟩
          simp [Instr.next, hgo, hps, hdec, hso, goInt]
        · cases he
      · rename_i hlt
        simp only [Option.some.injEq, EOut.val.injEq] at he
        obtain ⟨rfl, rfl⟩ := he
        have hps : ¬ pos < s.size := by omega
        refine GoodV.same R (v := .tuple #[.bool false]) ?_ (.tup _ _ (.cons _ _ _ _ (.bool _) .nil))
        simp [Instr.next, hgo, hps]
    · cases he
  · cases he

/-! maps -/
theorem keyFits_spec {d : TypeDesc} {k : EVal} {kv : Value} (hk : keyFits (some d) k = true) (hr : VRel ρ k kv) : IsKey d kv := by
  unfold keyFits at hk
  split at hk
  · rename_i j heq
    cases heq
    split at hk
    · cases hr; simpa [IsKey] using hk
    · cases hk
  · rename_i heq
    cases heq
    split at hk
    · cases hr; trivial
    · cases hk
  · rename_i heq
    cases heq
    split at hk
    · cases hr; trivial
    · cases hk
  · cases hk

theorem sameNow_sound {d : TypeDesc} {k a : EVal} {kv av : Value} (hf : keyFits (some d) k = true) (hk : VRel ρ k kv) (ha : VRel ρ a av) {r : Bool} (he : eqKey k a = some r) :
    Instr.sameNow d kv av = some r ∧ (r = true → kv = av) := by
  unfold eqKey at he
  split at he
  · cases hk; cases ha
    simp only [Option.some.injEq] at he; subst he
    unfold keyFits at hf
    split at hf
    · rename_i j heq; cases heq; simp at hf
    · rename_i heq; cases heq; simp at hf
    · rename_i heq; cases heq
      exact ⟨rfl, fun h => by simp at h; rw [h]⟩
    · cases hf
  · cases hk; cases ha
    split at he
    · rename_i hkk; subst hkk
      simp only [Option.some.injEq] at he; subst he
      unfold keyFits at hf
      split at hf
      · rename_i j heq; cases heq
        exact ⟨by simp [Instr.sameNow], fun h => by simp at h; rw [h]⟩
      · rename_i heq; cases heq; simp at hf
      · rename_i heq; cases heq; simp at hf
      · cases hf
    · cases he
  · cases hk; cases ha
    rename_i s hs s' hs'
    simp only [Option.some.injEq] at he; subst he
    have hb := bytes_eq hs hs'
    unfold keyFits at hf
    split at hf
    · rename_i j heq; cases heq; simp at hf
    · rename_i heq; cases heq
      refine ⟨?_, fun h => ?_⟩
      · simp only [Instr.sameNow]
        rw [beq_toListBytes, hb]
      · rw [h, beq_iff_eq, ByteArray.toList_eq, ByteArray.toList_eq] at hb
        congr 1
        exact ByteArray.ext (Array.ext' hb)
    · rename_i heq; cases heq; simp at hf
    · cases hf
  · cases he

theorem findE_sound {d : TypeDesc} {k : EVal} {kv : Value} (hf : keyFits (some d) k = true) (hk : VRel ρ k kv) : ∀ (es : List (EVal × EVal × Nat)) (ms : List MapEntry) (j : Nat) {r : Option EVal}, MRel ρ es ms →
    findE k es = some r → ∃ a, Instr.findNow d kv ms j = some a ∧ (match r, a with | none, none => True | some v, some (_, u) => VRel ρ v u | _, _ => False)
  | [], ms, j, r, hm, he => by
    cases hm
    simp only [findE, Option.some.injEq] at he; subst he
    exact ⟨none, rfl, trivial⟩
  | (a, b, t) :: es, ms, j, r, hm, he => by
    cases hm with
    | cons _ _ _ _ m ms hkk hv hb hm =>
    simp only [findE] at he
    split at he
    · rename_i hq
      simp only [Option.some.injEq] at he; subst he
      obtain ⟨h1, _⟩ := sameNow_sound hf hk hkk hq
      exact ⟨some (j, m.val), by simp [Instr.findNow, h1], hv⟩
    · rename_i hq
      obtain ⟨h1, _⟩ := sameNow_sound hf hk hkk hq
      obtain ⟨a', h2, h3⟩ := findE_sound hf hk es ms (j + 1) hm he
      exact ⟨a', by simp [Instr.findNow, h1, h2], h3⟩
    · cases he

theorem zeroV_sound {t : TypeId} {z : EVal} (hz : zeroV P t = some z) (w : World) : ∃ u, (zeroValue t).run P w = .ok u w ∧ VRel ρ z u := by
  unfold zeroV at hz
  split at hz
  · rename_i i hi
    split at hz
    · rename_i u hu
      exact ⟨u, by simp [zeroValue, typeInfo, hi, hu], absV_rel hz⟩
    · cases hz
  · cases hz

theorem lookup_sound (R : HRel P B0 W0 ρ h w) {t : TypeId} {x k e : EVal} {v kv : Value} {ok : Bool} (hx : VRel ρ x v) (hk : VRel ρ k kv) (he : eLookup P h t x k ok = some e) :
    ∃ u, (Instr.lookup t v kv ok).run P w = .ok u w ∧ VRel ρ e u := by
  unfold eLookup at he
  split at he
  · rename_i kt el hu
    split at he
    · rename_i hf
      cases hd : P.underlying kt with
      | none => rw [hd] at hf; simp [keyFits] at hf
      | some d =>
        rw [hd] at hf
        have hik := keyFits_spec hf hk
        have hck : ∀ emp, (Instr.checkKey emp 10000 kt kv).run P w = .ok () w := fun emp => run_checkKey hd hik emp 9999
        have fin : ∀ (ms : List MapEntry) (r : Option EVal) (a : Option (Nat × Value)), Instr.findNow d kv ms 0 = some a →
            (match r, a with | none, none => True | some v, some (_, u) => VRel ρ v u | _, _ => False) → eLookup' P ok el (some r) = some e →
            (Instr.findKey kt kv ms).run P w = .ok a w ∧ ((a = none ∧ ∃ u, (zeroValue el).run P w = .ok u w ∧ VRel ρ e (if ok then .tuple #[u, .bool false] else u)) ∨
              ∃ i u, a = some (i, u) ∧ VRel ρ e (if ok then .tuple #[u, .bool true] else u)) := by
          intro ms r a ha hra hel
          refine ⟨run_findKey hd ha, ?_⟩
          cases r with
          | none =>
            cases a with
            | some _ => exact hra.elim
            | none =>
              simp only [eLookup'] at hel
              split at hel
              · rename_i z hz
                simp only [Option.some.injEq] at hel; subst hel
                obtain ⟨u, hu1, hu2⟩ := zeroV_sound (ρ := ρ) hz w
                refine .inl ⟨rfl, u, hu1, ?_⟩
                cases ok
                · exact hu2
                · exact .tup _ _ (.cons _ _ _ _ hu2 (.cons _ _ _ _ (.bool _) .nil))
              · cases hel
          | some z =>
            cases a with
            | none => exact hra.elim
            | some p =>
              obtain ⟨i, u⟩ := p
              simp only [eLookup', Option.some.injEq] at hel; subst hel
              refine .inr ⟨i, u, rfl, ?_⟩
              cases ok
              · exact hra
              · exact .tup _ _ (.cons _ _ _ _ hra (.cons _ _ _ _ (.bool _) .nil))
        split at he
        · cases hx
          obtain ⟨h4, ⟨_, u, h1, h2⟩ | ⟨i, u, h1, h2⟩⟩ := fin [] none none rfl trivial he
          · exact ⟨_, by simp [Instr.lookup, run_underlying hu, hck, h4, h1], h2⟩
          · cases h1
        · rename_i id
          cases hx
          rename_i b C hb
          split at he
          · rename_i es c hg
            obtain ⟨b', C', hb', ms, hw, hm⟩ := R.objs _ _ hg
            rw [hb] at hb'; cases hb'
            have hgo := getObj_run (P := P) hw (by intro c e f hh; cases hh)
            cases hfe : findE k es with
            | none => rw [hfe] at he; simp [eLookup'] at he
            | some r =>
              rw [hfe] at he
              obtain ⟨a, ha1, ha2⟩ := findE_sound hf hk es ms.toList 0 hm hfe
              obtain ⟨h4, ⟨rfl, u, h1, h2⟩ | ⟨i, u, rfl, h2⟩⟩ := fin ms.toList r a ha1 ha2 he
              · exact ⟨_, by simp [Instr.lookup, run_underlying hu, hgo, hck, h4, h1], h2⟩
              · exact ⟨_, by simp [Instr.lookup, run_underlying hu, hgo, hck, h4], h2⟩
          · cases he
        · cases he
    · cases he
  · cases he

theorem updE_sound {d : TypeDesc} {k v : EVal} {kv vv : Value} (hf : keyFits (some d) k = true) (hk : VRel ρ k kv) (hv : VRel ρ v vv) : ∀ (es : List (EVal × EVal × Nat)) (ms : List MapEntry) (j : Nat) {r : Option (List (EVal × EVal × Nat))}, MRel ρ es ms →
    updE k v es = some r → ∃ a, Instr.findNow d kv ms j = some a ∧ ((r = none ∧ a = none) ∨ ∃ m i u e, r = some m ∧ a = some (j + i, u) ∧ ms[i]? = some e ∧ e.key = kv ∧ MRel ρ m (ms.modify i fun e => { e with key := kv, val := vv }))
  | [], ms, j, r, hm, he => by
    cases hm
    simp only [updE, Option.some.injEq] at he; subst he
    exact ⟨none, rfl, .inl ⟨rfl, rfl⟩⟩
  | (a, b, t) :: es, ms, j, r, hm, he => by
    cases hm with
    | cons _ _ _ _ m ms hkk hvv hb hm =>
    simp only [updE] at he
    split at he
    · rename_i hq
      simp only [Option.some.injEq] at he; subst he
      obtain ⟨h1, h2⟩ := sameNow_sound hf hk hkk hq
      refine ⟨some (j, m.val), by simp [Instr.findNow, h1], .inr ⟨_, 0, m.val, m, rfl, rfl, by simp, (h2 rfl).symm, ?_⟩⟩
      simp only [List.modify_zero_cons]
      exact .cons _ _ _ _ _ _ (by rw [h2 rfl]; exact hkk) hv hb hm
    · rename_i hq
      obtain ⟨h1, _⟩ := sameNow_sound hf hk hkk hq
      split at he
      · rename_i m' hm'
        simp only [Option.some.injEq] at he; subst he
        obtain ⟨a', h2, ⟨h3, _⟩ | ⟨m2, i, u, e, h3, h4, h5, h6, h7⟩⟩ := updE_sound hf hk hv es ms (j + 1) hm hm'
        · cases h3
        · cases h3
          refine ⟨a', by simp [Instr.findNow, h1, h2], .inr ⟨_, i + 1, u, e, rfl, by rw [h4]; congr 2; omega, by simpa using h5, h6, ?_⟩⟩
          simp only [List.modify_succ_cons]
          exact .cons _ _ _ _ _ _ hkk hvv hb h7
      · rename_i hm'
        simp only [Option.some.injEq] at he; subst he
        obtain ⟨a', h2, ⟨_, h3⟩ | ⟨m2, i, u, e, h3, _⟩⟩ := updE_sound hf hk hv es ms (j + 1) hm hm'
        · exact ⟨a', by simp [Instr.findNow, h1, h2], .inl ⟨rfl, h3⟩⟩
        · cases h3
      · cases he
    · cases he

theorem MRel.push {es : List (EVal × EVal × Nat)} {ms : List MapEntry} (hm : MRel ρ es ms) {k v : EVal} {m : MapEntry} (hk : VRel ρ k m.key) (hv : VRel ρ v m.val) : MRel ρ (es ++ [(k, v, m.born)]) (ms ++ [m]) := by
  induction hm with
  | nil => exact .cons _ _ _ _ _ _ hk hv rfl .nil
  | cons a b t es e ms h1 h2 h3 _ ih => exact .cons _ _ _ _ _ _ h1 h2 h3 ih

theorem sameBits_key {d : TypeDesc} {kv : Value} (hk : IsKey d kv) (n : Nat) : Instr.sameBits n kv kv = true := by
  cases d <;> cases kv <;> simp_all [IsKey, Instr.sameBits]
  rw [beq_toListBytes]; simp

theorem update_sound (R : HRel P B0 W0 ρ h w) {t : TypeId} {x k e : EVal} {v kv vv : Value} (hx : VRel ρ x v) (hk : VRel ρ k kv) (hv : VRel ρ e vv) {h' : H} (he : eUpdate P h t x k e = some h') :
    ∃ w', (Instr.mapUpdate t v kv vv).run P w = .ok () w' ∧ HRel P B0 W0 ρ h' w' := by
  unfold eUpdate at he
  split at he
  · rename_i kt el hu
    split at he
    · rename_i hf
      cases hd : P.underlying kt with
      | none => rw [hd] at hf; simp [keyFits] at hf
      | some d =>
        rw [hd] at hf
        have hik := keyFits_spec hf hk
        have hck : ∀ emp, (Instr.checkKey emp 10000 kt kv).run P w = .ok () w := fun emp => run_checkKey hd hik emp 9999
        split at he
        · rename_i id
          cases hx
          rename_i b C hb
          split at he
          · rename_i es c hg
            obtain ⟨b', C', hb', ms, hw, hm⟩ := R.objs _ _ hg
            rw [hb] at hb'; cases hb'
            have hgo := getObj_run (P := P) hw (by intro c e f hh; cases hh)
            cases hfe : updE k e es with
            | none => rw [hfe] at he; simp [eUpdate'] at he
            | some r =>
              rw [hfe] at he
              obtain ⟨a, h1, h2⟩ := updE_sound hf hk hv es ms.toList 0 hm hfe
              have hfk : (Instr.findKey kt kv ms.toList).run P w = .ok a w := run_findKey hd h1
              rcases h2 with ⟨rfl, rfl⟩ | ⟨m, i, u, en, rfl, rfl, h5, h6, h7⟩
              · simp only [eUpdate', Option.some.injEq] at he; subst he
                have hso := setObj_run (P := P) (o' := .map (ms.push { key := kv, val := vv, born := c }) (c + 1)) hw (by intro c e f hh; cases hh)
                refine ⟨_, by simp [Instr.mapUpdate, run_underlying hu, hgo, hck, hfk, hso]; rfl, R.setObj hg hb hw ⟨_, rfl, ?_⟩⟩
                rw [Array.toList_push]
                exact hm.push (m := { key := kv, val := vv, born := c }) hk hv
              · simp only [eUpdate', Option.some.injEq] at he; subst he
                have hso := setObj_run (P := P) (o' := .map (ms.modify i fun e => { e with key := kv, val := vv }) c) hw (by intro c e f hh; cases hh)
                have hmi : ms[i]? = some en := by simpa using h5
                have hks : (Instr.keyThatStays en.key kv).run P w = .ok kv w := by
                  rw [h6]; simp [Instr.keyThatStays, sameBits_key hik]
                refine ⟨{ w with heap := w.heap.setIfInBounds b (.map (ms.modify i fun e => { e with key := kv, val := vv }) c) }, by simp [Instr.mapUpdate, run_underlying hu, hgo, hck, hfk, hmi, hks]; exact hso, R.setObj hg hb hw ⟨_, rfl, ?_⟩⟩
                rw [Array.toList_modify]
                exact h7
          · cases he
        · cases he
    · cases he
  · cases he

theorem MRel.find {es : List (EVal × EVal × Nat)} {ms : List MapEntry} (hm : MRel ρ es ms) (b : Nat) {e : EVal × EVal × Nat} (he : es.find? (·.2.2 == b) = some e) :
    ∃ m, ms.find? (·.born == b) = some m ∧ VRel ρ e.1 m.key ∧ VRel ρ e.2.1 m.val := by
  induction hm with
  | nil => simp at he
  | cons k v t es m ms hk hv hb _ ih =>
    rw [List.find?_cons] at he ⊢
    simp only [hb] at he ⊢
    cases hq : (t == b) with
    | true => simp only [hq] at he ⊢; cases he; exact ⟨m, rfl, hk, hv⟩
    | false => simp only [hq] at he ⊢; exact ih he

theorem entry_sound (R : HRel P B0 W0 ρ h w) {x e : EVal} {v : Value} {h' : H} (hx : VRel ρ x v) (he : eEntry h (some x) = some (.val e h')) : GoodV P B0 W0 ρ w (Instr.entry v) e h' := by
  unfold eEntry at he
  split at he
  · rename_i id heq
    simp only [Option.some.injEq] at heq; subst heq
    cases hx
    rename_i b C hb
    split at he
    · rename_i m since seen stepped hg
      obtain ⟨b', C', hb', bm, Cm, hbm, hw⟩ := R.objs _ _ hg
      rw [hb] at hb'; cases hb'
      split at he
      · rename_i es c last hgm hlast
        obtain ⟨b2, C2, hb2, ms, hwm, hm⟩ := R.objs _ _ hgm
        rw [hbm] at hb2; cases hb2
        unfold eEntry' at he
        split at he
        · rename_i hcs
          subst hcs
          split at he
          · rename_i en hen
            simp only [Option.some.injEq, EOut.val.injEq] at he
            obtain ⟨rfl, rfl⟩ := he
            obtain ⟨me, h1, h2, h3⟩ := hm.find _ hen
            have hgo := getObj_run (P := P) hw (by intro c e f hh; cases hh)
            have hgm' := getObj_run (P := P) hwm (by intro c e f hh; cases hh)
            have hf : ms.find? (·.born == last) = some me := by rw [← Array.find?_toList]; exact h1
            refine GoodV.same R (v := .tuple #[me.key, me.val]) ?_ (.tup _ _ (.cons _ _ _ _ h2 (.cons _ _ _ _ h3 .nil)))
            have hback : seen.toArray.back? = some last := by simp [hlast]
            simp [Instr.entry, hgo, hgm', hback, hf]
          · cases he
        · cases he
      · cases he
    · cases he
  · cases he
end
end Go.Ev
