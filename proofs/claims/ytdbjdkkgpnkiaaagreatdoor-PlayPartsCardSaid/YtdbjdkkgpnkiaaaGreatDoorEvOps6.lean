import Derived.Test.YtdbjdkkgpnkiaaaGreatDoorEvOps5
set_option linter.unusedSimpArgs false
set_option linter.unusedVariables false
namespace Go.Ev
open Go.RowKit

section
variable {P : Program} {B0 : Nat} {W0 : Base} {ρ : Loc} {h : H} {w : World} {g : G}

theorem VRel.lslFz {els : List (List EVal)} {u : Value} (h : VRel ρ (.lsl els) u) : VRel ρ.fz (.lsl els) u := by
  cases h with
  | lsl _ us b o c sz pre rest hf hs hw ho hz hc => exact .lsl els us b o c sz pre rest hf hs hw ho hz hc
  | lsl0 p c => exact .lsl0 p c
  | lsln => exact .lsln

theorem keep1_sound {v v' : EVal} {u : Value} (h : VRel ρ v u) (hk : keep1 v = some v') : VRel ρ.fz v' u ∧ u.oneCell' = true := by
  unfold keep1 at hk
  split at hk <;> first | cases hk | (simp only [Option.some.injEq] at hk; subst hk)
  · refine ⟨h.unG.lslFz, ?_⟩; cases h <;> rfl
  · refine ⟨h.lslFz, ?_⟩; cases h <;> rfl
  · cases h with
    | lptr _ _ us b base pre rest hf hs hw ho => exact ⟨.lptr _ _ us b base pre rest hf hs hw ho, rfl⟩
  · cases h; exact ⟨.bool _, rfl⟩
  · cases h; exact ⟨.int _ _, rfl⟩
  · cases h with | str _ s hs => exact ⟨.str _ s hs, rfl⟩
  · cases h; exact ⟨.nilp, rfl⟩
  · cases h; exact ⟨.gptr _ _, rfl⟩
  · cases h; exact ⟨.lsln, rfl⟩
  · cases h; exact ⟨.nilmap, rfl⟩
  · cases h; exact ⟨.nilfunc, rfl⟩
  · cases h; exact ⟨.nilif, rfl⟩
  · cases h with | func _ _ vs hv => cases hv' : vs.toList with
    | nil => rw [hv'] at hv; exact ⟨.func _ _ _ (by rw [hv']; exact .nil), rfl⟩
    | cons => rw [hv'] at hv; cases hv

theorem keepL_sound : ∀ {l l' : List EVal} {us : List Value}, VsRel ρ l us → keepL l = some l' → VsRel ρ.fz l' us ∧ ∀ u ∈ us, u.oneCell' = true
  | [], l', us, h, hk => by
    simp only [keepL, Option.some.injEq] at hk; subst hk
    cases h; exact ⟨.nil, by simp⟩
  | v :: l, l', us, h, hk => by
    simp only [keepL] at hk
    split at hk
    · rename_i a b ha hb
      simp only [Option.some.injEq] at hk; subst hk
      cases h with
      | cons _ u _ us h hs =>
        obtain ⟨h1, h2⟩ := keep1_sound h ha
        obtain ⟨h3, h4⟩ := keepL_sound hs hb
        exact ⟨.cons _ _ _ _ h1 h3, fun x hx => by rcases List.mem_cons.1 hx with rfl | hx; exact h2; exact h4 x hx⟩
    · cases hk

theorem chunk_rel (sz : Nat) : ∀ (n : Nat) (l : List EVal) (us : List Value), VsRel ρ l us → l.length = n * sz → ∃ uss : List (List Value), VssRel ρ (chunk sz n l) uss ∧ uss.flatten = us ∧ (∀ u ∈ uss, u.length = sz) ∧ uss.length = n
  | 0, l, us, h, hl => by
    have : us = [] := List.eq_nil_of_length_eq_zero (by rw [← h.length, hl]; simp)
    exact ⟨[], .nil, by simp [this], by simp, rfl⟩
  | n + 1, l, us, h, hl => by
    have hu : us.length = (n + 1) * sz := by rw [← h.length, hl]
    rw [Nat.succ_mul] at hl hu
    obtain ⟨uss, h1, h2, h3, h4⟩ := chunk_rel sz n (l.drop sz) (us.drop sz) (h.drop sz) (by rw [List.length_drop]; omega)
    refine ⟨us.take sz :: uss, .cons _ _ _ _ (h.take sz) h1, by rw [List.flatten_cons, h2, List.take_append_drop], fun u hx => ?_, by simp [h4]⟩
    rcases List.mem_cons.1 hx with rfl | hx
    · rw [List.length_take]; omega
    · exact h3 u hx

theorem chunk_length (sz : Nat) : ∀ (n : Nat) (l : List EVal), (chunk sz n l).length = n
  | 0, _ => rfl
  | n + 1, l => by simp [chunk, chunk_length sz n]

theorem VssRel.append {ρ : Loc} {a b : List (List EVal)} {u v : List (List Value)} (h : VssRel ρ a u) (k : VssRel ρ b v) : VssRel ρ (a ++ b) (u ++ v) := by
  induction a generalizing u with
  | nil => cases h; exact k
  | cons e es ih => cases h with | cons _ x _ vs h hs => exact .cons _ _ _ _ h (ih hs)

theorem appendG_sound (R : HRel P B0 W0 ρ h w) {t t2 ty e : TypeId} (ht : P.underlying t = some (.slice e)) (ht2 : (∃ e2, P.underlying t2 = some (.slice e2)) ∨ P.underlying t2 = some .string) {rest : List TypeId} {i : TypeInfo} (hi : P.info? e = some i)
    {n id : Nat} {els : List (List EVal)} {u v : Value} {ns : List Value} {new : List EVal} {r : EVal} {h' : H} (hs : VRel ρ (.gsl id els) u) (hn1 : VsRel ρ new ns) (hn2 : ns.length = n * i.size) (hn3 : (Builtin.lenOf v).run P w = .ok n w)
    (hn4 : ∀ w', w'.heap = w.heap → (Builtin.firstCells i.size n v).run P w' = .ok ns.toArray w') (he : eAppendG P h e i.size i.bytes id els new n = some (r, h')) :
    GoodV P B0 W0 ρ w (Builtin.append_ (t :: t2 :: rest).toArray ty #[u, v]) r h' := by
  unfold eAppendG at he
  have hns := hn4 w rfl
  split at he
  · rename_i hn0
    subst hn0
    simp only [Option.some.injEq, Prod.mk.injEq] at he
    obtain ⟨rfl, rfl⟩ := he
    have hnil : ns = [] := List.eq_nil_of_length_eq_zero (by simpa using hn2)
    subst hnil
    cases hs with
    | gnil _ htau =>
      refine GoodV.same R ?_ (.gnil _ htau)
      rcases ht2 with ⟨e2, ht2⟩ | ht2
      all_goals
        simp only [Builtin.append_, List.getElem?_toArray, List.getElem?_cons_zero, List.getElem?_cons_succ, Sem.run_bind, run_underlying ht, run_underlying ht2, Result.andThen_ok, sizeOf, typeInfo, run_program, hi, Sem.run_pure]
        simp [hn3, hns]
    | gsl _ _ us b C sz pre rest' htau hf hv hw hz hc =>
      refine GoodV.same R ?_ (.gsl id els us b C sz pre rest' htau hf hv hw hz hc)
      have := run_append_room (ty := ty) (rest := rest) (off := 0) (w' := w) (b := b) ht ht2 hi hn3 (by omega : els.length + 0 ≤ C) hns rfl
      simpa using this
  · rename_i hn0
    split at he
    · rename_i m e' hk
      split at he
      · rename_i new' hnew
        split at he
        · rename_i hcond
          obtain ⟨rfl, rfl, hnl, hsz, hlens, hok⟩ := hcond
          simp only [Option.some.injEq, Prod.mk.injEq] at he
          obtain ⟨rfl, rfl⟩ := he
          obtain ⟨hk1, hk2⟩ := keepL_sound hn1 hnew
          obtain ⟨uss, hc1, hc2, hc3, hc4⟩ := chunk_rel i.size n new' ns hk1 hnl
          have hlen' : (els ++ chunk i.size n new').length = els.length + n := by rw [List.length_append, chunk_length]
          have hfresh : ∀ (b' C' : Nat), w.heap.size = b' → ∀ i' m' e'', h.k.get i' = some (m', e'') → ρ.tau i' m' ≠ some (some (b', C')) := by
            intro b' C' hb' i' m' e'' hk' ht'
            obtain ⟨x, h1, h2⟩ := R.toks _ _ _ hk'
            rw [ht'] at h1; cases h1
            obtain ⟨p, hp⟩ := (h2 b' C' rfl).fro
            have := FzOK.lt R.fz hp; omega
          have hfro0 : ρ.fro w.heap.size = none := by
            cases hq : ρ.fro w.heap.size with
            | none => rfl
            | some p => exact absurd (FzOK.lt R.fz hq) (Nat.lt_irrefl _)
          -- a new block
          have fresh : ∀ {base : Option Addr} {sLen sCap : Nat} {os : List Value} {us : List (List Value)}, sCap < sLen + n → sLen = els.length → (∀ w', w'.heap = w.heap → (Builtin.firstCells i.size sLen (.slice base sLen sCap)).run P w' = .ok os.toArray w') →
              VssRel ρ.fz els us → (∀ u ∈ us, u.length = i.size) → os = us.flatten → GoodV P B0 W0 ρ w (Builtin.append_ (t :: t2 :: rest).toArray ty #[.slice base sLen sCap, v]) (.gsl id (els ++ chunk i.size n new')) (h.tok id (els.length + n) e') := by
            intro base sLen sCap os us hcap hsl hos hvs hus hose
            have hosl : os.length = sLen * i.size := by rw [hose, flatten_len us hus, hsl, VssRel.length hvs]
            obtain ⟨C, rs, hrun, hC, hsize⟩ := run_append_grow (ty := ty) (rest := rest) ht ht2 hi hn3 hcap (hos w rfl) hn4 hos hosl hn2 (by rw [hsl]; exact hok)
            have R1 : HRel P B0 W0 ρ h w.drew := R.drew
            obtain ⟨hle, R2⟩ := R1.tokGrow (w' := w.drew.alloc (.cells (os ++ ns ++ rs).toArray e')) (n' := els.length + n) (b := w.heap.size) (C := C) (pre := os ++ ns) (cs := (os ++ ns ++ rs).toArray) hk (by omega)
              (.inl ⟨hfro0, fun id' C' o hg hr => absurd (R.lo _ _ _ hr).2 (Nat.lt_irrefl _), fun i' m' e'' C' hk' => hfresh _ C' rfl i' m' e'' hk'⟩) R.base
              (Below.alloc (w := w.drew) (Below.refl B0 w.drew) R.base _) (by show w.heap.size ≤ (w.heap.push _).size; simp) (fun k _ hk' => Below.heap_alloc _ _ _ hk') (by show (w.heap.push _)[w.heap.size]? = _; simp) hi (by simpa using hsize) ⟨rs, by simp⟩
              (by rw [List.length_append, hosl, hn2, ← Nat.add_mul, hsl])
            refine ⟨_, _, _, hle, R2, hrun, ?_⟩
            rw [hsl]
            have := VRel.gsl (ρ := ρ.ext w.heap.size (os ++ ns) id (els.length + n) C) id (els ++ chunk i.size n new') (us ++ uss) w.heap.size C i.size (os ++ ns) [] (by rw [hlen']; simp [Loc.ext]) (by simp [Loc.ext])
              ((hvs.append hc1).mono hle.fz) (by rw [List.flatten_append, hc2, hose, List.append_nil]) (fun u hu => by rcases List.mem_append.1 hu with hu | hu; exact hus u hu; exact hc3 u hu) (by rw [hlen']; omega)
            rw [hlen'] at this
            exact this
          cases hs with
          | gnil _ htau =>
            have := fresh (base := none) (sLen := 0) (sCap := 0) (os := []) (us := []) (by omega) rfl (fun w' _ => by simp [Builtin.firstCells]) .nil (by simp) rfl
            simpa using this
          | gsl _ _ us b C sz pre rest' htau hf hv hw hz hc =>
            obtain ⟨x, hx1, hx2⟩ := R.toks _ _ _ hk
            rw [htau] at hx1; cases hx1
            obtain ⟨hB, cs, i', pre', hcs, hi', hcsz, hpre', hpl⟩ := hx2 b C rfl
            rw [hf] at hpre'; cases hpre'
            rw [hi] at hi'; cases hi'
            have hz' : ∀ u ∈ us, u.length = i.size := by
              rcases VssRel.lens hv hz hlens with h0 | h0
              · subst h0; cases hv; simp
              · rw [h0]; exact hz
            have hul := flatten_len us hz'
            have hvl := VssRel.length hv
            obtain rfl : rest' = [] := by
              rw [hw, List.length_append, hul, ← hvl] at hpl
              exact List.eq_nil_of_length_eq_zero (by omega)
            rw [List.append_nil] at hw
            by_cases hroom : els.length + n ≤ C
            · -- in place
              obtain ⟨_, _, _, hcs2, more, hcm⟩ := R.fz _ _ hf
              rw [hcs] at hcs2; cases hcs2
              have hmul : (els.length + n) * i.size ≤ C * i.size := Nat.mul_le_mul_right _ hroom
              have hmul' : (els.length + n) * i.size = els.length * i.size + n * i.size := Nat.add_mul _ _ _
              have hst := run_storeCells_atF P b (els.length * i.size) e' (0, 0) ns 0 cs w hcs (by simp) (by omega) hk2
              simp only [Nat.add_zero] at hst
              have hrun := run_append_room (ty := ty) (rest := rest) (off := 0) (b := b) ht ht2 hi hn3 hroom (hn4 w rfl) (by rw [Nat.zero_add]; exact hst)
              have htake : cs.toList.take (els.length * i.size) = us.flatten := by
                rw [hcm, hw, ← hpl, hw]; exact List.take_left' rfl
              obtain ⟨hle, R2⟩ := R.tokGrow (w' := w.setRow b (cs.toList.take (els.length * i.size) ++ ns ++ cs.toList.drop (els.length * i.size + ns.length)).toArray) (n' := els.length + n) (b := b) (C := C) (pre := us.flatten ++ ns)
                (cs := (cs.toList.take (els.length * i.size) ++ ns ++ cs.toList.drop (els.length * i.size + ns.length)).toArray) hk (by omega) (.inr ⟨⟨pre, ns, hf, by rw [hw]⟩, htau⟩) hB
                (below_setRow (Below.refl _ _) hB _) (by rw [setRow_size]; exact Nat.le_refl _) (fun k hk' _ => setRow_other _ _ _ _ hk') (setRow_heap w b _ _ e' _ hcs) hi
                (by rw [← hcsz]; simp; omega) ⟨cs.toList.drop (els.length * i.size + ns.length), by simp [htake]⟩ (by rw [List.length_append, hul, hn2, ← hvl, ← Nat.add_mul])
              refine ⟨_, _, _, hle, R2, hrun, ?_⟩
              have := VRel.gsl (ρ := ρ.ext b (us.flatten ++ ns) id (els.length + n) C) id (els ++ chunk i.size n new') (us ++ uss) b C i.size (us.flatten ++ ns) [] (by rw [hlen']; simp [Loc.ext]) (by simp [Loc.ext])
                ((hv.append hc1).mono hle.fz) (by rw [List.flatten_append, hc2, List.append_nil]) (fun u hu => by rcases List.mem_append.1 hu with hu | hu; exact hz' u hu; exact hc3 u hu) (by rw [hlen']; omega)
              rw [hlen'] at this
              exact this
            · have hsrc := srcL_sound R (sz := i.size) (.lsl els us b 0 C i.size pre [] hf hv (by simp [hw]) (Nat.zero_le _) hz' hc) (r := els.flatten) (n := els.length) (by rw [if_pos hlens])
              obtain ⟨os, ho1, ho2, ho3, ho4⟩ := hsrc
              refine fresh (base := some ⟨b, 0, none⟩) (sLen := els.length) (sCap := C) (os := us.flatten) (us := us) (by omega) rfl (fun w' hw' => ?_) hv hz' rfl
              have hF : FzOK ρ.fro w' := FzOK.keep R.fz fun b pre _ => by rw [hw']
              have hlen3 : us.flatten.length = els.length * i.size := by rw [hul, hvl]
              have := run_loadCells_list (P := P) w' ⟨b, 0, none⟩ us.flatten (fun j u hu => by
                rw [Addr.add_lit]
                exact fz_cell hF hf (rest := []) (by simp [hw]) (Nat.zero_le _) hu)
              rw [hlen3] at this
              exact this
        · cases he
      · cases he
    · cases he

theorem append_sound (R : HRel P B0 W0 ρ h w) {t t2 ty : TypeId} {rest : List TypeId} (ht2 : (∃ e2, P.underlying t2 = some (.slice e2)) ∨ P.underlying t2 = some .string)
    {s x r : EVal} {u v : Value} {h' : H} (hs : VRel ρ s u) (hx : VRel ρ x v) (he : eAppend P h t s x = some (r, h')) :
    GoodV P B0 W0 ρ w (Builtin.append_ (t :: t2 :: rest).toArray ty #[u, v]) r h' := by
  unfold eAppend at he
  split at he
  · rename_i e ht
    split at he
    · rename_i i hi
      split at he
      · rename_i new n hsrc
        obtain ⟨ns, hn1, hn2, hn3, hn4⟩ := heap_src R hx hsrc
        split at he
        · -- nil
          cases hs
          split at he
          · rename_i hn0
            subst hn0
            simp only [Option.some.injEq, Prod.mk.injEq] at he
            obtain ⟨rfl, rfl⟩ := he
            refine GoodV.same R ?_ .nilslice
            have hns := hn4 w rfl
            rcases ht2 with ⟨e2, ht2⟩ | ht2
            all_goals
              simp only [Builtin.append_, List.getElem?_toArray, List.getElem?_cons_zero, List.getElem?_cons_succ, Sem.run_bind, run_underlying ht, run_underlying ht2, Result.andThen_ok, sizeOf, typeInfo, run_program, hi, Sem.run_pure]
              simp [hn3, hns]
          · rename_i hn0
            obtain ⟨hg, rfl, rfl⟩ := eGrow_spec he
            have := grow_sound (ty := ty) (rest := rest) R (base := none) (sLen := 0) (sCap := 0) (old := []) (os := []) ht ht2 hi .nil hn1 hn3 (by omega) (fun w' _ => by simp [Builtin.firstCells]) hn4 (by simp) hn2 (by simpa using hg)
            simpa using this
        · -- exact
          rename_i id off len c
          cases hs
          rename_i b C hb
          unfold eAppendX at he
          split at he
          · rename_i hroom
            split at he
            · rename_i h2 hst
              simp only [Option.some.injEq, Prod.mk.injEq] at he
              obtain ⟨rfl, rfl⟩ := he
              obtain ⟨w', hrun, R'⟩ := storeCells_sound R hb hn1 hst
              exact ⟨_, w', ρ, Loc.le_refl _, R', run_append_room ht ht2 hi hn3 hroom (hn4 w rfl) hrun, .slice _ _ _ _ _ _ hb⟩
            · cases he
          · rename_i hroom
            split at he
            · rename_i old hold
              obtain ⟨oc, on⟩ := old
              obtain ⟨hg, rfl, rfl⟩ := eGrow_spec he
              have hvs : VRel ρ (.slice id off len (.exact c)) (.slice (some ⟨b, off, none⟩) len c) := .slice _ _ _ _ _ _ hb
              obtain ⟨os, ho1, ho2, ho3, ho4⟩ := heap_src R hvs hold
              have hon : on = len := by
                simp only [Builtin.lenOf, Sem.run_pure, Result.ok.injEq] at ho3; exact ho3.1.symm
              subst hon
              exact grow_sound (ty := ty) (rest := rest) R ht ht2 hi ho1 hn1 hn3 (by omega) ho4 hn4 ho2 hn2 hg
            · cases he
        · -- slack
          rename_i id len
          cases hs with
          | slack _ _ _ _ c b C hb hc hlen =>
          have hcC : c = C := by omega
          subst hcC
          unfold eAppendS at he
          split at he
          · rename_i cs e' lo hi' hg
            obtain ⟨b', C', hb', cv, hw, hrel, _, hsl⟩ := R.objs _ _ hg
            rw [hb] at hb'; cases hb'
            obtain ⟨i', hi2, hcv⟩ := hsl rfl
            unfold eAppendS' at he
            split at he
            · rename_i hn0
              subst hn0
              simp only [Option.some.injEq, Prod.mk.injEq] at he
              obtain ⟨rfl, rfl⟩ := he
              refine GoodV.same R (v := .slice (some ⟨b, 0, none⟩) len c) ?_ (.slack _ _ _ _ _ _ _ hb hc hlen)
              have hns := hn4 w rfl
              have hnil : ns = [] := List.eq_nil_of_length_eq_zero (by simpa using hn2)
              subst hnil
              have := run_append_room (ty := ty) (rest := rest) (off := 0) (w' := w) (b := b) ht ht2 hi hn3 (by omega : len + 0 ≤ c) hns rfl
              simpa using this
            · rename_i hn0
              split at he
              · rename_i hcond
                obtain ⟨rfl, hsz, hle⟩ := hcond
                rw [hi] at hi2; cases hi2
                have hcl := hrel.length
                have hlecv : cs.length ≤ cv.size := by simp at hcl; omega
                split at he
                · rename_i hroom
                  split at he
                  · rename_i h2 hst
                    simp only [Option.some.injEq, Prod.mk.injEq] at he
                    obtain ⟨rfl, rfl⟩ := he
                    obtain ⟨w', hrun, R'⟩ := storeCells_sound R hb hn1 hst
                    have hcap : len + n ≤ c := by
                      have : (len + n) * i.size ≤ c * i.size := by omega
                      exact Nat.le_of_mul_le_mul_right this (by omega)
                    have := run_append_room (ty := ty) (rest := rest) (off := 0) (b := b) ht ht2 hi hn3 hcap (hn4 w rfl) (by simpa using hrun)
                    exact ⟨_, w', ρ, Loc.le_refl _, R', this, .slack _ _ _ _ _ _ _ hb hc hcap⟩
                  · cases he
                · rename_i hroom
                  split at he
                  · rename_i hcond
                    obtain ⟨rfl, rfl, hok, hone⟩ := hcond
                    simp only [Option.some.injEq, Prod.mk.injEq] at he
                    obtain ⟨rfl, rfl⟩ := he
                    have hold : srcCells h i.size (.slice id 0 len (.slack 0)) = some (cs.take (len * i.size), len) := by
                      simp only [srcCells, hg, takeN, List.drop_zero, List.length_take]
                      rw [if_pos (by omega)]
                    have hvs : VRel ρ (.slice id 0 len (.slack 0)) (.slice (some ⟨b, 0, none⟩) len c) := .slack _ _ _ _ _ _ _ hb hc hlen
                    obtain ⟨os, ho1, ho2, ho3, ho4⟩ := heap_src R hvs hold
                    by_cases hcap : len + n ≤ c
                    · -- in place
                      have hmul : (len + n) * i.size ≤ c * i.size := Nat.mul_le_mul_right _ hcap
                      have hmul' : (len + n) * i.size = len * i.size + n * i.size := Nat.add_mul _ _ _
                      have hst := run_storeCells_atF P b (len * i.size) e' (0, 0) ns 0 cv w hw (by simp) (by omega) (hn1.oneCells hone)
                      simp only [Nat.add_zero] at hst
                      have hrun := run_append_room (ty := ty) (rest := rest) (off := 0) (b := b) ht ht2 hi hn3 hcap (hn4 w rfl) (by rw [Nat.zero_add]; exact hst)
                      have R' := R.renew (o' := .row (cs.take (len * i.size) ++ new) e' 0 0 true) hg hb (below_setRow (Below.refl _ _) (R.lo _ _ _ hb).1 (cv.toList.take (len * i.size) ++ ns ++ cv.toList.drop (len * i.size + ns.length)).toArray) (setRow_size _ _ _) (fun k hk => setRow_other _ _ _ _ hk) ?_
                      · refine ⟨_, _, _, Loc.le_add R.fresh, R', hrun, ?_⟩
                        exact .slack _ _ _ _ c b c (Loc.add_self _ _ _) rfl hcap
                      · refine ⟨_, setRow_heap w b _ _ e' _ hw, ?_, (fun h => by cases h), fun _ => ⟨i, hi, by rw [← hcv]; simp; omega⟩⟩
                        refine VsRel.mono (Loc.le_add R.fresh) ?_
                        have e1 : ((cv.toList.take (len * i.size) ++ ns ++ cv.toList.drop (len * i.size + ns.length)).toArray.toList.take (cs.take (len * i.size) ++ new).length) = cv.toList.take (len * i.size) ++ ns := by
                          have : (cs.take (len * i.size) ++ new).length = (cv.toList.take (len * i.size) ++ ns).length := by
                            simp only [List.length_append, List.length_take, Array.length_toList, hn1.length]; omega
                          rw [this]; exact List.take_left' rfl
                        rw [e1]
                        refine VsRel.append ?_ hn1
                        have := hrel.take (len * i.size)
                        rwa [List.take_take, Nat.min_eq_left hle] at this
                    · -- a new row
                      have Rk := R.kill id
                      have := grow_sound (ty := ty) (rest := rest) Rk ht ht2 hi ho1 hn1 hn3 (by omega) ho4 hn4 ho2 hn2 hok
                      exact this
                  · cases he
              · cases he
          · cases he
        · exact appendG_sound R ht ht2 hi hs hn1 hn2 hn3 hn4 he
        · cases he
      · cases he
    · cases he
  · cases he

theorem lenL_run {t ty : TypeId} {rest : List TypeId} {el : TypeId} {els : List (List EVal)} {v : Value} (hu : P.underlying t = some (.slice el)) (hx : VRel ρ (.lsl els) v) :
    ∃ u, (Builtin.len_ (t :: rest).toArray ty #[v]).run P w = .ok u w ∧ VRel ρ (.int .i64 els.length) u := by
  cases hx <;> exact ⟨_, by simp [Builtin.len_, run_underlying hu]; rfl, .int _ _⟩

theorem len_sound (R : HRel P B0 W0 ρ h w) {t ty : TypeId} {rest : List TypeId} {x e : EVal} {v : Value} (hx : VRel ρ x v) (he : eLen P h t x = some e) :
    ∃ u, (Builtin.len_ (t :: rest).toArray ty #[v]).run P w = .ok u w ∧ VRel ρ e u := by
  unfold eLen at he
  split at he
  · rename_i hu
    split at he
    · cases hx
      rename_i s hs
      simp only [Option.some.injEq] at he; subst he
      refine ⟨_, by simp [Builtin.len_, run_underlying hu]; rfl, ?_⟩
      rw [← hs, List.length_map, ← size_eq]
      exact .int _ _
    · cases he
  · rename_i n el hu
    simp only [Option.some.injEq] at he; subst he
    exact ⟨_, by simp [Builtin.len_, run_underlying hu]; rfl, .int _ _⟩
  · rename_i a hu
    split at he
    · rename_i n el ha
      simp only [Option.some.injEq] at he; subst he
      exact ⟨_, by simp [Builtin.len_, run_underlying hu, run_underlying ha]; rfl, .int _ _⟩
    · cases he
  · rename_i el hu
    split at he
    · simp only [Option.some.injEq] at he; subst he
      cases hx <;> exact ⟨_, by simp [Builtin.len_, run_underlying hu]; rfl, .int _ _⟩
    · cases hx
      simp only [Option.some.injEq] at he; subst he
      exact ⟨_, by simp [Builtin.len_, run_underlying hu]; rfl, .int _ _⟩
    · simp only [Option.some.injEq] at he; subst he
      exact lenL_run hu hx
    · simp only [Option.some.injEq] at he; subst he
      exact lenL_run hu hx.unG
    · cases he
  · rename_i k el hu
    split at he
    · cases hx
      simp only [Option.some.injEq] at he; subst he
      exact ⟨_, by simp [Builtin.len_, run_underlying hu]; rfl, .int _ _⟩
    · rename_i id
      cases hx
      rename_i b C hb
      unfold eLenM at he
      split at he
      · rename_i es ck hg
        simp only [Option.some.injEq] at he; subst he
        obtain ⟨b', C', hb', m, hw, hm⟩ := R.objs _ _ hg
        rw [hb] at hb'; cases hb'
        have hml : es.length = m.size := by
          have : ∀ (es : List (EVal × EVal × Nat)) (ms : List MapEntry), MRel ρ es ms → es.length = ms.length := by
            intro es ms hr; induction hr with
            | nil => rfl
            | cons _ _ _ _ _ _ _ _ _ _ ih => simp [ih]
          simpa using this _ _ hm
        have hgo : (getObj b).run P w = .ok (.map m ck) w := by simp [getObj, Sem.run, hw]
        refine ⟨_, by simp [Builtin.len_, run_underlying hu, hgo]; rfl, ?_⟩
        rw [hml]; exact .int _ _
      · cases he
    · cases he
  · cases he

theorem cap_sound {t ty : TypeId} {rest : List TypeId} {x e : EVal} {v : Value} (hx : VRel ρ x v) (he : eCap P t x = some e) (w : World) :
    ∃ u, (Builtin.cap_ (t :: rest).toArray ty #[v]).run P w = .ok u w ∧ VRel ρ e u := by
  unfold eCap at he
  split at he
  · rename_i el hu
    split at he
    · cases hx
      simp only [Option.some.injEq] at he; subst he
      exact ⟨_, by simp [Builtin.cap_, run_underlying hu]; rfl, .int _ _⟩
    · cases hx
      simp only [Option.some.injEq] at he; subst he
      exact ⟨_, by simp [Builtin.cap_, run_underlying hu]; rfl, .int _ _⟩
    · cases he
  · cases he

theorem copy_sound (R : HRel P B0 W0 ρ h w) {t ty : TypeId} {rest : List TypeId} {d s r : EVal} {u v : Value} {h' : H} (hd : VRel ρ d u) (hs : VRel ρ s v) (he : eCopy P h t d s = some (r, h')) :
    GoodV P B0 W0 ρ w (Builtin.copy_ (t :: rest).toArray ty #[u, v]) r h' := by
  unfold eCopy at he
  split at he
  · rename_i e ht
    split at he
    · rename_i i hi
      split at he
      · split at he
        · rename_i src hsrc
          obtain ⟨sc, sn⟩ := src
          cases hd
          simp only [Option.some.injEq, Prod.mk.injEq] at he
          obtain ⟨rfl, rfl⟩ := he
          obtain ⟨vs, h1, h2, h3, h4⟩ := src_sound R hs hsrc
          refine GoodV.same R (v := .int .i64 0) ?_ (.int _ _)
          have h5 := h4 0 (Nat.zero_le _) w rfl
          simp only [Builtin.copy_, List.getElem?_toArray, List.getElem?_cons_zero, Sem.run_bind, run_underlying ht, Result.andThen_ok, sizeOf, typeInfo, run_program, hi, Sem.run_pure]
          simp [run_underlying ht, h3, h5, hi, typeInfo, goInt]
        · cases he
      · rename_i id off len c
        split at he
        · rename_i src m hsrc
          split at he
          · rename_i h2 hst
            simp only [Option.some.injEq, Prod.mk.injEq] at he
            obtain ⟨rfl, rfl⟩ := he
            obtain ⟨vs, g1, g2, g3, g4⟩ := src_sound R hs hsrc
            have key : ∀ (b C c' : Nat), ρ id = some (b, C) → u = .slice (some ⟨b, off, none⟩) len c' → GoodV P B0 W0 ρ w (Builtin.copy_ (t :: rest).toArray ty #[u, v]) (.int .i64 (Nat.min m len : Nat)) h2 := by
              intro b C c' hb hu
              subst hu
              obtain ⟨w', hrun, R'⟩ := storeCells_sound R hb (g1.take (Nat.min m len * i.size)) hst
              have h5 := g4 (Nat.min m len) (Nat.min_le_left _ _) w rfl
              refine ⟨_, w', ρ, Loc.le_refl _, R', ?_, .int _ _⟩
              simp only [Builtin.copy_, List.getElem?_toArray, List.getElem?_cons_zero, Sem.run_bind, run_underlying ht, Result.andThen_ok, sizeOf, typeInfo, run_program, hi, Sem.run_pure]
              simp [run_underlying ht, g3, h5, hi, typeInfo, goInt, hrun]
            cases hd with
            | slice _ _ _ _ b C hb => exact key _ _ _ hb rfl
            | slack _ _ _ _ c b C hb hc hn => exact key _ _ _ hb rfl
          · cases he
        · cases he
      · cases he
    · cases he
  · cases he
end
end Go.Ev
