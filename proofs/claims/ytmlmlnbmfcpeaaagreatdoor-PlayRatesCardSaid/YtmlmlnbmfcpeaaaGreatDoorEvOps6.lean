import Derived.Test.YtmlmlnbmfcpeaaaGreatDoorEvOps5
namespace Go.Ev
open Go.RowKit

section
variable {P : Program} {B0 : Nat} {W0 : World} {ρ : Loc} {h : H} {w : World} {g : G}

theorem append_sound (R : HRel P B0 W0 ρ h w) {t t2 ty : TypeId} {rest : List TypeId} (ht2 : (∃ e2, P.underlying t2 = some (.slice e2)) ∨ P.underlying t2 = some .string)
    {s x r : EVal} {u v : Value} {h' : H} (hs : VRel ρ s u) (hx : VRel ρ x v) (he : eAppend P h t s x = some (r, h')) :
    GoodV P B0 W0 ρ w (Builtin.append_ (t :: t2 :: rest).toArray ty #[u, v]) r h' := by
  unfold eAppend at he
  split at he
  · rename_i e ht
    split at he
    · rename_i i hi
      split at he
      · rename_i new n hsrc
        obtain ⟨ns, hn1, hn2, hn3, hn4⟩ := heap_src R hx hsrc
        split at he
        · -- nil
          cases hs
          split at he
          · rename_i hn0
            subst hn0
            simp only [Option.some.injEq, Prod.mk.injEq] at he
            obtain ⟨rfl, rfl⟩ := he
            refine GoodV.same R ?_ .nilslice
            have hns := hn4 w rfl
            rcases ht2 with ⟨e2, ht2⟩ | ht2
            all_goals
              simp only [Builtin.append_, List.getElem?_toArray, List.getElem?_cons_zero, List.getElem?_cons_succ, Sem.run_bind, run_underlying ht, run_underlying ht2, Result.andThen_ok, sizeOf, typeInfo, run_program, hi, Sem.run_pure]
              simp [hn3, hns]
          · rename_i hn0
            obtain ⟨hg, rfl, rfl⟩ := eGrow_spec he
            have := grow_sound (ty := ty) (rest := rest) R (base := none) (sLen := 0) (sCap := 0) (old := []) (os := []) ht ht2 hi .nil hn1 hn3 (by omega) (fun w' _ => by simp [Builtin.firstCells]) hn4 (by simp) hn2 (by simpa using hg)
            simpa using this
        · -- exact
          rename_i id off len c
          cases hs
          rename_i b C hb
          unfold eAppendX at he
          split at he
          · rename_i hroom
            split at he
            · rename_i h2 hst
              simp only [Option.some.injEq, Prod.mk.injEq] at he
              obtain ⟨rfl, rfl⟩ := he
              obtain ⟨w', hrun, R'⟩ := storeCells_sound R hb hn1 hst
              exact ⟨_, w', ρ, Loc.le_refl _, R', run_append_room ht ht2 hi hn3 hroom (hn4 w rfl) hrun, .slice _ _ _ _ _ _ hb⟩
            · cases he
          · rename_i hroom
            split at he
            · rename_i old hold
              obtain ⟨oc, on⟩ := old
              obtain ⟨hg, rfl, rfl⟩ := eGrow_spec he
              have hvs : VRel ρ (.slice id off len (.exact c)) (.slice (some ⟨b, off, none⟩) len c) := .slice _ _ _ _ _ _ hb
              obtain ⟨os, ho1, ho2, ho3, ho4⟩ := heap_src R hvs hold
              have hon : on = len := by
                simp only [Builtin.lenOf, Sem.run_pure, Result.ok.injEq] at ho3; exact ho3.1.symm
              subst hon
              exact grow_sound (ty := ty) (rest := rest) R ht ht2 hi ho1 hn1 hn3 (by omega) ho4 hn4 ho2 hn2 hg
            · cases he
        · -- slack
          rename_i id len
          cases hs with
          | slack _ _ _ _ c b C hb hc hlen =>
          have hcC : c = C := by omega
          subst hcC
          unfold eAppendS at he
          split at he
          · rename_i cs e' lo hi' hg
            obtain ⟨b', C', hb', cv, hw, hrel, _, hsl⟩ := R.objs _ _ hg
            rw [hb] at hb'; cases hb'
            obtain ⟨i', hi2, hcv⟩ := hsl rfl
            unfold eAppendS' at he
            split at he
            · rename_i hn0
              subst hn0
              simp only [Option.some.injEq, Prod.mk.injEq] at he
              obtain ⟨rfl, rfl⟩ := he
              refine GoodV.same R (v := .slice (some ⟨b, 0, none⟩) len c) ?_ (.slack _ _ _ _ _ _ _ hb hc hlen)
              have hns := hn4 w rfl
              have hnil : ns = [] := List.eq_nil_of_length_eq_zero (by simpa using hn2)
              subst hnil
              have := run_append_room (ty := ty) (rest := rest) (off := 0) (w' := w) (b := b) ht ht2 hi hn3 (by omega : len + 0 ≤ c) hns rfl
              simpa using this
            · rename_i hn0
              split at he
              · rename_i hcond
                obtain ⟨rfl, hsz, hle⟩ := hcond
                rw [hi] at hi2; cases hi2
                have hcl := hrel.length
                have hlecv : cs.length ≤ cv.size := by simp at hcl; omega
                split at he
                · rename_i hroom
                  split at he
                  · rename_i h2 hst
                    simp only [Option.some.injEq, Prod.mk.injEq] at he
                    obtain ⟨rfl, rfl⟩ := he
                    obtain ⟨w', hrun, R'⟩ := storeCells_sound R hb hn1 hst
                    have hcap : len + n ≤ c := by
                      have : (len + n) * i.size ≤ c * i.size := by omega
                      exact Nat.le_of_mul_le_mul_right this (by omega)
                    have := run_append_room (ty := ty) (rest := rest) (off := 0) (b := b) ht ht2 hi hn3 hcap (hn4 w rfl) (by simpa using hrun)
                    exact ⟨_, w', ρ, Loc.le_refl _, R', this, .slack _ _ _ _ _ _ _ hb hc hcap⟩
                  · cases he
                · rename_i hroom
                  split at he
                  · rename_i hcond
                    obtain ⟨rfl, rfl, hok, hone⟩ := hcond
                    simp only [Option.some.injEq, Prod.mk.injEq] at he
                    obtain ⟨rfl, rfl⟩ := he
                    have hold : srcCells h i.size (.slice id 0 len (.slack 0)) = some (cs.take (len * i.size), len) := by
                      simp only [srcCells, hg, takeN, List.drop_zero, List.length_take]
                      rw [if_pos (by omega)]
                    have hvs : VRel ρ (.slice id 0 len (.slack 0)) (.slice (some ⟨b, 0, none⟩) len c) := .slack _ _ _ _ _ _ _ hb hc hlen
                    obtain ⟨os, ho1, ho2, ho3, ho4⟩ := heap_src R hvs hold
                    by_cases hcap : len + n ≤ c
                    · -- in place
                      have hmul : (len + n) * i.size ≤ c * i.size := Nat.mul_le_mul_right _ hcap
                      have hmul' : (len + n) * i.size = len * i.size + n * i.size := Nat.add_mul _ _ _
                      have hst := run_storeCells_atF P b (len * i.size) e' (0, 0) ns 0 cv w hw (by simp) (by omega) (hn1.oneCells hone)
                      simp only [Nat.add_zero] at hst
                      have hrun := run_append_room (ty := ty) (rest := rest) (off := 0) (b := b) ht ht2 hi hn3 hcap (hn4 w rfl) (by rw [Nat.zero_add]; exact hst)
                      have R' := R.renew (o' := .row (cs.take (len * i.size) ++ new) e' 0 0 true) hg hb (below_setRow (Below.refl _ _) (R.lo _ _ _ hb).1 (cv.toList.take (len * i.size) ++ ns ++ cv.toList.drop (len * i.size + ns.length)).toArray) (setRow_size _ _ _) (fun k hk => setRow_other _ _ _ _ hk) ?_
                      · refine ⟨_, _, _, Loc.le_add R.fresh, R', hrun, ?_⟩
                        exact .slack _ _ _ _ c b c (Loc.add_self _ _ _) rfl hcap
                      · refine ⟨_, setRow_heap w b _ _ e' _ hw, ?_, (fun h => by cases h), fun _ => ⟨i, hi, by rw [← hcv]; simp; omega⟩⟩
                        refine VsRel.mono (Loc.le_add R.fresh) ?_
                        have e1 : ((cv.toList.take (len * i.size) ++ ns ++ cv.toList.drop (len * i.size + ns.length)).toArray.toList.take (cs.take (len * i.size) ++ new).length) = cv.toList.take (len * i.size) ++ ns := by
                          have : (cs.take (len * i.size) ++ new).length = (cv.toList.take (len * i.size) ++ ns).length := by
                            simp only [List.length_append, List.length_take, Array.length_toList, hn1.length]; omega
                          rw [this]; exact List.take_left' rfl
                        rw [e1]
                        refine VsRel.append ?_ hn1
                        have := hrel.take (len * i.size)
                        rwa [List.take_take, Nat.min_eq_left hle] at this
                    · -- a new row
                      have Rk := R.kill id
                      have := grow_sound (ty := ty) (rest := rest) Rk ht ht2 hi ho1 hn1 hn3 (by omega) ho4 hn4 ho2 hn2 hok
                      exact this
                  · cases he
              · cases he
          · cases he
        · cases he
      · cases he
    · cases he
  · cases he

theorem len_sound (R : HRel P B0 W0 ρ h w) {t ty : TypeId} {rest : List TypeId} {x e : EVal} {v : Value} (hx : VRel ρ x v) (he : eLen P h t x = some e) :
    ∃ u, (Builtin.len_ (t :: rest).toArray ty #[v]).run P w = .ok u w ∧ VRel ρ e u := by
  unfold eLen at he
  split at he
  · rename_i hu
    split at he
    · cases hx
      rename_i s hs
      simp only [Option.some.injEq] at he; subst he
      refine ⟨_, by simp [Builtin.len_, run_underlying hu]; rfl, ?_⟩
      rw [← hs, List.length_map, ← size_eq]
      exact .int _ _
    · cases he
  · rename_i n el hu
    simp only [Option.some.injEq] at he; subst he
    exact ⟨_, by simp [Builtin.len_, run_underlying hu]; rfl, .int _ _⟩
  · rename_i a hu
    split at he
    · rename_i n el ha
      simp only [Option.some.injEq] at he; subst he
      exact ⟨_, by simp [Builtin.len_, run_underlying hu, run_underlying ha]; rfl, .int _ _⟩
    · cases he
  · rename_i el hu
    split at he
    · simp only [Option.some.injEq] at he; subst he
      cases hx <;> exact ⟨_, by simp [Builtin.len_, run_underlying hu]; rfl, .int _ _⟩
    · cases hx
      simp only [Option.some.injEq] at he; subst he
      exact ⟨_, by simp [Builtin.len_, run_underlying hu]; rfl, .int _ _⟩
    · cases he
  · rename_i k el hu
    split at he
    · cases hx
      simp only [Option.some.injEq] at he; subst he
      exact ⟨_, by simp [Builtin.len_, run_underlying hu]; rfl, .int _ _⟩
    · rename_i id
      cases hx
      rename_i b C hb
      unfold eLenM at he
      split at he
      · rename_i es ck hg
        simp only [Option.some.injEq] at he; subst he
        obtain ⟨b', C', hb', m, hw, hm⟩ := R.objs _ _ hg
        rw [hb] at hb'; cases hb'
        have hml : es.length = m.size := by
          have : ∀ (es : List (EVal × EVal × Nat)) (ms : List MapEntry), MRel ρ es ms → es.length = ms.length := by
            intro es ms hr; induction hr with
            | nil => rfl
            | cons _ _ _ _ _ _ _ _ _ _ ih => simp [ih]
          simpa using this _ _ hm
        have hgo : (getObj b).run P w = .ok (.map m ck) w := by simp [getObj, Sem.run, hw]
        refine ⟨_, by simp [Builtin.len_, run_underlying hu, hgo]; rfl, ?_⟩
        rw [hml]; exact .int _ _
      · cases he
    · cases he
  · cases he

theorem cap_sound {t ty : TypeId} {rest : List TypeId} {x e : EVal} {v : Value} (hx : VRel ρ x v) (he : eCap P t x = some e) (w : World) :
    ∃ u, (Builtin.cap_ (t :: rest).toArray ty #[v]).run P w = .ok u w ∧ VRel ρ e u := by
  unfold eCap at he
  split at he
  · rename_i el hu
    split at he
    · cases hx
      simp only [Option.some.injEq] at he; subst he
      exact ⟨_, by simp [Builtin.cap_, run_underlying hu]; rfl, .int _ _⟩
    · cases hx
      simp only [Option.some.injEq] at he; subst he
      exact ⟨_, by simp [Builtin.cap_, run_underlying hu]; rfl, .int _ _⟩
    · cases he
  · cases he

theorem copy_sound (R : HRel P B0 W0 ρ h w) {t ty : TypeId} {rest : List TypeId} {d s r : EVal} {u v : Value} {h' : H} (hd : VRel ρ d u) (hs : VRel ρ s v) (he : eCopy P h t d s = some (r, h')) :
    GoodV P B0 W0 ρ w (Builtin.copy_ (t :: rest).toArray ty #[u, v]) r h' := by
  unfold eCopy at he
  split at he
  · rename_i e ht
    split at he
    · rename_i i hi
      split at he
      · split at he
        · rename_i src hsrc
          obtain ⟨sc, sn⟩ := src
          cases hd
          simp only [Option.some.injEq, Prod.mk.injEq] at he
          obtain ⟨rfl, rfl⟩ := he
          obtain ⟨vs, h1, h2, h3, h4⟩ := src_sound R hs hsrc
          refine GoodV.same R (v := .int .i64 0) ?_ (.int _ _)
          have h5 := h4 0 (Nat.zero_le _) w rfl
          simp only [Builtin.copy_, List.getElem?_toArray, List.getElem?_cons_zero, Sem.run_bind, run_underlying ht, Result.andThen_ok, sizeOf, typeInfo, run_program, hi, Sem.run_pure]
          simp [run_underlying ht, h3, h5, hi, typeInfo, goInt]
        · cases he
      · rename_i id off len c
        split at he
        · rename_i src m hsrc
          split at he
          · rename_i h2 hst
            simp only [Option.some.injEq, Prod.mk.injEq] at he
            obtain ⟨rfl, rfl⟩ := he
            obtain ⟨vs, g1, g2, g3, g4⟩ := src_sound R hs hsrc
            have key : ∀ (b C c' : Nat), ρ id = some (b, C) → u = .slice (some ⟨b, off, none⟩) len c' → GoodV P B0 W0 ρ w (Builtin.copy_ (t :: rest).toArray ty #[u, v]) (.int .i64 (Nat.min m len : Nat)) h2 := by
              intro b C c' hb hu
              subst hu
              obtain ⟨w', hrun, R'⟩ := storeCells_sound R hb (g1.take (Nat.min m len * i.size)) hst
              have h5 := g4 (Nat.min m len) (Nat.min_le_left _ _) w rfl
              refine ⟨_, w', ρ, Loc.le_refl _, R', ?_, .int _ _⟩
              simp only [Builtin.copy_, List.getElem?_toArray, List.getElem?_cons_zero, Sem.run_bind, run_underlying ht, Result.andThen_ok, sizeOf, typeInfo, run_program, hi, Sem.run_pure]
              simp [run_underlying ht, g3, h5, hi, typeInfo, goInt, hrun]
            cases hd with
            | slice _ _ _ _ b C hb => exact key _ _ _ hb rfl
            | slack _ _ _ _ c b C hb hc hn => exact key _ _ _ hb rfl
          · cases he
        · cases he
      · cases he
    · cases he
  · cases he
end
end Go.Ev
