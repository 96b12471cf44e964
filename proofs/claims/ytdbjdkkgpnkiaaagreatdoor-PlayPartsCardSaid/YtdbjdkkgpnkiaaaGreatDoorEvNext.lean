import Derived.Test.YtdbjdkkgpnkiaaaGreatDoorEvStep
set_option linter.unusedSimpArgs false
set_option linter.unusedVariables false
namespace Go.Ev
open Go.RowKit

section
variable {P : Program} {B0 : Nat} {W0 : Base} {g : G}

theorem MRel.filter {ρ : Loc} {es : List (EVal × EVal × Nat)} {ms : List MapEntry} (hm : MRel ρ es ms) (p : Nat → Bool) : MRel ρ (es.filter fun e => p e.2.2) (ms.filter fun m => p m.born) := by
  induction hm with
  | nil => exact .nil
  | cons k v t es m ms hk hv hb _ ih =>
    rw [List.filter_cons, List.filter_cons]
    simp only [hb]
    split
    · exact .cons _ _ _ _ _ _ hk hv hb ih
    · exact ih

theorem MRel.len {ρ : Loc} {es : List (EVal × EVal × Nat)} {ms : List MapEntry} (hm : MRel ρ es ms) : es.length = ms.length := by
  induction hm with
  | nil => rfl
  | cons _ _ _ _ _ _ _ _ _ _ ih => simp [ih]

theorem MRel.app {ρ : Loc} {es es' : List (EVal × EVal × Nat)} {ms ms' : List MapEntry} (hm : MRel ρ es ms) (h' : MRel ρ es' ms') : MRel ρ (es ++ es') (ms ++ ms') := by
  induction hm with
  | nil => exact h'
  | cons _ _ _ _ _ _ hk hv hb _ ih => exact .cons _ _ _ _ _ _ hk hv hb ih

theorem MRel.get {ρ : Loc} {es : List (EVal × EVal × Nat)} {ms : List MapEntry} (hm : MRel ρ es ms) (i : Nat) (m : MapEntry) (hi : ms[i]? = some m) : ∃ e, es[i]? = some e ∧ VRel ρ e.1 m.key ∧ VRel ρ e.2.1 m.val ∧ m.born = e.2.2 := by
  induction hm generalizing i with
  | nil => simp at hi
  | cons k v t es m' ms hk hv hb _ ih =>
    cases i with
    | zero => simp at hi; subst hi; exact ⟨_, rfl, hk, hv, hb⟩
    | succ i =>
      obtain ⟨e, h1, h2⟩ := ih i (by simpa using hi)
      exact ⟨e, by simpa using h1, h2⟩

theorem MRel.allB {ρ : Loc} {es : List (EVal × EVal × Nat)} {ms : List MapEntry} (hm : MRel ρ es ms) (p : Nat → Bool) : (es.all fun e => p e.2.2) = (ms.all fun m => p m.born) := by
  induction hm with
  | nil => rfl
  | cons k v t es m ms hk hv hb _ ih => simp [hb, ih]

theorem nextMap_sound {ρ : Loc} {h : H} {w : World} (R : HRel P B0 W0 ρ h w) {x : EVal} {v : Value} (ty : TypeId) (hx : VRel ρ x v) {l : List (EVal × H)} (he : nextMap h x = some l) :
    ∃ e h' u w', (e, h') ∈ l ∧ (Instr.next v false ty).run P w = .ok u w' ∧ VRel ρ e u ∧ HRel P B0 W0 ρ h' w' := by
  unfold nextMap at he
  split at he
  · rename_i id
    cases hx
    rename_i b C hb
    split at he
    · rename_i m since seen stepped hg
      obtain ⟨b', C', hb', bm, Cm, hbm, hw⟩ := R.objs _ _ hg
      rw [hb] at hb'; cases hb'
      split at he
      · rename_i es clock hgm
        obtain ⟨b2, C2, hb2, ms, hwm, hm⟩ := R.objs _ _ hgm
        rw [hbm] at hb2; cases hb2
        split at he
        · cases he
        · rename_i hcond
          simp only [Option.some.injEq] at he; subst he
          have hgo := getObj_run (P := P) hw (by intro c e f hh; cases hh)
          have hgom := getObj_run (P := P) hwm (by intro c e f hh; cases hh)
          have hleft := hm.filter (fun t => !seen.contains t)
          have hold := hleft.filter (fun t => decide (t < since))
          have hnew := hleft.filter (fun t => decide (since ≤ t))
          have hcand := hold.app hnew
          have hc1 : (!seen.toArray.isEmpty && !ms.isEmpty && ms.all (fun e => decide (e.born ≥ stepped))) = false := by
            have e1 : seen.toArray.isEmpty = seen.isEmpty := by simp
            have hl : es.length = ms.size := by simpa using hm.len
            have e2 : ms.isEmpty = es.isEmpty := by
              cases hq : es with
              | nil =>
                have : ms.size = 0 := by rw [← hl, hq]; rfl
                simp [Array.eq_empty_of_size_eq_zero this]
              | cons a as =>
                have : ms.size ≠ 0 := by rw [← hl, hq]; simp
                simp [Array.isEmpty, this]
            have e3 : ms.all (fun e => decide (e.born ≥ stepped)) = es.all (fun e => decide (stepped ≤ e.2.2)) := by
              rw [hm.allB (fun t => decide (stepped ≤ t)), ← Array.all_toList]
            rw [e1, e2, e3]
            simpa using hcond
          -- the candidates
          let leftA := ms.filter fun e => !seen.toArray.contains e.born
          let oldA := leftA.filter (·.born < since)
          let newA := leftA.filter (·.born ≥ since)
          let candA : Array (Option MapEntry) := (if oldA.isEmpty then #[none] else #[]) ++ (oldA ++ newA).map some
          obtain ⟨c, w1, hch, hcl, hw1⟩ : ∃ c w1, (choose (.mapNext candA.size)).run P w = .ok c w1 ∧ (candA.size ≠ 0 → c < candA.size) ∧ (w1 = w ∨ w1 = w.drew) := by
            by_cases hf : candA.size ≤ 1
            · refine ⟨0, w, ?_, fun h => by omega, .inl rfl⟩
              show (if (Question.mapNext candA.size).forced then _ else _) = _
              rw [if_pos (by simpa [Question.forced] using hf)]; rfl
            · refine ⟨(w.tape w.drawn (.mapNext candA.size)) % candA.size, w.drew, ?_, fun h => Nat.mod_lt _ (by omega), .inr rfl⟩
              show (if (Question.mapNext candA.size).forced then _ else _) = _
              rw [if_neg (by simpa [Question.forced] using hf)]; rfl
          have hleftL : leftA.toList = ms.toList.filter fun m => !seen.contains m.born := by simp [leftA]
          have holdL : oldA.toList = (ms.toList.filter fun m => !seen.contains m.born).filter fun m => decide (m.born < since) := by simp only [oldA, Array.toList_filter, hleftL]
          have hnewL : newA.toList = (ms.toList.filter fun m => !seen.contains m.born).filter fun m => decide (since ≤ m.born) := by simp only [newA, Array.toList_filter, hleftL]
          have hoe : oldA.isEmpty = ((es.filter fun e => !seen.contains e.2.2).filter fun e => decide (e.2.2 < since)).isEmpty := by
            have hl := hold.len
            rw [← holdL] at hl
            cases hq : ((es.filter fun e => !seen.contains e.2.2).filter fun e => decide (e.2.2 < since)) with
            | nil =>
              rw [hq] at hl
              have : oldA.size = 0 := by simpa using hl.symm
              simp [Array.eq_empty_of_size_eq_zero this]
            | cons a as =>
              rw [hq] at hl
              have : oldA.size ≠ 0 := by simp at hl; omega
              simp [Array.isEmpty, this]
          have hrun : (Instr.next (.pointer (some ⟨b, 0, none⟩)) false ty).run P w = (match candA[c]? with
              | some (some e) => (do setObj b (.mapIter (some bm) since (seen.toArray.push e.born) clock); pure (.tuple #[.bool true, e.key, e.val]) : Sem Value)
              | some none => pure (.tuple #[.bool false])
              | none => stuck "Next: no such candidate").run P w1 := by
            simp only [Instr.next, Sem.run_bind, hgo, hgom, Result.andThen_ok, hc1, Bool.false_eq_true, if_false]
            have := hch
            simp only [candA, oldA, newA, leftA] at this ⊢
            rw [this]
            rfl
          have R1 : HRel P B0 W0 ρ h w1 := by rcases hw1 with rfl | rfl; exact R; exact R.drew
          have hwb1 : w1.heap[b]? = some (.mapIter (some bm) since seen.toArray stepped) := by rcases hw1 with rfl | rfl <;> exact hw
          have hne : candA.size ≠ 0 := by
            by_cases hq : oldA.isEmpty
            · simp [candA, hq]
            · have : oldA.size ≠ 0 := by simpa [Array.isEmpty] using hq
              simp only [candA, Array.size_append, Array.size_map]; omega
          have hcs := hcl hne
          have hcd : candA[c]? = some candA[c] := Array.getElem?_eq_getElem hcs
          rw [hcd] at hrun
          -- which one
          have hcl2 : candA.toList = (if oldA.isEmpty then [none] else []) ++ (oldA.toList ++ newA.toList).map some := by
            simp only [candA, Array.toList_append, Array.toList_map]; split <;> rfl
          have hmem : candA[c] ∈ candA.toList := by simp
          rw [hcl2] at hmem
          rcases List.mem_append.1 hmem with hmem | hmem
          · split at hmem
            · rename_i hq
              simp only [List.mem_singleton] at hmem
              rw [hmem] at hrun
              refine ⟨.tup [.bool false], h, _, w1, ?_, by rw [hrun]; rfl, .tup _ _ (.cons _ _ _ _ (.bool _) .nil), R1⟩
              rw [← hoe, if_pos hq]; simp
            · cases hmem
          · obtain ⟨en, hen, heq⟩ := List.mem_map.1 hmem
            rw [← heq] at hrun
            rw [holdL, hnewL] at hen
            obtain ⟨i, hi1⟩ := List.getElem?_of_mem hen
            obtain ⟨ee, h1, h2, h3, h4⟩ := hcand.get i en hi1
            have hso := setObj_run (P := P) (o' := .mapIter (some bm) since (seen.toArray.push en.born) clock) hwb1 (by intro c e f hh; cases hh)
            refine ⟨.tup [.bool true, ee.1, ee.2.1], h.put id (.miter m since (seen ++ [ee.2.2]) clock), .tuple #[.bool true, en.key, en.val], { w1 with heap := w1.heap.setIfInBounds b (.mapIter (some bm) since (seen.toArray.push en.born) clock) }, ?_, ?_,
              .tup _ _ (.cons _ _ _ _ (.bool _) (.cons _ _ _ _ h2 (.cons _ _ _ _ h3 .nil))), R1.setObj hg hb hwb1 ⟨bm, Cm, hbm, by rw [h4]; simp⟩⟩
            · exact List.mem_append_right _ (List.mem_map.2 ⟨ee, List.mem_of_getElem? h1, rfl⟩)
            · rw [hrun]; simp only [Sem.run_bind, hso, Result.andThen_ok, Sem.run_pure]
      · cases he
    · cases he
  · cases he
end
end Go.Ev
