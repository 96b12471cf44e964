import Derived.Test.YtdhnjbgggkdiiaaGreatDoorLoose1
set_option linter.unusedSimpArgs false
set_option linter.unusedVariables false
namespace Go.Ev
open Go.RowKit Go.Proofs
set_option maxRecDepth 20000
set_option maxHeartbeats 4000000

/-! a valid play, written loosely -/
def dblI : List Int → List Int
  | [] => []
  | x :: l => x :: x :: dblI l
theorem dblI_len : ∀ l : List Int, (dblI l).length = 2 * l.length
  | [] => rfl
  | x :: l => by simp [dblI, dblI_len l]; omega
theorem dblI_snoc : ∀ (l : List Int) (x : Int), dblI (l ++ [x]) = dblI l ++ [x, x]
  | [], _ => rfl
  | y :: l, x => by simp [dblI, dblI_snoc l x]
theorem touch_comp : ∀ {l : List Int} {p : Option Int}, touchOK p l = true → comp l = l ∧ comp (dblI l) = l
  | [], _, _ => ⟨rfl, rfl⟩
  | [x], _, _ => ⟨rfl, by simp [dblI, comp]⟩
  | x :: y :: r, p, h => by
    have h1 : touchOK (some x) (y :: r) = true := by
      simp only [touchOK, Bool.and_eq_true] at h ⊢; exact h.2
    have hne : x ≠ y := by
      simp only [touchOK, Bool.and_eq_true, Bool.not_eq_true', decide_eq_false_iff_not, Option.some.injEq] at h1
      exact h1.1.2
    obtain ⟨i1, i2⟩ := touch_comp h1
    refine ⟨by rw [comp, if_neg hne, i1], ?_⟩
    have e1 : dblI (x :: y :: r) = x :: x :: y :: y :: dblI r := rfl
    have e2 : dblI (y :: r) = y :: y :: dblI r := rfl
    rw [e1, comp, if_pos rfl, comp, if_neg hne, ← e2, i2]
def dblM (m : Mv) : Mv := ⟨m.f, m.t, m.o, m.h, dblI m.b⟩
theorem mvE_all {m : Mv} (h : mvE m = 0) : (0 ≤ m.f ∧ m.f ≤ 3) ∧ wayE m.f m.t m.o m.h = 0 ∧ touchE m.o m.b = 0 := by
  unfold mvE moveE at h
  simp only [cH] at h
  have hr : rangeE m.f 0 3 = 0 := by
    split at h
    · rename_i h1; exact absurd h h1
    · rename_i h1; exact Classical.not_not.1 h1
  have hf : 0 ≤ m.f ∧ m.f ≤ 3 := by
    by_cases hf : 0 ≤ m.f ∧ m.f ≤ 3
    · exact hf
    · rw [rangeE_out hf] at hr; cases hr
  refine ⟨hf, ?_⟩
  rw [if_neg (by rw [hr]; simp)] at h
  split at h
  · rename_i h1; exact absurd h h1
  · split at h
    · rename_i h2; exact absurd h h2
    · rename_i h2
      split at h
      · rename_i h3; exact absurd h h3
      · rename_i h3; exact ⟨Classical.not_not.1 h2, Classical.not_not.1 h3⟩
theorem stay_key : ∀ c ∈ waysS, ∀ f ∈ ([1, 2, 3] : List Int), wayE f f false [c] = 0 → c = 98 := by decide +kernel
theorem stay_valid {m : Mv} (h : mvE m = 0) : stayM m = false := by
  obtain ⟨hf, hw, _⟩ := mvE_all h
  cases hs : stayM m with
  | false => rfl
  | true =>
    simp only [stayM, withinB, Bool.and_eq_true, Bool.not_eq_true', beq_iff_eq, decide_eq_true_eq, decide_eq_false_iff_not] at hs
    obtain ⟨ho, ht, ⟨h1, h3⟩, hk, hb⟩ := hs
    rw [← way_is] at hk
    exfalso
    match hm : m.h, hk with
    | [c], hk =>
      rw [hm, ho, ht] at hw
      have := stay_key c (hasC_mem hk) m.f (by simp; omega) hw
      rw [hm, this] at hb
      exact hb rfl
theorem keep_dbl {m : Mv} (h : mvE m = 0) : stayM (dblM m) = false ∧ compM (dblM m) = m := by
  refine ⟨show stayM m = false from stay_valid h, ?_⟩
  obtain ⟨_, _, ht⟩ := mvE_all h
  have htk : touchOK none m.b = true := by
    unfold touchE at ht
    split at ht
    · cases ht
    · split at ht
      · assumption
      · cases ht
  have := (touch_comp htk).2
  unfold compM dblM
  dsimp only
  rw [this]
theorem keep_own {m : Mv} (h : mvE m = 0) : stayM m = false ∧ compM m = m := by
  refine ⟨stay_valid h, ?_⟩
  obtain ⟨_, _, ht⟩ := mvE_all h
  have htk : touchOK none m.b = true := by
    unfold touchE at ht
    split at ht
    · cases ht
    · split at ht
      · assumption
      · cases ht
  have := (touch_comp htk).1
  unfold compM
  rw [this]
theorem go_desc : ∀ {l : List Mv} {p : Option Int}, mvGo p l = 0 → l.Pairwise (fun x y => y.f < x.f) ∧ ∀ q, p = some q → ∀ m ∈ l, m.f < q
  | [], _, _ => ⟨.nil, by simp⟩
  | m :: l, p, h => by
    unfold mvGo at h
    split at h
    · rename_i h1; exact absurd h h1
    · split at h
      · cases h
      · rename_i h2
        obtain ⟨i1, i2⟩ := go_desc h
        refine ⟨List.Pairwise.cons (fun x hx => i2 m.f rfl x hx) i1, fun q hq x hx => ?_⟩
        subst hq
        have : m.f < q := by simpa using h2
        rcases List.mem_cons.1 hx with rfl | hx
        · exact this
        · have := i2 m.f rfl x hx; omega
theorem moves_desc {l : List Mv} (h : movesE l = 0) : l.Pairwise (fun x y => y.f < x.f) := by
  unfold movesE at h
  split at h
  · cases h
  · exact (go_desc h).1
theorem dupT_nodup : ∀ {l : List Mv} {ks : List Int}, (∀ m ∈ l, m.f ∉ ks) → (l.map (·.f)).Nodup → dupT ks l = false
  | [], _, _, _ => rfl
  | m :: l, ks, h, hn => by
    rw [List.map_cons, List.nodup_cons] at hn
    unfold dupT
    have h1 : ks.any (· == m.f) = false := by
      rw [List.any_eq_false]
      intro x hx e
      have : x = m.f := by simpa using e
      exact h m List.mem_cons_self (this ▸ hx)
    rw [h1, Bool.false_or]
    refine dupT_nodup (fun x hx hk => ?_) hn.2
    rcases List.mem_append.1 hk with hk | hk
    · exact h x (List.mem_cons_of_mem _ hx) hk
    · have : x.f = m.f := by simpa using hk
      exact hn.1 (this ▸ List.mem_map_of_mem hx)
theorem desc_nodup {l : List Mv} (h : l.Pairwise (fun x y => y.f < x.f)) : (l.map (·.f)).Nodup := by
  rw [List.Nodup, List.pairwise_map]
  exact h.imp fun h => by omega
def canQ (q : Pl) : Pl := ⟨q.p, q.e, q.l && (q.m.any isR && q.m.any isO), q.m⟩
def stL (l : List Mv) : List Mv := match ([1, 2, 3] : List Int).find? (fun c => !(l.any fun m => m.f == c)) with
  | some c => [⟨c, c, false, [116], []⟩]
  | none => []
theorem stL_is {l : List Mv} {m : Mv} (h : m ∈ stL l) : stayM m = true ∧ m.b = [] ∧ ∀ x ∈ l, x.f ≠ m.f := by
  unfold stL at h
  split at h
  · rename_i c hc
    have h1 := List.mem_of_find?_eq_some hc
    have h2 := List.find?_some hc
    obtain rfl : m = _ := by simpa using h
    refine ⟨?_, rfl, fun x hx e => ?_⟩
    · have : ∀ c ∈ ([1, 2, 3] : List Int), stayM ⟨c, c, false, [116], []⟩ = true := by decide +kernel
      exact this c h1
    · have h3 : l.any (fun m => m.f == c) = true := List.any_eq_true.2 ⟨x, hx, by simpa using e⟩
      rw [h3] at h2; cases h2
  · cases h
theorem stL_len (l : List Mv) : (stL l).length ≤ 1 := by
  unfold stL; split <;> simp
theorem stL_four {l : List Mv} (h4 : l.length = 4) (hd : l.Pairwise (fun x y => y.f < x.f)) (hr : ∀ m ∈ l, 0 ≤ m.f ∧ m.f ≤ 3) : stL l = [] := by
  match l, h4 with
  | [a, b, c, d], _ =>
    simp only [List.pairwise_cons, List.mem_cons, List.not_mem_nil, or_false, forall_eq_or_imp, forall_eq] at hd hr
    obtain ⟨⟨h1, h2, h3⟩, ⟨h4, h5⟩, h6, _⟩ := hd
    have e1 : a.f = 3 := by omega
    have e2 : b.f = 2 := by omega
    have e3 : c.f = 1 := by omega
    have e4 : d.f = 0 := by omega
    unfold stL
    simp [e1, e2, e3, e4]
theorem play_short {q : Pl} (h : dV q = 0) : q.p.length ≤ 24 := by
  have := (playE_zero h).1
  unfold pitchE at this
  split at this
  · assumption
  · cases this
theorem canT_loose {q : Pl} {L : List Mv} {g : Mv → Mv} (hv : dV q = 0) (hg : ∀ m, mvE m = 0 → (stayM (g m) = false ∧ compM (g m) = m) ∧ (g m).f = m.f ∧ (g m).b.length ≤ 36) {Y : List Mv} (hY : Y = [] ∨ Y = stL q.m) (hp : L.Perm (q.m.map g ++ Y)) : bU ⟨q.p, q.e, q.l, L⟩ = (canQ q, 0) := by
  have hz := playE_zero hv
  have hm := movesE_zero hz.2.2
  have hd := moves_desc hz.2.2
  have hYs : ∀ m ∈ Y, stayM m = true ∧ m.b = [] ∧ ∀ x ∈ q.m, x.f ≠ m.f := by
    rcases hY with rfl | rfl
    · simp
    · exact fun m h => stL_is h
  have hYl : q.m.length + Y.length ≤ 4 := by
    rcases hY with rfl | rfl
    · simp; exact hm.1
    · have h1 := stL_len q.m
      by_cases h4 : q.m.length = 4
      · rw [stL_four h4 hd fun m h => (mvE_all (hm.2 m h)).1]; simp; omega
      · omega
  have hT : tidyM L = q.m := tidy_eq hp (fun m h => (hYs m h).1) (fun m h => (hg m (hm.2 m h)).1) hd
  have hlen : L.length ≤ 4 := by rw [hp.length_eq]; simp; exact hYl
  have hby : L.any bigM = false := by
    rw [List.any_eq_false]
    intro m hmL
    have := hp.mem_iff.1 hmL
    rcases List.mem_append.1 this with h | h
    · obtain ⟨x, hx, rfl⟩ := List.mem_map.1 h
      have := (hg x (hm.2 x hx)).2.2
      simp [bigM]; omega
    · simp [bigM, (hYs m h).2.1]
  have hdup : dupT [] L = false := by
    refine dupT_nodup (by simp) ?_
    have h1 := (hp.map (·.f)).nodup_iff
    rw [h1, List.map_append, List.map_map, List.nodup_append]
    have e : q.m.map ((·.f) ∘ g) = q.m.map (·.f) := List.map_congr_left fun m h => (hg m (hm.2 m h)).2.1
    rw [e]
    refine ⟨desc_nodup hd, ?_, ?_⟩
    · rcases hY with rfl | rfl
      · exact .nil
      · have := stL_len q.m
        match stL q.m, this with
        | [], _ => exact .nil
        | [x], _ => simp
        | _ :: _ :: _, h => simp at h
    · intro a ha b hb e2
      obtain ⟨x, hx, rfl⟩ := List.mem_map.1 ha
      obtain ⟨y, hy, rfl⟩ := List.mem_map.1 hb
      exact (hYs y hy).2.2 x hx e2
  have hp24 : q.p.length ≤ 24 := play_short hv
  have hr := (canonT_rest (q := ⟨q.p, q.e, q.l, L⟩) (sizeE_not hp24 hlen hby) hdup).2
  have ht : tidyP ⟨q.p, q.e, q.l, L⟩ = canQ q := by unfold tidyP lateT canQ; simp only [hT]
  rw [hr, ht]
  have : dV (canQ q) = 0 := hv
  rw [if_neg (by rw [this]; simp)]
theorem canT_valid {q : Pl} (hv : dV q = 0) : bU q = (canQ q, 0) := by
  have := canT_loose (L := q.m) (g := id) (Y := []) hv (fun m h => ⟨keep_own h, rfl, by
    obtain ⟨_, _, ht⟩ := mvE_all h
    have := mvE_short h
    show m.b.length ≤ 36; omega⟩) (.inl rfl) (by simp)
  exact this
end Go.Ev
