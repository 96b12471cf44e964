import Derived.Test.YtdbjdkkgpnkiaaaGreatDoorEvDraw1
set_option linter.unusedSimpArgs false
set_option linter.unusedVariables false
namespace Go.Ev
open Go.RowKit

section
variable {α : Type}

def fold (S : Nat → Bool) (f : DStep → Option α) : Nat → List DStep → α → α
  | _, [], b => b
  | k, x :: l, b => fold S f (k + 1) l (if S k = true then (f x).getD b else b)

def allF (f : DStep → Option α) : List DStep → α → α
  | [], b => b
  | x :: l, b => allF f l ((f x).getD b)

def addS (S : Nat → Bool) (i : Nat) : Nat → Bool := fun j => if j = i then true else S j

variable {S : Nat → Bool} {f : DStep → Option α}

theorem fold_none : ∀ {l : List DStep} {k : Nat} {b : α}, (∀ j y, l[j]? = some y → (f y).isSome = true → S (k + j) = false) → fold S f k l b = b
  | [], _, _, _ => rfl
  | x :: l, k, b, h => by
    have h0 := h 0 x rfl
    simp only [fold]
    have : (if S k = true then (f x).getD b else b) = b := by
      split
      · rename_i hs
        cases hf : f x with
        | none => rfl
        | some v => rw [hf] at h0; have := h0 rfl; simp [hs] at this
      · rfl
    rw [this]
    exact fold_none fun j y hj hy => by have := h (j + 1) y (by simpa using hj) hy; rwa [show k + (j + 1) = k + 1 + j from by omega] at this

theorem fold_pref : ∀ {l : List DStep} {k i : Nat} {b : α}, (∀ j y, l[j]? = some y → (f y).isSome = true → (S (k + j) = true ↔ j < i)) → fold S f k l b = allF f (l.take i) b
  | [], _, _, _, _ => by simp [fold, allF]
  | x :: l, k, 0, b, h => by
    rw [List.take_zero]
    exact fold_none fun j y hj hy => by
      have := h j y hj hy
      simp at this; exact this
  | x :: l, k, i + 1, b, h => by
    simp only [fold, List.take_succ_cons, allF]
    have h0 := h 0 x rfl
    have : (if S k = true then (f x).getD b else b) = (f x).getD b := by
      cases hf : f x with
      | none => simp
      | some v => rw [hf] at h0; have := (h0 rfl).2 (by omega); simp at this; simp [this]
    rw [this]
    exact fold_pref fun j y hj hy => by
      have := h (j + 1) y (by simpa using hj) hy
      rw [show k + (j + 1) = k + 1 + j from by omega] at this
      rw [this]; omega

theorem fold_add_before : ∀ {l : List DStep} {k n : Nat} {b : α}, n < k → fold (addS S n) f k l b = fold S f k l b
  | [], _, _, _, _ => rfl
  | x :: l, k, n, b, h => by
    simp only [fold]
    have : addS S n k = S k := by unfold addS; rw [if_neg (by omega)]
    rw [this, fold_add_before (by omega)]

theorem fold_add_no : ∀ {l : List DStep} {k i : Nat} {b : α} {x : DStep}, l[i]? = some x → f x = none → fold (addS S (k + i)) f k l b = fold S f k l b
  | [], _, _, _, _, h, _ => by simp at h
  | y :: l, k, 0, b, x, h, hx => by
    simp only [List.getElem?_cons_zero, Option.some.injEq] at h; subst h
    simp only [fold, hx, Option.getD_none, ite_self, Nat.add_zero]
    exact fold_add_before (by omega)
  | y :: l, k, i + 1, b, x, h, hx => by
    simp only [fold]
    have : addS S (k + (i + 1)) k = S k := by unfold addS; rw [if_neg (by omega)]
    rw [this, show k + (i + 1) = k + 1 + i from by omega]
    exact fold_add_no (by simpa using h) hx

theorem fold_add_yes : ∀ {l : List DStep} {k i : Nat} {b : α} {x : DStep} {v : α}, l[i]? = some x → f x = some v → (∀ j y, l[j]? = some y → (f y).isSome = true → S (k + j) = true → j < i) → fold (addS S (k + i)) f k l b = v
  | [], _, _, _, _, _, h, _, _ => by simp at h
  | y :: l, k, 0, b, x, v, h, hx, hl => by
    simp only [List.getElem?_cons_zero, Option.some.injEq] at h; subst h
    simp only [fold, hx, Option.getD_some, Nat.add_zero]
    have : addS S k k = true := by simp [addS]
    rw [this, if_pos rfl, fold_add_before (by omega)]
    exact fold_none fun j y hj hy => by
      have := hl (j + 1) y (by simpa using hj) hy
      rw [show k + (j + 1) = k + 1 + j from by omega] at this
      cases hs : S (k + 1 + j) with
      | false => rfl
      | true => have := this hs; omega
  | y :: l, k, i + 1, b, x, v, h, hx, hl => by
    simp only [fold]
    rw [show k + (i + 1) = k + 1 + i from by omega]
    exact fold_add_yes (by simpa using h) hx fun j y hj hy hs => by
      have := hl (j + 1) y (by simpa using hj) hy
      rw [show k + (j + 1) = k + 1 + j from by omega] at this
      have := this hs; omega
end

def wS (s : Nat) (x : DStep) : Option (Option EVal) := if x.o.dst = some s then some (some x.v) else none
def wH (x : DStep) : Option H := x.act

section
variable {P : Program} {g : G} {K : Known} {r : Rec} {ops : Array Oper}

inductive Trace (P : Program) (g : G) (K : Known) (r : Rec) (ops : Array Oper) : List DStep → EFr → H → EFr → H → Prop
  | nil (f : EFr) (h : H) : Trace P g K r ops [] f h f h
  | cons (o : Oper) (f : EFr) (h : H) (v : EVal) (a : Option H) (st : List DStep) (f' : EFr) (h' : H) (hd : dstOK o f.sz = true)
      (he : drawOne P g K r o (restrFr ops o f) h (wantedE ops (restrFr ops o f) o) = some (v, a)) (ht : Trace P g K r ops st (f.putd o.dst v) (a.getD h) f' h') :
      Trace P g K r ops (⟨o, f, v, h, a⟩ :: st) f h f' h'

theorem drawGo_trace : ∀ {l : List Oper} {f : EFr} {h : H} {st : List DStep} {f' : EFr} {h' : H}, drawGo P g K r ops l f h = some (st, f', h') → Trace P g K r ops st f h f' h' ∧ st.map (·.o) = l
  | [], f, h, st, f', h', he => by
    have he : some ([], f, h) = some (st, f', h') := he
    simp only [Option.some.injEq, Prod.mk.injEq] at he
    obtain ⟨rfl, rfl, rfl⟩ := he
    exact ⟨.nil _ _, rfl⟩
  | o :: l, f, h, st, f', h', he => by
    have he : (match dstOK o f.sz with
      | false => none
      | true => match drawOne P g K r o (restrFr ops o f) h (wantedE ops (restrFr ops o f) o) with
        | some (v, none) => consD ⟨o, f, v, h, none⟩ (drawGo P g K r ops l (f.putd o.dst v) h)
        | some (v, some h') => consD ⟨o, f, v, h, some h'⟩ (drawGo P g K r ops l (f.putd o.dst v) h')
        | none => none) = some (st, f', h') := he
    split at he
    · cases he
    · rename_i hd
      split at he
      · rename_i v hv
        cases hg : drawGo P g K r ops l (f.putd o.dst v) h with
        | none => rw [hg] at he; cases he
        | some q =>
          obtain ⟨st1, f1, h1⟩ := q
          rw [hg] at he
          simp only [consD, Option.some.injEq, Prod.mk.injEq] at he
          obtain ⟨rfl, rfl, rfl⟩ := he
          obtain ⟨ht, hm⟩ := drawGo_trace hg
          exact ⟨.cons _ _ _ _ _ _ _ _ hd hv ht, by simp [hm]⟩
      · rename_i v h2 hv
        cases hg : drawGo P g K r ops l (f.putd o.dst v) h2 with
        | none => rw [hg] at he; cases he
        | some q =>
          obtain ⟨st1, f1, h1⟩ := q
          rw [hg] at he
          simp only [consD, Option.some.injEq, Prod.mk.injEq] at he
          obtain ⟨rfl, rfl, rfl⟩ := he
          obtain ⟨ht, hm⟩ := drawGo_trace hg
          exact ⟨.cons _ _ _ _ _ _ _ _ hd hv ht, by simp [hm]⟩
      · cases he

theorem putd_sz (f : EFr) (d : Option Tmp) (v : EVal) : (f.putd d v).sz = f.sz := by
  unfold EFr.putd
  cases d with
  | none => rfl
  | some i => simp only [Bool.cond_eq_ite]; split <;> rfl

theorem putd_rest (f : EFr) (d : Option Tmp) (v : EVal) : (f.putd d v).defers = f.defers ∧ (f.putd d v).round = f.round := by
  unfold EFr.putd
  cases d with
  | none => exact ⟨rfl, rfl⟩
  | some i => simp only [Bool.cond_eq_ite]; split <;> exact ⟨rfl, rfl⟩

theorem putd_get {f : EFr} {o : Oper} {v e : EVal} {s : Nat} (hd : dstOK o f.sz = true) (hg : (f.putd o.dst v).tmps.get s = some e) : (o.dst = some s ∧ e = v) ∨ (o.dst ≠ some s ∧ f.tmps.get s = some e) := by
  unfold dstOK at hd
  unfold EFr.putd at hg
  split at hd
  · rename_i d hdst
    rw [hdst] at hg
    simp only [hd, cond_true] at hg
    rcases T.get_set _ _ _ _ hg with ⟨rfl, h1⟩ | ⟨h1, h2⟩
    · cases h1; exact .inl ⟨hdst, rfl⟩
    · exact .inr ⟨by rw [hdst]; intro h; cases h; exact h1 rfl, h2⟩
  · rename_i hdst
    rw [hdst] at hg
    exact .inr ⟨(by rw [hdst]; exact fun h => (by cases h)), hg⟩

theorem Trace.rest {st : List DStep} {f f' : EFr} {h h' : H} (T : Trace P g K r ops st f h f' h') : f'.sz = f.sz ∧ f'.defers = f.defers ∧ f'.round = f.round := by
  induction T with
  | nil f h => exact ⟨rfl, rfl, rfl⟩
  | cons o f h v a st f' h' hd he ht ih =>
    rw [putd_sz, (putd_rest _ _ _).1, (putd_rest _ _ _).2] at ih; exact ih

theorem Trace.at {st : List DStep} {f f' : EFr} {h h' : H} (T : Trace P g K r ops st f h f' h') : ∀ {i : Nat} {x : DStep}, st[i]? = some x →
    dstOK x.o f.sz = true ∧ drawOne P g K r x.o (restrFr ops x.o x.fr) x.h (wantedE ops (restrFr ops x.o x.fr) x.o) = some (x.v, x.act) ∧
    x.h = allF wH (st.take i) h ∧ ∀ s b, (∀ e, f.tmps.get s = some e → b = some e) → ∀ e, x.fr.tmps.get s = some e → allF (wS s) (st.take i) b = some e := by
  induction T with
  | nil f h => intro i x hx; simp at hx
  | cons o f h v a st f' h' hd he ht ih =>
    intro i x hx
    cases i with
    | zero =>
      simp only [List.getElem?_cons_zero, Option.some.injEq] at hx; subst hx
      exact ⟨hd, he, rfl, fun s b hb e he => hb e he⟩
    | succ i =>
      obtain ⟨h1, h2, h3, h4⟩ := ih (by simpa using hx)
      refine ⟨by rwa [putd_sz] at h1, h2, ?_, fun s b hb e he => ?_⟩
      · rw [h3]; rfl
      · simp only [List.take_succ_cons, allF]
        refine h4 s _ (fun e' he' => ?_) e he
        rcases putd_get hd he' with ⟨h5, rfl⟩ | ⟨h5, h6⟩
        · simp [wS, h5]
        · simp [wS, h5, hb _ h6]

theorem Trace.fin {st : List DStep} {f f' : EFr} {h h' : H} (T : Trace P g K r ops st f h f' h') : h' = allF wH st h ∧ ∀ s b, (∀ e, f.tmps.get s = some e → b = some e) → ∀ e, f'.tmps.get s = some e → allF (wS s) st b = some e := by
  induction T with
  | nil f h => exact ⟨rfl, fun s b hb e he => hb e he⟩
  | cons o f h v a st f' h' hd he ht ih =>
    obtain ⟨h3, h4⟩ := ih
    refine ⟨by rw [h3]; rfl, fun s b hb e he => ?_⟩
    simp only [allF]
    refine h4 s _ (fun e' he' => ?_) e he
    rcases putd_get hd he' with ⟨h5, rfl⟩ | ⟨h5, h6⟩
    · simp [wS, h5]
    · simp [wS, h5, hb _ h6]

/-! what the checks say -/
theorem actsOf_mem : ∀ {l : List DStep} {k : Nat} (j : Nat) (y : DStep), l[j]? = some y → y.act.isSome = true → k + j ∈ actsOf l k
  | [], _, j, y, h, _ => by simp at h
  | ⟨xo, xf, xv, xh, none⟩ :: l, k, 0, y, h, ha => by
    simp only [List.getElem?_cons_zero, Option.some.injEq] at h; subst h; cases ha
  | ⟨xo, xf, xv, xh, some a⟩ :: l, k, 0, y, h, ha => by
    have e : actsOf (⟨xo, xf, xv, xh, some a⟩ :: l) k = k :: actsOf l (k + 1) := rfl
    rw [e]; exact .head _
  | ⟨xo, xf, xv, xh, none⟩ :: l, k, j + 1, y, h, ha => by
    have := actsOf_mem (k := k + 1) j y (by simpa using h) ha
    rw [show k + 1 + j = k + (j + 1) from by omega] at this
    exact this
  | ⟨xo, xf, xv, xh, some a⟩ :: l, k, j + 1, y, h, ha => by
    have := actsOf_mem (k := k + 1) j y (by simpa using h) ha
    rw [show k + 1 + j = k + (j + 1) from by omega] at this
    have e : actsOf (⟨xo, xf, xv, xh, some a⟩ :: l) k = k :: actsOf l (k + 1) := rfl
    rw [e]; exact .tail _ this

theorem quick_spec {A : List Nat} {i : Nat} : ∀ {l : List Nat}, quick A i l = true → ∀ a ∈ l, (a < i → hasB (nthM A i) a = true) ∧ (i < a → hasB (nthM A a) i = true)
  | [], _, a, h => by cases h
  | x :: l, hq, a, h => by
    have e : quick A i (x :: l) = bif Nat.beq x i then quick A i l else bif (bif Nat.blt x i then hasB (nthM A i) x else hasB (nthM A x) i) then quick A i l else false := rfl
    rw [e] at hq
    cases hxi : Nat.beq x i with
    | true =>
      rw [hxi, cond_true] at hq
      have hxi := Nat.eq_of_beq_eq_true hxi
      rcases List.mem_cons.1 h with rfl | h
      · exact ⟨fun _ => by omega, fun _ => by omega⟩
      · exact quick_spec hq a h
    | false =>
      rw [hxi, cond_false] at hq
      cases hlt : Nat.blt x i with
      | true =>
        rw [hlt, cond_true] at hq
        cases hb : hasB (nthM A i) x with
        | false => rw [hb, cond_false] at hq; cases hq
        | true =>
          rw [hb, cond_true] at hq
          rcases List.mem_cons.1 h with rfl | h
          · have : a < i := by simpa using hlt
            exact ⟨fun _ => hb, fun _ => by omega⟩
          · exact quick_spec hq a h
      | false =>
        rw [hlt, cond_false] at hq
        cases hb : hasB (nthM A x) i with
        | false => rw [hb, cond_false] at hq; cases hq
        | true =>
          rw [hb, cond_true] at hq
          rcases List.mem_cons.1 h with rfl | h
          · have : ¬ a < i := by
              intro h
              have : Nat.blt a i = true := by simpa using h
              rw [hlt] at this; cases this
            exact ⟨fun _ => by omega, fun _ => hb⟩
          · exact quick_spec hq a h

theorem chainOK_all {A : List Nat} {acts : List Nat} : ∀ {l : List Nat}, chainOK A acts l = true → ∀ a ∈ l, quick A a acts = true
  | [], _, a, h => by cases h
  | x :: l, hq, a, h => by
    have e : chainOK A acts (x :: l) = bif quick A x acts then chainOK A acts l else false := rfl
    rw [e, Bool.cond_eq_ite] at hq
    split at hq
    · rename_i h1
      rcases List.mem_cons.1 h with rfl | h
      · exact h1
      · exact chainOK_all hq a h
    · cases hq

theorem quietAll_spec {A : List Nat} {all : List DStep} {h0 : H} {acts : List Nat} : ∀ {l : List DStep} {k : Nat}, quietAll P g K ops A all h0 acts l k = true → ∀ i x, l[i]? = some x → needs ops x = true → quick A (k + i) acts = true ∨ verGo P g K ops A (k + i) x 0 h0 all = true
  | [], _, _, i, x, h, _ => by simp at h
  | z :: l, k, hk, i, x, h, hn => by
    have e : quietAll P g K ops A all h0 acts (z :: l) k = bif (bif quick A k acts then true else bif needs ops z then verGo P g K ops A k z 0 h0 all else true) then quietAll P g K ops A all h0 acts l (k + 1) else false := rfl
    rw [e, Bool.cond_eq_ite] at hk
    split at hk
    · rename_i h1
      cases i with
      | zero =>
        simp only [List.getElem?_cons_zero, Option.some.injEq] at h; subst h
        cases hqk : quick A k acts with
        | true => exact .inl rfl
        | false =>
          rw [hqk, cond_false, hn, cond_true] at h1
          exact .inr h1
      | succ i =>
        have := quietAll_spec hk i x (by simpa using h) hn
        rwa [show k + 1 + i = k + (i + 1) from by omega] at this
    · cases hk

/-- What is known of the operations that turn memory, and of those that look into it. -/
theorem actsOK_spec {A : List Nat} {st : List DStep} {h0 : H} (h : actsOK P g K ops A st h0 (actsOf st 0) = true) :
    (∀ i x, st[i]? = some x → x.act.isSome = true → ∀ j y, st[j]? = some y → y.act.isSome = true → i < j → hasB (nthM A j) i = true) ∧
    ∀ i x, st[i]? = some x → needs ops x = true → (∀ j y, st[j]? = some y → y.act.isSome = true → (j < i → hasB (nthM A i) j = true) ∧ (i < j → hasB (nthM A j) i = true)) ∨ verGo P g K ops A i x 0 h0 st = true := by
  have hm : ∀ j y, st[j]? = some y → y.act.isSome = true → j ∈ actsOf st 0 := fun j y hy ha => by
    have := actsOf_mem (k := 0) j y hy ha
    rwa [Nat.zero_add] at this
  generalize actsOf st 0 = acts at h hm
  cases acts with
  | nil => exact ⟨fun i x hx ha => (by have := hm i x hx ha; cases this), fun i x hx hn => .inl fun j y hy ha => (by have := hm j y hy ha; cases this)⟩
  | cons a l =>
    have h : (bif chainOK A (a :: l) (a :: l) then quietAll P g K ops A st h0 (a :: l) st 0 else false) = true := h
    rw [Bool.cond_eq_ite] at h
    split at h
    · rename_i h1
      refine ⟨fun i x hx ha j y hy hya hij => (quick_spec (chainOK_all h1 i (hm i x hx ha)) j (hm j y hy hya)).2 hij, fun i x hx hn => ?_⟩
      have := quietAll_spec h i x hx hn
      rw [Nat.zero_add] at this
      rcases this with h2 | h2
      · exact .inl fun j y hy ha => quick_spec h2 j (hm j y hy ha)
      · exact .inr h2
    · cases h

theorem verGo_spec {A : List Nat} {S : Nat → Bool} {i : Nat} {x : DStep} (h1 : ∀ b, hasB (nthM A i) b = true → S b = true) (h2 : ∀ b, S b = true → ¬ hasB (nthM A b) i = true) :
    ∀ {l : List DStep} {k : Nat} {h : H}, (∀ a y, l[a]? = some y → y.act.isSome = true → ∀ b z, l[b]? = some z → z.act.isSome = true → a < b → S (k + b) = true → S (k + a) = true) →
      verGo P g K ops A i x k h l = true → quietOK P g K ops x (fold S wH k l h) = true
  | [], k, h, _, hv => hv
  | y :: l, k, h, hc, hv => by
    have hc' : ∀ a y, l[a]? = some y → y.act.isSome = true → ∀ b z, l[b]? = some z → z.act.isSome = true → a < b → S (k + 1 + b) = true → S (k + 1 + a) = true := fun a y' ha hy b z hb hz hab hs => by
      have := hc (a + 1) y' (by simpa using ha) hy (b + 1) z (by simpa using hb) hz (by omega)
      rw [show k + (b + 1) = k + 1 + b from by omega, show k + (a + 1) = k + 1 + a from by omega] at this
      exact this hs
    simp only [verGo] at hv
    simp only [fold]
    split at hv
    · rename_i hn
      have : (if S k = true then (wH y).getD h else h) = h := by simp [wH, hn]
      rw [this]
      exact verGo_spec h1 h2 hc' hv
    · rename_i h' hn
      cases hs : S k with
      | true =>
        have : (if true = true then (wH y).getD h else h) = h' := by simp [wH, hn]
        rw [this]
        simp only [Bool.cond_eq_ite] at hv
        split at hv
        · exact verGo_spec h1 h2 hc' hv
        · split at hv
          · rename_i hm; exact absurd hm (h2 _ hs)
          · simp only [Bool.and_eq_true] at hv
            exact verGo_spec h1 h2 hc' hv.2
      | false =>
        have : (if false = true then (wH y).getD h else h) = h := by simp
        rw [this]
        have hf : fold S wH (k + 1) l h = h := fold_none fun j z hj hz => by
          cases hq : S (k + 1 + j) with
          | false => rfl
          | true =>
            have := hc 0 y rfl (by simp [hn]) (j + 1) z (by simpa using hj) hz (by omega) (by rwa [show k + (j + 1) = k + 1 + j from by omega])
            simp [hs] at this
        rw [hf]
        simp only [Bool.cond_eq_ite] at hv
        split at hv
        · rename_i hm; have := h1 _ hm; rw [hs] at this; cases this
        · split at hv
          · exact hv
          · simp only [Bool.and_eq_true] at hv; exact hv.1
end
end Go.Ev
