import Derived.Test.YtdbjdkkgpnkiaaaGreatDoorEvSym
set_option linter.unusedSimpArgs false
set_option linter.unusedVariables false
namespace Go.Ev
open Go.RowKit

/-! memories as lists -/
section
variable {α : Type}
noncomputable def T.ofG (n : Nat) (l : List (Nat × Option α)) : T α := l.foldr (fun p t => t.set p.1 p.2) (T.full none n)
def lookG : List (Nat × Option α) → Nat → Option α
  | [], _ => none
  | (j, v) :: l, i => if j = i then v else lookG l i

theorem T.has_ofG (n : Nat) (l : List (Nat × Option α)) (i : Nat) (h : i + 1 < 2 ^ n) : (T.ofG n l).has i := by
  induction l with
  | nil => exact T.has_full _ _ _ h
  | cons p l ih => exact (T.has_set _ _ _ _).2 ih

theorem T.get_ofG (n : Nat) (l : List (Nat × Option α)) (i : Nat) (h : i + 1 < 2 ^ n) : (T.ofG n l).get i = lookG l i := by
  induction l with
  | nil =>
    cases hq : (T.full (none : Option α) n).get i with
    | none => exact hq
    | some e => cases T.get_full _ _ _ hq
  | cons p l ih =>
    obtain ⟨j, v⟩ := p
    show (T.set (T.ofG n l) j v).get i = lookG ((j, v) :: l) i
    unfold lookG
    split
    · rename_i e; subst e; exact T.get_set_same _ _ _ (T.has_ofG n l _ h)
    · rename_i e; rw [T.get_set_ne _ _ _ _ (Ne.symm e)]; exact ih

theorem T.ofG_mem {n : Nat} {l : List (Nat × Option α)} {i : Nat} {v : α} (h : (T.ofG n l).get i = some v) : (i, some v) ∈ l := by
  induction l with
  | nil => cases T.get_full _ _ _ h
  | cons p l ih =>
    obtain ⟨j, u⟩ := p
    rcases T.get_set _ _ _ _ h with ⟨rfl, e⟩ | ⟨_, e⟩
    · rw [← e]; exact List.mem_cons_self
    · exact List.mem_cons_of_mem _ (ih e)
end

noncomputable def mkH (n : Nat) (l : List (Nat × Option EObj)) (m : Nat) (k : List (Nat × Option (Nat × TypeId))) : H := ⟨n, T.ofG 14 l, m, T.ofG 8 k⟩
theorem H.start_mk : H.start = mkH 0 [] 0 [] := rfl
section
variable {n m : Nat} {l : List (Nat × Option EObj)} {k : List (Nat × Option (Nat × TypeId))}
theorem mkH_new {o : EObj} : (mkH n l m k).new o = mkH (n + 1) ((n, some o) :: l) m k := rfl
theorem mkH_put {id : Nat} {o : EObj} : (mkH n l m k).put id o = mkH n ((id, some o) :: l) m k := rfl
theorem mkH_kill {id : Nat} : (mkH n l m k).kill id = mkH n ((id, none) :: l) m k := rfl
theorem mkH_tok {id q : Nat} {e : TypeId} : (mkH n l m k).tok id q e = mkH n l m ((id, some (q, e)) :: k) := rfl
theorem mkH_get {id : Nat} (h : id < 16000) : (mkH n l m k).get id = lookG l id := T.get_ofG 14 l id (by omega)
theorem mkH_k {id : Nat} (h : id < 250) : (mkH n l m k).k.get id = lookG k id := T.get_ofG 8 k id (by omega)
theorem mkH_n : (mkH n l m k).n = n := rfl
end

/-! what speaks of no number from N on -/
mutual
def below (N : Nat) : EVal → Bool
  | .ptr id _ => Nat.blt id N
  | .slice id _ _ _ => Nat.blt id N
  | .map id => Nat.blt id N
  | .yieldf id => Nat.blt id N
  | .func _ cs => belowL N cs
  | .iface _ v => below N v
  | .agg l => belowL N l
  | .tup l => belowL N l
  | _ => true
def belowL (N : Nat) : List EVal → Bool
  | [] => true
  | v :: l => below N v && belowL N l
end

def belowO (N : Nat) : EObj → Bool
  | .row cells _ _ _ _ => belowL N cells
  | .map es _ => es.all fun e => below N e.1 && below N e.2.1
  | .iter _ _ => true
  | _ => false

def Loc.cut (ρ : Loc) (N : Nat) : Loc := { ρ with own := fun id => if id < N then ρ id else none }

theorem cut_own {ρ : Loc} {N id : Nat} {x : Nat × Nat} (hb : Nat.blt id N = true) (h : ρ id = some x) : (ρ.cut N) id = some x := by
  show (if id < N then ρ id else none) = some x
  rw [if_pos (by simpa using hb)]; exact h

mutual
theorem VRel.cut {ρ : Loc} {N : Nat} : ∀ {e : EVal} {v : Value}, VRel ρ e v → below N e = true → VRel (ρ.cut N) e v
  | _, _, .unk k n, _ => .unk k n
  | _, _, .bool b, _ => .bool b
  | _, _, .int k n, _ => .int k n
  | _, _, .str l s h, _ => .str l s h
  | _, _, .nilp, _ => .nilp
  | _, _, .gptr g o, _ => .gptr g o
  | _, _, .ptr id o b C h, hb => .ptr id o b C (cut_own hb h)
  | _, _, .nilslice, _ => .nilslice
  | _, _, .slice id o n c b C h, hb => .slice id o n c b C (cut_own hb h)
  | _, _, .slack id o n s c b C h hc hn, hb => .slack id o n s c b C (cut_own hb h) hc hn
  | _, _, .nilmap, _ => .nilmap
  | _, _, .map id b C h, hb => .map id b C (cut_own hb h)
  | _, _, .func f cs vs h, hb => .func f cs vs (VsRel.cut h hb)
  | _, _, .yieldf id b C h, hb => .yieldf id b C (cut_own hb h)
  | _, _, .nilfunc, _ => .nilfunc
  | _, _, .iface t e v h, hb => .iface t e v (VRel.cut h hb)
  | _, _, .nilif, _ => .nilif
  | _, _, .agg l cs h, hb => .agg l cs (VsRel.cut h hb)
  | _, _, .tup l cs h, hb => .tup l cs (VsRel.cut h hb)
  | _, _, .lsl els us b o c sz pre rest hf hs hw ho hz hc, _ => .lsl els us b o c sz pre rest hf hs hw ho hz hc
  | _, _, .lsl0 p c, _ => .lsl0 p c
  | _, _, .lsln, _ => .lsln
  | _, _, .lptr cells off us b base pre rest hf hs hw ho, _ => .lptr cells off us b base pre rest hf hs hw ho
  | _, _, .gnil id ht, _ => .gnil id ht
  | _, _, .gsl id els us b C sz pre rest ht hf hs hw hz hc, _ => .gsl id els us b C sz pre rest ht hf hs hw hz hc
theorem VsRel.cut {ρ : Loc} {N : Nat} : ∀ {es : List EVal} {vs : List Value}, VsRel ρ es vs → belowL N es = true → VsRel (ρ.cut N) es vs
  | _, _, .nil, _ => .nil
  | _, _, .cons e v es vs h hs, hb => by
    simp only [belowL, Bool.and_eq_true] at hb
    exact .cons e v es vs (VRel.cut h hb.1) (VsRel.cut hs hb.2)
end

section
variable {P : Program} {B0 : Nat} {W0 : Base}

theorem roundNone {ρ ρ' : Loc} {x : Option Nat} (h : RoundRel ρ none x) : RoundRel ρ' none x := by
  cases x with
  | none => trivial
  | some l => exact h.elim

theorem MRel.cut {ρ : Loc} {N : Nat} {es : List (EVal × EVal × Nat)} {ms : List MapEntry} (hb : (es.all fun e => Go.Ev.below N e.1 && Go.Ev.below N e.2.1) = true) (h : MRel ρ es ms) : MRel (ρ.cut N) es ms := by
  induction h with
  | nil => exact .nil
  | cons k v t es m ms hk hv hbn h ih =>
    simp only [List.all_cons, Bool.and_eq_true] at hb
    exact .cons k v t es m ms (hk.cut hb.1.1) (hv.cut hb.1.2) hbn (ih hb.2)

theorem ORel.cut {ρ : Loc} {N : Nat} {o : EObj} {C : Nat} {x : Option Obj} (hb : belowO N o = true) (h : ORel P ρ o C x) : ORel P (ρ.cut N) o C x := by
  cases o with
  | row cells e lo hi sl => obtain ⟨cs, h1, h2, h3, h4⟩ := h; exact ⟨cs, h1, h2.cut hb, h3, h4⟩
  | map es clock => obtain ⟨m, h1, h2⟩ := h; exact ⟨m, h1, h2.cut hb⟩
  | miter m since seen stepped => cases hb
  | iter l pos => exact h
  | loop st pend sz t ps a b d => cases hb
  | deferred tk => cases hb

/-- Slots and objects that are no longer wanted are dropped, with their numbers. -/
theorem View.drop {s n N m : Nat} {fl fl2 : List (Nat × EVal)} {l l2 : List (Nat × Option EObj)} {k k2 : List (Nat × Option (Nat × TypeId))}
    (hf : ∀ p ∈ fl2, p.1 < 1000 ∧ look fl p.1 = some p.2 ∧ below N p.2 = true) (hl : ∀ p ∈ l2, p.1 < 16000 ∧ p.1 < N ∧ ∃ o, p.2 = some o ∧ lookG l p.1 = some o ∧ belowO N o = true)
    (hk : ∀ p ∈ k2, p.1 < 250 ∧ ∃ x, p.2 = some x ∧ lookG k p.1 = some x) :
    View P (mkF s fl) (mkH n l m k) (mkF s fl2) (mkH N l2 m k2) := by
  intro B0 W0 b t d ρ w F R
  have hkget : ∀ id x, (mkH N l2 m k2).k.get id = some x → (mkH n l m k).k.get id = some x := by
    intro id x hg
    obtain ⟨h1, x', h2, h3⟩ := hk _ (T.ofG_mem hg)
    simp only [Option.some.injEq] at h2
    subst h2
    rw [mkH_k h1]; exact h3
  have hget : ∀ id o, (mkH N l2 m k2).get id = some o → id < N ∧ (mkH n l m k).get id = some o ∧ belowO N o = true := by
    intro id o hg
    obtain ⟨h1, h2, o', h3, h4, h5⟩ := hl _ (T.ofG_mem hg)
    simp only [Option.some.injEq] at h3
    subst h3
    exact ⟨h2, by rw [mkH_get h1]; exact h4, h5⟩
  have hown : ∀ {id x}, (ρ.cut N) id = some x → ρ id = some x := by
    intro id x hx
    have : (if id < N then ρ id else none) = some x := hx
    split at this
    · exact this
    · cases this
  refine ⟨ρ.cut N, ⟨F.size, fun i e he => ?_, F.defers |> fun h => by cases h; exact .nil, roundNone F.round⟩, ?_⟩
  · obtain ⟨h1, h2, h3⟩ := hf _ (ofL_look he)
    exact (F.tmps i e (by show (T.ofL fl).get i = _; rw [T.get_ofL _ _ h1]; exact h2)).cut h3
  · refine ⟨R.below, R.base, fun id hid => ?_, fun id b' C hb' => R.lo id b' C (hown hb'), fun i j o1 o2 b' C C' g1 g2 r1 r2 => R.inj i j o1 o2 b' C C' (hget _ _ g1).2.1 (hget _ _ g2).2.1 (hown r1) (hown r2), fun id o hg => ?_, R.fz,
      fun b' pre hb' id C o hg hr => R.free b' pre hb' id C o (hget _ _ hg).2.1 (hown hr), R.fz0, R.mdom, fun id q e hk => ?_, fun id q e hk => R.tnew id q e (hkget _ _ hk), fun i1 n1 e1 i2 n2 e2 b1 C1 C2 h1 h2 => R.tinj i1 n1 e1 i2 n2 e2 b1 C1 C2 (hkget _ _ h1) (hkget _ _ h2)⟩
    · have hid : N ≤ id := hid
      show (if id < N then ρ id else none) = none
      rw [if_neg (by omega)]
    · obtain ⟨h1, h2, h3⟩ := hget _ _ hg
      obtain ⟨b', C, hb', r⟩ := R.objs _ _ h2
      exact ⟨b', C, cut_own (by simpa using h1) hb', r.cut h3⟩
    · obtain ⟨x, h1, h2⟩ := R.toks id q e (hkget _ _ hk)
      exact ⟨x, h1, fun b' C hx => (h2 b' C hx).keep rfl rfl⟩

/-- A slice that is nil, and grows from here on. -/
theorem View.grow {s n m : Nat} {fl : List (Nat × EVal)} {l : List (Nat × Option EObj)} {k : List (Nat × Option (Nat × TypeId))} (i : Nat) (e : TypeId) (hi : i < 1000) (hm : m < 250) (h : look fl i = some .nilslice) :
    View P (mkF s fl) (mkH n l m k) (mkF s ((i, .gsl m []) :: fl)) (mkH n l (m + 1) ((m, some (0, e)) :: k)) := by
  intro B0 W0 b t d ρ w F R
  have hm0 : ∀ q, ρ.tau m q = none := fun q => R.mdom m q (Nat.le_refl _)
  let ρ2 : Loc := { ρ with tau := fun id q => if id = m then (if q = 0 then some none else none) else ρ.tau id q }
  have hle : ρ.le ρ2 := ⟨fun _ _ h => h, fun b pre h => ⟨[], by simpa using h⟩, fun id q x hx => by
    show (if id = m then (if q = 0 then some none else none) else ρ.tau id q) = some x
    rw [if_neg]; exact hx
    rintro rfl; rw [hm0] at hx; cases hx⟩
  have htau : ∀ id q, ρ2.tau id q = if id = m then (if q = 0 then some none else none) else ρ.tau id q := fun _ _ => rfl
  have hget : ∀ id q e', (mkH n l (m + 1) ((m, some (0, e)) :: k)).k.get id = some (q, e') → (id = m ∧ q = 0 ∧ e' = e) ∨ (id ≠ m ∧ (mkH n l m k).k.get id = some (q, e')) := by
    intro id q e' hg
    rcases T.get_set _ _ _ _ hg with ⟨a, b⟩ | ⟨a, b⟩
    · cases b; exact .inl ⟨a, rfl, rfl⟩
    · exact .inr ⟨a, b⟩
  refine ⟨ρ2, ⟨F.size, fun j v hv => ?_, F.defers |> fun h => by cases h; exact .nil, roundNone F.round⟩, ?_⟩
  · rcases T.get_set _ _ _ _ hv with ⟨rfl, hv⟩ | ⟨_, hv⟩
    · cases hv
      have := F.tmps j _ (by show (T.ofL fl).get j = _; rw [T.get_ofL _ _ hi]; exact h)
      generalize t.getD j undef = u at this
      cases this
      exact .gnil m (by rw [htau]; simp)
    · exact (F.tmps j v hv).mono hle
  · refine ⟨R.below, R.base, R.dom, R.lo, R.inj, fun id o hg => ?_, R.fz, R.free, R.fz0, fun id q hid => ?_, fun id q e' hk => ?_, fun id q e' hk q' hq => ?_, fun i1 n1 e1 i2 n2 e2 b1 C1 C2 h1 h2 t1 t2 => ?_⟩
    · obtain ⟨b', C, hb', r⟩ := R.objs _ _ hg
      exact ⟨b', C, hb', r.mono hle⟩
    · have hid : m + 1 ≤ id := hid
      rw [htau, if_neg (by omega)]
      exact R.mdom id q (by show m ≤ id; omega)
    · rcases hget _ _ _ hk with ⟨rfl, rfl, rfl⟩ | ⟨hne, hk⟩
      · exact ⟨none, by rw [htau]; simp, fun _ _ hx => by cases hx⟩
      · obtain ⟨x, h1, h2⟩ := R.toks id q e' hk
        exact ⟨x, by rw [htau, if_neg hne]; exact h1, fun b' C hx => (h2 b' C hx).keep rfl rfl⟩
    · rcases hget _ _ _ hk with ⟨rfl, rfl, rfl⟩ | ⟨hne, hk⟩
      · rw [htau, if_pos rfl, if_neg (by omega)]
      · rw [htau, if_neg hne]; exact R.tnew _ _ _ hk _ hq
    · rcases hget _ _ _ h1 with ⟨rfl, rfl, rfl⟩ | ⟨hne1, g1⟩
      · rw [htau] at t1; simp at t1
      · rcases hget _ _ _ h2 with ⟨rfl, rfl, rfl⟩ | ⟨hne2, g2⟩
        · rw [htau] at t2; simp at t2
        · rw [htau, if_neg hne1] at t1
          rw [htau, if_neg hne2] at t2
          exact R.tinj _ _ _ _ _ _ _ _ _ g1 g2 t1 t2

/-- A slice that grew is kept for good. -/
theorem View.keep {s : Nat} {fl : List (Nat × EVal)} {h : H} {m : Nat} {els : List (List EVal)} (i : Nat) (hi : i < 1000) (hl : look fl i = some (.gsl m els)) :
    View P (mkF s fl) h (mkF s ((i, .lsl els) :: fl)) h := by
  intro B0 W0 b t d ρ w F R
  refine ⟨ρ, ⟨F.size, fun j v hv => ?_, F.defers |> fun h => by cases h; exact .nil, roundNone F.round⟩, R⟩
  rcases T.get_set _ _ _ _ hv with ⟨rfl, hv⟩ | ⟨_, hv⟩
  · cases hv
    exact (F.tmps j _ (by show (T.ofL fl).get j = _; rw [T.get_ofL _ _ hi]; exact hl)).unG
  · exact F.tmps j v hv
end
end Go.Ev

namespace Go.Ev
open Go.RowKit
/-- A slice of plain elements that grew, and that nobody else looks at, is one's own row again. -/
theorem View.own {P : Program} {s n m : Nat} {fl fl2 : List (Nat × EVal)} {l : List (Nat × Option EObj)} {k : List (Nat × Option (Nat × TypeId))} {els : List (List EVal)} {e : TypeId} {ti : TypeInfo} (i id : Nat) (hi : i < 1000) (hid : id < 250) (hn : n < 16000) (hne : els ≠ [])
    (hl : look fl i = some (.gsl id els)) (hk : lookG k id = some (els.length, e)) (hti : P.info? e = some ti) (hlens : lensOK ti.size els = true) (hflat : flatL els.flatten = true)
    (hf : ∀ p ∈ fl2, p.1 < 1000 ∧ look fl p.1 = some p.2 ∧ flat p.2 = true) :
    View P (mkF s fl) (mkH n l m k) (mkF s ((i, .slice n 0 els.length (.slack 0)) :: fl2)) (mkH (n + 1) [(n, some (.row els.flatten e 0 0 true))] 0 []) := by
  intro B0 W0 b t d ρ w F R
  have hv := F.tmps i _ (by show (T.ofL fl).get i = _; rw [T.get_ofL _ _ hi]; exact hl)
  have hk' : (mkH n l m k).k.get id = some (els.length, e) := by rw [mkH_k hid]; exact hk
  generalize hq : t.getD i undef = u at hv
  cases hv with
  | gnil _ _ => exact absurd rfl hne
  | gsl _ _ us blk C sz pre rest ht hfro hs hw hz hc =>
  obtain ⟨x, hx1, hx2⟩ := R.toks _ _ _ hk'
  rw [ht] at hx1; cases hx1
  obtain ⟨hB, cs, ti', pre', hcs, hti', hcsz, hpre', hpl⟩ := hx2 blk C rfl
  rw [hti] at hti'; cases hti'
  rw [hfro] at hpre'; cases hpre'
  have hsz : ti.size = sz := (VssRel.lens hs hz hlens).resolve_left hne
  obtain ⟨cs', e', m', hcs2, more, hcm⟩ := R.fz _ _ hfro
  rw [hcs] at hcs2; cases hcs2
  let ρ2 : Loc := ⟨fun q => if q = n then some (blk, C) else none, fun q => if q = blk then none else ρ.fro q, fun _ _ => none⟩
  have hown : ∀ q, ρ2 q = if q = n then some (blk, C) else none := fun _ => rfl
  have hrow : VsRel ρ2 els.flatten (cs.toList.take els.flatten.length) := by
    have h1 := (VssRel.flatten hs).flat hflat
    have h2 : cs.toList.take els.flatten.length = us.flatten := by
      rw [h1.length, hcm, hw, List.append_assoc]
      exact List.take_left' rfl
    rw [h2]
    exact h1.mono (none_le _)
  refine ⟨ρ2, ⟨F.size, fun j v hv => ?_, F.defers |> fun h => by cases h; exact .nil, roundNone F.round⟩, ?_⟩
  · rcases T.get_set _ _ _ _ hv with ⟨rfl, hv⟩ | ⟨_, hv⟩
    · cases hv
      rw [hq]
      exact .slack n 0 els.length 0 C blk C (by rw [hown]; simp) (by omega) hc
    · obtain ⟨h1, h2, h3⟩ := hf _ (ofL_look hv)
      have := F.tmps j v (by show (T.ofL fl).get j = _; rw [T.get_ofL _ _ h1]; exact h2)
      exact (this.flat h3).mono (none_le _)
  · have hget : ∀ q o, (mkH (n + 1) [(n, some (.row els.flatten e 0 0 true))] 0 []).get q = some o → q = n ∧ o = .row els.flatten e 0 0 true := by
      intro q o hg
      have := T.ofG_mem hg
      simp only [List.mem_singleton, Prod.mk.injEq, Option.some.injEq] at this
      exact this
    refine ⟨R.below, R.base, fun q hq => ?_, fun q b' C' hb' => ?_, fun q1 q2 o1 o2 b' C1 C2 g1 g2 _ _ => ?_, fun q o hg => ?_, fun b' p hb' => ?_, fun b' p hb' q C' o hg hr => ?_, fun b' hb' => ?_, fun _ _ _ => rfl, fun q n' e' hk => ?_, fun q n' e' hk => ?_, fun q n' e' q2 n2 e2 b' C1 C2 hk => ?_⟩
    · have : n + 1 ≤ q := hq
      rw [hown, if_neg (by omega)]
    · rw [hown] at hb'
      split at hb'
      · cases hb'
        exact ⟨hB, (Array.getElem?_eq_some_iff.1 hcs).1⟩
      · cases hb'
    · rw [(hget _ _ g1).1, (hget _ _ g2).1]
    · obtain ⟨rfl, rfl⟩ := hget _ _ hg
      exact ⟨blk, C, by rw [hown]; simp, cs, hcs, hrow, (fun h => by cases h), (fun _ => ⟨ti, hti, hcsz⟩)⟩
    · have : (if b' = blk then none else ρ.fro b') = some p := hb'
      split at this
      · cases this
      · exact R.fz b' p this
    · rw [hown] at hr
      split at hr
      · cases hr
        have : (if blk = blk then none else ρ.fro blk) = some p := hb'
        simp at this
      · cases hr
    · show (if b' = blk then none else ρ.fro b') = _
      rw [if_neg (by omega)]; exact R.fz0 b' hb'
    · exact absurd (T.ofG_mem hk) (by simp)
    · exact absurd (T.ofG_mem hk) (by simp)
    · exact absurd (T.ofG_mem hk) (by simp)
end Go.Ev

namespace Go.Ev
open Go.RowKit
/-- A row of one's own is kept for good. -/
theorem View.freeze {P : Program} {s n m sz len : Nat} {fl fl2 : List (Nat × EVal)} {l : List (Nat × Option EObj)} {k : List (Nat × Option (Nat × TypeId))} {cells cells' : List EVal} {e : TypeId} {lo hi : Nat} {sl : Bool} {cap : ECap} (i id : Nat) (hi' : i < 1000) (hid : id < 16000)
    (hl : look fl i = some (.slice id 0 len cap)) (hg : lookG l id = some (.row cells e lo hi sl)) (hcap : capOK len cap = true) (hk : keepL cells = some cells') (hlen : cells'.length = len * sz)
    (hf : ∀ p ∈ fl2, p.1 < 1000 ∧ look fl p.1 = some p.2 ∧ keepV p.2 = some p.2) :
    View P (mkF s fl) (mkH n l m k) (mkF s ((i, .lsl (chunk sz len cells')) :: fl2)) (mkH n [] m []) := by
  intro B0 W0 b t d ρ w F R
  have hv := F.tmps i _ (by show (T.ofL fl).get i = _; rw [T.get_ofL _ _ hi']; exact hl)
  have hg' : (mkH n l m k).get id = some (.row cells e lo hi sl) := by rw [mkH_get hid]; exact hg
  obtain ⟨blk, C, hb, cs, hw, hrel, _⟩ := R.objs _ _ hg'
  obtain ⟨h2, _⟩ := keepL_sound hrel hk
  obtain ⟨uss, c1, c2, c3, c4⟩ := chunk_rel sz len cells' _ h2 hlen
  let ρ2 : Loc := ⟨fun _ => none, fun q => if q = blk then some cs.toList else ρ.fro q, fun _ _ => none⟩
  have hlt := R.lo _ _ _ hb
  have hfz : ρ.fz.le ρ2 := by
    refine ⟨fun _ _ h => (by cases h), fun q pre hq => ?_, fun _ _ _ h => (by cases h)⟩
    have hq' : ρ.fro q = some pre := hq
    by_cases e : q = blk
    · subst e; exact absurd hb (R.free q pre hq' _ _ _ hg')
    · exact ⟨[], by show (if q = blk then some cs.toList else ρ.fro q) = _; rw [if_neg e, List.append_nil]; exact hq'⟩
  have hval : VRel ρ2 (.lsl (chunk sz len cells')) (t.getD i undef) := by
    generalize t.getD i undef = u at hv
    have key : ∀ c', len ≤ c' → VRel ρ2 (.lsl (chunk sz len cells')) (.slice (some ⟨blk, 0, none⟩) len c') := by
      intro c' hc
      have hcl : (chunk sz len cells').length = len := chunk_length _ _ _
      have := VRel.lsl (ρ := ρ2) (chunk sz len cells') uss blk 0 c' sz cs.toList (cs.toList.drop cells.length) (by show (if blk = blk then _ else _) = _; simp) (c1.mono ⟨hfz.own, hfz.fro, hfz.tau⟩)
        (by rw [List.drop_zero, c2, List.take_append_drop]) (Nat.zero_le _) c3 (by rw [hcl]; exact hc)
      rw [hcl] at this
      exact this
    cases hv with
    | slice _ _ _ c b' C' hb' => rw [hb] at hb'; cases hb'; exact key _ (by simpa [capOK] using hcap)
    | slack _ _ _ _ c b' C' hb' hc hn => rw [hb] at hb'; cases hb'; exact key _ hn
  refine ⟨ρ2, ⟨F.size, fun j v hv => ?_, F.defers |> fun h => by cases h; exact .nil, roundNone F.round⟩, ?_⟩
  · rcases T.get_set _ _ _ _ hv with ⟨rfl, hv⟩ | ⟨_, hv⟩
    · cases hv; exact hval
    · obtain ⟨h1, h3, h4⟩ := hf _ (ofL_look hv)
      have := F.tmps j v (by show (T.ofL fl).get j = _; rw [T.get_ofL _ _ h1]; exact h3)
      exact (keepV_sound this h4).mono hfz
  · have hget : ∀ q o, ¬ (mkH n [] m []).get q = some o := fun q o hg => by have := T.ofG_mem hg; simp at this
    have hkk : ∀ q x, ¬ (mkH n [] m []).k.get q = some x := fun q o hg => by have := T.ofG_mem hg; simp at this
    refine ⟨R.below, R.base, fun _ _ => rfl, fun q b' C' hb' => (by cases hb'), fun q1 q2 o1 o2 b' C1 C2 g1 _ _ _ => (hget _ _ g1).elim, fun q o hg => (hget _ _ hg).elim, fun b' p hb' => ?_, fun b' p hb' q C' o hg hr => (hget _ _ hg).elim, fun b' hb' => ?_, fun _ _ _ => rfl, fun q n' e' hk => (hkk _ _ hk).elim, fun q n' e' hk => (hkk _ _ hk).elim, fun q n' e' q2 n2 e2 b' C1 C2 hk => (hkk _ _ hk).elim⟩
    · have : (if b' = blk then some cs.toList else ρ.fro b') = some p := hb'
      split at this
      · rename_i e'; subst e'; cases this; exact ⟨cs, e, _, hw, [], by simp⟩
      · exact R.fz b' p this
    · show (if b' = blk then some cs.toList else ρ.fro b') = _
      rw [if_neg (by omega)]; exact R.fz0 b' hb'
end Go.Ev
