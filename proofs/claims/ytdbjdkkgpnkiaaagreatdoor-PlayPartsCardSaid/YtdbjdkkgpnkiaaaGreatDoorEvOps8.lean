import Derived.Test.YtdbjdkkgpnkiaaaGreatDoorEvOps7
import GoSem.Step
set_option linter.unusedSimpArgs false
set_option linter.unusedVariables false
namespace Go.Ev
open Go.RowKit

theorem find_indexByte (fn : Func) (h : fn.name = "internal/bytealg.IndexByteString") (h2 : fn.origin = "") : Extern.findNext fn = none ∧ Extern.find fn = some Extern.BytealgIndexByte.indexByte := by
  unfold Extern.findNext Extern.find
  rw [h, h2]
  exact ⟨rfl, rfl⟩

theorem find_noEscape (fn : Func) (h : fn.name = "internal/abi.NoEscape") (h2 : fn.origin = "") : Extern.findNext fn = none ∧ Extern.find fn = some Extern.AbiNoEscape.same := by
  unfold Extern.findNext Extern.find
  rw [h, h2]
  exact ⟨rfl, rfl⟩

theorem find_noZero (fn : Func) (h : fn.name = "internal/bytealg.MakeNoZero") (h2 : fn.origin = "") : Extern.findNext fn = none ∧ Extern.find fn = some (Extern.BytealgMakeNoZero.makeNoZero fn.params fn.resultTypes) := by
  unfold Extern.findNext Extern.find
  rw [h, h2]
  exact ⟨rfl, rfl⟩

section
variable {P : Program} {B0 : Nat} {W0 : Base} {ρ : Loc} {h : H} {w : World} {g : G}

def OpOK (P : Program) (B0 : Nat) (W0 : Base) (ρ : Loc) (h : H) (w : World) (s : Sem Next) : EOut → Prop
  | .val e h' => ∃ w' ρ', ρ.le ρ' ∧ HRel P B0 W0 ρ' h' w' ∧ ((∃ v, s.run P w = .ok (.value v) w' ∧ VRel ρ' e v) ∨ (s.run P w = .ok .skip w' ∧ e = undefE))
  | .enter f args h' => h' = h ∧ ∃ vs : Array Value, s.run P w = .ok (.enter f vs) w ∧ VsRel ρ args vs.toList
  | .yield id args h' => h' = h ∧ ∃ (b C : Nat) (vs : Array Value), ρ id = some (b, C) ∧ s.run P w = (Instr.yield b vs).run P w ∧ VsRel ρ args vs.toList

theorem GoodV.op {s : Sem Value} {s' : Sem Next} {e : EVal} {h' : H} (hg : GoodV P B0 W0 ρ w s e h') (hs : s' = (do pure (.value (← s)))) : OpOK P B0 W0 ρ h w s' (.val e h') := by
  obtain ⟨v, w', ρ', h1, h2, h3, h4⟩ := hg
  exact ⟨w', ρ', h1, h2, .inl ⟨v, by rw [hs]; simp [h3], h4⟩⟩

theorem mk_spec {x : Option EVal} {e : EVal} {h' : H} (hm : mk x h = some (.val e h')) : x = some e ∧ h' = h := by
  unfold mk at hm
  cases x with
  | none => cases hm
  | some y => simp only [Option.map_some, Option.some.injEq, EOut.val.injEq] at hm; exact ⟨by rw [hm.1], hm.2.symm⟩

theorem mk_val {x : Option EVal} {out : EOut} (hm : mk x h = some out) : ∃ e, out = .val e h ∧ x = some e := by
  unfold mk at hm
  cases x with
  | none => cases hm
  | some y => simp only [Option.map_some, Option.some.injEq] at hm; exact ⟨y, hm.symm, rfl⟩

theorem indexByteE_sound (c : UInt8) : ∀ (bs : List UInt8) (i : Nat) (p : Nat → Bool), (∀ j, j < bs.length → p (i + j) = (bs.getD j 0 == c)) →
    indexByteE (bs.map UInt8.toNat) c.toNat i = (match (List.range' i bs.length).find? p with | some j => (j : Int) | none => -1)
  | [], i, p, _ => by simp [indexByteE]
  | b :: bs, i, p, hp => by
    simp only [List.map_cons, indexByteE, List.length_cons, List.range'_succ, List.find?_cons]
    have h0 := hp 0 (by simp)
    simp only [Nat.add_zero, List.getD_cons_zero] at h0
    rw [h0]
    by_cases hb : b = c
    · subst hb; simp
    · have h1 : b.toNat ≠ c.toNat := fun e => hb (UInt8.toNat_inj.1 e)
      have h2 : (b == c) = false := by simpa using hb
      rw [if_neg h1, h2, indexByteE_sound c bs (i + 1) p (fun j hj => by
        have := hp (j + 1) (by simpa using hj)
        rw [List.getD_cons_succ] at this
        rw [← this]; congr 1; omega)]

def NoNG (P : Program) : Prop := ∀ (f : FuncId) (fn : Func), P.funcs[f]? = some fn → (fn.name == "runtime.NumGoroutine") = false

theorem extern_sound (R : HRel P B0 W0 ρ h w) {f : FuncId} {fn : Func} (hfn : P.funcs[f]? = some fn) (hb : fn.body.isNone = true) {args : List EVal} {vs : Array Value} (hr : VsRel ρ args vs.toList) {out : EOut}
    (he : eExtern P fn args h = some out) : OpOK P B0 W0 ρ h w (callFunc f vs) out := by
  unfold eExtern at he
  split at he
  · rename_i horg
    have hnum : ∀ s : String, fn.name = s → s ≠ "runtime.NumGoroutine" → (fn.name == "runtime.NumGoroutine") = false := fun s h1 h2 => by rw [h1]; simpa using h2
    have call : ∀ (impl : Array Value → Sem Value), (fn.name == "runtime.NumGoroutine") = false → Extern.findNext fn = none → Extern.find fn = some impl → (callFunc f vs).run P w = ((do pure (.value (← impl vs)) : Sem Next)).run P w := by
      intro impl h1 h2 h3
      simp only [callFunc, Sem.run_bind, run_program, Result.andThen_ok, hfn, h1, Bool.false_eq_true, if_false, hb, if_true, h2, h3]
      rfl
    split at he
    · rename_i hname
      obtain ⟨h1, h2⟩ := find_indexByte fn hname horg
      have hc := call _ (hnum _ hname (by decide)) h1 h2
      unfold eIndexByte at he
      split at he
      · rename_i l c
        split at he
        · rename_i hcc
          simp only [Option.some.injEq] at he; subst he
          obtain ⟨v1, v2, hv, r1, r2⟩ : ∃ v1 v2, vs = #[v1, v2] ∧ VRel ρ (.str l) v1 ∧ VRel ρ (.int .u8 c) v2 := by
            generalize hvs : vs.toList = L at hr
            cases hr with | cons _ v1 _ _ a1 hs => cases hs with | cons _ v2 _ _ a2 hs => cases hs; exact ⟨v1, v2, Array.ext' (by simpa using hvs), a1, a2⟩
          subst hv
          cases r1; cases r2
          rename_i s hs
          have hdef : Extern.BytealgIndexByte.indexByte #[.string s, .int .u8 c] = (do
              let b ← Extern.Bytes.bytesOf (.string s)
              let c ← Extern.Bytes.asByte (.int .u8 c)
              match (List.range b.size).find? fun i => b[i]! == c with
              | some i => pure (goInt i)
              | none => pure (goInt (-1))) := rfl
          have hcn : (c.toNat.toUInt8).toNat = c.toNat := UInt8.toNat_ofNat_of_lt' (by show c.toNat < 256; omega)
          have hidx := indexByteE_sound c.toNat.toUInt8 s.data.toList 0 (fun i => s[i]! == c.toNat.toUInt8) (fun j hj => by
            have hj' : j < s.size := by rw [size_eq]; exact hj
            simp only [Nat.zero_add]
            rw [getElem!_pos s j hj', List.getD_eq_getElem?_getD, List.getElem?_eq_getElem hj]
            rfl)
          rw [hcn, hs, ← List.range_eq_range'] at hidx
          have : (Extern.BytealgIndexByte.indexByte #[.string s, .int .u8 c]).run P w = .ok (.int .i64 (indexByteE l c.toNat 0)) w := by
            rw [← size_eq] at hidx
            rw [hdef, hidx]
            simp only [Extern.Bytes.bytesOf, Extern.Bytes.asByte, Sem.run_bind, Sem.run_pure, Result.andThen_ok]
            cases (List.range s.size).find? (fun i => s[i]! == c.toNat.toUInt8) <;> rfl
          exact ⟨w, ρ, Loc.le_refl _, R, .inl ⟨_, by rw [hc]; simp [this], .int _ _⟩⟩
        · cases he
      · cases he
    · split at he
      · rename_i hname
        obtain ⟨h1, h2⟩ := find_noEscape fn hname horg
        have hc := call _ (hnum _ hname (by decide)) h1 h2
        unfold eNoEscape at he
        split at he
        · rename_i x
          simp only [Option.some.injEq] at he; subst he
          obtain ⟨v1, hv, r1⟩ : ∃ v1, vs = #[v1] ∧ VRel ρ x v1 := by
            generalize hvs : vs.toList = L at hr
            cases hr with | cons _ v1 _ _ a1 hs => cases hs; exact ⟨v1, Array.ext' (by simpa using hvs), a1⟩
          subst hv
          exact ⟨w, ρ, Loc.le_refl _, R, .inl ⟨v1, by rw [hc]; rfl, r1⟩⟩
        · cases he
      · split at he
        · rename_i hname
          obtain ⟨h1, h2⟩ := find_noZero fn hname horg
          have hc := call _ (hnum _ hname (by decide)) h1 h2
          unfold eNoZero at he
          split at he
          · rename_i n
            split at he
            · rename_i t ht
              split at he
              · rename_i e hu
                split at he
                · rename_i hcond
                  simp only [Option.some.injEq] at he; subst he
                  obtain ⟨v1, hv, r1⟩ : ∃ v1, vs = #[v1] ∧ VRel ρ (.int .i64 n) v1 := by
                    generalize hvs : vs.toList = L at hr
                    cases hr with | cons _ v1 _ _ a1 hs => cases hs; exact ⟨v1, Array.ext' (by simpa using hvs), a1⟩
                  subst hv
                  cases r1
                  obtain ⟨hn0, hn1, hsz⟩ := hcond
                  have hdef : Extern.BytealgMakeNoZero.makeNoZero fn.params fn.resultTypes #[.int .i64 n] = (do
                      let some t := fn.resultTypes[0]? | stuck "bytealg.MakeNoZero: no result type"
                      let .slice elem ← underlying t | stuck "bytealg.MakeNoZero: slice type expected"
                      if n < 0 || n > 2 ^ 48 then runtimePanic (.error "makeslice: len out of range")
                      let cap ← choose (.appendCap n.toNat 0 elem)
                      askRoom cap
                      let bytes ← choose (.extern "internal/bytealg.MakeNoZero.bytes" 0)
                      let a ← newRow elem (Extern.BytealgMakeNoZero.digits cap bytes #[])
                      pure (.slice (some a) n.toNat cap)) := rfl
                  have hlim : (decide (n < 0) || decide (n > 2 ^ 48)) = false := by
                    simp only [Bool.or_eq_false_iff, decide_eq_false_iff_not]
                    have : (2 ^ 48 : Int) = 281474976710656 := by decide
                    constructor <;> omega
                  obtain ⟨C, hC⟩ : ∃ C, (Question.appendCap n.toNat 0 e).cut (w.tape w.drawn (Question.appendCap n.toNat 0 e)) = C := ⟨_, rfl⟩
                  have hCn : n.toNat ≤ C := by rw [← hC]; exact Nat.le_add_right _ _
                  have hf1 : (Question.appendCap n.toNat 0 e).forced = false := rfl
                  have hch1 : (choose (.appendCap n.toNat 0 e)).run P w = .ok C w.drew := by
                    show (if (Question.appendCap n.toNat 0 e).forced then _ else _) = _
                    rw [hf1, if_neg (by simp), hC]; rfl
                  obtain ⟨by', hch2⟩ : ∃ b, (choose (.extern "internal/bytealg.MakeNoZero.bytes" 0)).run P w.drew = .ok b w.drew.drew := ⟨_, rfl⟩
                  have hdig : ∀ (k t : Nat) (acc : Array Value), (Extern.BytealgMakeNoZero.digits k t acc).size = acc.size + k ∧ ((∀ v ∈ acc, ∃ m, v = .int .u8 m) → ∀ v ∈ Extern.BytealgMakeNoZero.digits k t acc, ∃ m, v = Value.int .u8 m) := by
                    intro k
                    induction k with
                    | zero => intro t acc; exact ⟨by simp [Extern.BytealgMakeNoZero.digits], fun h => h⟩
                    | succ k ih =>
                      intro t acc
                      obtain ⟨i1, i2⟩ := ih (t / 256) (acc.push (.int .u8 (Int.ofNat (t % 256))))
                      refine ⟨by rw [Extern.BytealgMakeNoZero.digits, i1]; simp; omega, fun h => ?_⟩
                      rw [Extern.BytealgMakeNoZero.digits]
                      refine i2 fun v hv => ?_
                      rcases Array.mem_push.1 hv with hv | rfl
                      · exact h v hv
                      · exact ⟨_, rfl⟩
                  obtain ⟨d1, d2⟩ := hdig C by' #[]
                  have d1' : (Extern.BytealgMakeNoZero.digits C by' #[]).size = C := by simpa using d1
                  have d2' := d2 (by simp)
                  have R2 : HRel P B0 W0 ρ h w.drew.drew := R.drew.drew
                  simp only [sizeT, Option.map_eq_some_iff] at hsz
                  obtain ⟨i, hi1, hi2⟩ := hsz
                  refine ⟨_, _, Loc.le_add R2.fresh, R2.new (.row (repl [.unk] n.toNat) e 0 0 true) (.cells (Extern.BytealgMakeNoZero.digits C by' #[]) e) C
                    ⟨_, rfl, ?_, (fun h => by cases h), fun _ => ⟨i, hi1, by rw [d1', hi2, Nat.mul_one]⟩⟩, .inl ⟨.slice (some ⟨w.heap.size, 0, none⟩) n.toNat C, ?_, .slack _ _ _ _ C _ C (Loc.add_self _ _ _) (by omega) hCn⟩⟩
                  · refine .of_get (by simp [repl_length, d1']; omega) fun j e' v' he' hv' => ?_
                    have hj : j < n.toNat * 1 := by have := (List.getElem?_eq_some_iff.1 he').1; simpa [repl_length] using this
                    rw [repl_get _ _ _ (by simpa using hj)] at he'
                    have : e' = .unk := by
                      simp only [List.length_singleton, Nat.mod_one, List.getElem?_cons_zero, Option.some.injEq] at he'; exact he'.symm
                    subst this
                    have hm : v' ∈ Extern.BytealgMakeNoZero.digits C by' #[] := by
                      have := List.mem_of_getElem? hv'
                      have := List.mem_of_mem_take this
                      simpa using this
                    obtain ⟨m, rfl⟩ := d2' v' hm
                    exact .unk _ _
                  · rw [hc]
                    simp only [Sem.run_bind, hdef, ht, run_underlying hu, Result.andThen_ok, hlim, Bool.false_eq_true, if_false, hch1, run_askRoom, hch2, Sem.run_pure]
                    simp [newRow]
                · cases he
              · cases he
            · cases he
          · cases he
        · cases he
  · cases he

theorem args1 {x : EVal} {vs : Array Value} (hr : VsRel ρ [x] vs.toList) : ∃ v1, vs = #[v1] ∧ VRel ρ x v1 := by
  generalize hvs : vs.toList = L at hr
  cases hr with | cons _ v1 _ _ a1 hs => cases hs; exact ⟨v1, Array.ext' (by simpa using hvs), a1⟩

theorem args2 {x y : EVal} {vs : Array Value} (hr : VsRel ρ [x, y] vs.toList) : ∃ v1 v2, vs = #[v1, v2] ∧ VRel ρ x v1 ∧ VRel ρ y v2 := by
  generalize hvs : vs.toList = L at hr
  cases hr with | cons _ v1 _ _ a1 hs => cases hs with | cons _ v2 _ _ a2 hs => cases hs; exact ⟨v1, v2, Array.ext' (by simpa using hvs), a1, a2⟩

theorem builtin_sound (R : HRel P B0 W0 ρ h w) {b : Builtin} {ts : Array TypeId} {ty : TypeId} {cs : Array Bool} {args : List EVal} {vs : Array Value} (hr : VsRel ρ args vs.toList) {e : EVal} {h' : H}
    (he : eBuiltin P h b ts.toList args = some (e, h')) : OpOK P B0 W0 ρ h w (builtin b ts ty cs vs) (.val e h') := by
  unfold eBuiltin at he
  split at he
  · split at he
    · rename_i t t2 rest s x hts
      obtain ⟨v1, v2, rfl, r1, r2⟩ := args2 hr
      have hts' : ts = (t :: t2 :: rest).toArray := by rw [← hts]
      split at he
      · rename_i e2 h2
        exact (append_sound (ty := ty) (rest := rest) R (.inl ⟨e2, h2⟩) r1 r2 he).op (by rw [hts']; rfl)
      · rename_i h2
        exact (append_sound (ty := ty) (rest := rest) R (.inr h2) r1 r2 he).op (by rw [hts']; rfl)
      · cases he
    · cases he
  · split at he
    · rename_i t rest x hts
      obtain ⟨v1, rfl, r1⟩ := args1 hr
      have hts' : ts = (t :: rest).toArray := by rw [← hts]
      cases hl : eLen P h t x with
      | none => rw [hl] at he; cases he
      | some y =>
        rw [hl] at he
        simp only [Option.map_some, Option.some.injEq, Prod.mk.injEq] at he
        obtain ⟨rfl, rfl⟩ := he
        obtain ⟨u, h1, h2⟩ := len_sound (ty := ty) (rest := rest) R r1 hl
        exact (GoodV.same R h1 h2).op (by rw [hts']; rfl)
    · cases he
  · split at he
    · rename_i t rest x hts
      obtain ⟨v1, rfl, r1⟩ := args1 hr
      have hts' : ts = (t :: rest).toArray := by rw [← hts]
      cases hl : eCap P t x with
      | none => rw [hl] at he; cases he
      | some y =>
        rw [hl] at he
        simp only [Option.map_some, Option.some.injEq, Prod.mk.injEq] at he
        obtain ⟨rfl, rfl⟩ := he
        obtain ⟨u, h1, h2⟩ := cap_sound (ty := ty) (rest := rest) r1 hl w
        exact (GoodV.same R h1 h2).op (by rw [hts']; rfl)
    · cases he
  · split at he
    · rename_i t rest d s hts
      obtain ⟨v1, v2, rfl, r1, r2⟩ := args2 hr
      have hts' : ts = (t :: rest).toArray := by rw [← hts]
      exact (copy_sound (ty := ty) (rest := rest) R r1 r2 he).op (by rw [hts']; rfl)
    · cases he
  · split at he
    · obtain ⟨v1, v2, rfl, r1, r2⟩ := args2 hr
      cases r1; cases r2
      simp only [Option.some.injEq, Prod.mk.injEq] at he
      obtain ⟨rfl, rfl⟩ := he
      exact (GoodV.same R (s := Builtin.max_ ts ty _) (by simp [Builtin.max_, Builtin.max2]) (.int _ _)).op rfl
    · cases he
  · split at he
    · obtain ⟨v1, v2, rfl, r1, r2⟩ := args2 hr
      cases r1; cases r2
      simp only [Option.some.injEq, Prod.mk.injEq] at he
      obtain ⟨rfl, rfl⟩ := he
      exact (GoodV.same R (s := Builtin.min_ ts ty _) (by simp [Builtin.min_, Builtin.min2]) (.int _ _)).op rfl
    · cases he
  · split at he
    · obtain ⟨v1, rfl, r1⟩ := args1 hr
      cases r1
      simp only [Option.some.injEq, Prod.mk.injEq] at he
      obtain ⟨rfl, rfl⟩ := he
      exact (GoodV.same R (s := Builtin.unsafeSliceData_ ts ty _) rfl .nilp).op rfl
    · rename_i id off len c
      obtain ⟨v1, rfl, r1⟩ := args1 hr
      split at he
      · cases he
      · rename_i h0
        simp only [Option.some.injEq, Prod.mk.injEq] at he
        obtain ⟨rfl, rfl⟩ := he
        have key : ∀ (b C c' : Nat), ρ id = some (b, C) → c' ≠ 0 → v1 = .slice (some ⟨b, off, none⟩) len c' → OpOK P B0 W0 ρ h w (builtin .unsafeSliceData ts ty cs #[v1]) (.val (.ptr id off) h) := by
          intro b C c' hb hc hv
          subst hv
          exact (GoodV.same R (s := Builtin.unsafeSliceData_ ts ty _) (Lib.run_unsafeSliceData_row w ts ty _ _ _ hc) (.ptr _ _ _ _ hb)).op rfl
        cases r1 with
        | slice _ _ _ c b C hb => exact key _ _ _ hb (fun e => h0 (.inr (by rw [e]))) rfl
        | slack _ _ _ _ c b C hb hc hn => exact key _ _ _ hb (by omega) rfl
    · cases he
  · split at he
    · rename_i t t2 p n hts
      obtain ⟨v1, v2, rfl, r1, r2⟩ := args2 hr
      cases r2
      have hts' : ts = #[t, t2] := Array.ext' hts
      split at he
      · rename_i e2 hp
        exact (unsafeString_sound (it := t2) (ty := ty) R hp r1 he).op (by rw [hts']; rfl)
      · cases he
    · cases he
  · cases he

theorem call_sound (hng : NoNG P) (R : HRel P B0 W0 ρ h w) {t : T EVal} {E : Operand → Value} (hE : ERel ρ t E) {c : Call} {ty : TypeId} {out : EOut} (he : eCall P h t c.callee c.argTypes (evs t c.args.toList) = some out) :
    OpOK P B0 W0 ρ h w (do let d ← resolve E c ty; invoke d.target d.args) out := by
  unfold eCall at he
  split at he
  · cases he
  · rename_i args hargs
    have hr : VsRel ρ args (c.args.map E).toList := by rw [Array.toList_map]; exact evs_rel hE _ _ hargs
    split at he
    · rename_i b hcal
      unfold eCallB at he
      split at he
      · rename_i v h' hb
        simp only [Option.some.injEq] at he; subst he
        have hres : (do let d ← resolve E c ty; invoke d.target d.args : Sem Next) = builtin b c.argTypes ty (c.args.map fun | .const _ => true | _ => false) (c.args.map E) := by
          simp only [resolve, hcal]
          rfl
        rw [hres]
        exact builtin_sound R hr hb
      · cases he
    · rename_i x hcal
      unfold eCallV at he
      split at he
      · rename_i f cs hx
        have hv := hE _ _ hx
        generalize hEx : E x = vx at hv
        cases hv with
        | func _ _ vs hcs =>
        have hres : (do let d ← resolve E c ty; invoke d.target d.args : Sem Next) = callFunc f (c.args.map E ++ vs) := by
          simp only [resolve, hcal, hEx, Deferred.ofValue]
          simp [invoke]
        rw [hres]
        have hr2 : VsRel ρ (args ++ cs) (c.args.map E ++ vs).toList := by rw [Array.toList_append]; exact hr.append hcs
        unfold eCallF at he
        split at he
        · rename_i fn hfn
          split at he
          · rename_i hb
            exact extern_sound R hfn hb hr2 he
          · rename_i hb
            simp only [Option.some.injEq] at he; subst he
            refine ⟨rfl, _, ?_, hr2⟩
            have hb' : fn.body.isNone = false := by
              cases hq : fn.body.isNone with
              | true => exact absurd hq hb
              | false => rfl
            simp only [callFunc, Sem.run_bind, run_program, Result.andThen_ok, hfn, hng _ _ hfn, Bool.false_eq_true, if_false, hb', Sem.run_pure]
        · cases he
      · rename_i id hx
        have hv := hE _ _ hx
        generalize hEx : E x = vx at hv
        cases hv with
        | yieldf _ b C hb =>
        simp only [Option.some.injEq] at he; subst he
        refine ⟨rfl, b, C, _, hb, ?_, hr⟩
        simp [resolve, hcal, hEx, Deferred.ofValue, invoke]
      · cases he
    · cases he

theorem mk_op (R : HRel P B0 W0 ρ h w) {x : Option EVal} {out : EOut} (hm : mk x h = some out) {s : Sem Value} {s' : Sem Next} (hs : ∀ e, x = some e → ∃ u, s.run P w = .ok u w ∧ VRel ρ e u) (hs' : s' = (do pure (.value (← s)))) :
    OpOK P B0 W0 ρ h w s' out := by
  obtain ⟨e, rfl, he⟩ := mk_val hm
  obtain ⟨u, h1, h2⟩ := hs e he
  exact (GoodV.same R h1 h2).op hs'

theorem op_sound (hng : NoNG P) (G : GRel B0 W0.w g) (R : HRel P B0 W0 ρ h w) {t : T EVal} {E : Operand → Value} (hE : ERel ρ t E) {o : Oper} {out : EOut} (he : eOp P g h t o = some out) :
    OpOK P B0 W0 ρ h w (execOp E o) out := by
  unfold eOp at he
  unfold execOp
  split at he
  · rename_i x hop
    rw [hop]
    exact mk_op R he (s := pure (E x)) (fun e hx => ⟨_, rfl, hE _ _ hx⟩) rfl
  · rename_i x hop
    rw [hop]
    exact mk_op R he (s := pure (E x)) (fun e hx => ⟨_, rfl, hE _ _ hx⟩) rfl
  · rename_i c a b hop
    rw [hop]
    unfold ePick at he
    split at he
    · rename_i hc
      have hv := hE _ _ hc
      generalize hEc : E c = vc at hv
      cases hv
      refine mk_op R he (s := pure (E a)) (fun e hx => ⟨_, rfl, hE _ _ hx⟩) ?_
      simp only [hEc]; rfl
    · rename_i hc
      have hv := hE _ _ hc
      generalize hEc : E c = vc at hv
      cases hv
      refine mk_op R he (s := pure (E b)) (fun e hx => ⟨_, rfl, hE _ _ hx⟩) ?_
      simp only [hEc]; rfl
    · cases he
  · rename_i e hop
    rw [hop]
    cases out with
    | val v h' => exact (alloc_sound R he).op rfl
    | enter => unfold eAlloc at he; split at he <;> simp at he
    | yield => unfold eAlloc at he; split at he <;> simp at he
  · rename_i e x hop
    rw [hop]
    cases hx : ev t x with
    | none => rw [hx] at he; cases he
    | some y =>
      rw [hx] at he
      cases out with
      | val v h' => exact (box_sound R (hE _ _ hx) he).op rfl
      | enter => simp [eBox] at he
      | yield => simp [eBox] at he
  · rename_i ty parts hop
    rw [hop]
    cases hx : evParts t parts.toList with
    | none => rw [hx] at he; unfold eBuild at he; split at he <;> simp_all
    | some ps =>
      rw [hx] at he
      have hp := evParts_rel hE _ _ hx
      rw [← Array.toList_map] at hp
      cases out with
      | val v h' => exact (build_sound R hp he).op rfl
      | enter => unfold eBuild eBuildS eBuildA at he; (repeat' split at he) <;> simp at he
      | yield => unfold eBuild eBuildS eBuildA at he; (repeat' split at he) <;> simp at he
  · rename_i ty len parts hop
    rw [hop]
    cases hx : evParts t parts.toList with
    | none => rw [hx] at he; unfold eBuildSlice at he; split at he <;> simp_all
    | some ps =>
      rw [hx] at he
      have hp := evParts_rel hE _ _ hx
      rw [← Array.toList_map] at hp
      cases out with
      | val v h' => exact (buildSlice_sound R hp he).op rfl
      | enter => unfold eBuildSlice eBuildSlice' at he; (repeat' split at he) <;> simp at he
      | yield => unfold eBuildSlice eBuildSlice' at he; (repeat' split at he) <;> simp at he
  · rename_i ty a hop
    rw [hop]
    cases hx : ev t a with
    | none => rw [hx] at he; cases he
    | some x =>
      rw [hx] at he
      exact mk_op R he (fun e he => load_sound R G (hE _ _ hx) he) rfl
  · rename_i ty a x hop
    rw [hop]
    cases hx : ev t a with
    | none => rw [hx] at he; cases he
    | some p =>
      cases hy : ev t x with
      | none => rw [hx, hy] at he; cases he
      | some v =>
        rw [hx, hy] at he
        simp only [eStoreOp] at he
        split at he
        · rename_i h' hst
          simp only [Option.some.injEq] at he; subst he
          obtain ⟨w', h1, h2⟩ := store_sound R (hE _ _ hx) (hE _ _ hy) hst
          exact ⟨w', ρ, Loc.le_refl _, h2, .inr ⟨by simp [h1], rfl⟩⟩
        · cases he
  · rename_i x hop
    rw [hop]
    unfold eNil at he
    split at he
    · rename_i i o' hx
      have hv := hE _ _ hx
      generalize hEc : E x = vc at hv
      cases hv
      rename_i b C hb
      simp only [Option.some.injEq] at he; subst he
      exact ⟨w, ρ, Loc.le_refl _, R, .inl ⟨_, by simp only [hEc]; rfl, .ptr _ _ _ _ hb⟩⟩
    · rename_i i o' hx
      have hv := hE _ _ hx
      generalize hEc : E x = vc at hv
      cases hv
      simp only [Option.some.injEq] at he; subst he
      exact ⟨w, ρ, Loc.le_refl _, R, .inl ⟨_, by simp only [hEc]; rfl, .gptr _ _⟩⟩
    · rename_i cs' o' hx
      have hv := hE _ _ hx
      generalize hEc : E x = vc at hv
      cases hv with
      | lptr _ _ us b base pre rest hf hs hw ho =>
        simp only [Option.some.injEq] at he; subst he
        exact ⟨w, ρ, Loc.le_refl _, R, .inl ⟨_, by simp only [hEc]; rfl, .lptr _ _ us b base pre rest hf hs hw ho⟩⟩
    · rename_i f c hx
      have hv := hE _ _ hx
      generalize hEc : E x = vc at hv
      cases hv
      rename_i vs hvs
      simp only [Option.some.injEq] at he; subst he
      exact ⟨w, ρ, Loc.le_refl _, R, .inl ⟨_, by simp only [hEc]; rfl, .func _ _ _ hvs⟩⟩
    · cases he
  · rename_i op ty x y yt hop
    rw [hop]
    cases hx : ev t x with
    | none => rw [hx] at he; cases he
    | some a =>
      cases hy : ev t y with
      | none => rw [hx, hy] at he; cases he
      | some b =>
        rw [hx, hy] at he
        exact mk_op R he (fun e he => bin_sound (hE _ _ hx) (hE _ _ hy) he w) rfl
  · rename_i op ty x hop
    rw [hop]
    cases hx : ev t x with
    | none => rw [hx] at he; cases he
    | some a =>
      rw [hx] at he
      exact mk_op R he (fun e he => un_sound (hE _ _ hx) he w) rfl
  · rename_i s d x hop
    rw [hop]
    cases hx : ev t x with
    | none => rw [hx] at he; cases he
    | some a =>
      rw [hx] at he
      exact mk_op R he (fun e he => convert_sound R (hE _ _ hx) he) rfl
  · rename_i f first captured hop
    rw [hop]
    cases hx : evs t captured.toList with
    | none => rw [hx] at he; cases he
    | some cs =>
      rw [hx] at he
      simp only [eMakeFunc] at he
      split at he
      · rename_i h0
        simp only [Option.some.injEq] at he; subst he
        obtain rfl : first = #[] := Array.eq_empty_of_size_eq_zero h0
        refine ⟨w, ρ, Loc.le_refl _, R, .inl ⟨.func (.func f) #[] (captured.map E), by simp [Instr.makeFunc], .func _ _ _ ?_⟩⟩
        rw [Array.toList_map]; exact evs_rel hE _ _ hx
      · cases he
  · rename_i ty hop
    rw [hop]
    simp only [Option.some.injEq] at he; subst he
    exact (R.newObj (s := Instr.makeMap ty none) (o := .map [] 0) (obj := .map #[] 0) (v := .map (some w.heap.size)) ⟨#[], rfl, .nil⟩ (by simp [Instr.makeMap]) (.map _ _ _ (Loc.add_self _ _ _))).op rfl
  · rename_i ty l c hop
    rw [hop]
    unfold eMakeSlice at he
    split at he
    · rename_i k a k' b hl hc
      have hv1 := hE _ _ hl
      have hv2 := hE _ _ hc
      cases out with
      | val v h' =>
        generalize hE1 : E l = v1 at hv1
        generalize hE2 : E c = v2 at hv2
        cases hv1; cases hv2
        have he' : eMakeSlice P h ty (some (.int k a)) (some (.int k' b)) = some (.val v h') := he
        exact (makeSlice_sound R he').op (by simp only [hE1, hE2])
      | enter => unfold eMakeSlice' at he; (repeat' split at he) <;> simp at he
      | yield => unfold eMakeSlice' at he; (repeat' split at he) <;> simp at he
    · cases he
  · rename_i ty x lo hi hop
    rw [hop]
    unfold eSliceOp at he
    split at he
    · rename_i a l r hx hl hr
      exact mk_op R he (fun e he => slice_sound (hE _ _ hx) (evOpt_rel hE hl) (evOpt_rel hE hr) he w) rfl
    · cases he
  · rename_i s x f hop
    rw [hop]
    cases hx : ev t x with
    | none => rw [hx] at he; cases he
    | some a =>
      rw [hx] at he
      exact mk_op R he (fun e he => fieldAddr_sound (hE _ _ hx) he w) rfl
  · rename_i s x f hop
    rw [hop]
    cases hx : ev t x with
    | none => rw [hx] at he; cases he
    | some a =>
      rw [hx] at he
      exact mk_op R he (fun e he => field_sound (hE _ _ hx) he w) rfl
  · rename_i ty x i hop
    rw [hop]
    cases hx : ev t x with
    | none => rw [hx] at he; cases he
    | some a =>
      cases hy : ev t i with
      | none => rw [hx, hy] at he; cases he
      | some b =>
        rw [hx, hy] at he
        exact mk_op R he (fun e he => indexAddr_sound (hE _ _ hx) (hE _ _ hy) he w) rfl
  · rename_i ty x i hop
    rw [hop]
    cases hx : ev t x with
    | none => rw [hx] at he; cases he
    | some a =>
      cases hy : ev t i with
      | none => rw [hx, hy] at he; cases he
      | some b =>
        rw [hx, hy] at he
        exact mk_op R he (fun e he => index_sound (hE _ _ hx) (hE _ _ hy) he w) rfl
  · rename_i ty x i ok hop
    rw [hop]
    cases hx : ev t x with
    | none => rw [hx] at he; cases he
    | some a =>
      cases hy : ev t i with
      | none => rw [hx, hy] at he; cases he
      | some b =>
        rw [hx, hy] at he
        exact mk_op R he (fun e he => lookup_sound R (hE _ _ hx) (hE _ _ hy) he) rfl
  · rename_i ty m k x hop
    rw [hop]
    unfold eUpdateOp at he
    split at he
    · rename_i a b c h1 h2 h3
      split at he
      · rename_i h' hst
        simp only [Option.some.injEq] at he; subst he
        obtain ⟨w', g1, g2⟩ := update_sound R (hE _ _ h1) (hE _ _ h2) (hE _ _ h3) hst
        exact ⟨w', ρ, Loc.le_refl _, g2, .inr ⟨by simp [g1], rfl⟩⟩
      · cases he
    · cases he
  · rename_i ty x hop
    rw [hop]
    cases hx : ev t x with
    | none => rw [hx] at he; cases he
    | some a =>
      rw [hx] at he
      cases out with
      | val v h' => exact (range_sound R (hE _ _ hx) he).op rfl
      | enter => unfold eRange eRangeMap at he; (repeat' split at he) <;> simp at he
      | yield => unfold eRange eRangeMap at he; (repeat' split at he) <;> simp at he
  · rename_i x hop
    rw [hop]
    cases hx : ev t x with
    | none => rw [hx] at he; cases he
    | some a =>
      rw [hx] at he
      cases out with
      | val v h' => exact (entry_sound R (hE _ _ hx) he).op rfl
      | enter => unfold eEntry eEntry' at he; (repeat' split at he) <;> simp at he
      | yield => unfold eEntry eEntry' at he; (repeat' split at he) <;> simp at he
  · rename_i it hop
    rw [hop]
    cases hx : ev t it with
    | none => rw [hx] at he; cases he
    | some a =>
      rw [hx] at he
      cases out with
      | val v h' => exact (nextS_sound R o.type (hE _ _ hx) he).op rfl
      | enter => unfold eNextS eNextS' at he; (repeat' split at he) <;> simp at he
      | yield => unfold eNextS eNextS' at he; (repeat' split at he) <;> simp at he
  · rename_i x i hop
    rw [hop]
    cases hx : ev t x with
    | none => rw [hx] at he; cases he
    | some a =>
      rw [hx] at he
      cases out with
      | val v h' =>
        obtain ⟨hh, hu⟩ := extract_sound (P := P) (hE _ _ hx) he w
        subst hh
        obtain ⟨u, h1, h2⟩ := hu
        exact (GoodV.same R h1 h2).op rfl
      | enter => unfold eExtract mk at he; split at he <;> simp at he
      | yield => unfold eExtract mk at he; split at he <;> simp at he
  · rename_i c hop
    rw [hop]
    exact call_sound hng R hE he
  · cases he
end
end Go.Ev
