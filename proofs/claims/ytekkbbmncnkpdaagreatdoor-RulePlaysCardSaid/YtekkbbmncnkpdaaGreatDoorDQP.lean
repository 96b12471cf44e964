import Derived.Test.YtekkbbmncnkpdaaGreatDoorDQO
set_option linter.unusedSimpArgs false
set_option linter.unusedVariables false
namespace Go.Ev
open Go.RowKit Go.Proofs
set_option maxRecDepth 100000
set_option maxHeartbeats 8000000
set_option linter.unusedSimpArgs false
noncomputable section
def mS (s : St) (t : Pl) (k : Int) : Int := if hX s t ≠ 0 then hX s t else if k ≠ 0 then 18 else if awX s t = true then 4 else 0
def awV (s : St) (t : Pl) (k : Int) : Int := if hX s t ≠ 0 then 0 else k
theorem lp88 (l : List Mv) (tn : Tn) (hl : l.length ≤ 4) (hs : tn.s_half = 0 ∨ tn.s_half = 1) (hv : ∀ m ∈ l, mvE m = 0) : ∀ (j k n : Nat) (x : List Int), l.length = k + j → x.length ≤ k → bqQ l ((tn, ()), ()) (n + j + 1) (.k6 (k : Int) x) = some (x ++ (l.drop k).map (ax9 tn))
 | 0, k, n, x, hk, hx => by
   have c1 : decide ((k : Int) < ((l.length : Nat) : Int)) = false := by simp; omega
   rw [List.drop_eq_nil_of_le (by omega)]
   simp only [awK, akp, TS, w6, c1, cond_false, List.map_nil, List.append_nil]
 | j + 1, k, n, x, hlk, hx => by
   have hk : k < l.length := by omega
   obtain ⟨m, hm⟩ : ∃ m, l[k]? = some m := ⟨l[k], List.getElem?_eq_getElem hk⟩
   have hr := fK (hv m (List.mem_of_getElem? hm))
   have ih := lp88 l tn hl hs hv j (k + 1) n (x ++ [ax9 tn m]) (by omega) (by simp; omega)
   have q : Sz90 (m, (tn, ()), ()) = some (ax9 tn m) := by
    show Ez90 m (tn, ()) = _
    unfold Ez90 Tz90
    simp only [TS, w6]
    rw [s91 hs (by omega)]; rfl
   have c1 : decide ((k : Int) < ((l.length : Nat) : Int)) = true := by simp; omega
   have c2 : inR (k : Int) l.length = true := fX (by omega) (by omega)
   have c3 : Nat.ble (8 * (x.length + 1)) 1000000 = true := by rw [Nat.ble_eq]; omega
   have w4 : IntKind.i64.wrap ((k : Int) + 1) = ((k + 1 : Nat) : Int) := by rw [cY] <;> omega
   rw [bK hm, show n + (j + 1) + 1 = (n + j + 1) + 1 from rfl]
   generalize n + j + 1 = N at ih ⊢
   simp only [awK, akp, TS, w6, List.length_map, c1, c2, c3, cond_true, Int.toNat_natCast, aO hm, w4, ih, q, obind_some, List.map_cons]
   simp
theorem s88 {l : List Mv} {tn : Tn} (hl : l.length ≤ 4) (hs : tn.s_half = 0 ∨ tn.s_half = 1) (hv : ∀ m ∈ l, mvE m = 0) : Sz88 (l, ((tn, ()), ()), ()) = some (l.map (ax9 tn)) := by
 have e := lp88 l tn hl hs hv l.length 0 63 [] (by omega) (by simp)
 rw [← iU, List.drop_zero, List.nil_append] at e
 show Ez88 (l.length + 64) l ((tn, ()), ()) = _
 unfold Ez88 Tz88
 simp only [TS, w6]
 exact e
section
variable {s : St} {t : Pl} {k : Int}
theorem pW {o : Int} {b : Bool} {l : List Mv} : (fJ o b l).length ≤ l.length ∧ ∀ m ∈ fJ o b l, m ∈ l := by
 unfold fJ
 split
 · simp
 · exact ⟨List.length_filter_le _ _, fun m hm => (List.mem_filter.1 hm).1⟩
theorem acc_cases (s : St) (t : Pl) (k : Int) : (mS s t k ≠ 0 ∧ accR s t k = (none, awV s t k, mS s t k, ()) ) ∨ (mS s t k = 0 ∧ hX s t = 0 ∧ k = 0 ∧ accR s t k = (some (dN s t), 0, 0, ())) := by
 unfold accR mS awV
 by_cases h1 : hX s t = 0
 · by_cases h2 : k = 0
   · cases h3 : awX s t with
     | true => left; simp [h1, h2]
     | false => right; simp [h1, h2]
   · left; simp [h1, h2]
 · left; simp [h1]
theorem s32 (ok : okP t) (hk : hX s t = 0 → sV (dN s t, ()) = some k) (hg : k = 0 → hX s t = 0 → mO s t) : Sz32 (s, t, ()) = some (if mS s t k ≠ 0 then (zSt, awV s t k, mS s t k, ()) else (nxt (mvd s t), 0, 0, ())) := by
 show Ez32 s t = _
 unfold Ez32 Tz32
 simp only [TS, w6]
 rw [s85 ok hk, obind_some]
 rcases acc_cases s t k with ⟨h1, h2⟩ | ⟨h1, h2, h3, h4⟩
 · rw [h2, if_pos h1]
   have c : (!(mS s t k == 0)) = true := by simpa using h1
   show cond (!(mS s t k == 0)) _ _ = _
   rw [c]; rfl
 · rw [h4, if_neg (by simpa using h1)]
   obtain ⟨e1, e2, e3⟩ := eW h2
   show (aJ (Sz86 (dN s t, ())) fun r8 => (some (r8, (0 : Int), (0 : Int), ()))) = _
   rw [s86 (playE_zero e2).2.2 (iT e1).half (hg h3 h2)]; rfl
theorem s34 (ok : okP t) (hk : hX s t = 0 → sV (dN s t, ()) = some k) : Sz34 (s, t, ()) = some (if mS s t k ≠ 0 then ([], mS s t k, ()) else ((fJ (outsI s t) t.l t.m).map (bq2 s), 0, ())) := by
 show Ez34 ((t.m.length + 63) + 1) s t = _
 unfold Ez34 Tz34
 simp only [TS, w6]
 rw [s85 ok hk, obind_some]
 rcases acc_cases s t k with ⟨h1, h2⟩ | ⟨h1, h2, h3, h4⟩
 · rw [h2, if_pos h1]
   have c : (!(mS s t k == 0)) = true := by simpa using h1
   show cond (!(mS s t k == 0)) _ _ = _
   rw [c]; rfl
 · rw [h4, if_neg (by simpa using h1)]
   obtain ⟨e1, e2, e3⟩ := eW h2
   have hm := (playE_zero e2).2.2
   have e89 : z5 (dN s t, ()) = some (fJ (outsI s t) t.l t.m) := s89 (s := dN s t) hm
   have e88 : Sz88 (fJ (outsI s t) t.l t.m, ((dN s t, ()), ()), ()) = some ((fJ (outsI s t) t.l t.m).map (bq2 s)) := s88 (Nat.le_trans pW.1 (bE hm)) (iT e1).half fun m h => oQ hm m (pW.2 m h)
   show (aJ (z5 (dN s t, ())) fun r38 => (aJ (Sz88 (r38, ((dN s t, ()), ()), ())) fun r39 => (some (r39, (0 : Int), ())))) = _
   rw [e89, obind_some, e88]; rfl
theorem s36 (ok : okP t) (hk : hX s t = 0 → sV (dN s t, ()) = some k) (hg : k = 0 → hX s t = 0 → mO s t) : Sz36 (s, t, ()) = some (if mS s t k ≠ 0 then (0, mS s t k, ()) else (iZ (mvd s t), 0, ())) := by
 show Ez36 s t = _
 unfold Ez36 Tz36
 simp only [TS, w6]
 rw [s85 ok hk, obind_some]
 rcases acc_cases s t k with ⟨h1, h2⟩ | ⟨h1, h2, h3, h4⟩
 · rw [h2, if_pos h1]
   have c : (!(mS s t k == 0)) = true := by simpa using h1
   show cond (!(mS s t k == 0)) _ _ = _
   rw [c]; rfl
 · rw [h4, if_neg (by simpa using h1)]
   obtain ⟨e1, e2, e3⟩ := eW h2
   show (aJ (bqx (dN s t, ())) fun r8 => (some (r8, (0 : Int), ()))) = _
   rw [s92 (playE_zero e2).2.2 (iT e1).half e3 (hg h3 h2)]; rfl
theorem s37 (ok : okP t) (hk : hX s t = 0 → Sz94 (s, t, ()) = some k) (hg : k = 0 → hX s t = 0 → mO s t) : Sz37 (s, t, ()) = some (awV s t k, mS s t k, ()) := by
 have e17 : S17 (s, ()) = some (stE s) := rfl
 have e58 : S58 (t, ()) = some (playE t.p t.e t.m) := by
  unfold S58; rw [if_pos ok.1]
 show Ez37 s t = _
 unfold Ez37 Tz37
 simp only [TS, w6]
 rw [e17, obind_some, e58, obind_some, s65, obind_some]
 by_cases h1 : stE s = 0
 · by_cases h2 : playE t.p t.e t.m = 0
   · have c : (!((if stE s ≠ 0 then stE s else playE t.p t.e t.m) == (0 : Int))) = false := by simp [h1, h2]
     rw [c, cond_false]
     cases ho : s.over with
     | true =>
       have e38 : Sz38 (s, t, ()) = some (zSt, 0, 20, ()) := by
        show Ez38 s t = _
        unfold Ez38 Tz38
        simp only [TS, w6]
        rw [ho]; rfl
       have ec : hX s t = 20 := by simp [hX, h1, h2, ho]
       rw [e38]
       simp [awV, mS, ec, obind_some]
     | false =>
       have ec : hX s t = 0 := by simp [hX, h1, h2, ho]
       rw [s38 (playE_zero h2).2.2 (iT h1).half ho (c_ok h1) ok.2.2.2 (hk ec) (fun h => hg h ec), obind_some]
       unfold awV mS
       simp only [ec]
       by_cases h3 : k = 0
       · cases h4 : awX s t <;> simp [h3]
       · simp [h3]
   · have c : (!((if stE s ≠ 0 then stE s else playE t.p t.e t.m) == (0 : Int))) = true := by simp [h1, h2]
     have ec : hX s t = playE t.p t.e t.m := by simp [hX, h1, h2]
     rw [c, cond_true]
     simp [awV, mS, ec, h1, h2]
 · have c : (!((if stE s ≠ 0 then stE s else playE t.p t.e t.m) == (0 : Int))) = true := by simp [h1]
   have ec : hX s t = stE s := by simp [hX, h1]
   rw [c, cond_true]
   simp [awV, mS, ec, h1]
end
end
end Go.Ev
