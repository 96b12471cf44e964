import Derived.Test.YtdhnjbgggkdiiaaGreatDoorEvC
import Derived.Test.YtdhnjbgggkdiiaaGreatDoorPaV
set_option linter.unusedSimpArgs false
set_option linter.unusedVariables false
namespace Go.Ev
open Go.RowKit Go.Proofs
set_option linter.defProp false
def TF39PaAll := And.intro (And.intro (And.intro (And.intro (And.intro (And.intro (@Tryz.underlying3) (@sz3)) (And.intro (@cE) (@I3s))) (And.intro (And.intro (@I3b) (@cA)) (And.intro (@cF) (@Tryz.underlying4)))) (And.intro (And.intro (And.intro (@sz4) (@eA)) (And.intro (@I4s) (@I4b))) (And.intro (And.intro (@dW) (@eB)) (And.intro (@Tryz.underlying9) (And.intro (@sz9) (@cB)))))) (And.intro (And.intro (And.intro (And.intro (@I9s) (@I9b)) (And.intro (@bY) (@cC))) (And.intro (And.intro (@Tryz.underlying22) (@sz22)) (And.intro (@info22) (@I22s)))) (And.intro (And.intro (And.intro (@I22b) (@zero22)) (And.intro (@grow22) (@Tryz.underlying24))) (And.intro (And.intro (@sz24) (@fok24)) (And.intro (@info24) (And.intro (@I24s) (@I24b))))))) (And.intro (And.intro (And.intro (And.intro (And.intro (@zero24) (@grow24)) (And.intro (@Tryz.underlying25) (@eO))) (And.intro (And.intro (@dE) (@eQ)) (And.intro (@eR) (@dC)))) (And.intro (And.intro (And.intro (@dF) (@Tryz.underlying27)) (And.intro (@eS) (@eH))) (And.intro (And.intro (@dL) (@eU)) (And.intro (@eV) (And.intro (@dH) (@dM)))))) (And.intro (And.intro (And.intro (And.intro (@Tryz.underlying30) (@sz30)) (And.intro (@info30) (@I30s))) (And.intro (And.intro (@I30b) (@zero30)) (And.intro (@grow30) (@Tryz.underlying54)))) (And.intro (And.intro (And.intro (@sz54) (@info54)) (And.intro (@I54s) (@I54b))) (And.intro (And.intro (@zero54) (@grow54)) (And.intro (@call109) (And.intro (@call110) (@Tryz.results39)))))))
set_option maxRecDepth 20000
set_option maxHeartbeats 8000000

/-! the program's reading of a text -/
section
variable {P : Program} {g : G} {K : bW}
theorem roundRet_of {lp : EObj} {id n d : Nat} {a b : Code} {k : EVal → H → Prop} {f : EFr} {h : H} {t : T EVal} {ps : List Tmp} (hlp : lp = .loop .ready none n t ps a b d) (hg : h.get id = some (cY .busy none lp))
    (hk : k (.bool false) (h.put id (cY .done (some .ret) lp))) : roundEnd id k .ret f h := by
  subst hlp
  unfold roundEnd
  rw [hg]; exact hk
theorem rangeRet_of {lp : EObj} {id n d : Nat} {a b : Code} {v : EVal} {f1 : EFr} {Q : dG} {h : H} {t : T EVal} {ps : List Tmp} (hlp : lp = .loop .ready none n t ps a b d) (hg : h.get id = some (cY .done (some .ret) lp))
    (hk : Q .ret f1 (h.put id (cY .exhausted (some .ret) lp))) : rangeEnd id f1 Q v h := by
  subst hlp
  unfold rangeEnd
  rw [hg]; exact ⟨by simp [cY], hk⟩
end
theorem bytesB_drop {l : List Nat} {k : Nat} (h : aZ l = true) : aZ (l.drop k) = true := by
  simp only [aZ, List.all_eq_true] at h ⊢
  exact fun x hx => h x (List.mem_of_mem_drop hx)
structure AMem (lp : EObj) (acc : List Pl) (v : EVal) (N : Nat) (l : List (Nat × Option EObj)) : Prop where
  hN : N ≤ 7 + 2 * acc.length
  hN2 : 7 ≤ N
  pl : PL 7 v acc N l
  l6 : aP l 6 = some lp
  l5 : aP l 5 = some (.deferred false)
  l3 : aP l 3 = some (.row [v] 54 0 0 false)
  l2 : aP l 2 = some (.row [.int .i64 0] 30 0 0 false)
  l1 : aP l 1 = some (.row [.int .i64 0] 3 0 0 false)
  l0 : aP l 0 = some (.row [.nilslice] 54 0 0 false)
structure AInv (lp : EObj) (S : List Nat) (i : Nat) (T : List Nat) (acc : List Pl) (v : EVal) (N : Nat) (l : List (Nat × Option EObj)) : Prop where
  rd : paT S = paG i acc (bI 10 T)
  byt : aZ T = true
  len : acc.length = i
  ok : ∀ q ∈ acc, eZ q
  hi : i ≤ 256
  mem : AMem lp acc v N l
  l4 : aP l 4 = some (.row [.str T] 9 0 0 false)
theorem AMem.box {lp : EObj} {acc : List Pl} {v : EVal} {N : Nat} {l : List (Nat × Option EObj)} {o : Option EObj} (h : AMem lp acc v N l) : AMem lp acc v N ((4, o) :: l) := by
  obtain ⟨a, b, c, l6, l5, l3, l2, l1, l0⟩ := h
  refine ⟨a, b, PL_cons (by omega) c, ?_, ?_, ?_, ?_, ?_, ?_⟩ <;> simp [aP, *]
def stopL (lp : EObj) (a : Nat) (e : Int) : List (Nat × Option EObj) := [(6, some (cY .done (some .ret) lp)), (0, some (.row [.lsl []] 54 0 0 false)), (1, some (.row [.int .i64 (a : Nat)] 3 0 0 false)), (2, some (.row [.int .i64 e] 30 0 0 false)), (5, some (.deferred false)), (6, some (cY .busy none lp))]
theorem PL_new2 {lo : Nat} {v : EVal} {ps : List Pl} {N : Nat} {l : List (Nat × Option EObj)} {x y : Option EObj} (h : PL lo v ps N l) : PL lo v ps (N + 1) ((N, x) :: (N, y) :: l) := by
  rcases h with h | ⟨id, h1, h2, h3, h4⟩
  · exact .inl h
  · exact .inr ⟨id, h1, by omega, h3, by rw [aP.eq_2, if_neg (by omega), aP.eq_2, if_neg (by omega)]; exact h4⟩
def F39 : List EVal → Option EVal
  | [.str s] => if aZ s = true ∧ s.length ≤ 5000 then some (paE s) else none
  | _ => none
theorem e39 {s : List Nat} (h : aZ s = true) (hl : s.length ≤ 5000) : F39 [.str s] = some (paE s) := by simp only [F39]; rw [if_pos ⟨h, hl⟩]
theorem fn39 : FnT 39 F39 := by
  refine Fn.intro mixed aV Tryz.func39 rfl [(145, F145), (110, F110)] (by simp only [List.forall_mem_cons]; exact ⟨fn145, fn110, fun _ h => by cases h⟩) ?_
  intro args v hF
  unfold F39 at hF
  split at hF
  rotate_left
  · cases hF
  intro Q hV
  have hQ := bM.of hV
  rename_i s
  split at hF
  rotate_left
  · cases hF
  rename_i hc
  obtain ⟨hby, hlen⟩ := hc
  cases hF
  refine Top.view (aT.mode (n := 0) (m := 0) (l := []) (k := []) 128 (by omega)) ?_
  refine Top.view (aT.start (n := 32) rfl (by simp)) (aR aV _ _ _ _ ?_)
  have q1 : decide ((1000000 : Int) < (s.length : Int)) = false := by simp; omega
  ((try simp only [aO, SS, TF39PaAll, aM, setRange, aN, aC, aB, aF, aE, aD, aA, Nat.reduceLT, Nat.reduceEqDiff, Nat.reduceAdd, Nat.reduceMul, Nat.reduceSub, Nat.reduceLeDiff, Nat.reduceBEq, reduceCtorEq, q1, ↓aS]); (repeat' ((first | apply aJ | apply aI | apply aL | apply aK | apply aH | apply aG) <;> intro h <;> simp only [h, SS, TF39PaAll, aM, setRange, aN, aC, aB, aF, aE, aD, aA, Nat.reduceLT, Nat.reduceEqDiff, Nat.reduceAdd, Nat.reduceMul, Nat.reduceSub, Nat.reduceLeDiff, Nat.reduceBEq, reduceCtorEq, q1, ↓aS])))
  refine ct109 (by omega) ?_
  ((try simp only [aO, SS, TF39PaAll, aM, setRange, aN, aC, aB, aF, aE, aD, aA, Nat.reduceLT, Nat.reduceEqDiff, Nat.reduceAdd, Nat.reduceMul, Nat.reduceSub, Nat.reduceLeDiff, Nat.reduceBEq, reduceCtorEq]); (repeat' ((first | apply aJ | apply aI | apply aL | apply aK | apply aH | apply aG) <;> intro h <;> simp only [h, SS, TF39PaAll, aM, setRange, aN, aC, aB, aF, aE, aD, aA, Nat.reduceLT, Nat.reduceEqDiff, Nat.reduceAdd, Nat.reduceMul, Nat.reduceSub, Nat.reduceLeDiff, Nat.reduceBEq, reduceCtorEq])))
  refine wp_of_range (Top.rangeFunc (kf := 144) (caps := [.ptr 4 0]) aV (by simp only [ev_tmp, T.get_ofL, look, Nat.reduceLT, Nat.reduceEqDiff, if_true, if_false]) (by kernel_rfl) ?_)
  simp only [mkH_n, mkH_new, Nat.reduceAdd]
  refine bZ.capture fun lp hlp hb hx0 => ?_
  have bad : ∀ (N : Nat) (L : List (Nat × Option EObj)) (acc : List Pl) (v : EVal) (Ln : List Nat) (G : Pl) (z : Int) (k : EVal → H → Prop), AMem lp acc v N L → acc.length ≤ 256 → F110 [.str Ln, .int .i64 (acc.length : Nat)] = some (.tup [plE G, .int .i64 z]) → (z == 0) = false → paT s = ([], acc.length, z) →
      (∀ N', k (.bool false) (mkH N' (stopL lp acc.length z) 128 [])) → RoundT Tryz.prog gT (dZ KP) 6 [.str Ln] (mkH N L 128 []) k := by
    intro N L acc v Ln G z k hM h256 h110 hz0 hpt hk
    obtain ⟨hN, hN2, hpl, l6, l5, l3, l2, l1, l0⟩ := hM
    obtain ⟨o1, o2, o3, hln⟩ := PL_one hpl
    have hN0 : N < 16000 := by omega
    have n3 : (N = 3) = False := by simp only [eq_iff_iff, iff_false]; omega
    have n2 : (N = 2) = False := by simp only [eq_iff_iff, iff_false]; omega
    have n1 : (N = 1) = False := by simp only [eq_iff_iff, iff_false]; omega
    have n0 : (N = 0) = False := by simp only [eq_iff_iff, iff_false]; omega
    have n6 : (N = 6) = False := by simp only [eq_iff_iff, iff_false]; omega
    unfold plE at h110
    refine RoundT.intro (by rw [cT (by omega), l6, hlp]) (setParams_one (by omega)) ?_
    simp only [mkD_eq, mkH_n]
    refine aR aV _ _ _ _ ?_
    ((try simp only [aO, SS, TF39PaAll, aM, setRange, aN, aC, aB, aF, aE, aD, aA, Nat.reduceLT, Nat.reduceEqDiff, Nat.reduceAdd, Nat.reduceMul, Nat.reduceSub, Nat.reduceLeDiff, Nat.reduceBEq, reduceCtorEq]); (repeat' ((first | apply aJ | apply aI | apply aL | apply aK | apply aH | apply aG) <;> intro h <;> simp only [h, SS, TF39PaAll, aM, setRange, aN, aC, aB, aF, aE, aD, aA, Nat.reduceLT, Nat.reduceEqDiff, Nat.reduceAdd, Nat.reduceMul, Nat.reduceSub, Nat.reduceLeDiff, Nat.reduceBEq, reduceCtorEq])))
    refine roundMid_of (by rw [cT (by omega), l6, hlp]) ?_
    simp only [mkH_put, ← hb]
    refine Top.unview (aR aV _ _ _ _ ?_)
    ((try simp only [aO, SS, TF39PaAll, aM, setRange, aN, aC, aB, aF, aE, aD, aA, Nat.reduceLT, Nat.reduceEqDiff, Nat.reduceAdd, Nat.reduceMul, Nat.reduceSub, Nat.reduceLeDiff, Nat.reduceBEq, reduceCtorEq, l3, hln, h110, hN0, hz0, o1, o2, o3, n3, n0, n1, n2, n6]); (repeat' ((first | apply aJ | apply aI | apply aL | apply aK | apply aH | apply aG) <;> intro h <;> simp only [h, SS, TF39PaAll, aM, setRange, aN, aC, aB, aF, aE, aD, aA, Nat.reduceLT, Nat.reduceEqDiff, Nat.reduceAdd, Nat.reduceMul, Nat.reduceSub, Nat.reduceLeDiff, Nat.reduceBEq, reduceCtorEq, l3, hln, h110, hN0, hz0, o1, o2, o3, n3, n0, n1, n2, n6])))
    refine bV (Top.drawS mixed aV (by kernel_rfl) ?_)
    ((try simp only [aO, SS, TF39PaAll, aM, setRange, aN, aC, aB, aF, aE, aD, aA, Nat.reduceLT, Nat.reduceEqDiff, Nat.reduceAdd, Nat.reduceMul, Nat.reduceSub, Nat.reduceLeDiff, Nat.reduceBEq, reduceCtorEq, WS, l3, l2, l1, l0, hln, hN0, o1, o2, o3, n3, n0, n1, n2, n6]); (repeat' ((first | apply aJ | apply aI | apply aL | apply aK | apply aH | apply aG) <;> intro h <;> simp only [h, SS, TF39PaAll, aM, setRange, aN, aC, aB, aF, aE, aD, aA, Nat.reduceLT, Nat.reduceEqDiff, Nat.reduceAdd, Nat.reduceMul, Nat.reduceSub, Nat.reduceLeDiff, Nat.reduceBEq, reduceCtorEq, WS, l3, l2, l1, l0, hln, hN0, o1, o2, o3, n3, n0, n1, n2, n6])))
    refine ⟨by kernel_rfl, ?_⟩
    ((try simp only [aO, SS, TF39PaAll, aM, setRange, aN, aC, aB, aF, aE, aD, aA, Nat.reduceLT, Nat.reduceEqDiff, Nat.reduceAdd, Nat.reduceMul, Nat.reduceSub, Nat.reduceLeDiff, Nat.reduceBEq, reduceCtorEq]); (repeat' ((first | apply aJ | apply aI | apply aL | apply aK | apply aH | apply aG) <;> intro h <;> simp only [h, SS, TF39PaAll, aM, setRange, aN, aC, aB, aF, aE, aD, aA, Nat.reduceLT, Nat.reduceEqDiff, Nat.reduceAdd, Nat.reduceMul, Nat.reduceSub, Nat.reduceLeDiff, Nat.reduceBEq, reduceCtorEq])))
    refine ⟨_, _, aT.told (ds := []) (r := some 6) (fl2 := []) (l2 := [(0, some (.row [.lsl []] 54 0 0 false)), (1, some (.row [.int .i64 (acc.length : Nat)] 3 0 0 false)), (2, some (.row [.int .i64 z] 30 0 0 false)), (5, some (.deferred false)), (6, some (cY .busy none lp))]) (by simp) ?_, roundRet_of hlp (by simp only [cT, aP, Nat.reduceLT, Nat.reduceEqDiff, if_true, if_false]) ?_⟩
    · have n5 : ¬ N = 5 := by omega
      have m0 : ¬ N = 0 := by omega
      have m1 : ¬ N = 1 := by omega
      have m2 : ¬ N = 2 := by omega
      have m6 : ¬ N = 6 := by omega
      intro p hp
      simp only [List.mem_cons, List.not_mem_nil, or_false] at hp
      rcases hp with rfl | rfl | rfl | rfl | rfl
      · exact ⟨by simp, _, rfl, .inr ⟨[.nilslice], _, _, _, _, _, by simp [aP], rfl, .inr ⟨rfl, rfl⟩, trivial⟩⟩
      · exact ⟨by simp, _, rfl, .inl (by simp [aP])⟩
      · exact ⟨by simp, _, rfl, .inl (by simp [aP])⟩
      · exact ⟨by simp, _, rfl, .inl (by simp [aP, l5, m0, m1, m2, m6, n5])⟩
      · exact ⟨by simp, _, rfl, .inl (by simp [aP, m0, m1, m2, m6])⟩
    · simp only [mkH_put]
      exact hk _
  refine ct144 (S := s) (INV := fun i T N l => ∃ acc v, AInv lp s i T acc v N l) (STOP := fun N l => ∃ (a : Nat) (e : Int), paT s = ([], a, e) ∧ l = stopL lp a e) hlen (by omega) ?_
    ⟨[], .nilslice, rfl, hby, rfl, by simp, by omega, ⟨by simp, by omega, .inl ⟨rfl, rfl⟩, by simp [aP], by simp [aP], by simp [aP], by simp [aP], by simp [aP], by simp [aP]⟩, by simp [aP]⟩ ?_ ?_ ?_ ?_
  · rintro i T N l ⟨acc, v, hI⟩
    exact hI.l4
  · rintro i N T l k ⟨acc, v, hrd, hbt, hln, hok, hi, hM, l4⟩ hTl hT hkT hkF
    subst hln
    rw [paG_yes hT] at hrd
    have hlt := headN_len hT
    have hwb : aZ (eJ 10 T ++ [10]) = true := by rw [← headN_take hT]; exact bytesB_take hbt
    have hrb : aZ (tailN 10 T) = true := bytesB_drop hbt
    have hwl : (eJ 10 T ++ [10]).length ≤ 5000 := by rw [List.length_append]; show (eJ 10 T).length + 1 ≤ 5000; omega
    have hpo : eZ (cK (eJ 10 T)).1 := parsePl_ok (by omega)
    have h110 := e110 (n := ((acc.length : Nat) : Int)) hwb hwl
    rw [lineT_yes] at h110
    generalize eJ 10 T = w at *
    generalize tailN 10 T = r at *
    by_cases h256 : 256 ≤ acc.length
    · rw [if_pos (show (256 : Int) ≤ ((acc.length : Nat) : Int) by omega)] at h110
      rw [if_pos h256] at hrd
      exact bad N _ acc v _ pl0 5 k hM.box hi h110 rfl hrd fun N' => hkF _ _ ⟨_, _, hrd, rfl⟩
    rw [if_neg (show ¬ (256 : Int) ≤ ((acc.length : Nat) : Int) by omega)] at h110
    rw [if_neg h256] at hrd
    obtain ⟨G, hG⟩ : ∃ G, G = (cK w).1 := ⟨_, rfl⟩
    obtain ⟨z, hz⟩ : ∃ z, z = (cK w).2.2 := ⟨_, rfl⟩
    rw [← hG, ← hz] at hrd h110
    rw [← hG] at hpo
    cases hz0 : (z == 0) with
    | false =>
      have hz1 : z ≠ 0 := by simpa using hz0
      rw [if_pos hz1] at hrd
      exact bad N _ acc v _ G z k hM.box hi h110 hz0 hrd fun N' => hkF _ _ ⟨_, _, hrd, rfl⟩
    | true =>
    have hz1 : z = 0 := by simpa using hz0
    rw [if_neg (by simpa using hz1)] at hrd
    obtain ⟨hN, hN2, hpl, l6, l5, l3, l2, l1, l0⟩ := hM.box (o := some (.row [.str r] 9 0 0 false))
    have l4' : aP ((4, some (.row [.str r] 9 0 0 false)) :: l) 4 = some (.row [.str r] 9 0 0 false) := by simp [aP]
    generalize ((4, some (EObj.row [.str r] 9 0 0 false)) :: l) = L at *
    obtain ⟨o1, o2, o3, hln⟩ := PL_one hpl
    have hN0 : N < 16000 := by omega
    have n3 : (N = 3) = False := by simp only [eq_iff_iff, iff_false]; omega
    have n6 : (N = 6) = False := by simp only [eq_iff_iff, iff_false]; omega
    unfold plE at h110
    refine RoundT.intro (by rw [cT (by omega), l6, hlp]) (setParams_one (by omega)) ?_
    simp only [mkD_eq, mkH_n]
    refine aR aV _ _ _ _ ?_
    ((try simp only [aO, SS, TF39PaAll, aM, setRange, aN, aC, aB, aF, aE, aD, aA, Nat.reduceLT, Nat.reduceEqDiff, Nat.reduceAdd, Nat.reduceMul, Nat.reduceSub, Nat.reduceLeDiff, Nat.reduceBEq, reduceCtorEq]); (repeat' ((first | apply aJ | apply aI | apply aL | apply aK | apply aH | apply aG) <;> intro h <;> simp only [h, SS, TF39PaAll, aM, setRange, aN, aC, aB, aF, aE, aD, aA, Nat.reduceLT, Nat.reduceEqDiff, Nat.reduceAdd, Nat.reduceMul, Nat.reduceSub, Nat.reduceLeDiff, Nat.reduceBEq, reduceCtorEq])))
    refine roundMid_of (by rw [cT (by omega), l6, hlp]) ?_
    simp only [mkH_put, ← hb]
    refine Top.unview (aR aV _ _ _ _ ?_)
    obtain ⟨v2, l2', hap, P2, S2⟩ := eAppend_PL (q := G) (m := 128) (kk := []) (l := (N, some (.row [.str G.p, .str G.e, .bool G.l, .lsl (bG G.m)] 24 0 0 false)) :: (N, some (.row [.str [], .str [], .bool false, .nilslice] 24 0 0 false)) :: (6, some (cY .busy none lp)) :: L) (PL_new2 (PL_cons (j := 6) (x := some (cY .busy none lp)) (by omega) hpl)) (by omega) (by omega) (by omega)
    obtain ⟨p1, p2, p3, -⟩ := PL_one P2
    have c : ∀ j, j < 7 → j ≠ 6 → aP l2' j = aP L j := fun j hj h6 => by rw [S2 j (by omega), aP.eq_2, if_neg (by omega), aP.eq_2, if_neg (by omega), aP.eq_2, if_neg (by omega)]
    have c6 : aP l2' 6 = some (cY .busy none lp) := by rw [S2 6 (by omega), aP.eq_2, if_neg (by omega), aP.eq_2, if_neg (by omega), aP.eq_2, if_pos rfl]
    have c5 := (c 5 (by omega) (by omega)).trans l5
    have c4 := (c 4 (by omega) (by omega)).trans l4'
    have c3 := (c 3 (by omega) (by omega)).trans l3
    have c2 := (c 2 (by omega) (by omega)).trans l2
    have c1 := (c 1 (by omega) (by omega)).trans l1
    have c0 := (c 0 (by omega) (by omega)).trans l0
    ((try simp only [aO, SS, TF39PaAll, aM, setRange, aN, aC, aB, aF, aE, aD, aA, Nat.reduceLT, Nat.reduceEqDiff, Nat.reduceAdd, Nat.reduceMul, Nat.reduceSub, Nat.reduceLeDiff, Nat.reduceBEq, reduceCtorEq, l3, hln, h110, hN0, hz0, o1, o2, o3, p1, p2, p3, n3, n6, ↓hap, c3]); (repeat' ((first | apply aJ | apply aI | apply aL | apply aK | apply aH | apply aG) <;> intro h <;> simp only [h, SS, TF39PaAll, aM, setRange, aN, aC, aB, aF, aE, aD, aA, Nat.reduceLT, Nat.reduceEqDiff, Nat.reduceAdd, Nat.reduceMul, Nat.reduceSub, Nat.reduceLeDiff, Nat.reduceBEq, reduceCtorEq, l3, hln, h110, hN0, hz0, o1, o2, o3, p1, p2, p3, n3, n6, ↓hap, c3])))
    refine ⟨_, _, aT.subD (l2 := []) (by simp), roundEnd_of (by rw [cT (by omega)]; simp [aP, c6]; rw [hb]) ?_⟩
    simp only [mkH_put, ← hlp]
    have hadd : (acc ++ [G]).length = acc.length + 1 := by simp
    refine hkT _ _ ⟨acc ++ [G], v2, hrd, hrb, hadd, ?_, by omega, ⟨by rw [hadd]; omega, by omega, PL_cons (by omega) (PL_cons (by omega) P2), ?_, ?_, ?_, ?_, ?_, ?_⟩, ?_⟩
    · intro q hq
      rcases List.mem_append.1 hq with h | h
      · exact hok q h
      · rw [List.mem_singleton.1 h]; exact hpo
    · simp only [aP, Nat.reduceEqDiff, if_true]
    · simp only [aP, Nat.reduceEqDiff, if_false]; exact c5
    · simp only [aP, Nat.reduceEqDiff, if_true, if_false]
    · simp only [aP, Nat.reduceEqDiff, if_false]; exact c2
    · simp only [aP, Nat.reduceEqDiff, if_false]; exact c1
    · simp only [aP, Nat.reduceEqDiff, if_false]; exact c0
    · simp only [aP, Nat.reduceEqDiff, if_false]; exact c4
  · rintro i N T l k ⟨acc, v, hrd, hbt, hln, hok, hi, hM, l4⟩ hTl hT0 hT hkF
    subst hln
    rw [paG_no hT hT0] at hrd
    have h110 := e110 (n := ((acc.length : Nat) : Int)) hbt (by omega)
    rw [lineT_no hT] at h110
    exact bad N _ acc v _ pl0 25 k hM.box hi h110 rfl hrd fun N' => hkF _ _ ⟨_, _, hrd, rfl⟩
  · rintro N l ⟨a, e, hp, rfl⟩
    refine rangeRet_of hlp (by simp only [stopL, cT, aP, Nat.reduceLT, Nat.reduceEqDiff, if_true, if_false]) ?_
    simp only [stopL, mkH_put, mkD_eq]
    ((try simp only [aO, SS, TF39PaAll, aM, setRange, aN, aC, aB, aF, aE, aD, aA, Nat.reduceLT, Nat.reduceEqDiff, Nat.reduceAdd, Nat.reduceMul, Nat.reduceSub, Nat.reduceLeDiff, Nat.reduceBEq, reduceCtorEq]); (repeat' ((first | apply aJ | apply aI | apply aL | apply aK | apply aH | apply aG) <;> intro h <;> simp only [h, SS, TF39PaAll, aM, setRange, aN, aC, aB, aF, aE, aD, aA, Nat.reduceLT, Nat.reduceEqDiff, Nat.reduceAdd, Nat.reduceMul, Nat.reduceSub, Nat.reduceLeDiff, Nat.reduceBEq, reduceCtorEq])))
    refine hQ _ _ _ ⟨trivial, _, [.lsl [], .int .i64 (a : Nat), .int .i64 e], by simp only [mkD_defers, takeAll, cT, aP, Nat.reduceLT, Nat.reduceEqDiff, if_true, if_false, mkH_put]; rfl, by simp only [SS, TF39PaAll, aM, setRange, aN, aC, aB, aF, aE, aD, aA, Nat.reduceLT, Nat.reduceEqDiff, Nat.reduceAdd, Nat.reduceMul, Nat.reduceSub, Nat.reduceLeDiff, Nat.reduceBEq, reduceCtorEq], ?_⟩
    simp only [paE, hp]; rfl
  · rintro i N l ⟨acc, v, hrd, hbt, hln, hok, hi, hM, l4⟩
    subst hln
    obtain ⟨hN, hN2, hpl, l6, l5, l3, l2, l1, l0⟩ := hM
    obtain ⟨o1, o2, o3, hln⟩ := PL_one hpl
    have hpt : paT s = (acc, 0, 0) := hrd
    refine rangeEnd_of (by rw [cT (by omega), l6, hlp]) ?_
    simp only [mkH_put, mkD_eq, ← hx0]
    ((try simp only [aO, SS, TF39PaAll, aM, setRange, aN, aC, aB, aF, aE, aD, aA, Nat.reduceLT, Nat.reduceEqDiff, Nat.reduceAdd, Nat.reduceMul, Nat.reduceSub, Nat.reduceLeDiff, Nat.reduceBEq, reduceCtorEq, l3, l2, l1, l0, o1, o2, o3]); (repeat' ((first | apply aJ | apply aI | apply aL | apply aK | apply aH | apply aG) <;> intro h <;> simp only [h, SS, TF39PaAll, aM, setRange, aN, aC, aB, aF, aE, aD, aA, Nat.reduceLT, Nat.reduceEqDiff, Nat.reduceAdd, Nat.reduceMul, Nat.reduceSub, Nat.reduceLeDiff, Nat.reduceBEq, reduceCtorEq, l3, l2, l1, l0, o1, o2, o3])))
    have e5 : aP ((2, some (.row [.int .i64 0] 30 0 0 false)) :: (1, some (.row [.int .i64 0] 3 0 0 false)) :: (0, some (.row [v] 54 0 0 false)) :: (6, some (cY .exhausted none lp)) :: l) 5 = some (.deferred false) := by simp only [aP, Nat.reduceEqDiff, if_false]; exact l5
    have hend : Ends Tryz.prog gT Tryz.f39 (paE s) .normal (mkD 32 [(2, .ptr 0 0), (3, .ptr 1 0), (4, .ptr 2 0)] [5] none) (mkH N [(0, some (.row [.lsl (dQ acc)] 54 0 0 false)), (1, some (.row [.int .i64 0] 3 0 0 false)), (2, some (.row [.int .i64 0] 30 0 0 false)), (5, some (.deferred false))] 128 []) := by
      refine ⟨trivial, _, [.lsl (dQ acc), .int .i64 0, .int .i64 0], by simp only [mkD_defers, takeAll, cT, aP, Nat.reduceLT, Nat.reduceEqDiff, if_true, if_false, mkH_put]; rfl, by simp only [SS, TF39PaAll, aM, setRange, aN, aC, aB, aF, aE, aD, aA, Nat.reduceLT, Nat.reduceEqDiff, Nat.reduceAdd, Nat.reduceMul, Nat.reduceSub, Nat.reduceLeDiff, Nat.reduceBEq, reduceCtorEq], ?_⟩
      simp only [paE, hpt]; rfl
    rcases hpl with ⟨rfl, rfl⟩ | ⟨id, h1, h2, rfl, h4⟩
    · refine hV _ _ _ ⟨_, _, aT.told (ds := [5]) (r := none) (fl2 := [(2, .ptr 0 0), (3, .ptr 1 0), (4, .ptr 2 0)]) (l2 := [(0, some (.row [.lsl (dQ [])] 54 0 0 false)), (1, some (.row [.int .i64 0] 3 0 0 false)), (2, some (.row [.int .i64 0] 30 0 0 false)), (5, some (.deferred false))]) (by simp [look, toldR]) ?_, hend⟩
      intro p hp
      simp only [List.mem_cons, List.not_mem_nil, or_false] at hp
      rcases hp with rfl | rfl | rfl | rfl
      · exact ⟨by simp, _, rfl, .inr ⟨[.nilslice], _, _, _, _, _, by simp [aP], rfl, .inr ⟨rfl, rfl⟩, trivial⟩⟩
      · exact ⟨by simp, _, rfl, .inl (by simp [aP])⟩
      · exact ⟨by simp, _, rfl, .inl (by simp [aP])⟩
      · exact ⟨by simp, _, rfl, .inl e5⟩
    · have hid0 : id < 16000 := by omega
      refine hV _ _ _ ⟨_, _, aT.fzD (ds := [5]) (r := none) (sz := 4) (len := acc.length) (fl2 := [(2, .ptr 0 0), (3, .ptr 1 0), (4, .ptr 2 0)]) (l2 := [(0, some (.row [.lsl (dQ acc)] 54 0 0 false)), (1, some (.row [.int .i64 0] 3 0 0 false)), (2, some (.row [.int .i64 0] 30 0 0 false)), (5, some (.deferred false))]) (k2 := []) id hid0 (by rw [aP.eq_2, if_neg (by omega), aP.eq_2, if_neg (by omega), aP.eq_2, if_neg (by omega), aP.eq_2, if_neg (by omega)]; exact h4) (keepL_cellP _) (cellP_length _) ?_ ?_ (by simp), hend⟩
      · simp [look, fzR]
      · rw [chunk_cellP]
        intro p hp
        simp only [List.mem_cons, List.not_mem_nil, or_false] at hp
        rcases hp with rfl | rfl | rfl | rfl
        · exact ⟨by simp, by show 0 ≠ id; omega, _, rfl, .inr ⟨[.slice id 0 acc.length (.slack 0)], _, _, _, _, _, by simp only [aP, Nat.reduceEqDiff, if_true, if_false], rfl, .inr ⟨.slack 0, rfl, rfl, rfl⟩, trivial⟩⟩
        · exact ⟨by simp, by show 1 ≠ id; omega, _, rfl, .inl (by simp [aP])⟩
        · exact ⟨by simp, by show 2 ≠ id; omega, _, rfl, .inl (by simp [aP])⟩
        · exact ⟨by simp, by show 5 ≠ id; omega, _, rfl, .inl e5⟩
end Go.Ev
