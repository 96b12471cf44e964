import Derived.Test.YtdhnjbgggkdiiaaGreatDoorEvC
import Derived.Test.YtdhnjbgggkdiiaaGreatDoorPaV
set_option linter.unusedSimpArgs false
set_option linter.unusedVariables false
namespace Go.Ev
open Go.RowKit Go.Proofs
set_option linter.defProp false
def TF39PaAll := And.intro (And.intro (And.intro (And.intro (And.intro (And.intro (@Tryz.underlying3) (@sz3)) (And.intro (@bN) (@I3s))) (And.intro (And.intro (@I3b) (@bL)) (And.intro (@bO) (@Tryz.underlying4)))) (And.intro (And.intro (And.intro (@sz4) (@dC)) (And.intro (@I4s) (@I4b))) (And.intro (And.intro (@cY) (@dD)) (And.intro (@Tryz.underlying9) (And.intro (@sz9) (@bI)))))) (And.intro (And.intro (And.intro (And.intro (@I9s) (@I9b)) (And.intro (@bH) (@bJ))) (And.intro (And.intro (@Tryz.underlying22) (@eN)) (And.intro (@dO) (@eO)))) (And.intro (And.intro (And.intro (@eP) (@dH)) (And.intro (@dP) (@Tryz.underlying24))) (And.intro (And.intro (@sz24) (@fok24)) (And.intro (@info24) (And.intro (@I24s) (@I24b))))))) (And.intro (And.intro (And.intro (And.intro (And.intro (@zero24) (@grow24)) (And.intro (@Tryz.underlying25) (@eB))) (And.intro (And.intro (@cE) (@eC)) (And.intro (@eD) (@cC)))) (And.intro (And.intro (And.intro (@cF) (@Tryz.underlying27)) (And.intro (@eE) (@dF))) (And.intro (And.intro (@cJ) (@eF)) (And.intro (@eG) (And.intro (@cH) (@cK)))))) (And.intro (And.intro (And.intro (And.intro (@Tryz.underlying30) (@sz30)) (And.intro (@info30) (@I30s))) (And.intro (And.intro (@I30b) (@zero30)) (And.intro (@grow30) (@Tryz.underlying54)))) (And.intro (And.intro (And.intro (@sz54) (@info54)) (And.intro (@I54s) (@I54b))) (And.intro (And.intro (@zero54) (@grow54)) (And.intro (@call109) (And.intro (@call110) (@Tryz.results39)))))))
set_option maxRecDepth 20000
set_option maxHeartbeats 8000000

/-! the program's reading of a text -/
section
variable {P : Program} {g : G} {K : bP}
theorem roundRet_of {lp : EObj} {id n d : Nat} {a b : Code} {k : EVal → H → Prop} {f : EFr} {h : H} {t : T EVal} {ps : List Tmp} (hlp : lp = .loop .ready none n t ps a b d) (hg : h.get id = some (cN .busy none lp))
    (hk : k (.bool false) (h.put id (cN .done (some .ret) lp))) : roundEnd id k .ret f h := by
  subst hlp
  unfold roundEnd
  rw [hg]; exact hk
theorem rangeRet_of {lp : EObj} {id n d : Nat} {a b : Code} {v : EVal} {f1 : EFr} {Q : cT} {h : H} {t : T EVal} {ps : List Tmp} (hlp : lp = .loop .ready none n t ps a b d) (hg : h.get id = some (cN .done (some .ret) lp))
    (hk : Q .ret f1 (h.put id (cN .exhausted (some .ret) lp))) : rangeEnd id f1 Q v h := by
  subst hlp
  unfold rangeEnd
  rw [hg]; exact ⟨by simp [], hk⟩
end
theorem bytesB_drop {l : List Nat} {k : Nat} (h : aM l = true) : aM (l.drop k) = true := by
  simp only [aM, List.all_eq_true] at h ⊢
  exact fun x hx => h x (List.mem_of_mem_drop hx)
structure AMem (lp : EObj) (acc : List Pl) (v : EVal) (N : Nat) (l : List (Nat × Option EObj)) : Prop where
  hN : N ≤ 7 + 2 * acc.length
  hN2 : 7 ≤ N
  pl : PL 7 v acc N l
  l6 : aB l 6 = some lp
  l5 : aB l 5 = some (.deferred false)
  l3 : aB l 3 = some (.row [v] 54 0 0 false)
  l2 : aB l 2 = some (.row [.int .i64 0] 30 0 0 false)
  l1 : aB l 1 = some (.row [.int .i64 0] 3 0 0 false)
  l0 : aB l 0 = some (.row [.nilslice] 54 0 0 false)
structure AInv (lp : EObj) (S : List Nat) (i : Nat) (T : List Nat) (acc : List Pl) (v : EVal) (N : Nat) (l : List (Nat × Option EObj)) : Prop where
  rd : paT S = paG i acc (aT 10 T)
  byt : aM T = true
  len : acc.length = i
  ok : ∀ q ∈ acc, eM q
  hi : i ≤ 256
  mem : AMem lp acc v N l
  l4 : aB l 4 = some (.row [.str T] 9 0 0 false)
theorem AMem.box {lp : EObj} {acc : List Pl} {v : EVal} {N : Nat} {l : List (Nat × Option EObj)} {o : Option EObj} (h : AMem lp acc v N l) : AMem lp acc v N ((4, o) :: l) := by
  obtain ⟨a, b, c, l6, l5, l3, l2, l1, l0⟩ := h
  refine ⟨a, b, PL_cons (by omega) c, ?_, ?_, ?_, ?_, ?_, ?_⟩ <;> simp [aB, *]
def stopL (lp : EObj) (a : Nat) (e : Int) : List (Nat × Option EObj) := [(6, some (cN .done (some .ret) lp)), (0, some (.row [.lsl []] 54 0 0 false)), (1, some (.row [.int .i64 (a : Nat)] 3 0 0 false)), (2, some (.row [.int .i64 e] 30 0 0 false)), (5, some (.deferred false)), (6, some (cN .busy none lp))]
theorem PL_new2 {lo : Nat} {v : EVal} {ps : List Pl} {N : Nat} {l : List (Nat × Option EObj)} {x y : Option EObj} (h : PL lo v ps N l) : PL lo v ps (N + 1) ((N, x) :: (N, y) :: l) := by
  rcases h with h | ⟨id, h1, h2, h3, h4⟩
  · exact .inl h
  · exact .inr ⟨id, h1, by omega, h3, by rw [aB.eq_2, if_neg (by omega), aB.eq_2, if_neg (by omega)]; exact h4⟩
def F39 : List EVal → Option EVal
  | [.str s] => if aM s = true ∧ s.length ≤ 5000 then some (paE s) else none
  | _ => none
theorem e39 {s : List Nat} (h : aM s = true) (hl : s.length ≤ 5000) : F39 [.str s] = some (paE s) := by simp only [F39]; rw [if_pos ⟨h, hl⟩]
theorem fn39 : FnT 39 F39 := by
  refine Fn.intro mixed aI Tryz.func39 rfl [(145, F145), (110, F110)] (by simp only [List.forall_mem_cons]; exact ⟨fn145, fn110, fun _ h => by cases h⟩) ?_
  intro args v hF
  unfold F39 at hF
  split at hF
  rotate_left
  · cases hF
  intro Q hV
  have hQ := aS.of hV
  rename_i s
  split at hF
  rotate_left
  · cases hF
  rename_i hc
  obtain ⟨hby, hlen⟩ := hc
  cases hF
  refine Top.view (aH.mode (n := 0) (m := 0) (l := []) (k := []) 128 (by omega)) ?_
  refine Top.view (aH.start (n := 32) rfl (by simp)) (aD aI _ _ _ _ ?_)
  have q1 : decide ((1000000 : Int) < (s.length : Int)) = false := by simp; omega
  (try simp only [aG, SS, TF39PaAll, aA, Nat.reduceLT, Nat.reduceEqDiff, Nat.reduceAdd, reduceCtorEq, q1, ↓bA])
  refine ct109 (by omega) ?_
  (try simp only [SS, Nat.reduceLT, Nat.reduceAdd])
  refine wp_of_range (Top.rangeFunc (kf := 144) (caps := [.ptr 4 0]) aI (by simp only [ev_tmp, T.get_ofL, look, Nat.reduceLT, Nat.reduceEqDiff, if_true, if_false]) (by kernel_rfl) ?_)
  simp only [mkH_n, mkH_new, Nat.reduceAdd]
  refine bS.capture fun lp hlp hb hx0 => ?_
  have bad : ∀ (N : Nat) (L : List (Nat × Option EObj)) (acc : List Pl) (v : EVal) (Ln : List Nat) (G : Pl) (z : Int) (k : EVal → H → Prop), AMem lp acc v N L → acc.length ≤ 256 → F110 [.str Ln, .int .i64 (acc.length : Nat)] = some (.tup [plE G, .int .i64 z]) → (z == 0) = false → paT s = ([], acc.length, z) →
      (∀ N', k (.bool false) (mkH N' (stopL lp acc.length z) 128 [])) → RoundT Tryz.prog gT (dU KP) 6 [.str Ln] (mkH N L 128 []) k := by
    intro N L acc v Ln G z k hM h256 h110 hz0 hpt hk
    obtain ⟨hN, hN2, hpl, l6, l5, l3, l2, l1, l0⟩ := hM
    obtain ⟨o1, o2, o3, hln⟩ := PL_one hpl
    have hN0 : N < 16000 := by omega
    have n3 : (N = 3) = False := by simp only [eq_iff_iff, iff_false]; omega
    have n2 : (N = 2) = False := by simp only [eq_iff_iff, iff_false]; omega
    have n1 : (N = 1) = False := by simp only [eq_iff_iff, iff_false]; omega
    have n0 : (N = 0) = False := by simp only [eq_iff_iff, iff_false]; omega
    have n6 : (N = 6) = False := by simp only [eq_iff_iff, iff_false]; omega
    unfold plE at h110
    refine RoundT.intro (by rw [cB (by omega), l6, hlp]) (setParams_one (by omega)) ?_
    simp only [mkD_eq, mkH_n]
    refine aD aI _ _ _ _ ?_
    (try simp only [SS, aA, Nat.reduceLT, Nat.reduceEqDiff, reduceCtorEq])
    refine roundMid_of (by rw [cB (by omega), l6, hlp]) ?_
    simp only [mkH_put, ← hb]
    refine Top.unview (aD aI _ _ _ _ ?_)
    (try simp only [SS, TF39PaAll, aF, setRange, aA, Nat.reduceLT, Nat.reduceEqDiff, Nat.reduceAdd, reduceCtorEq, l3, hln, h110, hN0, hz0])
    refine aX (Top.drawS mixed aI (by kernel_rfl) ?_)
    (try simp only [SS, TF39PaAll, setRange, Nat.reduceLT, Nat.reduceEqDiff, reduceCtorEq, WS, l3, l2, l1, l0, hln, n3, n0, n1, n2])
    refine ⟨by kernel_rfl, ?_⟩
    (try simp only [aG, SS, TF39PaAll, aF, setRange, bQ, aA, aL, bB, aQ, aO, aE, Nat.reduceLT, Nat.reduceEqDiff, Nat.reduceAdd, Nat.reduceMul, Nat.reduceSub, Nat.reduceLeDiff, Nat.reduceBEq, reduceCtorEq])
    refine ⟨_, _, aH.told (ds := []) (r := some 6) (fl2 := []) (l2 := [(0, some (.row [.lsl []] 54 0 0 false)), (1, some (.row [.int .i64 (acc.length : Nat)] 3 0 0 false)), (2, some (.row [.int .i64 z] 30 0 0 false)), (5, some (.deferred false)), (6, some (cN .busy none lp))]) (by simp) ?_, roundRet_of hlp (by simp only [cB, aB, Nat.reduceLT, Nat.reduceEqDiff, if_true, if_false]) ?_⟩
    · have n5 : ¬ N = 5 := by omega
      have m0 : ¬ N = 0 := by omega
      have m1 : ¬ N = 1 := by omega
      have m2 : ¬ N = 2 := by omega
      have m6 : ¬ N = 6 := by omega
      intro p hp
      simp only [List.mem_cons, List.not_mem_nil, or_false] at hp
      rcases hp with rfl | rfl | rfl | rfl | rfl
      · exact ⟨by simp, _, rfl, .inr ⟨[.nilslice], _, _, _, _, _, by simp [aB], rfl, .inr ⟨rfl, rfl⟩, trivial⟩⟩
      · exact ⟨by simp, _, rfl, .inl (by simp [aB])⟩
      · exact ⟨by simp, _, rfl, .inl (by simp [aB])⟩
      · exact ⟨by simp, _, rfl, .inl (by simp [aB, l5, n5])⟩
      · exact ⟨by simp, _, rfl, .inl (by simp [aB, m6])⟩
    · simp only [mkH_put]
      exact hk _
  refine ct144 (S := s) (INV := fun i T N l => ∃ acc v, AInv lp s i T acc v N l) (STOP := fun N l => ∃ (a : Nat) (e : Int), paT s = ([], a, e) ∧ l = stopL lp a e) hlen (by omega) ?_
    ⟨[], .nilslice, rfl, hby, rfl, by simp, by omega, ⟨by simp, by omega, .inl ⟨rfl, rfl⟩, by simp [aB], by simp [aB], by simp [aB], by simp [aB], by simp [aB], by simp [aB]⟩, by simp [aB]⟩ ?_ ?_ ?_ ?_
  · rintro i T N l ⟨acc, v, hI⟩
    exact hI.l4
  · rintro i N T l k ⟨acc, v, hrd, hbt, hln, hok, hi, hM, l4⟩ hTl hT hkT hkF
    subst hln
    rw [paG_yes hT] at hrd
    have hlt := headN_len hT
    have hwb : aM (dY 10 T ++ [10]) = true := by rw [← headN_take hT]; exact bytesB_take hbt
    have hrb : aM (tailN 10 T) = true := bytesB_drop hbt
    have hwl : (dY 10 T ++ [10]).length ≤ 5000 := by rw [List.length_append]; show (dY 10 T).length + 1 ≤ 5000; omega
    have hpo : eM (cI (dY 10 T)).1 := parsePl_ok (by omega)
    have h110 := e110 (n := ((acc.length : Nat) : Int)) hwb hwl
    rw [lineT_yes] at h110
    generalize dY 10 T = w at *
    generalize tailN 10 T = r at *
    by_cases h256 : 256 ≤ acc.length
    · rw [if_pos (show (256 : Int) ≤ ((acc.length : Nat) : Int) by omega)] at h110
      rw [if_pos h256] at hrd
      exact bad N _ acc v _ pl0 5 k hM.box hi h110 rfl hrd fun N' => hkF _ _ ⟨_, _, hrd, rfl⟩
    rw [if_neg (show ¬ (256 : Int) ≤ ((acc.length : Nat) : Int) by omega)] at h110
    rw [if_neg h256] at hrd
    obtain ⟨G, hG⟩ : ∃ G, G = (cI w).1 := ⟨_, rfl⟩
    obtain ⟨z, hz⟩ : ∃ z, z = (cI w).2.2 := ⟨_, rfl⟩
    rw [← hG, ← hz] at hrd h110
    rw [← hG] at hpo
    cases hz0 : (z == 0) with
    | false =>
      have hz1 : z ≠ 0 := by simpa using hz0
      rw [if_pos hz1] at hrd
      exact bad N _ acc v _ G z k hM.box hi h110 hz0 hrd fun N' => hkF _ _ ⟨_, _, hrd, rfl⟩
    | true =>
    have hz1 : z = 0 := by simpa using hz0
    rw [if_neg (by simpa using hz1)] at hrd
    obtain ⟨hN, hN2, hpl, l6, l5, l3, l2, l1, l0⟩ := hM.box (o := some (.row [.str r] 9 0 0 false))
    have l4' : aB ((4, some (.row [.str r] 9 0 0 false)) :: l) 4 = some (.row [.str r] 9 0 0 false) := by simp [aB]
    generalize ((4, some (EObj.row [.str r] 9 0 0 false)) :: l) = L at *
    obtain ⟨o1, o2, o3, hln⟩ := PL_one hpl
    have hN0 : N < 16000 := by omega
    have n3 : (N = 3) = False := by simp only [eq_iff_iff, iff_false]; omega
    have n6 : (N = 6) = False := by simp only [eq_iff_iff, iff_false]; omega
    unfold plE at h110
    refine RoundT.intro (by rw [cB (by omega), l6, hlp]) (setParams_one (by omega)) ?_
    simp only [mkD_eq, mkH_n]
    refine aD aI _ _ _ _ ?_
    (try simp only [SS, aA, Nat.reduceLT, Nat.reduceEqDiff, reduceCtorEq])
    refine roundMid_of (by rw [cB (by omega), l6, hlp]) ?_
    simp only [mkH_put, ← hb]
    refine Top.unview (aD aI _ _ _ _ ?_)
    obtain ⟨v2, l2', hap, P2, S2⟩ := eAppend_PL (q := G) (m := 128) (kk := []) (l := (N, some (.row [.str G.p, .str G.e, .bool G.l, .lsl (aZ G.m)] 24 0 0 false)) :: (N, some (.row [.str [], .str [], .bool false, .nilslice] 24 0 0 false)) :: (6, some (cN .busy none lp)) :: L) (PL_new2 (PL_cons (j := 6) (x := some (cN .busy none lp)) (by omega) hpl)) (by omega) (by omega) (by omega)
    obtain ⟨p1, p2, p3, -⟩ := PL_one P2
    have c : ∀ j, j < 7 → j ≠ 6 → aB l2' j = aB L j := fun j hj h6 => by rw [S2 j (by omega), aB.eq_2, if_neg (by omega), aB.eq_2, if_neg (by omega), aB.eq_2, if_neg (by omega)]
    have c6 : aB l2' 6 = some (cN .busy none lp) := by rw [S2 6 (by omega), aB.eq_2, if_neg (by omega), aB.eq_2, if_neg (by omega), aB.eq_2, if_pos rfl]
    have c5 := (c 5 (by omega) (by omega)).trans l5
    have c4 := (c 4 (by omega) (by omega)).trans l4'
    have c3 := (c 3 (by omega) (by omega)).trans l3
    have c2 := (c 2 (by omega) (by omega)).trans l2
    have c1 := (c 1 (by omega) (by omega)).trans l1
    have c0 := (c 0 (by omega) (by omega)).trans l0
    (try simp only [SS, TF39PaAll, aF, setRange, bQ, aA, aE, Nat.reduceLT, Nat.reduceEqDiff, Nat.reduceAdd, Nat.reduceMul, Nat.reduceLeDiff, reduceCtorEq, l3, hln, h110, hN0, hz0, p1, p3, n3, ↓hap, c3])
    refine ⟨_, _, aH.subD (l2 := []) (by simp), roundEnd_of (by rw [cB (by omega)]; simp [aB, c6]; rw [hb]) ?_⟩
    simp only [mkH_put, ← hlp]
    have hadd : (acc ++ [G]).length = acc.length + 1 := by simp
    refine hkT _ _ ⟨acc ++ [G], v2, hrd, hrb, hadd, ?_, by omega, ⟨by rw [hadd]; omega, by omega, PL_cons (by omega) (PL_cons (by omega) P2), ?_, ?_, ?_, ?_, ?_, ?_⟩, ?_⟩
    · intro q hq
      rcases List.mem_append.1 hq with h | h
      · exact hok q h
      · rw [List.mem_singleton.1 h]; exact hpo
    · simp only [aB, Nat.reduceEqDiff, if_true]
    · simp only [aB, Nat.reduceEqDiff, if_false]; exact c5
    · simp only [aB, Nat.reduceEqDiff, if_true, if_false]
    · simp only [aB, Nat.reduceEqDiff, if_false]; exact c2
    · simp only [aB, Nat.reduceEqDiff, if_false]; exact c1
    · simp only [aB, Nat.reduceEqDiff, if_false]; exact c0
    · simp only [aB, Nat.reduceEqDiff, if_false]; exact c4
  · rintro i N T l k ⟨acc, v, hrd, hbt, hln, hok, hi, hM, l4⟩ hTl hT0 hT hkF
    subst hln
    rw [paG_no hT hT0] at hrd
    have h110 := e110 (n := ((acc.length : Nat) : Int)) hbt (by omega)
    rw [lineT_no hT] at h110
    exact bad N _ acc v _ pl0 25 k hM.box hi h110 rfl hrd fun N' => hkF _ _ ⟨_, _, hrd, rfl⟩
  · rintro N l ⟨a, e, hp, rfl⟩
    refine rangeRet_of hlp (by simp only [stopL, cB, aB, Nat.reduceLT, Nat.reduceEqDiff, if_true, if_false]) ?_
    simp only [stopL, mkH_put, mkD_eq]
    (try simp only [SS])
    refine hQ _ _ _ ⟨trivial, _, [.lsl [], .int .i64 (a : Nat), .int .i64 e], by simp only [mkD_defers, takeAll, cB, aB, Nat.reduceLT, Nat.reduceEqDiff, if_true, if_false, mkH_put]; rfl, by simp only [SS, TF39PaAll, Nat.reduceLT, Nat.reduceEqDiff, reduceCtorEq], ?_⟩
    simp only [paE, hp]; rfl
  · rintro i N l ⟨acc, v, hrd, hbt, hln, hok, hi, hM, l4⟩
    subst hln
    obtain ⟨hN, hN2, hpl, l6, l5, l3, l2, l1, l0⟩ := hM
    obtain ⟨o1, o2, o3, hln⟩ := PL_one hpl
    have hpt : paT s = (acc, 0, 0) := hrd
    refine rangeEnd_of (by rw [cB (by omega), l6, hlp]) ?_
    simp only [mkH_put, mkD_eq, ← hx0]
    (try simp only [SS, TF39PaAll, setRange, aA, Nat.reduceLT, Nat.reduceEqDiff, reduceCtorEq, l3, l2, l1, l0, o1, o3])
    have e5 : aB ((2, some (.row [.int .i64 0] 30 0 0 false)) :: (1, some (.row [.int .i64 0] 3 0 0 false)) :: (0, some (.row [v] 54 0 0 false)) :: (6, some (cN .exhausted none lp)) :: l) 5 = some (.deferred false) := by simp only [aB, Nat.reduceEqDiff, if_false]; exact l5
    have hend : Ends Tryz.prog gT Tryz.f39 (paE s) .normal (mkD 32 [(2, .ptr 0 0), (3, .ptr 1 0), (4, .ptr 2 0)] [5] none) (mkH N [(0, some (.row [.lsl (cX acc)] 54 0 0 false)), (1, some (.row [.int .i64 0] 3 0 0 false)), (2, some (.row [.int .i64 0] 30 0 0 false)), (5, some (.deferred false))] 128 []) := by
      refine ⟨trivial, _, [.lsl (cX acc), .int .i64 0, .int .i64 0], by simp only [mkD_defers, takeAll, cB, aB, Nat.reduceLT, Nat.reduceEqDiff, if_true, if_false, mkH_put]; rfl, by simp only [SS, TF39PaAll, Nat.reduceLT, Nat.reduceEqDiff, reduceCtorEq], ?_⟩
      simp only [paE, hpt]; rfl
    rcases hpl with ⟨rfl, rfl⟩ | ⟨id, h1, h2, rfl, h4⟩
    · refine hV _ _ _ ⟨_, _, aH.told (ds := [5]) (r := none) (fl2 := [(2, .ptr 0 0), (3, .ptr 1 0), (4, .ptr 2 0)]) (l2 := [(0, some (.row [.lsl (cX [])] 54 0 0 false)), (1, some (.row [.int .i64 0] 3 0 0 false)), (2, some (.row [.int .i64 0] 30 0 0 false)), (5, some (.deferred false))]) (by simp [look, toldR]) ?_, hend⟩
      intro p hp
      simp only [List.mem_cons, List.not_mem_nil, or_false] at hp
      rcases hp with rfl | rfl | rfl | rfl
      · exact ⟨by simp, _, rfl, .inr ⟨[.nilslice], _, _, _, _, _, by simp [aB], rfl, .inr ⟨rfl, rfl⟩, trivial⟩⟩
      · exact ⟨by simp, _, rfl, .inl (by simp [aB])⟩
      · exact ⟨by simp, _, rfl, .inl (by simp [aB])⟩
      · exact ⟨by simp, _, rfl, .inl e5⟩
    · have hid0 : id < 16000 := by omega
      refine hV _ _ _ ⟨_, _, aH.fzD (ds := [5]) (r := none) (sz := 4) (len := acc.length) (fl2 := [(2, .ptr 0 0), (3, .ptr 1 0), (4, .ptr 2 0)]) (l2 := [(0, some (.row [.lsl (cX acc)] 54 0 0 false)), (1, some (.row [.int .i64 0] 3 0 0 false)), (2, some (.row [.int .i64 0] 30 0 0 false)), (5, some (.deferred false))]) (k2 := []) id hid0 (by rw [aB.eq_2, if_neg (by omega), aB.eq_2, if_neg (by omega), aB.eq_2, if_neg (by omega), aB.eq_2, if_neg (by omega)]; exact h4) (keepL_cellP _) (cellP_length _) ?_ ?_ (by simp), hend⟩
      · simp [look, fzR]
      · rw [chunk_cellP]
        intro p hp
        simp only [List.mem_cons, List.not_mem_nil, or_false] at hp
        rcases hp with rfl | rfl | rfl | rfl
        · exact ⟨by simp, by show 0 ≠ id; omega, _, rfl, .inr ⟨[.slice id 0 acc.length (.slack 0)], _, _, _, _, _, by simp only [aB, Nat.reduceEqDiff, if_true, if_false], rfl, .inr ⟨.slack 0, rfl, rfl, rfl⟩, trivial⟩⟩
        · exact ⟨by simp, by show 1 ≠ id; omega, _, rfl, .inl (by simp [aB])⟩
        · exact ⟨by simp, by show 2 ≠ id; omega, _, rfl, .inl (by simp [aB])⟩
        · exact ⟨by simp, by show 5 ≠ id; omega, _, rfl, .inl e5⟩
end Go.Ev
