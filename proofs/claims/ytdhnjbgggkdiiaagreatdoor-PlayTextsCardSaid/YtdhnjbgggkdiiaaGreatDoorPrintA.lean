import Derived.Test.YtdhnjbgggkdiiaaGreatDoorPrAll
set_option linter.unusedSimpArgs false
set_option linter.unusedVariables false
namespace Go.Ev
open Go.RowKit Go.Proofs
set_option linter.defProp false
def TF37PrintA := And.intro (And.intro (And.intro (And.intro (And.intro (And.intro (@Tryz.underlying3) (And.intro (@sz3) (@bN))) (And.intro (@I3s) (And.intro (@I3b) (@bL)))) (And.intro (And.intro (@bO) (And.intro (@Tryz.underlying4) (@sz4))) (And.intro (@dC) (And.intro (@I4s) (@I4b))))) (And.intro (And.intro (And.intro (@cY) (And.intro (@dD) (@Tryz.underlying5))) (And.intro (@sz5) (And.intro (@dK) (@I5s)))) (And.intro (And.intro (@I5b) (And.intro (@dG) (@dL))) (And.intro (And.intro (@Tryz.underlying9) (@sz9)) (And.intro (@bI) (@I9s)))))) (And.intro (And.intro (And.intro (And.intro (@I9b) (And.intro (@bH) (@bJ))) (And.intro (@Tryz.underlying22) (And.intro (@eN) (@dO)))) (And.intro (And.intro (@eO) (And.intro (@eP) (@dH))) (And.intro (@dP) (And.intro (@Tryz.underlying24) (@sz24))))) (And.intro (And.intro (And.intro (@fok24) (And.intro (@info24) (@I24s))) (And.intro (@I24b) (And.intro (@zero24) (@grow24)))) (And.intro (And.intro (@Tryz.underlying25) (And.intro (@eB) (@cE))) (And.intro (And.intro (@eC) (@eD)) (And.intro (@cC) (@cF))))))) (And.intro (And.intro (And.intro (And.intro (And.intro (@Tryz.underlying27) (And.intro (@eE) (@dF))) (And.intro (@cJ) (And.intro (@eF) (@eG)))) (And.intro (And.intro (@cH) (And.intro (@cK) (@Tryz.underlying30))) (And.intro (@sz30) (And.intro (@info30) (@I30s))))) (And.intro (And.intro (And.intro (@I30b) (And.intro (@zero30) (@grow30))) (And.intro (@Tryz.underlying54) (And.intro (@sz54) (@info54)))) (And.intro (And.intro (@I54s) (And.intro (@I54b) (@zero54))) (And.intro (And.intro (@grow54) (@Tryz.underlying134)) (And.intro (@sz134) (@info134)))))) (And.intro (And.intro (And.intro (And.intro (@I134s) (And.intro (@I134b) (@zero134))) (And.intro (@grow134) (And.intro (@Tryz.underlying135) (@sz135)))) (And.intro (And.intro (@info135) (And.intro (@I135s) (@I135b))) (And.intro (@zero135) (And.intro (@grow135) (@Tryz.underlying137))))) (And.intro (And.intro (And.intro (@sz137) (And.intro (@fok137) (@info137))) (And.intro (@I137s) (And.intro (@I137b) (@zero137)))) (And.intro (And.intro (@grow137) (And.intro (@call30) (@call105))) (And.intro (And.intro (@call106) (@call107)) (And.intro (@call108) (@Tryz.results37)))))))
def TF107PrintA := And.intro (And.intro (And.intro (And.intro (@Tryz.underlying5) (And.intro (@sz5) (@dK))) (And.intro (And.intro (@I5s) (@I5b)) (And.intro (@dG) (@dL)))) (And.intro (And.intro (And.intro (@Tryz.underlying134) (@sz134)) (And.intro (@info134) (@I134s))) (And.intro (And.intro (@I134b) (@zero134)) (And.intro (@grow134) (@Tryz.underlying135))))) (And.intro (And.intro (And.intro (@sz135) (And.intro (@info135) (@I135s))) (And.intro (And.intro (@I135b) (@zero135)) (And.intro (@grow135) (@Tryz.underlying137)))) (And.intro (And.intro (And.intro (@sz137) (@fok137)) (And.intro (@info137) (@I137s))) (And.intro (And.intro (@I137b) (@zero137)) (And.intro (@grow137) (@Tryz.results107)))))
def TF108PrintA := And.intro (And.intro (And.intro (And.intro (And.intro (@Tryz.underlying3) (@sz3)) (And.intro (@bN) (And.intro (@I3s) (@I3b)))) (And.intro (And.intro (@bL) (And.intro (@bO) (@Tryz.underlying5))) (And.intro (@sz5) (And.intro (@dK) (@I5s))))) (And.intro (And.intro (And.intro (@I5b) (@dG)) (And.intro (@dL) (And.intro (@Tryz.underlying134) (@sz134)))) (And.intro (And.intro (@info134) (And.intro (@I134s) (@I134b))) (And.intro (@zero134) (And.intro (@grow134) (@Tryz.underlying135)))))) (And.intro (And.intro (And.intro (And.intro (@sz135) (@info135)) (And.intro (@I135s) (And.intro (@I135b) (@zero135)))) (And.intro (And.intro (@grow135) (And.intro (@Tryz.underlying137) (@sz137))) (And.intro (@fok137) (And.intro (@info137) (@I137s))))) (And.intro (And.intro (And.intro (@I137b) (@zero137)) (And.intro (@grow137) (And.intro (@Tryz.underlying169) (@sz169)))) (And.intro (And.intro (@info169) (And.intro (@I169s) (@I169b))) (And.intro (@zero169) (And.intro (@grow169) (@Tryz.results108))))))
set_option maxRecDepth 20000
set_option maxHeartbeats 8000000

/-! the program's text of plays -/
theorem e30 {q : Pl} (hb : plB q = true) (hq : eM q) : F30 [.agg [.str q.p, .str q.e, .bool q.l, .lsl (aZ q.m)]] = some (.tup [.str (printR q.p q.e q.l q.m), .int .i64 (plE0 q)]) := by
  simp only [plB, Bool.and_eq_true] at hb
  simp only [F30, dMoves_e hq.1 hq.2, Option.map_some]; rw [if_pos hb]; rfl
section
variable {K : bP} {n m b : Nat} {l : List (Nat × Option EObj)} {kk : List (Nat × Option (Nat × TypeId))} {k : EVal → H → Prop}
theorem ct107 {bs : List Nat} (hn : n < 16000) (h : Bld b bs n l) (hk : k (.int .i64 (bs.length : Nat)) (mkH n l m kk)) : bS Tryz.prog gT K 107 [.ptr b 0] (mkH n l m kk) k := by
  obtain ⟨hb, h | h⟩ := h
  · obtain ⟨rfl, h1⟩ := h
    unfold bld0 at h1
    refine bS.intro Tryz.func107 rfl ?_
    refine Top.view (aH.start (n := 8) rfl (by simp)) (aD aI _ _ _ _ ?_)
    have hb0 : b < 16000 := by omega
    (try simp only [aG, SS, TF107PrintA, aA, Nat.reduceLT, Nat.reduceEqDiff, reduceCtorEq, hb0, h1])
    exact bX (es := [.int .i64 (([] : List Nat).length : Nat)]) (.inl rfl) rfl (by simp only [SS, TF107PrintA, Nat.reduceLT, Nat.reduceEqDiff, reduceCtorEq]) hk
  · obtain ⟨j, hj, hjb, h1, h2⟩ := h
    unfold bldR at h1
    refine bS.intro Tryz.func107 rfl ?_
    refine Top.view (aH.start (n := 8) rfl (by simp)) (aD aI _ _ _ _ ?_)
    have hb0 : b < 16000 := by omega
    (try simp only [aG, SS, TF107PrintA, aA, Nat.reduceLT, Nat.reduceEqDiff, reduceCtorEq, hb0, h1])
    exact bX (es := [.int .i64 (bs.length : Nat)]) (.inl rfl) rfl (by simp only [SS, TF107PrintA, Nat.reduceLT, Nat.reduceEqDiff, reduceCtorEq]) hk
theorem ct108n (hn : b < n) (hn2 : n < 16000) (h1 : aB l b = some bld0) (hk : ∀ l2, k (.str []) (mkH n l2 m kk)) : bS Tryz.prog gT K 108 [.ptr b 0] (mkH n l m kk) k := by
  unfold bld0 at h1
  refine bS.intro Tryz.func108 rfl ?_
  refine Top.view (aH.start (n := 14) rfl (by simp)) (aD aI _ _ _ _ ?_)
  have hb0 : b < 16000 := by omega
  (try simp only [aG, SS, aA, Nat.reduceLT])
  refine aX (Top.draw mixed aI (by kernel_rfl) ?_)
  (try simp only [SS, TF108PrintA, Nat.reduceLT, Nat.reduceEqDiff, reduceCtorEq, hb0, h1, eUnsafeString])
  refine ⟨by kernel_rfl, ?_⟩
  (try simp only [aG, SS, TF108PrintA, aF, setRange, bQ, aA, aL, bB, aQ, aO, aE, Nat.reduceLT, Nat.reduceEqDiff, Nat.reduceAdd, Nat.reduceMul, Nat.reduceSub, Nat.reduceLeDiff, Nat.reduceBEq, reduceCtorEq])
  exact bX (es := [.str []]) (.inl rfl) rfl (by simp only [SS, TF108PrintA, Nat.reduceLT, Nat.reduceEqDiff, reduceCtorEq]) (hk _)
theorem Bld.grow {bs : List Nat} {o o2 : Option EObj} (h : Bld b bs n l) : Bld b bs (n + 1) ((n, o) :: (n, o2) :: l) := by
  obtain ⟨hb, h | h⟩ := h
  · exact ⟨by omega, .inl ⟨h.1, by rw [aB.eq_2, if_neg (by omega), aB.eq_2, if_neg (by omega)]; exact h.2⟩⟩
  · obtain ⟨j, hj, hjb, h1, h2⟩ := h
    exact ⟨by omega, .inr ⟨j, by omega, hjb, by rw [aB.eq_2, if_neg (by omega), aB.eq_2, if_neg (by omega)]; exact h1, by rw [aB.eq_2, if_neg (by omega), aB.eq_2, if_neg (by omega)]; exact h2⟩⟩
end
def prR (l : List Pl) : EVal := .tup [.str (if chE l = 0 then dZ l else []), .int .i64 (chE l)]
def F37 : List EVal → Option EVal
  | [v] => (dPls v).bind fun l => if l.all plB = true then some (prR l) else none
  | _ => none
theorem fn37 : FnT 37 F37 := by
  refine Fn.intro mixed aI Tryz.func37 rfl [(30, F30)] (by simp only [List.forall_mem_cons]; exact ⟨fn30, fun _ h => by cases h⟩) ?_
  intro args v hF
  unfold F37 at hF
  split at hF
  rotate_left
  · cases hF
  intro Q hV
  have hQ := aS.of hV
  rename_i v
  cases ha : dPls v with
  | none => rw [ha] at hF; cases hF
  | some l =>
  rw [ha] at hF
  simp only [Option.bind_some] at hF
  split at hF
  rotate_left
  · cases hF
  rename_i hc
  cases hF
  obtain ⟨rfl, hlen, hok⟩ := dPls_inv ha
  clear ha
  simp only [List.all_eq_true] at hc
  refine Top.view (aH.mode (n := 0) (m := 0) (l := []) (k := []) 128 (by omega)) ?_
  refine Top.view (aH.start (n := 33) rfl (by simp)) (aD aI _ _ _ _ ?_)
  by_cases hl : 256 < l.length
  · have q1 : decide ((256 : Int) < (l.length : Int)) = true := by simp; omega
    have hE : prR l = .tup [.str [], .int .i64 5] := by simp [prR, chE, hl]
    (try simp only [aG, SS, TF37PrintA, aA, Nat.reduceLT, Nat.reduceEqDiff, reduceCtorEq, bE, q1])
    (refine hQ _ _ _ (aC (by first | exact .inl rfl | exact .inr rfl) ?_); simp only [SS, TF37PrintA, Nat.reduceLT, Nat.reduceEqDiff, reduceCtorEq])
    rw [hE]
  have q1 : decide ((256 : Int) < (l.length : Int)) = false := by simp; omega
  have hch : chE l = checkL l := by simp [chE, hl]
  (try simp only [aG, SS, TF37PrintA, aA, Nat.reduceLT, Nat.reduceEqDiff, reduceCtorEq, bE, q1])
  refine aU (Top.loop (I := fun s : { x : Nat × Nat × List (Nat × Option EObj) // x.1 ≤ l.length ∧ checkL l = checkL (l.drop x.1) ∧ (∀ q ∈ l.take x.1, plE0 q = 0) ∧ x.2.1 ≤ 1 + 3 * x.1 ∧ Bld 0 (dZ (l.take x.1)) x.2.1 x.2.2 ∧ (x.1 = 0 → aB x.2.2 0 = some bld0) } => (mkF 33 [(14, .int .i64 (s.1.1 : Nat)), (13, .int .i64 (l.length : Nat)), (12, .lsl (cX l)), (4, .ptr 0 0)], mkH s.1.2.1 s.1.2.2 128 [])) (μ := fun s => l.length - s.1.1) ⟨(0, 1, _), by simp, by simp, by simp, by simp, ⟨by show 0 < 1; omega, .inl ⟨by simp [dZ], rfl⟩⟩, fun _ => rfl⟩ (aH.sub (by simp [look])) ?_)
  rintro ⟨⟨k, N, lst⟩, hk, hf, hz, hN, B, B0⟩
  dsimp only at hk hf hz hN B B0
  refine aD aI _ _ _ _ ?_
  dsimp only
  have hpl := prAll_len hz
  rw [List.length_take, Nat.min_eq_left hk] at hpl
  by_cases hlt : k < l.length
  rotate_left
  · obtain rfl : k = l.length := by omega
    have q2 : decide ((l.length : Int) < (l.length : Int)) = false := by simp
    rw [List.drop_length] at hf
    have hE : prR l = .tup [.str (dZ l), .int .i64 0] := by
      have : chE l = 0 := hch.trans hf
      simp only [prR, this, if_true]
    rw [List.take_length] at hpl B hz
    have q3 : decide ((1000000 : Int) < ((dZ l).length : Int)) = false := by simp; omega
    (try simp only [SS, TF37PrintA, aA, Nat.reduceLT, Nat.reduceEqDiff, ↓bA, q2])
    refine ct107 (by omega) B ?_
    (try simp only [SS, TF37PrintA, aA, Nat.reduceLT, Nat.reduceEqDiff, ↓bA, q3])
    by_cases hne : dZ l = []
    · rw [hne] at hE
      have hl0 : l = [] := by
        cases l with
        | nil => rfl
        | cons q r => rw [prAll_cons] at hne; simp at hne
      refine ct108n B.1 (by omega) (B0 (by rw [hl0]; rfl)) ?_
      intro l2
      (try simp only [SS, aA, Nat.reduceLT, Nat.reduceEqDiff])
      (refine hQ _ _ _ (aC (by first | exact .inl rfl | exact .inr rfl) ?_); simp only [SS, TF37PrintA, Nat.reduceLT, Nat.reduceEqDiff])
      rw [hE]
    · refine ct108 (prAll_bytes hc hz) hne (by omega) B (by omega) ?_
      intro l2
      (try simp only [SS, aA, Nat.reduceLT, Nat.reduceEqDiff])
      (refine hQ _ _ _ (aC (by first | exact .inl rfl | exact .inr rfl) ?_); simp only [SS, TF37PrintA, Nat.reduceLT, Nat.reduceEqDiff])
      rw [hE]
  obtain ⟨q, hx⟩ : ∃ q, l[k]? = some q := ⟨l[k], List.getElem?_eq_getElem hlt⟩
  have hmem := List.mem_of_getElem? hx
  have hq := hok q hmem
  have h30 := e30 (hc q hmem) hq
  have hcd := checkL_drop hx
  have q1 : decide ((k : Int) < (l.length : Int)) = true := by simp; omega
  have q2 : IntKind.i64.wrap ((k : Int) + 1) = ((k + 1 : Nat) : Int) := by rw [aR] <;> omega
  have htk : l.take (k + 1) = l.take k ++ [q] := by rw [List.take_add_one, hx]; rfl
  have hN0 : N < 16000 := by omega
  obtain ⟨z, hzz⟩ : ∃ z, plE0 q = z := ⟨_, rfl⟩
  rw [show playE q.p q.e q.m = z from hzz] at hcd
  rw [hzz] at h30
  cases hz0 : (z == 0) with
  | false =>
    have hz1 : ¬ z = 0 := by simpa using hz0
    have hE : prR l = .tup [.str [], .int .i64 z] := by
      have : chE l = z := by rw [hch, hf, hcd, if_pos hz1]
      simp only [prR, this, if_neg hz1]
    obtain ⟨t, ht⟩ : ∃ t, printR q.p q.e q.l q.m = t := ⟨_, rfl⟩
    rw [ht] at h30
    (try simp only [SS, TF37PrintA, aF, setRange, aA, Nat.reduceLT, Nat.reduceEqDiff, Nat.reduceAdd, ePls_get, ePl_q, hx, q1, hN0, h30, hz0])
    (refine hQ _ _ _ (aC (by first | exact .inl rfl | exact .inr rfl) ?_); simp only [SS, TF37PrintA, Nat.reduceLT, Nat.reduceEqDiff])
    rw [hE]
  | true =>
    have hz1 : z = 0 := by simpa using hz0
    have hv : plE0 q = 0 := hzz.trans hz1
    have hpr : printR q.p q.e q.l q.m = plStr q := by
      unfold printR; rw [if_pos (show playE q.p q.e q.m = 0 from hv)]; rfl
    rw [hpr] at h30
    obtain ⟨hs1, hs2⟩ := plStr_len hv
    rw [if_neg (by simpa using hz1)] at hcd
    have hz2 : ∀ x ∈ l.take (k + 1), plE0 x = 0 := by
      rw [htk]
      intro x hx
      rcases List.mem_append.1 hx with h | h
      · exact hz x h
      · rw [List.mem_singleton.1 h]; exact hv
    have hps := prAll_snoc (q := q) (l := l.take k)
    rw [← htk] at hps
    (try simp only [SS, TF37PrintA, aF, setRange, aA, Nat.reduceLT, Nat.reduceEqDiff, Nat.reduceAdd, ↓bA, ePls_get, ePl_q, hx, q1, hN0, h30, hz0])
    refine ct105 (s := plStr q) (bs := dZ (l.take k)) (fun _ => rfl) (List.length_pos_iff.1 hs2) (by omega) (B.grow (bs := dZ (l.take k))) (by omega) ?_
    intro l2 B2 S2
    (try simp only [SS, TF37PrintA, aA, Nat.reduceLT, Nat.reduceEqDiff, ↓bA])
    refine ct106 (c := 10) (bs := dZ (l.take k) ++ plStr q) (fun _ => rfl) rfl (by omega) B2 (by rw [List.length_append]; omega) ?_
    intro l3 B3 S3
    rw [← hps] at B3
    (try simp only [SS, aA, Nat.reduceLT, Nat.reduceEqDiff, q2])
    exact ⟨⟨(k + 1, N + 1 + 1 + 1, l3), hlt, hf.trans hcd, hz2, by show N + 1 + 1 + 1 ≤ 1 + 3 * (k + 1); omega, B3, fun h => by cases h⟩, by simp; omega, aH.sub (by simp [look])⟩
theorem e37 {l : List Pl} (hlen : l.length < 9223372036854775808) (hok : ∀ q ∈ l, eM q) (hb : l.all plB = true) : F37 [.lsl (cX l)] = some (prR l) := by
  simp only [F37, dPls_e hlen hok, Option.bind_some]; rw [if_pos hb]
end Go.Ev
