import Derived.Test.YtdhnjbgggkdiiaaGreatDoorPaV
set_option linter.unusedSimpArgs false
set_option linter.unusedVariables false
namespace Go.Ev
open Go.RowKit Go.Proofs
set_option linter.defProp false
def TF35RefPa := And.intro (And.intro (And.intro (And.intro (And.intro (@Tryz.underlying3) (And.intro (@sz3) (@bN))) (And.intro (And.intro (@I3s) (@I3b)) (And.intro (@bL) (@bO)))) (And.intro (And.intro (And.intro (@Tryz.underlying4) (@sz4)) (And.intro (@dC) (@I4s))) (And.intro (And.intro (@I4b) (@cY)) (And.intro (@dD) (@Tryz.underlying9))))) (And.intro (And.intro (And.intro (@sz9) (And.intro (@bI) (@I9s))) (And.intro (And.intro (@I9b) (@bH)) (And.intro (@bJ) (@Tryz.underlying22)))) (And.intro (And.intro (And.intro (@eN) (@dO)) (And.intro (@eO) (@eP))) (And.intro (And.intro (@dH) (@dP)) (And.intro (@Tryz.underlying24) (@sz24)))))) (And.intro (And.intro (And.intro (And.intro (@fok24) (And.intro (@info24) (@I24s))) (And.intro (And.intro (@I24b) (@zero24)) (And.intro (@grow24) (@Tryz.underlying25)))) (And.intro (And.intro (And.intro (@eB) (@cE)) (And.intro (@eC) (@eD))) (And.intro (And.intro (@cC) (@cF)) (And.intro (@Tryz.underlying27) (@eE))))) (And.intro (And.intro (And.intro (@dF) (And.intro (@cJ) (@eF))) (And.intro (And.intro (@eG) (@cH)) (And.intro (@cK) (@Tryz.underlying54)))) (And.intro (And.intro (And.intro (@sz54) (@info54)) (And.intro (@I54s) (@I54b))) (And.intro (And.intro (@zero54) (@grow54)) (And.intro (@call17) (@Tryz.results35))))))
def TF41RefPa := And.intro (And.intro (And.intro (And.intro (And.intro (And.intro (@Tryz.underlying3) (@sz3)) (And.intro (@bN) (@I3s))) (And.intro (And.intro (@I3b) (@bL)) (And.intro (@bO) (And.intro (@Tryz.underlying4) (@sz4))))) (And.intro (And.intro (And.intro (@dC) (@I4s)) (And.intro (@I4b) (@cY))) (And.intro (And.intro (@dD) (@Tryz.underlying5)) (And.intro (@sz5) (And.intro (@dK) (@I5s)))))) (And.intro (And.intro (And.intro (And.intro (@I5b) (@dG)) (And.intro (@dL) (@Tryz.underlying9))) (And.intro (And.intro (@sz9) (@bI)) (And.intro (@I9s) (And.intro (@I9b) (@bH))))) (And.intro (And.intro (And.intro (@bJ) (@Tryz.underlying22)) (And.intro (@eN) (And.intro (@dO) (@eO)))) (And.intro (And.intro (@eP) (@dH)) (And.intro (@dP) (And.intro (@Tryz.underlying24) (@sz24))))))) (And.intro (And.intro (And.intro (And.intro (And.intro (@fok24) (@info24)) (And.intro (@I24s) (@I24b))) (And.intro (And.intro (@zero24) (@grow24)) (And.intro (@Tryz.underlying25) (And.intro (@eB) (@cE))))) (And.intro (And.intro (And.intro (@eC) (@eD)) (And.intro (@cC) (And.intro (@cF) (@Tryz.underlying27)))) (And.intro (And.intro (@eE) (@dF)) (And.intro (@cJ) (And.intro (@eF) (@eG)))))) (And.intro (And.intro (And.intro (And.intro (@cH) (@cK)) (And.intro (@Tryz.underlying54) (@sz54))) (And.intro (And.intro (@info54) (@I54s)) (And.intro (@I54b) (And.intro (@zero54) (@grow54))))) (And.intro (And.intro (And.intro (@Tryz.underlying56) (@sz56)) (And.intro (@info56) (And.intro (@I56s) (@I56b)))) (And.intro (And.intro (@zero56) (@grow56)) (And.intro (@call32) (And.intro (@call36) (@Tryz.results41)))))))
set_option maxRecDepth 20000
set_option maxHeartbeats 8000000

/-! short plays; the reference's reading of a text -/
def shortPl (q : Pl) : Bool := shortB q.p q.e q.m
def shortL (l : List Pl) (n : Int) : Bool := !((decide (n < (l.length : Int)) && decide (l.length ≤ 256)) || decide (258 < l.length)) && l.all shortPl
def F35 : List EVal → Option EVal
  | [v, .int .i64 n] => (dPls v).map fun l => .bool (shortL l n)
  | _ => none
theorem fn35 : FnT 35 F35 := by
  refine Fn.intro mixed aI Tryz.func35 rfl [(17, F17)] (by simp only [List.forall_mem_cons]; exact ⟨fn17, fun _ h => by cases h⟩) ?_
  intro args v hF
  unfold F35 at hF
  split at hF
  rotate_left
  · cases hF
  intro Q hV
  have hQ := aS.of hV
  rename_i v n
  cases ha : dPls v with
  | none => rw [ha] at hF; cases hF
  | some l =>
  rw [ha] at hF
  cases hF
  obtain ⟨rfl, hlen, hok⟩ := dPls_inv ha
  clear ha
  dsimp only at hQ hV
  refine Top.view (aH.start (n := 32) rfl (by simp)) ?_
  refine Top.join (σ := Unit) aI (fun _ => mkF 32 [(0, .lsl (cX l)), (1, .int .i64 n)]) (fun _ => H.start) ?_ ?_
  · intro R hR
    (try simp only [aG, SS, aA, Nat.reduceLT])
    exact hR () _ _ (aH.sub (by simp [look]))
  intro _
  refine Top.joinR (σ := { _u : Unit // shortL l n = l.all shortPl }) aI (fun _ => mkF 32 [(0, .lsl (cX l))]) (fun _ => H.start) ?_ ?_
  · intro R hR hRr
    cases z1 : decide (n < (l.length : Int)) && decide (l.length ≤ 256) || decide (258 < l.length) with
    | true =>
      have hE : shortL l n = false := by unfold shortL; rw [z1]; rfl
      rw [hE] at hQ
      simp only [Bool.or_eq_true, Bool.and_eq_true, decide_eq_true_eq] at z1
      have fin : ∀ f : List (Nat × EVal), look f 4 = some (.bool false) → R .ret (mkF 32 f) H.start := fun f h => hRr _ _ (hQ _ _ _ (aC (.inl rfl) (by simp only [SS, TF35RefPa, Nat.reduceLT, h])))
      by_cases a1 : n < (l.length : Int)
      · have q1 : decide (n < (l.length : Int)) = true := by simpa using a1
        by_cases a2 : l.length ≤ 256
        · have q2 : decide ((l.length : Int) ≤ 256) = true := by simp; omega
          (try simp only [SS, TF35RefPa, aA, Nat.reduceLT, Nat.reduceEqDiff, reduceCtorEq, bE, q1, q2])
          exact fin _ rfl
        · have q2 : decide ((l.length : Int) ≤ 256) = false := by simp; omega
          have q3 : decide ((258 : Int) < (l.length : Int)) = true := by simp; omega
          (try simp only [SS, TF35RefPa, aA, Nat.reduceLT, Nat.reduceEqDiff, reduceCtorEq, bE, q1, q2, q3])
          exact fin _ rfl
      · have q1 : decide (n < (l.length : Int)) = false := by simpa using a1
        have q3 : decide ((258 : Int) < (l.length : Int)) = true := by simp; omega
        (try simp only [SS, TF35RefPa, aA, Nat.reduceLT, Nat.reduceEqDiff, reduceCtorEq, bE, q1, q3])
        exact fin _ rfl
    | false =>
      have hE : shortL l n = l.all shortPl := by unfold shortL; rw [z1]; rfl
      simp only [Bool.or_eq_false_iff, Bool.and_eq_false_iff, decide_eq_false_iff_not] at z1
      have q3 : decide ((258 : Int) < (l.length : Int)) = false := by simp; omega
      by_cases a1 : n < (l.length : Int)
      · have q1 : decide (n < (l.length : Int)) = true := by simpa using a1
        have q2 : decide ((l.length : Int) ≤ 256) = false := by simp; omega
        (try simp only [SS, TF35RefPa, aA, Nat.reduceLT, Nat.reduceEqDiff, reduceCtorEq, bE, q1, q2, q3])
        exact hR ⟨(), hE⟩ _ _ (aH.sub (by simp [look]))
      · have q1 : decide (n < (l.length : Int)) = false := by simpa using a1
        (try simp only [SS, TF35RefPa, aA, Nat.reduceLT, Nat.reduceEqDiff, reduceCtorEq, bE, q1, q3])
        exact hR ⟨(), hE⟩ _ _ (aH.sub (by simp [look]))
  rintro ⟨_, hE⟩
  rw [hE] at hQ
  refine aD aI _ _ _ _ ?_
  (try simp only [SS, aA, Nat.reduceLT])
  refine aU (Top.loop (I := fun s : { k : Nat // k ≤ l.length ∧ l.all shortPl = (l.drop k).all shortPl } => (mkF 32 [(5, .int .i64 (s.1 : Nat)), (0, .lsl (cX l))], H.start)) (μ := fun s => l.length - s.1) ⟨0, by simp, rfl⟩ (aH.sub (by simp [look])) ?_)
  rintro ⟨k, hk, hf⟩
  refine aD aI _ _ _ _ ?_
  by_cases hlt : k < l.length
  rotate_left
  · have q2 : decide ((k : Int) < (l.length : Int)) = false := by simp; omega
    (try simp only [SS, TF35RefPa, aA, Nat.reduceLT, Nat.reduceEqDiff, reduceCtorEq, bE, q2])
    (refine hQ _ _ _ (aC (by first | exact .inl rfl | exact .inr rfl) ?_); simp only [SS, TF35RefPa, Nat.reduceLT, Nat.reduceEqDiff, reduceCtorEq])
    have : l.drop k = [] := List.drop_eq_nil_of_le (by omega)
    rw [hf, this]; rfl
  obtain ⟨q, hx⟩ : ∃ q, l[k]? = some q := ⟨l[k], List.getElem?_eq_getElem hlt⟩
  have hq := hok q (List.mem_of_getElem? hx)
  have h17 : F17 [.agg [.str q.p, .str q.e, .bool q.l, .lsl (aZ q.m)]] = some (.bool (shortPl q)) := by simp only [F17, dMoves_e hq.1 hq.2, Option.map_some]; rfl
  have hd : (l.drop k).all shortPl = (shortPl q && (l.drop (k + 1)).all shortPl) := by
    obtain ⟨hk2, rfl⟩ := List.getElem?_eq_some_iff.1 hx
    rw [List.drop_eq_getElem_cons hk2]; rfl
  have q2 : decide ((k : Int) < (l.length : Int)) = true := by simp; omega
  have w1 : IntKind.i64.wrap ((k : Int) + 1) = ((k + 1 : Nat) : Int) := by rw [aR] <;> omega
  cases hs : shortPl q with
  | false =>
    rw [hs] at h17 hd
    (try simp only [SS, TF35RefPa, aF, aA, Nat.reduceLT, Nat.reduceEqDiff, Nat.reduceAdd, reduceCtorEq, bE, ePls_get, ePl_q, hx, q2, h17])
    (refine hQ _ _ _ (aC (by first | exact .inl rfl | exact .inr rfl) ?_); simp only [SS, TF35RefPa, Nat.reduceLT, Nat.reduceEqDiff, reduceCtorEq])
    rw [hf, hd]; rfl
  | true =>
    rw [hs] at h17 hd
    (try simp only [SS, TF35RefPa, aF, aA, Nat.reduceLT, Nat.reduceEqDiff, Nat.reduceAdd, reduceCtorEq, bE, ePls_get, ePl_q, hx, q2, h17, w1])
    exact ⟨⟨k + 1, hlt, by rw [hf, hd]; rfl⟩, by simp; omega, aH.sub (by simp [look])⟩
theorem e35 {l : List Pl} {n : Int} (hlen : l.length < 9223372036854775808) (hok : ∀ q ∈ l, eM q) : F35 [.lsl (cX l), .int .i64 n] = some (.bool (shortL l n)) := by
  simp only [F35, dPls_e hlen hok, Option.map_some]
def F41 : List EVal → Option EVal
  | [.str s] => if aM s = true ∧ s.length ≤ 5000 then some (paE s) else none
  | _ => none
theorem e41 {s : List Nat} (h : aM s = true) (hl : s.length ≤ 5000) : F41 [.str s] = some (paE s) := by simp only [F41]; rw [if_pos ⟨h, hl⟩]
theorem fn41 : FnT 41 F41 := by
  refine Fn.intro mixed aI Tryz.func41 rfl [(32, F32), (36, F36)] (by simp only [List.forall_mem_cons]; exact ⟨fn32, fn36, fun _ h => by cases h⟩) ?_
  intro args v hF
  unfold F41 at hF
  split at hF
  rotate_left
  · cases hF
  intro Q hV
  have hQ := aS.of hV
  rename_i s
  split at hF
  rotate_left
  · cases hF
  rename_i hc
  obtain ⟨hby, hlen⟩ := hc
  cases hF
  have q1 : decide ((1000000 : Int) < (s.length : Int)) = false := by simp; omega
  obtain ⟨ws, hws⟩ : ∃ ws, ws = aT 10 s := ⟨_, rfl⟩
  have h36 : F36 [.str s, .int .u8 10] = some (.lsl (cZ ws)) := by
    have := e36 (l := s) (c := 10) (by omega) hlen
    rw [← hws] at this
    exact this
  have hsl := split_len (c := 10) s
  have hwb : ∀ w ∈ ws, aM w = true := by rw [hws]; exact split_bytes hby
  have hwl : ∀ w ∈ ws, w.length ≤ 5000 := fun w hw => by
    rw [hws] at hw
    have := lenS_mem hw; have := List.length_pos_of_mem hw; omega
  have hne : 0 < ws.length := by rw [hws]; exact List.length_pos_iff.2 (splitC_ne _)
  have hp : paT s = paG 0 [] ws := by rw [hws]; rfl
  have hwn : ws.length ≤ 5001 := by rw [hws]; omega
  clear hws hsl
  refine Top.view (aH.start (n := 62) rfl (by simp)) (aD aI _ _ _ _ ?_)
  (try simp only [aG, SS, TF41RefPa, aF, aA, Nat.reduceLT, Nat.reduceEqDiff, reduceCtorEq, q1, h36])
  refine aU (Top.loop (I := fun s : { x : Nat × List Pl // x.1 < ws.length ∧ x.2.length = x.1 ∧ x.1 ≤ 256 ∧ paG 0 [] ws = paG x.1 x.2 (ws.drop x.1) } => (mkF 62 [(7, .int .i64 (s.1.1 : Nat)), (6, .lsl (cZ ws)), (5, .gsl 0 (cX s.1.2))], mkH 0 [] 1 [(0, some (s.1.2.length, 24))])) (μ := fun s => ws.length - s.1.1) ⟨(0, []), hne, rfl, by simp, rfl⟩ (aH.trans (aH.grow 5 24 (by omega) (by omega) (by simp [look])) (aH.sub (by simp [look, cX]))) ?_)
  rintro ⟨⟨k, acc⟩, hk, ha, h256, hg⟩
  dsimp only at hk ha h256 hg
  refine aD aI _ _ _ _ ?_
  dsimp only
  obtain ⟨w, hx⟩ : ∃ w, ws[k]? = some w := ⟨ws[k], List.getElem?_eq_getElem hk⟩
  have hmem := List.mem_of_getElem? hx
  have hd : ws.drop k = w :: ws.drop (k + 1) := by
    obtain ⟨hk2, rfl⟩ := List.getElem?_eq_some_iff.1 hx
    exact List.drop_eq_getElem_cons hk2
  rw [hd] at hg
  have q2 : decide ((k : Int) < (ws.length : Int)) = true := by simp; omega
  have q3 : IntKind.i64.wrap ((ws.length : Int) - 1) = ((ws.length - 1 : Nat) : Int) := by rw [aR] <;> omega
  by_cases hlast : k = ws.length - 1
  · have q4 : ((k : Int) == ((ws.length - 1 : Nat) : Int)) = true := by rw [beq_iff_eq]; omega
    have hd0 : ws.drop (k + 1) = [] := List.drop_eq_nil_of_le (by omega)
    rw [hd0] at hg
    by_cases hw : w = []
    · have q5 : decide (w = []) = true := by simp [hw]
      have hE : paE s = .tup [.lsl (cX acc), .int .i64 0, .int .i64 0] := by
        unfold paE; rw [hp, hg]; simp [paG, hw]
      (try simp only [SS, TF41RefPa, aA, Nat.reduceLT, Nat.reduceEqDiff, aY, eStrs_get, hx, q2, q3, q4, q5])
      (refine hQ _ _ _ (aC (by first | exact .inl rfl | exact .inr rfl) ?_); simp only [SS, TF41RefPa, Nat.reduceLT, Nat.reduceEqDiff])
      rw [hE]
    · have q5 : decide (w = []) = false := by simp [hw]
      have hE : paE s = .tup [.lsl [], .int .i64 (k : Nat), .int .i64 25] := by
        unfold paE; rw [hp, hg]; simp [paG, hw, cX]
      (try simp only [SS, TF41RefPa, aA, Nat.reduceLT, Nat.reduceEqDiff, aY, eStrs_get, hx, q2, q3, q4, q5])
      (refine hQ _ _ _ (aC (by first | exact .inl rfl | exact .inr rfl) ?_); simp only [SS, TF41RefPa, Nat.reduceLT, Nat.reduceEqDiff])
      rw [hE]
  have q4 : ((k : Int) == ((ws.length - 1 : Nat) : Int)) = false := by rw [beq_eq_false_iff_ne]; omega
  rw [paG_more (by intro h; have := congrArg List.length h; simp at this; omega)] at hg
  by_cases h5 : 256 ≤ k
  · have q5 : decide ((256 : Int) ≤ (k : Int)) = true := by simp; omega
    rw [if_pos h5] at hg
    have hE : paE s = .tup [.lsl [], .int .i64 (k : Nat), .int .i64 5] := by
      unfold paE; rw [hp, hg]; rfl
    (try simp only [SS, TF41RefPa, aA, Nat.reduceLT, Nat.reduceEqDiff, aY, q2, q3, q4, q5])
    (refine hQ _ _ _ (aC (by first | exact .inl rfl | exact .inr rfl) ?_); simp only [SS, TF41RefPa, Nat.reduceLT, Nat.reduceEqDiff])
    rw [hE]
  have q5 : decide ((256 : Int) ≤ (k : Int)) = false := by simp; omega
  rw [if_neg h5] at hg
  have h32 := e32 (hwb w hmem) (hwl w hmem)
  unfold parseE plE at h32
  obtain ⟨G, hG⟩ : ∃ G, G = (cI w).1 := ⟨_, rfl⟩
  obtain ⟨a1, ha1⟩ : ∃ a1 : Int, a1 = (((cI w).2.1 : Nat) : Int) := ⟨_, rfl⟩
  obtain ⟨a2, ha2⟩ : ∃ a2, a2 = (cI w).2.2 := ⟨_, rfl⟩
  rw [← hG, ← ha1, ← ha2] at h32
  rw [← hG, ← ha2] at hg
  cases y : (a2 == 0) with
  | false =>
    have y1 : a2 ≠ 0 := by simpa using y
    rw [if_pos y1] at hg
    have hE : paE s = .tup [.lsl [], .int .i64 (k : Nat), .int .i64 a2] := by
      unfold paE; rw [hp, hg]; rfl
    (try simp only [SS, TF41RefPa, aF, setRange, aA, Nat.reduceLT, Nat.reduceEqDiff, Nat.reduceAdd, aY, eStrs_get, hx, q2, q3, q4, q5, h32, y])
    (refine hQ _ _ _ (aC (by first | exact .inl rfl | exact .inr rfl) ?_); simp only [SS, TF41RefPa, Nat.reduceLT, Nat.reduceEqDiff])
    rw [hE]
  | true =>
    have y1 : a2 = 0 := by simpa using y
    rw [if_neg (by simpa using y1)] at hg
    have q6 : IntKind.i64.wrap ((k : Int) + 1) = ((k + 1 : Nat) : Int) := by rw [aR] <;> omega
    have q7 : 64 * (acc.length + 1) ≤ 1000000 := by omega
    have hl2 : (acc ++ [G]).length = k + 1 := by simp [ha]
    (try simp only [SS, TF41RefPa, aF, setRange, bQ, aA, aE, Nat.reduceLT, Nat.reduceEqDiff, Nat.reduceAdd, Nat.reduceMul, Nat.reduceLeDiff, reduceCtorEq, aY, eStrs_get, hx, q2, q3, q4, q5, h32, y, q6, q7, bE, lensOK_ePls, ePls_snoc])
    refine ⟨⟨(k + 1, acc ++ [G]), by show k + 1 < ws.length; omega, hl2, by show k + 1 ≤ 256; omega, hg⟩, by show ws.length - (k + 1) < ws.length - k; omega, ?_⟩
    exact aH.drop (by simp [look, below]) (by simp [aB]) (by simp [aB])
end Go.Ev
