import Derived.Test.YtdhnjbgggkdiiaaGreatDoorPrAll
import Derived.Test.YtdhnjbgggkdiiaaGreatDoorPaV
import Derived.Test.YtdhnjbgggkdiiaaGreatDoorPrintA
import Derived.Test.YtdhnjbgggkdiiaaGreatDoorPaAll
import Derived.Test.YtdhnjbgggkdiiaaGreatDoorAwake
set_option linter.unusedSimpArgs false
set_option linter.unusedVariables false
namespace Go.Ev
open Go.RowKit Go.Proofs
set_option maxRecDepth 20000
set_option maxHeartbeats 8000000

/-! the text of valid plays, read again -/
theorem split_all : ∀ {l : List Pl}, (∀ q ∈ l, eY q = 0) → bI 10 (prAll l) = l.map dA ++ [[]]
  | [], _ => rfl
  | q :: l, h => by
    rw [prAll_cons, splitC_cut (plStr_10 (h q List.mem_cons_self)), split_all fun x hx => h x (List.mem_cons_of_mem _ hx)]; rfl
theorem back1 {q : Pl} (h : eY q = 0) : cK (dA q) = (q, 0, 0) := back h
theorem paG_back : ∀ {l : List Pl} {n : Nat} {acc : List Pl}, n + l.length ≤ 256 → (∀ q ∈ l, eY q = 0) → paG n acc (l.map dA ++ [[]]) = (acc ++ l, 0, 0)
  | [], n, acc, _, _ => by simp [paG]
  | q :: l, n, acc, hn, h => by
    have ih := paG_back (l := l) (n := n + 1) (acc := acc ++ [q]) (by simp at hn; omega) fun x hx => h x (List.mem_cons_of_mem _ hx)
    rw [List.map_cons, List.cons_append, paG_more (by simp), back1 (h q List.mem_cons_self), if_neg (by simp at hn; omega), if_neg (by simp), ih]
    simp
theorem paT_back {l : List Pl} (hl : l.length ≤ 256) (h : ∀ q ∈ l, eY q = 0) : paT (prAll l) = (l, 0, 0) := by
  unfold paT
  rw [split_all h, paG_back (by omega) h]; rfl
theorem samePl_iff {a b : Pl} : samePl a b = true ↔ a = b := by
  obtain ⟨p, e, l, m⟩ := a
  obtain ⟨p2, e2, l2, m2⟩ := b
  simp [samePl, sameP, sameL_iff]
theorem plStr_inj {a b : Pl} (h : eY a = 0) (h2 : eY b = 0) : (dA a = dA b) ↔ a = b := by
  constructor
  · intro hs
    have h3 := back1 h
    rw [hs, back1 h2] at h3
    exact (congrArg Prod.fst h3).symm
  · rintro rfl; rfl
theorem cut_no {q : Pl} (h : eY q = 0) (h2 : (cK ((dA q).take ((dA q).length - 1))).2.2 = 0) : samePl (cK ((dA q).take ((dA q).length - 1))).1 q = false := by
  cases hs : samePl (cK ((dA q).take ((dA q).length - 1))).1 q with
  | false => rfl
  | true =>
    have h3 := forth h2
    rw [samePl_iff.1 hs] at h3
    have h4 := congrArg List.length h3
    have h5 := plStr_len h
    rw [List.length_take] at h4
    unfold dA at h4 h5
    omega
end Go.Ev
namespace Go.Ev
open Go.RowKit Go.Proofs
set_option linter.defProp false
def bB := And.intro (And.intro (And.intro (And.intro (And.intro (And.intro (@Tryz.underlying3) (@sz3)) (And.intro (@cE) (And.intro (@I3s) (@I3b)))) (And.intro (And.intro (@cA) (And.intro (@cF) (@Tryz.underlying4))) (And.intro (@sz4) (And.intro (@eA) (@I4s))))) (And.intro (And.intro (And.intro (@I4b) (And.intro (@dW) (@eB))) (And.intro (@Tryz.underlying5) (And.intro (@sz5) (@eF)))) (And.intro (And.intro (@I5s) (And.intro (@I5b) (@dY))) (And.intro (@eG) (And.intro (@Tryz.underlying9) (@sz9)))))) (And.intro (And.intro (And.intro (And.intro (@cB) (@I9s)) (And.intro (@I9b) (And.intro (@bY) (@cC)))) (And.intro (And.intro (@Tryz.underlying22) (And.intro (@sz22) (@info22))) (And.intro (@I22s) (And.intro (@I22b) (@zero22))))) (And.intro (And.intro (And.intro (@grow22) (And.intro (@Tryz.underlying24) (@sz24))) (And.intro (@fok24) (And.intro (@info24) (@I24s)))) (And.intro (And.intro (@I24b) (And.intro (@zero24) (@grow24))) (And.intro (@Tryz.underlying25) (And.intro (@eO) (@dE))))))) (And.intro (And.intro (And.intro (And.intro (And.intro (@eQ) (@eR)) (And.intro (@dC) (And.intro (@dF) (@Tryz.underlying27)))) (And.intro (And.intro (@eS) (And.intro (@eH) (@dL))) (And.intro (@eU) (And.intro (@eV) (@dH))))) (And.intro (And.intro (And.intro (@dM) (And.intro (@Tryz.underlying30) (@sz30))) (And.intro (@info30) (And.intro (@I30s) (@I30b)))) (And.intro (And.intro (@zero30) (And.intro (@grow30) (@Tryz.underlying54))) (And.intro (@sz54) (And.intro (@info54) (@I54s)))))) (And.intro (And.intro (And.intro (And.intro (@I54b) (@zero54)) (And.intro (@grow54) (And.intro (@Tryz.underlying56) (@sz56)))) (And.intro (And.intro (@info56) (And.intro (@I56s) (@I56b))) (And.intro (@zero56) (And.intro (@grow56) (@call16))))) (And.intro (And.intro (And.intro (@call19) (And.intro (@call20) (@call30))) (And.intro (@call31) (And.intro (@call34) (@call36)))) (And.intro (And.intro (@call37) (And.intro (@call38) (@call39))) (And.intro (@call40) (And.intro (@call43) (@Tryz.results11)))))))
set_option maxRecDepth 20000
set_option maxHeartbeats 8000000

def F11 : List EVal → Option EVal
  | [.agg [.str p, .str e, .bool _, ms], .agg [.str p2, .str e2, .bool _, ms2], v] => match dS ms, dS ms2, dPls v with
    | some _, some _, some L => if ((aZ p = true ∧ aZ e = true) ∧ aZ p2 = true ∧ aZ e2 = true) ∧ L.all plB = true then some (.bool true) else none
    | _, _, _ => none
  | _ => none
theorem e30z {q : Pl} (hb : plB q = true) (hq : eZ q) (h : eY q = 0) : F30 [.agg [.str q.p, .str q.e, .bool q.l, .lsl (bG q.m)]] = some (.tup [.str (dA q), .int .i64 0]) := by
  have h1 := e30 hb hq
  rw [h] at h1
  rw [h1]
  unfold printR
  rw [if_pos (show playE q.p q.e q.m = 0 from h)]; rfl
theorem valid_copy {q : Pl} (h : eY q = 0) : copyOK q.m = true := by
  obtain ⟨h4, h5⟩ := movesE_zero (playE_zero h).2.2
  simp only [copyOK, Bool.and_eq_true, decide_eq_true_eq, List.all_eq_true]
  exact ⟨by omega, fun m hm => by have := mvE_short (h5 m hm); omega⟩
theorem fn11 : FnT 11 F11 := by
  refine Fn.intro mixed aV Tryz.func11 rfl [(16, F16), (19, F19), (20, F20), (30, F30), (31, F31), (34, F34), (36, F36), (37, F37), (38, F38), (39, F39), (40, F40), (43, F43)] (by simp only [List.forall_mem_cons]; exact ⟨fn16, fn19, fn20, fn30, fn31, fn34, fn36, fn37, fn38, fn39, fn40, fn43, fun _ h => by cases h⟩) ?_
  intro args v hF
  unfold F11 at hF
  split at hF
  rotate_left
  · cases hF
  intro Q hV
  have hQ := bM.of hV
  rename_i p e late ms p2 e2 late2 ms2 v
  split at hF
  rotate_left
  · cases hF
  rename_i l l2 L ha ha2 hv
  split at hF
  rotate_left
  · cases hF
  rename_i hc
  obtain ⟨⟨hb, hb2⟩, hbL⟩ := hc
  cases hF
  obtain ⟨rfl, hlen, hok⟩ := dMoves_inv ha
  obtain ⟨rfl, hlen2, hok2⟩ := dMoves_inv ha2
  obtain ⟨rfl, hlenL, hokL⟩ := dPls_inv hv
  clear ha ha2 hv
  obtain ⟨q, hq⟩ : ∃ q : Pl, q = ⟨p, e, late, l⟩ := ⟨_, rfl⟩
  obtain ⟨o, ho⟩ : ∃ q : Pl, q = ⟨p2, e2, late2, l2⟩ := ⟨_, rfl⟩
  have okq : eZ q := by rw [hq]; exact ⟨hlen, hok⟩
  have oko : eZ o := by rw [ho]; exact ⟨hlen2, hok2⟩
  have bq : plB q = true := by rw [hq]; simp [plB, hb]
  have bo : plB o = true := by rw [ho]; simp [plB, hb2]
  rw [show p = q.p by rw [hq], show e = q.e by rw [hq], show late = q.l by rw [hq], show l = q.m by rw [hq], show p2 = o.p by rw [ho], show e2 = o.e by rw [ho], show late2 = o.l by rw [ho], show l2 = o.m by rw [ho]]
  clear hq ho hb hb2 hok hok2 hlen hlen2
  have h16 := e16
  have h20 : ∀ x : Pl, eZ x → F20 [.agg [.str x.p, .str x.e, .bool x.l, .lsl (bG x.m)]] = some (.int .i64 (eY x)) := fun x hx => by simp only [F20, dMoves_e hx.1 hx.2, Option.map_some]; rfl
  have h20q := h20 q okq
  have h20o := h20 o oko
  have h40 : F40 [.lsl (dQ L)] = some (.int .i64 (chE L)) := by simp only [F40, dPls_e hlenL hokL, Option.map_some]
  clear h20
  refine Top.view (aT.start (n := 180) rfl (by simp)) ?_
  refine Top.join (σ := Unit) aV (fun _ => mkF 180 [(3, .ptr 0 0), (4, .ptr 1 0), (2, .lsl (dQ L))]) (fun _ => mkH 2 [(1, some (.row [.str o.p, .str o.e, .bool o.l, .lsl (bG o.m)] 24 0 0 false)), (0, some (.row [.str q.p, .str q.e, .bool q.l, .lsl (bG q.m)] 24 0 0 false))] 0 []) ?_ ?_
  · intro R hR
    ((try simp only [aO, SS, bB, aM, setRange, aN, aC, aB, aF, aE, aD, aA, Nat.reduceLT, Nat.reduceEqDiff, Nat.reduceAdd, Nat.reduceMul, Nat.reduceSub, Nat.reduceLeDiff, Nat.reduceBEq, reduceCtorEq]); (repeat' ((first | apply aJ | apply aI | apply aL | apply aK | apply aH | apply aG) <;> intro h <;> simp only [h, SS, bB, aM, setRange, aN, aC, aB, aF, aE, aD, aA, Nat.reduceLT, Nat.reduceEqDiff, Nat.reduceAdd, Nat.reduceMul, Nat.reduceSub, Nat.reduceLeDiff, Nat.reduceBEq, reduceCtorEq])))
    exact hR () _ _ (aT.drop (by simp [look, below, aX]) (by simp [aP, bT, below, aX, bA]) (by simp [aP]))
  intro _
  obtain ⟨z1, hz1⟩ : ∃ z, eY q = z := ⟨_, rfl⟩
  obtain ⟨z2, hz2⟩ : ∃ z, eY o = z := ⟨_, rfl⟩
  obtain ⟨z3, hz3⟩ : ∃ z, chE L = z := ⟨_, rfl⟩
  rw [hz1] at h20q
  rw [hz2] at h20o
  rw [hz3] at h40
  refine Top.joinR (σ := { _u : Unit // z1 = 0 ∧ z2 = 0 ∧ z3 = 0 ∧ L.length ≤ 8 }) aV (fun _ => mkF 180 [(3, .ptr 0 0), (4, .ptr 1 0), (2, .lsl (dQ L))]) (fun _ => mkH 2 [(1, some (.row [.str o.p, .str o.e, .bool o.l, .lsl (bG o.m)] 24 0 0 false)), (0, some (.row [.str q.p, .str q.e, .bool q.l, .lsl (bG q.m)] 24 0 0 false))] 0 []) ?_ ?_
  · intro R hR hRr
    cases y1 : (z1 == 0) with
    | false =>
      ((try simp only [aO, SS, bB, aM, setRange, aN, aC, aB, aF, aE, aD, aA, Nat.reduceLT, Nat.reduceEqDiff, Nat.reduceAdd, Nat.reduceMul, Nat.reduceSub, Nat.reduceLeDiff, Nat.reduceBEq, reduceCtorEq, h16, h20q, y1]); (repeat' ((first | apply aJ | apply aI | apply aL | apply aK | apply aH | apply aG) <;> intro h <;> simp only [h, SS, bB, aM, setRange, aN, aC, aB, aF, aE, aD, aA, Nat.reduceLT, Nat.reduceEqDiff, Nat.reduceAdd, Nat.reduceMul, Nat.reduceSub, Nat.reduceLeDiff, Nat.reduceBEq, reduceCtorEq, h16, h20q, y1])))
      refine hRr _ _ (hQ _ _ _ (aQ (.inl rfl) ?_))
      simp only [SS, bB, aM, setRange, aN, aC, aB, aF, aE, aD, aA, Nat.reduceLT, Nat.reduceEqDiff, Nat.reduceAdd, Nat.reduceMul, Nat.reduceSub, Nat.reduceLeDiff, Nat.reduceBEq, reduceCtorEq]
    | true =>
    cases y2 : (z2 == 0) with
    | false =>
      ((try simp only [aO, SS, bB, aM, setRange, aN, aC, aB, aF, aE, aD, aA, Nat.reduceLT, Nat.reduceEqDiff, Nat.reduceAdd, Nat.reduceMul, Nat.reduceSub, Nat.reduceLeDiff, Nat.reduceBEq, reduceCtorEq, h16, h20q, y1, h20o, y2]); (repeat' ((first | apply aJ | apply aI | apply aL | apply aK | apply aH | apply aG) <;> intro h <;> simp only [h, SS, bB, aM, setRange, aN, aC, aB, aF, aE, aD, aA, Nat.reduceLT, Nat.reduceEqDiff, Nat.reduceAdd, Nat.reduceMul, Nat.reduceSub, Nat.reduceLeDiff, Nat.reduceBEq, reduceCtorEq, h16, h20q, y1, h20o, y2])))
      refine hRr _ _ (hQ _ _ _ (aQ (.inl rfl) ?_))
      simp only [SS, bB, aM, setRange, aN, aC, aB, aF, aE, aD, aA, Nat.reduceLT, Nat.reduceEqDiff, Nat.reduceAdd, Nat.reduceMul, Nat.reduceSub, Nat.reduceLeDiff, Nat.reduceBEq, reduceCtorEq]
    | true =>
    by_cases h8 : 8 < L.length
    · have q8 : decide ((8 : Int) < (L.length : Int)) = true := by simp; omega
      ((try simp only [aO, SS, bB, aM, setRange, aN, aC, aB, aF, aE, aD, aA, Nat.reduceLT, Nat.reduceEqDiff, Nat.reduceAdd, Nat.reduceMul, Nat.reduceSub, Nat.reduceLeDiff, Nat.reduceBEq, reduceCtorEq, h16, h20q, y1, h20o, y2, bH, q8]); (repeat' ((first | apply aJ | apply aI | apply aL | apply aK | apply aH | apply aG) <;> intro h <;> simp only [h, SS, bB, aM, setRange, aN, aC, aB, aF, aE, aD, aA, Nat.reduceLT, Nat.reduceEqDiff, Nat.reduceAdd, Nat.reduceMul, Nat.reduceSub, Nat.reduceLeDiff, Nat.reduceBEq, reduceCtorEq, h16, h20q, y1, h20o, y2, bH, q8])))
      refine hRr _ _ (hQ _ _ _ (aQ (.inl rfl) ?_))
      simp only [SS, bB, aM, setRange, aN, aC, aB, aF, aE, aD, aA, Nat.reduceLT, Nat.reduceEqDiff, Nat.reduceAdd, Nat.reduceMul, Nat.reduceSub, Nat.reduceLeDiff, Nat.reduceBEq, reduceCtorEq]
    have q8 : decide ((8 : Int) < (L.length : Int)) = false := by simp; omega
    cases y3 : (z3 == 0) with
    | false =>
      ((try simp only [aO, SS, bB, aM, setRange, aN, aC, aB, aF, aE, aD, aA, Nat.reduceLT, Nat.reduceEqDiff, Nat.reduceAdd, Nat.reduceMul, Nat.reduceSub, Nat.reduceLeDiff, Nat.reduceBEq, reduceCtorEq, h16, h20q, y1, h20o, y2, bH, q8, h40, y3]); (repeat' ((first | apply aJ | apply aI | apply aL | apply aK | apply aH | apply aG) <;> intro h <;> simp only [h, SS, bB, aM, setRange, aN, aC, aB, aF, aE, aD, aA, Nat.reduceLT, Nat.reduceEqDiff, Nat.reduceAdd, Nat.reduceMul, Nat.reduceSub, Nat.reduceLeDiff, Nat.reduceBEq, reduceCtorEq, h16, h20q, y1, h20o, y2, bH, q8, h40, y3])))
      refine hRr _ _ (hQ _ _ _ (aQ (.inl rfl) ?_))
      simp only [SS, bB, aM, setRange, aN, aC, aB, aF, aE, aD, aA, Nat.reduceLT, Nat.reduceEqDiff, Nat.reduceAdd, Nat.reduceMul, Nat.reduceSub, Nat.reduceLeDiff, Nat.reduceBEq, reduceCtorEq]
    | true =>
      ((try simp only [aO, SS, bB, aM, setRange, aN, aC, aB, aF, aE, aD, aA, Nat.reduceLT, Nat.reduceEqDiff, Nat.reduceAdd, Nat.reduceMul, Nat.reduceSub, Nat.reduceLeDiff, Nat.reduceBEq, reduceCtorEq, h16, h20q, y1, h20o, y2, bH, q8, h40, y3]); (repeat' ((first | apply aJ | apply aI | apply aL | apply aK | apply aH | apply aG) <;> intro h <;> simp only [h, SS, bB, aM, setRange, aN, aC, aB, aF, aE, aD, aA, Nat.reduceLT, Nat.reduceEqDiff, Nat.reduceAdd, Nat.reduceMul, Nat.reduceSub, Nat.reduceLeDiff, Nat.reduceBEq, reduceCtorEq, h16, h20q, y1, h20o, y2, bH, q8, h40, y3])))
      exact hR ⟨(), by simpa using y1, by simpa using y2, by simpa using y3, by omega⟩ _ _ (aT.drop (by simp [look, below, aX]) (by simp [aP, bT, below, aX, bA]) (by simp [aP]))
  rintro ⟨_, y1, y2, y3, h8⟩
  have vq : eY q = 0 := hz1.trans y1
  have vo : eY o = 0 := hz2.trans y2
  have vL := chE_zero (hz3.trans y3)
  clear h20q h20o h40 hz1 hz2 hz3 y1 y2 y3
  have h19q := e19 (p := q.p) (e := q.e) (late := q.l) okq.1 okq.2 (valid_copy vq)
  have h19o := e19 (p := o.p) (e := o.e) (late := o.l) oko.1 oko.2 (valid_copy vo)
  have h30q := e30z bq okq vq
  have h30o := e30z bo oko vo
  have hinj := plStr_inj vq vo
  obtain ⟨sl, sp⟩ := plStr_len vq
  have sb := plStr_bytes bq vq
  have h31 : F31 [.str (dA q)] = some (.tup [.agg [.str q.p, .str q.e, .bool q.l, .lsl (bG q.m)], .int .i64 0, .int .i64 0]) := by
    rw [e31 sb (by omega)]
    unfold parseE
    rw [back1 vq]; rfl
  have h34q := e34 okq okq
  rw [samePl_rfl] at h34q
  have h34o := e34 okq oko
  have h36 : F36 [.str (dA q), .int .u8 32] = some (.lsl (dX (cI q.p q.e q.l q.m))) := by
    have := e36 (l := dA q) (c := 32) (by omega) (by omega)
    rw [show bI 32 (dA q) = cI q.p q.e q.l q.m from split_play vq] at this
    exact this
  have hwc := words_count (p := q.p) (e := q.e) (late := q.l) (l := q.m)
  have hm4 := (movesE_zero (playE_zero vq).2.2).1
  -- without its last byte
  obtain ⟨c, hc⟩ : ∃ c, c = (dA q).take ((dA q).length - 1) := ⟨_, rfl⟩
  have cb : aZ c = true := by rw [hc]; exact bytesB_take sb
  have cl : c.length ≤ 5000 := by rw [hc, List.length_take]; omega
  have h31c := e31 cb cl
  have hcut : (cK c).2.2 = 0 → samePl (cK c).1 q = false := by rw [hc]; exact cut_no vq
  have okc := parsePl_ok cl
  unfold parseE plE at h31c
  obtain ⟨G, hG⟩ : ∃ G, G = (cK c).1 := ⟨_, rfl⟩
  obtain ⟨a1, ha1⟩ : ∃ a1 : Int, a1 = (((cK c).2.1 : Nat) : Int) := ⟨_, rfl⟩
  obtain ⟨a2, ha2⟩ : ∃ a2, a2 = (cK c).2.2 := ⟨_, rfl⟩
  rw [← hG, ← ha1, ← ha2] at h31c
  rw [← hG, ← ha2] at hcut
  rw [← hG] at okc
  have h34c := e34 okc okq
  have w1 : IntKind.i64.wrap (((dA q).length : Int) - 1) = (((dA q).length - 1 : Nat) : Int) := by rw [bN] <;> omega
  have b1 : ((((dA q).length - 1 : Nat) : Int) ≤ ((dA q).length : Int)) = True := by simp only [eq_iff_iff, iff_true]; omega
  have w2 : IntKind.i64.wrap ((2 : Int) + (q.m.length : Int)) = ((2 + q.m.length : Nat) : Int) := by rw [bN] <;> omega
  have w3 : IntKind.i64.wrap (((2 + q.m.length : Nat) : Int) + 1) = ((2 + q.m.length + 1 : Nat) : Int) := by rw [bN] <;> omega
  -- the list
  have h38 := e38 hlenL hokL (by
    simp only [copyL, Bool.and_eq_true, decide_eq_true_eq, List.all_eq_true]
    exact ⟨by omega, fun x hx => valid_copy (vL.2 x hx)⟩)
  have h37 := e37 hlenL hokL hbL
  have htl := prAll_len vL.2
  have htb := prAll_bytes (List.all_eq_true.1 hbL) vL.2
  have hch : chE L = 0 := by
    unfold chE; rw [if_neg (by omega)]
    have : ∀ l : List Pl, (∀ x ∈ l, eY x = 0) → checkL l = 0 := by
      intro l
      induction l with
      | nil => intro _; rfl
      | cons x l ih =>
        intro h
        unfold checkL
        rw [if_neg (by simpa using show playE x.p x.e x.m = 0 from h x List.mem_cons_self)]
        exact ih fun y hy => h y (List.mem_cons_of_mem _ hy)
    exact this L vL.2
  unfold prR at h37
  rw [hch, if_pos rfl] at h37
  have h39 := e39 htb (by omega)
  unfold paE at h39
  rw [paT_back vL.1 vL.2] at h39
  have h43 := e43 hlenL hokL hlenL hokL
  rw [samePls_rfl] at h43
  have h36t : F36 [.str (prAll L), .int .u8 10] = some (.lsl (dX (L.map dA ++ [[]]))) := by
    have := e36 (l := prAll L) (c := 10) (by omega) (by omega)
    rw [split_all vL.2] at this
    exact this
  have hsl : (L.map dA ++ [[]]).length = L.length + 1 := by simp
  have w4 : IntKind.i64.wrap ((L.length : Int) + 1) = ((L.length + 1 : Nat) : Int) := by rw [bN] <;> omega
  have z0 : ((0 : Int) == 0) = true := rfl
  have qs : decide (dA q = dA q) = true := by simp
  have qd : decide (dA q = dA o) = samePl q o := by
    rw [Bool.eq_iff_iff, decide_eq_true_eq, samePl_iff]; exact hinj
  have qn : (((dA q).length : Int) == 0) = false := by rw [beq_eq_false_iff_ne]; omega
  have hcs := hc.symm
  obtain ⟨s, hs⟩ : ∃ s, s = dA q := ⟨_, rfl⟩
  obtain ⟨t, ht⟩ : ∃ t, t = dA o := ⟨_, rfl⟩
  obtain ⟨W, hW⟩ : ∃ W, W = cI q.p q.e q.l q.m := ⟨_, rfl⟩
  obtain ⟨T, hT⟩ : ∃ T, T = prAll L := ⟨_, rfl⟩
  rw [← hs] at h30q h31 h36 w1 b1 qs qd qn hcs
  rw [← ht] at h30o qd
  rw [← hW] at h36 hwc
  rw [← hT] at h37 h39 h36t
  obtain ⟨d, hd⟩ : ∃ d, d = samePl q o := ⟨_, rfl⟩
  rw [← hd] at qd h34o
  have dd : (d == d) = true := by simp
  clear hs ht hW hT hinj sl sp sb htl htb hc cb cl hch hd
  refine Top.join (σ := Unit) aV (fun _ => mkF 180 [(3, .ptr 0 0), (4, .ptr 1 0), (2, .lsl (dQ L)), (7, .str s), (8, .int .i64 0)]) (fun _ => mkH 2 [(1, some (.row [.str o.p, .str o.e, .bool o.l, .lsl (bG o.m)] 24 0 0 false)), (0, some (.row [.str q.p, .str q.e, .bool q.l, .lsl (bG q.m)] 24 0 0 false))] 0 []) ?_ ?_
  · intro R hR
    ((try simp only [aO, SS, bB, aM, setRange, aN, aC, aB, aF, aE, aD, aA, Nat.reduceLT, Nat.reduceEqDiff, Nat.reduceAdd, Nat.reduceMul, Nat.reduceSub, Nat.reduceLeDiff, Nat.reduceBEq, reduceCtorEq, h19q, h30q]); (repeat' ((first | apply aJ | apply aI | apply aL | apply aK | apply aH | apply aG) <;> intro h <;> simp only [h, SS, bB, aM, setRange, aN, aC, aB, aF, aE, aD, aA, Nat.reduceLT, Nat.reduceEqDiff, Nat.reduceAdd, Nat.reduceMul, Nat.reduceSub, Nat.reduceLeDiff, Nat.reduceBEq, reduceCtorEq, h19q, h30q])))
    exact hR () _ _ (aT.drop (by simp [look, below, aX]) (by simp [aP, bT, below, aX, bA]) (by simp [aP]))
  intro _
  refine Top.join (σ := Unit) aV (fun _ => mkF 180 [(3, .ptr 0 0), (4, .ptr 1 0), (2, .lsl (dQ L)), (7, .str s), (8, .int .i64 0), (9, .ptr 2 0), (10, .int .i64 0), (11, .int .i64 0)]) (fun _ => mkH 3 [(2, some (.row [.str q.p, .str q.e, .bool q.l, .lsl (bG q.m)] 24 0 0 false)), (1, some (.row [.str o.p, .str o.e, .bool o.l, .lsl (bG o.m)] 24 0 0 false)), (0, some (.row [.str q.p, .str q.e, .bool q.l, .lsl (bG q.m)] 24 0 0 false))] 0 []) ?_ ?_
  · intro R hR
    ((try simp only [aO, SS, bB, aM, setRange, aN, aC, aB, aF, aE, aD, aA, Nat.reduceLT, Nat.reduceEqDiff, Nat.reduceAdd, Nat.reduceMul, Nat.reduceSub, Nat.reduceLeDiff, Nat.reduceBEq, reduceCtorEq, h31]); (repeat' ((first | apply aJ | apply aI | apply aL | apply aK | apply aH | apply aG) <;> intro h <;> simp only [h, SS, bB, aM, setRange, aN, aC, aB, aF, aE, aD, aA, Nat.reduceLT, Nat.reduceEqDiff, Nat.reduceAdd, Nat.reduceMul, Nat.reduceSub, Nat.reduceLeDiff, Nat.reduceBEq, reduceCtorEq, h31])))
    exact hR () _ _ (aT.drop (by simp [look, below, aX]) (by simp [aP, bT, below, aX, bA]) (by simp [aP]))
  intro _
  refine Top.join (σ := Unit) aV (fun _ => mkF 180 [(3, .ptr 0 0), (4, .ptr 1 0), (2, .lsl (dQ L)), (7, .str s), (8, .int .i64 0), (9, .ptr 2 0), (10, .int .i64 0), (11, .int .i64 0), (12, .str t), (13, .int .i64 0)]) (fun _ => mkH 3 [(2, some (.row [.str q.p, .str q.e, .bool q.l, .lsl (bG q.m)] 24 0 0 false)), (1, some (.row [.str o.p, .str o.e, .bool o.l, .lsl (bG o.m)] 24 0 0 false)), (0, some (.row [.str q.p, .str q.e, .bool q.l, .lsl (bG q.m)] 24 0 0 false))] 0 []) ?_ ?_
  · intro R hR
    ((try simp only [aO, SS, bB, aM, setRange, aN, aC, aB, aF, aE, aD, aA, Nat.reduceLT, Nat.reduceEqDiff, Nat.reduceAdd, Nat.reduceMul, Nat.reduceSub, Nat.reduceLeDiff, Nat.reduceBEq, reduceCtorEq, h19o, h30o]); (repeat' ((first | apply aJ | apply aI | apply aL | apply aK | apply aH | apply aG) <;> intro h <;> simp only [h, SS, bB, aM, setRange, aN, aC, aB, aF, aE, aD, aA, Nat.reduceLT, Nat.reduceEqDiff, Nat.reduceAdd, Nat.reduceMul, Nat.reduceSub, Nat.reduceLeDiff, Nat.reduceBEq, reduceCtorEq, h19o, h30o])))
    exact hR () _ _ (aT.drop (by simp [look, below, aX]) (by simp [aP, bT, below, aX, bA]) (by simp [aP]))
  intro _
  refine Top.join (σ := Unit) aV (fun _ => mkF 180 [(3, .ptr 0 0), (2, .lsl (dQ L)), (7, .str s), (9, .ptr 2 0)]) (fun _ => mkH 3 [(2, some (.row [.str q.p, .str q.e, .bool q.l, .lsl (bG q.m)] 24 0 0 false)), (1, some (.row [.str o.p, .str o.e, .bool o.l, .lsl (bG o.m)] 24 0 0 false)), (0, some (.row [.str q.p, .str q.e, .bool q.l, .lsl (bG q.m)] 24 0 0 false))] 0 []) ?_ ?_
  · intro R hR
    ((try simp only [aO, SS, bB, aM, setRange, aN, aC, aB, aF, aE, aD, aA, Nat.reduceLT, Nat.reduceEqDiff, Nat.reduceAdd, Nat.reduceMul, Nat.reduceSub, Nat.reduceLeDiff, Nat.reduceBEq, reduceCtorEq, z0, h34q, qd, h34o, dR, eqXs4, dd, qn]); (repeat' ((first | apply aJ | apply aI | apply aL | apply aK | apply aH | apply aG) <;> intro h <;> simp only [h, SS, bB, aM, setRange, aN, aC, aB, aF, aE, aD, aA, Nat.reduceLT, Nat.reduceEqDiff, Nat.reduceAdd, Nat.reduceMul, Nat.reduceSub, Nat.reduceLeDiff, Nat.reduceBEq, reduceCtorEq, z0, h34q, qd, h34o, dR, eqXs4, dd, qn])))
    exact hR () _ _ (aT.drop (by simp [look, below, aX]) (by simp [aP, bT, below, aX, bA]) (by simp [aP]))
  intro _
  refine Top.join (σ := Unit) aV (fun _ => mkF 180 [(3, .ptr 0 0), (2, .lsl (dQ L)), (7, .str s), (14, .str s), (15, .int .i64 0)]) (fun _ => mkH 1 [(0, some (.row [.str q.p, .str q.e, .bool q.l, .lsl (bG q.m)] 24 0 0 false))] 0 []) ?_ ?_
  · intro R hR
    ((try simp only [aO, SS, bB, aM, setRange, aN, aC, aB, aF, aE, aD, aA, Nat.reduceLT, Nat.reduceEqDiff, Nat.reduceAdd, Nat.reduceMul, Nat.reduceSub, Nat.reduceLeDiff, Nat.reduceBEq, reduceCtorEq, h30q]); (repeat' ((first | apply aJ | apply aI | apply aL | apply aK | apply aH | apply aG) <;> intro h <;> simp only [h, SS, bB, aM, setRange, aN, aC, aB, aF, aE, aD, aA, Nat.reduceLT, Nat.reduceEqDiff, Nat.reduceAdd, Nat.reduceMul, Nat.reduceSub, Nat.reduceLeDiff, Nat.reduceBEq, reduceCtorEq, h30q])))
    exact hR () _ _ (aT.drop (by simp [look, below, aX]) (by simp [aP, bT, below, aX, bA]) (by simp [aP]))
  intro _
  refine Top.join (σ := Unit) aV (fun _ => mkF 180 [(3, .ptr 0 0), (2, .lsl (dQ L)), (7, .str s), (14, .str s), (15, .int .i64 0), (16, .int .i64 ((2 + q.m.length : Nat) : Int))]) (fun _ => mkH 1 [(0, some (.row [.str q.p, .str q.e, .bool q.l, .lsl (bG q.m)] 24 0 0 false))] 0 []) ?_ ?_
  · intro R hR
    ((try simp only [aO, SS, bB, aM, setRange, aN, aC, aB, aF, aE, aD, aA, Nat.reduceLT, Nat.reduceEqDiff, Nat.reduceAdd, Nat.reduceMul, Nat.reduceSub, Nat.reduceLeDiff, Nat.reduceBEq, reduceCtorEq, bC, w2]); (repeat' ((first | apply aJ | apply aI | apply aL | apply aK | apply aH | apply aG) <;> intro h <;> simp only [h, SS, bB, aM, setRange, aN, aC, aB, aF, aE, aD, aA, Nat.reduceLT, Nat.reduceEqDiff, Nat.reduceAdd, Nat.reduceMul, Nat.reduceSub, Nat.reduceLeDiff, Nat.reduceBEq, reduceCtorEq, bC, w2])))
    exact hR () _ _ (aT.drop (by simp [look, below, aX]) (by simp [aP, bT, below, aX, bA]) (by simp [aP]))
  intro _
  refine Top.join (σ := Unit) aV (fun _ => mkF 180 [(3, .ptr 0 0), (2, .lsl (dQ L)), (7, .str s), (14, .str s), (15, .int .i64 0), (16, .int .i64 (W.length : Nat))]) (fun _ => mkH 1 [(0, some (.row [.str q.p, .str q.e, .bool q.l, .lsl (bG q.m)] 24 0 0 false))] 0 []) ?_ ?_
  · intro R hR
    cases hl : q.l with
    | true =>
      rw [hl] at hR
      rw [hl, if_pos rfl] at hwc
      ((try simp only [aO, SS, bB, aM, setRange, aN, aC, aB, aF, aE, aD, aA, Nat.reduceLT, Nat.reduceEqDiff, Nat.reduceAdd, Nat.reduceMul, Nat.reduceSub, Nat.reduceLeDiff, Nat.reduceBEq, reduceCtorEq, hl, w3]); (repeat' ((first | apply aJ | apply aI | apply aL | apply aK | apply aH | apply aG) <;> intro h <;> simp only [h, SS, bB, aM, setRange, aN, aC, aB, aF, aE, aD, aA, Nat.reduceLT, Nat.reduceEqDiff, Nat.reduceAdd, Nat.reduceMul, Nat.reduceSub, Nat.reduceLeDiff, Nat.reduceBEq, reduceCtorEq, hl, w3])))
      exact hR () _ _ (aT.drop (by simp [look, below, aX, hwc, hl]) (by simp [aP, bT, below, aX, bA, hl]) (by simp [aP]))
    | false =>
      rw [hl] at hR
      rw [hl, if_neg (by simp)] at hwc
      ((try simp only [aO, SS, bB, aM, setRange, aN, aC, aB, aF, aE, aD, aA, Nat.reduceLT, Nat.reduceEqDiff, Nat.reduceAdd, Nat.reduceMul, Nat.reduceSub, Nat.reduceLeDiff, Nat.reduceBEq, reduceCtorEq, hl]); (repeat' ((first | apply aJ | apply aI | apply aL | apply aK | apply aH | apply aG) <;> intro h <;> simp only [h, SS, bB, aM, setRange, aN, aC, aB, aF, aE, aD, aA, Nat.reduceLT, Nat.reduceEqDiff, Nat.reduceAdd, Nat.reduceMul, Nat.reduceSub, Nat.reduceLeDiff, Nat.reduceBEq, reduceCtorEq, hl])))
      exact hR () _ _ (aT.drop (by simp [look, below, aX, hwc, hl]) (by simp [aP, bT, below, aX, bA, hl]) (by simp [aP]))
  intro _
  refine Top.join (σ := Unit) aV (fun _ => mkF 180 [(3, .ptr 0 0), (2, .lsl (dQ L)), (7, .str s)]) (fun _ => mkH 1 [(0, some (.row [.str q.p, .str q.e, .bool q.l, .lsl (bG q.m)] 24 0 0 false))] 0 []) ?_ ?_
  · intro R hR
    have qw : ((W.length : Int) == (W.length : Int)) = true := by simp
    ((try simp only [aO, SS, bB, aM, setRange, aN, aC, aB, aF, aE, aD, aA, Nat.reduceLT, Nat.reduceEqDiff, Nat.reduceAdd, Nat.reduceMul, Nat.reduceSub, Nat.reduceLeDiff, Nat.reduceBEq, reduceCtorEq, z0, qs, h36, eStrs_length, qw]); (repeat' ((first | apply aJ | apply aI | apply aL | apply aK | apply aH | apply aG) <;> intro h <;> simp only [h, SS, bB, aM, setRange, aN, aC, aB, aF, aE, aD, aA, Nat.reduceLT, Nat.reduceEqDiff, Nat.reduceAdd, Nat.reduceMul, Nat.reduceSub, Nat.reduceLeDiff, Nat.reduceBEq, reduceCtorEq, z0, qs, h36, eStrs_length, qw])))
    exact hR () _ _ (aT.drop (by simp [look, below, aX]) (by simp [aP, bT, below, aX, bA]) (by simp [aP]))
  intro _
  refine Top.join (σ := Unit) aV (fun _ => mkF 180 [(2, .lsl (dQ L))]) (fun _ => mkH 0 [] 0 []) ?_ ?_
  · intro R hR
    cases y : (a2 == 0) with
    | false =>
      ((try simp only [aO, SS, bB, aM, setRange, aN, aC, aB, aF, aE, aD, aA, Nat.reduceLT, Nat.reduceEqDiff, Nat.reduceAdd, Nat.reduceMul, Nat.reduceSub, Nat.reduceLeDiff, Nat.reduceBEq, reduceCtorEq, w1, b1, hcs, h31c, y]); (repeat' ((first | apply aJ | apply aI | apply aL | apply aK | apply aH | apply aG) <;> intro h <;> simp only [h, SS, bB, aM, setRange, aN, aC, aB, aF, aE, aD, aA, Nat.reduceLT, Nat.reduceEqDiff, Nat.reduceAdd, Nat.reduceMul, Nat.reduceSub, Nat.reduceLeDiff, Nat.reduceBEq, reduceCtorEq, w1, b1, hcs, h31c, y])))
      exact hR () _ _ (aT.drop (by simp [look, below, aX]) (by simp) (by simp))
    | true =>
      rw [hcut (by simpa using y)] at h34c
      ((try simp only [aO, SS, bB, aM, setRange, aN, aC, aB, aF, aE, aD, aA, Nat.reduceLT, Nat.reduceEqDiff, Nat.reduceAdd, Nat.reduceMul, Nat.reduceSub, Nat.reduceLeDiff, Nat.reduceBEq, reduceCtorEq, w1, b1, hcs, h31c, y, h34c]); (repeat' ((first | apply aJ | apply aI | apply aL | apply aK | apply aH | apply aG) <;> intro h <;> simp only [h, SS, bB, aM, setRange, aN, aC, aB, aF, aE, aD, aA, Nat.reduceLT, Nat.reduceEqDiff, Nat.reduceAdd, Nat.reduceMul, Nat.reduceSub, Nat.reduceLeDiff, Nat.reduceBEq, reduceCtorEq, w1, b1, hcs, h31c, y, h34c])))
      exact hR () _ _ (aT.drop (by simp [look, below, aX]) (by simp) (by simp))
  intro _
  refine Top.join (σ := Unit) aV (fun _ => mkF 180 [(2, .lsl (dQ L)), (20, .str T), (21, .int .i64 0)]) (fun _ => mkH 0 [] 0 []) ?_ ?_
  · intro R hR
    ((try simp only [aO, SS, bB, aM, setRange, aN, aC, aB, aF, aE, aD, aA, Nat.reduceLT, Nat.reduceEqDiff, Nat.reduceAdd, Nat.reduceMul, Nat.reduceSub, Nat.reduceLeDiff, Nat.reduceBEq, reduceCtorEq, h38, h37]); (repeat' ((first | apply aJ | apply aI | apply aL | apply aK | apply aH | apply aG) <;> intro h <;> simp only [h, SS, bB, aM, setRange, aN, aC, aB, aF, aE, aD, aA, Nat.reduceLT, Nat.reduceEqDiff, Nat.reduceAdd, Nat.reduceMul, Nat.reduceSub, Nat.reduceLeDiff, Nat.reduceBEq, reduceCtorEq, h38, h37])))
    exact hR () _ _ (aT.drop (by simp [look, below, aX]) (by simp [aP, bT, below, aX, bA]) (by simp [aP]))
  intro _
  refine Top.join (σ := Unit) aV (fun _ => mkF 180 [(2, .lsl (dQ L)), (20, .str T), (21, .int .i64 0), (22, .lsl (dQ L)), (23, .int .i64 0), (24, .int .i64 0)]) (fun _ => mkH 0 [] 0 []) ?_ ?_
  · intro R hR
    have e0 : (((0 : Nat) : Int)) = 0 := rfl
    ((try simp only [aO, SS, bB, aM, setRange, aN, aC, aB, aF, aE, aD, aA, Nat.reduceLT, Nat.reduceEqDiff, Nat.reduceAdd, Nat.reduceMul, Nat.reduceSub, Nat.reduceLeDiff, Nat.reduceBEq, reduceCtorEq, h39]); (repeat' ((first | apply aJ | apply aI | apply aL | apply aK | apply aH | apply aG) <;> intro h <;> simp only [h, SS, bB, aM, setRange, aN, aC, aB, aF, aE, aD, aA, Nat.reduceLT, Nat.reduceEqDiff, Nat.reduceAdd, Nat.reduceMul, Nat.reduceSub, Nat.reduceLeDiff, Nat.reduceBEq, reduceCtorEq, h39])))
    exact hR () _ _ (aT.drop (by simp [look, below, aX]) (by simp [aP, bT, below, aX, bA]) (by simp [aP]))
  intro _
  refine aR aV _ _ _ _ ?_
  have qe : ((((L.map dA ++ [[]]).length : Nat) : Int) == ((L.length + 1 : Nat) : Int)) = true := by rw [hsl]; simp
  ((try simp only [aO, SS, bB, aM, setRange, aN, aC, aB, aF, aE, aD, aA, Nat.reduceLT, Nat.reduceEqDiff, Nat.reduceAdd, Nat.reduceMul, Nat.reduceSub, Nat.reduceLeDiff, Nat.reduceBEq, reduceCtorEq, z0, h43, h36t, eStrs_length, bH, w4, qe]); (repeat' ((first | apply aJ | apply aI | apply aL | apply aK | apply aH | apply aG) <;> intro h <;> simp only [h, SS, bB, aM, setRange, aN, aC, aB, aF, aE, aD, aA, Nat.reduceLT, Nat.reduceEqDiff, Nat.reduceAdd, Nat.reduceMul, Nat.reduceSub, Nat.reduceLeDiff, Nat.reduceBEq, reduceCtorEq, z0, h43, h36t, eStrs_length, bH, w4, qe])))
  (refine hQ _ _ _ (aQ (by first | exact .inl rfl | exact .inr rfl) ?_); simp only [SS, bB, aM, setRange, aN, aC, aB, aF, aE, aD, aA, Nat.reduceLT, Nat.reduceEqDiff, Nat.reduceAdd, Nat.reduceMul, Nat.reduceSub, Nat.reduceLeDiff, Nat.reduceBEq, reduceCtorEq])
end Go.Ev
