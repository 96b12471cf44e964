import Derived.Test.YtdhnjbgggkdiiaaGreatDoorEvC
import Derived.Test.YtdhnjbgggkdiiaaGreatDoorParseV
set_option linter.unusedSimpArgs false
set_option linter.unusedVariables false
namespace Go.Ev
open Go.RowKit Go.Proofs
set_option linter.defProp false
def aW := And.intro (And.intro (And.intro (And.intro (And.intro (And.intro (@Tryz.underlying3) (@sz3)) (And.intro (@bN) (@I3s))) (And.intro (And.intro (@I3b) (@bL)) (And.intro (@bO) (@Tryz.underlying4)))) (And.intro (And.intro (And.intro (@sz4) (@dC)) (And.intro (@I4s) (@I4b))) (And.intro (And.intro (@cY) (@dD)) (And.intro (@Tryz.underlying5) (And.intro (@sz5) (@dK)))))) (And.intro (And.intro (And.intro (And.intro (@I5s) (@I5b)) (And.intro (@dG) (@dL))) (And.intro (And.intro (@Tryz.underlying9) (@sz9)) (And.intro (@bI) (And.intro (@I9s) (@I9b))))) (And.intro (And.intro (And.intro (@bH) (@bJ)) (And.intro (@Tryz.underlying22) (@eN))) (And.intro (And.intro (@dO) (@eO)) (And.intro (@eP) (And.intro (@dH) (@dP))))))) (And.intro (And.intro (And.intro (And.intro (And.intro (@Tryz.underlying24) (@sz24)) (And.intro (@fok24) (@info24))) (And.intro (And.intro (@I24s) (@I24b)) (And.intro (@zero24) (And.intro (@grow24) (@Tryz.underlying25))))) (And.intro (And.intro (And.intro (@eB) (@cE)) (And.intro (@eC) (@eD))) (And.intro (And.intro (@cC) (@cF)) (And.intro (@Tryz.underlying27) (And.intro (@eE) (@dF)))))) (And.intro (And.intro (And.intro (And.intro (@cJ) (@eF)) (And.intro (@eG) (@cH))) (And.intro (And.intro (@cK) (@Tryz.underlying56)) (And.intro (@sz56) (And.intro (@info56) (@I56s))))) (And.intro (And.intro (And.intro (@I56b) (@zero56)) (And.intro (@grow56) (@call20))) (And.intro (And.intro (@call36) (@call85)) (And.intro (@call101) (And.intro (@call102) (@Tryz.results32)))))))
set_option maxRecDepth 20000
set_option maxHeartbeats 8000000

/-! the reference's parser -/
def F32 : List EVal → Option EVal
  | [.str s] => if aM s = true ∧ s.length ≤ 5000 then some (parseE s) else none
  | _ => none
theorem Top.joinR {A : Option Nat} {P : Program} {g : G} {K : bP} {x y : Code} {f : EFr} {h : H} {Q : cT} {σ : Type} (hng : NoNG P) (F2 : σ → EFr) (H2 : σ → H)
    (H1 : ∀ R : cT, (∀ s f1 h1, aH A P f1 h1 (F2 s) (H2 s) → R .normal f1 h1) → (∀ f1 h1, Q .ret f1 h1 → R .ret f1 h1) → wp A P g K x f h R) (H3 : ∀ s, Top A P g K y (F2 s) (H2 s) Q) : Top A P g K (.seq x y) f h Q :=
  Top.seq (aD hng _ _ _ _ (H1 _ (fun s _ _ v => Top.view v (H3 s)) (fun _ _ h => h)))
structure PInv (lo : Nat) (ws : List (List Nat)) (G0 : Pl) (i at0 : Nat) (q : Pl) (v : EVal) (N : Nat) (l : List (Nat × Option EObj)) : Prop where
  hi : i ≤ ws.length
  wr : cO 0 0 ws = cO i at0 (ws.drop i)
  rd : G0 = cL i q (ws.drop i)
  pl : at0 = dT (ws.take i) + i
  ml : q.m.length ≤ i
  mo : ∀ m ∈ q.m, eI m
  p0 : i = 0 → q.p = []
  e0 : i ≤ 1 → q.e = []
  hN : N ≤ lo + 2 * i
  hN2 : lo ≤ N
  M1 : ML lo v q.m N l
  A1 : aB l 1 = some (.row [.str q.p, .str q.e, .bool q.l, v] 24 0 0 false)
  A0 : aB l 0 = some (.row [.str [], .str [], .bool false, .nilslice] 24 0 0 false)
theorem mvOk_of {w : List Nat} (h : w.length ≤ 5000) : eI (eL w) := by
  show (eL w).b.length < _
  unfold eL
  split
  · simp only [List.length_map, List.length_drop, List.length_cons] at *; omega
  · show 0 < _; omega
theorem fn32 : FnT 32 F32 := by
  refine Fn.intro mixed aI Tryz.func32 rfl [(20, F20), (36, F36), (85, F85), (101, F101), (102, F102)] (by simp only [List.forall_mem_cons]; exact ⟨fn20, fn36, fn85, fn101, fn102, fun _ h => by cases h⟩) ?_
  intro args v hF
  unfold F32 at hF
  split at hF
  rotate_left
  · cases hF
  intro Q hV
  have hQ := aS.of hV
  rename_i s
  split at hF
  rotate_left
  · cases hF
  rename_i hc
  obtain ⟨hby, hlen⟩ := hc
  cases hF
  refine Top.view (aH.mode (n := 0) (m := 0) (l := []) (k := []) 128 (by omega)) ?_
  by_cases hl : 4096 < s.length
  · have q1 : decide ((4096 : Int) < (s.length : Int)) = true := by simp; omega
    refine Top.view (aH.start (n := 100) rfl (by simp)) (aD aI _ _ _ _ ?_)
    (try simp only [aG, SS, aW, setRange, aA, aO, Nat.reduceLT, Nat.reduceEqDiff, Nat.reduceAdd, reduceCtorEq, q1])
    (refine hQ _ _ _ (aC (by first | exact .inl rfl | exact .inr rfl) ?_); simp only [SS, aW, Nat.reduceLT, Nat.reduceEqDiff, Nat.reduceAdd, reduceCtorEq])
    simp only [parseE, cI, if_pos hl]; rfl
  have q1 : decide ((4096 : Int) < (s.length : Int)) = false := by simp; omega
  have h36 := e36 (l := s) (c := 32) (by omega) hlen
  obtain ⟨ws, hws⟩ : ∃ ws, ws = aT 32 s := ⟨_, rfl⟩
  have h36' : F36 [.str s, .int .u8 32] = some (.lsl (cZ ws)) := by rw [hws]; exact h36
  have hsl := split_len (c := 32) s
  rw [← hws] at hsl
  have hwb : ∀ w ∈ ws, aM w = true := by rw [hws]; exact split_bytes hby
  have hwl : ∀ w ∈ ws, w.length ≤ 4097 := fun w hw => by have := lenS_mem hw; omega
  have hT : cI s = match cO 0 0 ws with
    | some a => (pl0, a, 25)
    | none => if ws.length < 2 then (pl0, s.length, 25) else
      if playE (cL 0 pl0 ws).p (cL 0 pl0 ws).e (cL 0 pl0 ws).m ≠ 0 then (pl0, s.length, playE (cL 0 pl0 ws).p (cL 0 pl0 ws).e (cL 0 pl0 ws).m)
      else (cL 0 pl0 ws, 0, 0) := by
    unfold cI
    rw [if_neg hl, ← hws]; rfl
  clear h36 hws
  refine Top.view (aH.start (n := 100) rfl (by simp)) ?_
  refine Top.join (σ := Unit) aI (fun _ => mkF 100 [(2, .ptr 0 0), (0, .str s)]) (fun _ => mkH 1 [(0, some (.row [.str [], .str [], .bool false, .nilslice] 24 0 0 false))] 128 []) ?_ ?_
  · intro R hR
    (try simp only [aG, SS, aW, aA, Nat.reduceLT])
    exact hR () _ _ (aH.sub (by simp [look]))
  intro _
  refine Top.join (σ := Unit) aI (fun _ => mkF 100 [(2, .ptr 0 0), (0, .str s)]) (fun _ => mkH 1 [(0, some (.row [.str [], .str [], .bool false, .nilslice] 24 0 0 false))] 128 []) ?_ ?_
  · intro R hR
    (try simp only [SS, aW, aA, Nat.reduceLT, Nat.reduceEqDiff, reduceCtorEq, q1])
    exact hR () _ _ (aH.sub (by simp [look]))
  intro _
  refine Top.join (σ := Unit) aI (fun _ => mkF 100 [(5, .lsl (cZ ws)), (2, .ptr 0 0), (0, .str s)]) (fun _ => mkH 1 [(0, some (.row [.str [], .str [], .bool false, .nilslice] 24 0 0 false))] 128 []) ?_ ?_
  · intro R hR
    (try simp only [SS, aW, aF, aA, Nat.reduceLT, Nat.reduceEqDiff, reduceCtorEq, h36'])
    exact hR () _ _ (aH.sub (by simp [look]))
  intro _
  refine Top.join (σ := Unit) aI (fun _ => mkF 100 [(6, .ptr 1 0), (5, .lsl (cZ ws)), (2, .ptr 0 0), (0, .str s)]) (fun _ => mkH 2 [(1, some (.row [.str [], .str [], .bool false, .nilslice] 24 0 0 false)), (0, some (.row [.str [], .str [], .bool false, .nilslice] 24 0 0 false))] 128 []) ?_ ?_
  · intro R hR
    (try simp only [SS, aW, aA, Nat.reduceLT, Nat.reduceAdd])
    exact hR () _ _ (aH.sub (by simp [look]))
  intro _
  refine Top.join (σ := Unit) aI (fun _ => mkF 100 [(7, .int .i64 0), (6, .ptr 1 0), (5, .lsl (cZ ws)), (2, .ptr 0 0), (0, .str s)]) (fun _ => mkH 2 [(1, some (.row [.str [], .str [], .bool false, .nilslice] 24 0 0 false)), (0, some (.row [.str [], .str [], .bool false, .nilslice] 24 0 0 false))] 128 []) ?_ ?_
  · intro R hR
    (try simp only [SS, aA, Nat.reduceLT])
    exact hR () _ _ (aH.sub (by simp [look]))
  intro _
  obtain ⟨G0, hG0⟩ : ∃ q, q = cL 0 pl0 ws := ⟨_, rfl⟩
  rw [← hG0] at hT
  -- the words
  refine Top.joinR (σ := { N : Nat // N ≤ 12000 ∧ cO 0 0 ws = none ∧ G0.m.length ≤ 5000 ∧ ∀ m ∈ G0.m, eI m }) aI (fun _ => mkF 100 [(5, .lsl (cZ ws)), (6, .ptr 1 0), (2, .ptr 0 0), (0, .str s)]) (fun N => mkH N.1 [(1, some (.row [.str G0.p, .str G0.e, .bool G0.l, .lsl (aZ G0.m)] 24 0 0 false)), (0, some (.row [.str [], .str [], .bool false, .nilslice] 24 0 0 false))] 128 []) ?_ ?_
  · intro R hR hRr
    (try simp only [SS, aA, Nat.reduceLT])
    refine aU (Top.loop (I := fun z : { x : (Nat × Nat) × Pl × EVal × Nat × List (Nat × Option EObj) // PInv 2 ws G0 x.1.1 x.1.2 x.2.1 x.2.2.1 x.2.2.2.1 x.2.2.2.2 } => (mkF 100 [(8, .int .i64 (z.1.1.1 : Nat)), (7, .int .i64 (z.1.1.2 : Nat)), (6, .ptr 1 0), (5, .lsl (cZ ws)), (2, .ptr 0 0), (0, .str s)], mkH z.1.2.2.2.1 z.1.2.2.2.2 128 [])) (μ := fun z => ws.length - z.1.1.1) ⟨((0, 0), pl0, .nilslice, 2, _), ⟨by simp, rfl, hG0, by simp [dT], by simp [pl0], by simp [pl0], fun _ => rfl, fun _ => rfl, by simp, by simp, .inl ⟨rfl, rfl⟩, rfl, rfl⟩⟩ (aH.sub (by simp [look])) ?_)
    rintro ⟨⟨⟨i, at0⟩, q, v, N, l⟩, hi, hwr, hrd, hat, hml, hmo, hp0, he0, hN, hN2, M1, A1, A0⟩
    dsimp only at hi hwr hrd hat hml hmo hp0 he0 hN hN2 M1 A1 A0
    refine aD aI _ _ _ _ ?_
    dsimp only
    have hlt0 := lenS_le (l := ws) (k := i)
    by_cases hlt : i < ws.length
    rotate_left
    · have hie : i = ws.length := by omega
      have hd0 : ws.drop i = [] := List.drop_eq_nil_of_le (by omega)
      rw [hd0] at hwr hrd
      obtain rfl : G0 = q := hrd
      have q2 : decide ((i : Int) < (ws.length : Int)) = false := by simp; omega
      (try simp only [SS, aW, aA, Nat.reduceLT, Nat.reduceEqDiff, reduceCtorEq, aY, q2])
      have hA : N ≤ 12000 ∧ cO 0 0 ws = none ∧ G0.m.length ≤ 5000 ∧ ∀ m ∈ G0.m, eI m := ⟨by omega, hwr, by omega, hmo⟩
      rcases M1 with ⟨rfl, hn⟩ | ⟨id, h1, h2, rfl, h4⟩
      · refine hR ⟨N, hA⟩ _ _ ?_
        have hv : aZ G0.m = [] := by rw [hn]; rfl
        simp only [hv]
        refine aH.told (ds := []) (r := none) (by simp [look, toldR]) ?_
        intro p hp
        rcases List.mem_cons.1 hp with rfl | hp
        · exact ⟨by simp, _, rfl, .inr ⟨_, _, _, _, _, _, A1, rfl, .inl rfl, .inl rfl, .inl rfl, .inr ⟨rfl, rfl⟩, trivial⟩⟩
        · rw [List.mem_singleton] at hp
          subst hp
          exact ⟨by simp, _, rfl, .inl A0⟩
      · have hid0 : id < 16000 := by omega
        refine hR ⟨N, hA⟩ _ _ ?_
        refine aH.fz (sz := 5) (len := G0.m.length) id hid0 h4 (keepL_cellM _) (cellM_length _) ?_ ?_ (by simp)
        · simp [look, fzR]
        · rw [chunk_cellM]
          intro p hp
          rcases List.mem_cons.1 hp with rfl | hp
          · refine ⟨by simp, by show 1 ≠ id; omega, _, rfl, .inr ⟨_, _, _, _, _, _, A1, rfl, ?_⟩⟩
            exact ⟨.inl rfl, .inl rfl, .inl rfl, .inr ⟨.slack 0, rfl, rfl, rfl⟩, trivial⟩
          · rw [List.mem_singleton] at hp
            subst hp
            exact ⟨by simp, by show 0 ≠ id; omega, _, rfl, .inl A0⟩
    obtain ⟨w, hx⟩ : ∃ w, ws[i]? = some w := ⟨ws[i], List.getElem?_eq_getElem hlt⟩
    have hmem := List.mem_of_getElem? hx
    have hw1 := hwl w hmem
    have hw2 := hwb w hmem
    have hst := lenS_take hx
    have hls := lenS_le (l := ws) (k := i + 1)
    have q2 : decide ((i : Int) < (ws.length : Int)) = true := by simp; omega
    have q3 : IntKind.i64.wrap ((i : Int) + 1) = ((i + 1 : Nat) : Int) := by rw [aR] <;> omega
    have q4 : IntKind.i64.wrap ((at0 : Int) + (w.length : Int)) = ((at0 + w.length : Nat) : Int) := by rw [aR] <;> omega
    have q5 : IntKind.i64.wrap (((at0 + w.length : Nat) : Int) + 1) = ((at0 + w.length + 1 : Nat) : Int) := by rw [aR] <;> omega
    have hwd := wrongAt_drop (a := at0) hx
    have hrdd := readG_drop (s := q) hx
    have u45 : UInt8.toNat 45 = 45 := rfl
    have ul : [UInt8.toNat 108, UInt8.toNat 97, UInt8.toNat 116, UInt8.toNat 101] = lateB := rfl
    have bad : cR i w = false → parseE s = .tup [.agg [.str [], .str [], .bool false, .lsl []], .int .i64 (at0 : Nat), .int .i64 25] := by
      intro h
      rw [h, if_neg (by simp)] at hwd
      rw [hwd] at hwr
      simp only [parseE, hT, hwr]; rfl
    have hA : cR i w = true → (i + 1 ≤ ws.length ∧ cO 0 0 ws = cO (i + 1) (at0 + w.length + 1) (ws.drop (i + 1)) ∧ G0 = cL (i + 1) (dB i q w) (ws.drop (i + 1)) ∧ at0 + w.length + 1 = dT (ws.take (i + 1)) + (i + 1)) := by
      intro h
      rw [h, if_pos rfl] at hwd
      exact ⟨hlt, hwr.trans hwd, hrd.trans hrdd, by omega⟩
    have ML0 : ∀ (x : EObj), ML 2 v q.m N ((1, some x) :: l) := by
      intro x
      rcases M1 with h | ⟨id, h1, h2, h3, h4⟩
      · exact .inl h
      · exact .inr ⟨id, h1, h2, h3, by rw [aB.eq_2, if_neg (by omega)]; exact h4⟩
    have C0 : ∀ (x : EObj), aB ((1, some x) :: l) 0 = some (.row [.str [], .str [], .bool false, .nilslice] 24 0 0 false) := by
      intro x; rw [aB.eq_2, if_neg (by omega)]; exact A0
    obtain ⟨o1, o2, o3⟩ := ML_one M1
    have next : ∀ (q' : Pl) (v' : EVal) (N' : Nat) (l' : List (Nat × Option EObj)), cR i w = true → dB i q w = q' → q'.m.length ≤ i + 1 → (∀ m ∈ q'.m, eI m) → (i + 1 ≤ 1 → q'.e = []) → N' ≤ N + 2 → N ≤ N' → ML 2 v' q'.m N' l' → aB l' 1 = some (.row [.str q'.p, .str q'.e, .bool q'.l, v'] 24 0 0 false) → aB l' 0 = some (.row [.str [], .str [], .bool false, .nilslice] 24 0 0 false) → PInv 2 ws G0 (i + 1) (at0 + w.length + 1) q' v' N' l' := by
      intro q' v' N' l' h hs a1 a2 a3 a4 a5 a6 a7 a8
      obtain ⟨b1, b2, b3, b4⟩ := hA h
      rw [hs] at b3
      exact ⟨b1, b2, b3, b4, a1, a2, fun h => by omega, a3, by omega, by omega, a6, a7, a8⟩
    by_cases hi0 : i = 0
    · have z0 : ((i : Int) == 0) = true := by simp [hi0]
      have h101 := e101 (l := w) (by omega)
      have hr : cR i w = pitW w := by simp [cR, hi0]
      have hs : dB i q w = ⟨undash w, q.e, q.l, q.m⟩ := by simp [dB, hi0]
      by_cases hd : w = [45]
      · have hdd : decide (w = [45]) = true := by simp [hd]
        have hp : pitW w = true := by simp [pitW, hd]
        rw [hp] at h101
        have hs2 : dB i q w = q := by
          rw [hs]
          have : undash w = q.p := by rw [hp0 hi0]; simp [undash, hd]
          rw [this]
        (try simp only [SS, aW, aF, aA, Nat.reduceLT, Nat.reduceEqDiff, reduceCtorEq, q2, q3, q4, q5, z0, aY, eStrs_get, hx, h101, u45, hdd])
        have hP := next q v N l (by rw [hr, hp]) hs2 (by omega) hmo (fun h => he0 (by omega)) (by omega) (by omega) M1 A1 A0
        exact ⟨⟨((i + 1, at0 + w.length + 1), q, v, N, l), hP⟩, by simp; omega, aH.sub (by simp [look])⟩
      · have hdd : decide (w = [45]) = false := by simp [hd]
        cases hp : pitW w with
        | false =>
          rw [hp] at h101
          (try simp only [SS, aW, aF, setRange, aA, aO, Nat.reduceLT, Nat.reduceEqDiff, Nat.reduceAdd, Nat.reduceLeDiff, reduceCtorEq, q2, z0, aY, eStrs_get, hx, h101, u45, hdd, A1, A0])
          refine hRr _ _ (hQ _ _ _ (aC (.inl rfl) ?_))
          simp only [SS, aW, Nat.reduceLT, Nat.reduceEqDiff, Nat.reduceAdd, reduceCtorEq]
          rw [bad (by rw [hr, hp])]
        | true =>
          rw [hp] at h101
          have hs2 : dB i q w = ⟨w, q.e, q.l, q.m⟩ := by rw [hs]; simp [undash, hd]
          (try simp only [SS, aW, aF, setRange, aA, Nat.reduceLT, Nat.reduceEqDiff, Nat.reduceAdd, Nat.reduceLeDiff, reduceCtorEq, q2, q3, q4, q5, z0, aY, eStrs_get, hx, h101, u45, hdd, A1])
          have hP := next ⟨w, q.e, q.l, q.m⟩ v N ((1, some (.row [.str w, .str q.e, .bool q.l, v] 24 0 0 false)) :: l) (by rw [hr, hp]) hs2 (show q.m.length ≤ i + 1 by omega) hmo (fun h => he0 (by omega)) (by omega) (by omega) (ML0 _) (by simp [aB]) (C0 _)
          exact ⟨⟨((i + 1, at0 + w.length + 1), ⟨w, q.e, q.l, q.m⟩, v, N, _), hP⟩, by simp; omega, aH.sub (by simp [look])⟩
    have z0 : ((i : Int) == 0) = false := by rw [beq_eq_false_iff_ne]; omega
    by_cases hi1 : i = 1
    · have z1 : ((i : Int) == 1) = true := by simp [hi1]
      have hr : cR i w = (decide (w = [45]) || isEv w) := by simp [cR, hi1]
      have hs : dB i q w = ⟨q.p, undash w, q.l, q.m⟩ := by simp [dB, hi1]
      by_cases hd : w = [45]
      · have hdd : decide (w = [45]) = true := by simp [hd]
        have hs2 : dB i q w = q := by
          rw [hs]
          have : undash w = q.e := by rw [he0 (by omega)]; simp [undash, hd]
          rw [this]
        (try simp only [SS, aW, aA, Nat.reduceLT, Nat.reduceEqDiff, reduceCtorEq, q2, q3, q4, q5, z0, z1, aY, eStrs_get, hx, u45, hdd])
        have hP := next q v N l (by rw [hr, hdd]; rfl) hs2 (by omega) hmo (fun h => by omega) (by omega) (by omega) M1 A1 A0
        exact ⟨⟨((i + 1, at0 + w.length + 1), q, v, N, l), hP⟩, by simp; omega, aH.sub (by simp [look])⟩
      have hdd : decide (w = [45]) = false := by simp [hd]
      have h85 : F85 [.str w] = some (.bool (decide (w = []) || isEv w)) := rfl
      by_cases hne : w = []
      · have hn1 : decide (w = []) = true := by simp [hne]
        (try simp only [SS, aW, setRange, aA, aO, Nat.reduceLT, Nat.reduceEqDiff, Nat.reduceAdd, Nat.reduceLeDiff, reduceCtorEq, q2, z0, z1, aY, eStrs_get, hx, u45, hdd, hn1, A1, A0])
        refine hRr _ _ (hQ _ _ _ (aC (.inl rfl) ?_))
        simp only [SS, aW, Nat.reduceLT, Nat.reduceEqDiff, Nat.reduceAdd, reduceCtorEq]
        rw [bad (by rw [hr, hdd, hne]; rfl)]
      have hn1 : decide (w = []) = false := by simp [hne]
      rw [hn1, Bool.false_or] at h85
      cases hp : isEv w with
      | false =>
        rw [hp] at h85
        (try simp only [SS, aW, aF, setRange, aA, aO, Nat.reduceLT, Nat.reduceEqDiff, Nat.reduceAdd, Nat.reduceLeDiff, reduceCtorEq, q2, z0, z1, aY, eStrs_get, hx, u45, hdd, hn1, h85, A1, A0])
        refine hRr _ _ (hQ _ _ _ (aC (.inl rfl) ?_))
        simp only [SS, aW, Nat.reduceLT, Nat.reduceEqDiff, Nat.reduceAdd, reduceCtorEq]
        rw [bad (by rw [hr, hdd, hp]; rfl)]
      | true =>
        rw [hp] at h85
        have hs2 : dB i q w = ⟨q.p, w, q.l, q.m⟩ := by rw [hs]; simp [undash, hd]
        (try simp only [SS, aW, aF, setRange, aA, Nat.reduceLT, Nat.reduceEqDiff, Nat.reduceAdd, Nat.reduceLeDiff, reduceCtorEq, q2, q3, q4, q5, z0, z1, aY, eStrs_get, hx, u45, hdd, hn1, h85, A1])
        have hP := next ⟨q.p, w, q.l, q.m⟩ v N ((1, some (.row [.str q.p, .str w, .bool q.l, v] 24 0 0 false)) :: l) (by rw [hr, hp]; simp) hs2 (show q.m.length ≤ i + 1 by omega) hmo (fun h => by omega) (by omega) (by omega) (ML0 _) (by simp [aB]) (C0 _)
        exact ⟨⟨((i + 1, at0 + w.length + 1), ⟨q.p, w, q.l, q.m⟩, v, N, _), hP⟩, by simp; omega, aH.sub (by simp [look])⟩
    have z1 : ((i : Int) == 1) = false := by rw [beq_eq_false_iff_ne]; omega
    obtain ⟨M, hM⟩ : ∃ M, M = (if mvW w = true then eL w else mv00) := ⟨_, rfl⟩
    have h102 : F102 [.str w] = some (.tup [.agg [.int .i64 M.f, .int .i64 M.t, .bool M.o, .str M.h, .lsl (bU M.b)], .bool (mvW w)]) := by
      simp only [F102]; rw [if_pos ⟨hw2, by omega⟩, ← hM]; rfl
    have hN0 : N < 16000 := by omega
    obtain ⟨v2, l2, hap, M2, S2⟩ := eAppend_ML (x := M) (m := 128) (kk := []) (show ML 2 v q.m (N + 1) ((N, some (.row [.int .i64 M.f, .int .i64 M.t, .bool M.o, .str M.h, .lsl (bU M.b)] 27 0 0 false)) :: (N, some (.row [.int .i64 0, .int .i64 0, .bool false, .str [], .nilslice] 27 0 0 false)) :: l) from by
      rcases M1 with h | ⟨id, h1, h2, h3, h4⟩
      · exact .inl h
      · exact .inr ⟨id, h1, by omega, h3, by rw [aB.eq_2, if_neg (by omega), aB.eq_2, if_neg (by omega)]; exact h4⟩) (by omega) (by omega) (by omega)
    have B1 : aB l2 1 = some (.row [.str q.p, .str q.e, .bool q.l, v] 24 0 0 false) := by rw [S2 1 (by omega), aB.eq_2, if_neg (by omega), aB.eq_2, if_neg (by omega)]; exact A1
    have B0 : aB l2 0 = some (.row [.str [], .str [], .bool false, .nilslice] 24 0 0 false) := by rw [S2 0 (by omega), aB.eq_2, if_neg (by omega), aB.eq_2, if_neg (by omega)]; exact A0
    obtain ⟨p1, p2, p3⟩ := ML_one M2
    have n1 : (N = 1) = False := by simp; omega
    by_cases hi2 : i = 2
    · have z2 : ((i : Int) == 2) = true := by simp [hi2]
      by_cases hd : w = lateB
      · have hdd : decide (w = lateB) = true := by simp [hd]
        have hs2 : dB i q w = ⟨q.p, q.e, true, q.m⟩ := by simp [dB, hi2, hd]
        have hP := next ⟨q.p, q.e, true, q.m⟩ v N ((1, some (.row [.str q.p, .str q.e, .bool true, v] 24 0 0 false)) :: l) (by simp [cR, hi2, hd]) hs2 (show q.m.length ≤ i + 1 by omega) hmo (fun h => by omega) (by omega) (by omega) (ML0 _) (by simp [aB]) (C0 _)
        (try simp only [SS, aW, setRange, aA, Nat.reduceLT, Nat.reduceEqDiff, Nat.reduceAdd, Nat.reduceLeDiff, reduceCtorEq, q2, q3, q4, q5, z0, z1, z2, aY, eStrs_get, hx, ul, hdd, A1])
        exact ⟨⟨((i + 1, at0 + w.length + 1), ⟨q.p, q.e, true, q.m⟩, v, N, _), hP⟩, by simp; omega, aH.sub (by simp [look])⟩
      have hdd : decide (w = lateB) = false := by simp [hd]
      have hr : cR i w = mvW w := by simp [cR, hi2, hd]
      have hs : dB i q w = ⟨q.p, q.e, q.l, q.m ++ [eL w]⟩ := by simp [dB, hi2, hd]
      cases hp : mvW w with
      | false =>
        rw [hp] at h102
        (try simp only [SS, aW, aF, setRange, bQ, aA, aO, aE, Nat.reduceLT, Nat.reduceEqDiff, Nat.reduceAdd, Nat.reduceMul, Nat.reduceLeDiff, reduceCtorEq, ↓hap, q2, z0, z1, z2, hdd, n1, aY, eStrs_get, hx, ul, h102, hN0, A1, B1, B0, p1, p3])
        refine hRr _ _ (hQ _ _ _ (aC (.inl rfl) ?_))
        simp only [SS, aW, Nat.reduceLT, Nat.reduceEqDiff, Nat.reduceAdd, reduceCtorEq]
        rw [bad (by rw [hr, hp])]
      | true =>
        rw [hp] at h102
        have hMe : M = eL w := by rw [hM, hp]; rfl
        have hs2 : dB i q w = ⟨q.p, q.e, q.l, q.m ++ [M]⟩ := by rw [hs, hMe]
        have hP := next ⟨q.p, q.e, q.l, q.m ++ [M]⟩ v2 (N + 1 + 1) ((1, some (.row [.str q.p, .str q.e, .bool q.l, v2] 24 0 0 false)) :: l2) (by rw [hr, hp]) hs2 (by show (q.m ++ [M]).length ≤ i + 1; simp; omega) (by
          intro m hm
          rcases List.mem_append.1 hm with h | h
          · exact hmo m h
          · rw [List.mem_singleton.1 h, hMe]; exact mvOk_of (by omega)) (fun h => by omega) (by omega) (by omega) (by
          rcases M2 with h | ⟨id, h1, h2, h3, h4⟩
          · exact .inl h
          · exact .inr ⟨id, h1, h2, h3, by rw [aB.eq_2, if_neg (by omega)]; exact h4⟩) (by simp [aB]) (by rw [aB.eq_2, if_neg (by omega)]; exact B0)
        (try simp only [SS, aW, aF, setRange, bQ, aA, aE, Nat.reduceLT, Nat.reduceEqDiff, Nat.reduceAdd, Nat.reduceMul, Nat.reduceLeDiff, reduceCtorEq, ↓hap, q2, q3, q4, q5, z0, z1, z2, hdd, n1, aY, eStrs_get, hx, ul, h102, hN0, A1, B1, p1, p3])
        exact ⟨⟨((i + 1, at0 + w.length + 1), ⟨q.p, q.e, q.l, q.m ++ [M]⟩, v2, N + 1 + 1, _), hP⟩, by simp; omega, aH.sub (by simp [look])⟩
    have z2 : ((i : Int) == 2) = false := by rw [beq_eq_false_iff_ne]; omega
    have hr : cR i w = mvW w := by unfold cR; rw [if_neg hi0, if_neg hi1, if_neg hi2]
    have hs : dB i q w = ⟨q.p, q.e, q.l, q.m ++ [eL w]⟩ := by unfold dB; rw [if_neg hi0, if_neg hi1, if_neg (by rintro ⟨h, _⟩; exact hi2 h)]
    cases hp : mvW w with
    | false =>
      rw [hp] at h102
      (try simp only [SS, aW, aF, setRange, bQ, aA, aO, aE, Nat.reduceLT, Nat.reduceEqDiff, Nat.reduceAdd, Nat.reduceMul, Nat.reduceLeDiff, reduceCtorEq, ↓hap, q2, z0, z1, z2, n1, aY, eStrs_get, hx, h102, hN0, A1, B1, B0, p1, p3])
      refine hRr _ _ (hQ _ _ _ (aC (.inl rfl) ?_))
      simp only [SS, aW, Nat.reduceLT, Nat.reduceEqDiff, Nat.reduceAdd, reduceCtorEq]
      rw [bad (by rw [hr, hp])]
    | true =>
      rw [hp] at h102
      have hMe : M = eL w := by rw [hM, hp]; rfl
      have hs2 : dB i q w = ⟨q.p, q.e, q.l, q.m ++ [M]⟩ := by rw [hs, hMe]
      have hP := next ⟨q.p, q.e, q.l, q.m ++ [M]⟩ v2 (N + 1 + 1) ((1, some (.row [.str q.p, .str q.e, .bool q.l, v2] 24 0 0 false)) :: l2) (by rw [hr, hp]) hs2 (by show (q.m ++ [M]).length ≤ i + 1; simp; omega) (by
        intro m hm
        rcases List.mem_append.1 hm with h | h
        · exact hmo m h
        · rw [List.mem_singleton.1 h, hMe]; exact mvOk_of (by omega)) (fun h => by omega) (by omega) (by omega) (by
        rcases M2 with h | ⟨id, h1, h2, h3, h4⟩
        · exact .inl h
        · exact .inr ⟨id, h1, h2, h3, by rw [aB.eq_2, if_neg (by omega)]; exact h4⟩) (by simp [aB]) (by rw [aB.eq_2, if_neg (by omega)]; exact B0)
      (try simp only [SS, aW, aF, setRange, bQ, aA, aE, Nat.reduceLT, Nat.reduceEqDiff, Nat.reduceAdd, Nat.reduceMul, Nat.reduceLeDiff, reduceCtorEq, ↓hap, q2, q3, q4, q5, z0, z1, z2, n1, aY, eStrs_get, hx, h102, hN0, A1, B1, p1, p3])
      exact ⟨⟨((i + 1, at0 + w.length + 1), ⟨q.p, q.e, q.l, q.m ++ [M]⟩, v2, N + 1 + 1, _), hP⟩, by simp; omega, aH.sub (by simp [look])⟩
  rintro ⟨N, hN, hwr, hml, hmo⟩
  refine aD aI _ _ _ _ ?_
  dsimp only
  rw [hwr] at hT
  dsimp only at hT
  by_cases h2 : ws.length < 2
  · rw [if_pos h2] at hT
    have q2 : decide ((ws.length : Int) < 2) = true := by simp; omega
    (try simp only [SS, aW, setRange, aA, aO, Nat.reduceLT, Nat.reduceEqDiff, Nat.reduceAdd, reduceCtorEq, aY, q2])
    (refine hQ _ _ _ (aC (by first | exact .inl rfl | exact .inr rfl) ?_); simp only [SS, aW, Nat.reduceLT, Nat.reduceEqDiff, Nat.reduceAdd, reduceCtorEq])
    simp only [parseE, hT]; rfl
  rw [if_neg h2] at hT
  have q2 : decide ((ws.length : Int) < 2) = false := by simp; omega
  have h20 : F20 [.agg [.str G0.p, .str G0.e, .bool G0.l, .lsl (aZ G0.m)]] = some (.int .i64 (playE G0.p G0.e G0.m)) := by simp only [F20, dMoves_e (show G0.m.length < 9223372036854775808 by omega) hmo, Option.map_some]
  obtain ⟨z, hz⟩ : ∃ z, playE G0.p G0.e G0.m = z := ⟨_, rfl⟩
  rw [hz] at h20 hT
  cases hz0 : (z == 0) with
  | false =>
    have hz1 : z ≠ 0 := by simpa using hz0
    rw [if_pos hz1] at hT
    (try simp only [SS, aW, aF, setRange, aA, aO, Nat.reduceLT, Nat.reduceEqDiff, Nat.reduceAdd, reduceCtorEq, aY, q2, h20, hz0])
    (refine hQ _ _ _ (aC (by first | exact .inl rfl | exact .inr rfl) ?_); simp only [SS, aW, Nat.reduceLT, Nat.reduceEqDiff, Nat.reduceAdd, reduceCtorEq])
    simp only [parseE, hT]; rfl
  | true =>
    have hz1 : z = 0 := by simpa using hz0
    rw [if_neg (by simpa using hz1)] at hT
    (try simp only [SS, aW, aF, setRange, aA, Nat.reduceLT, Nat.reduceEqDiff, Nat.reduceAdd, reduceCtorEq, aY, q2, h20, hz0])
    (refine hQ _ _ _ (aC (by first | exact .inl rfl | exact .inr rfl) ?_); simp only [SS, aW, Nat.reduceLT, Nat.reduceEqDiff, Nat.reduceAdd, reduceCtorEq])
    simp only [parseE, hT, plE]; rfl
theorem e32 {s : List Nat} (h : aM s = true) (hl : s.length ≤ 5000) : F32 [.str s] = some (parseE s) := by simp only [F32]; rw [if_pos ⟨h, hl⟩]
end Go.Ev
