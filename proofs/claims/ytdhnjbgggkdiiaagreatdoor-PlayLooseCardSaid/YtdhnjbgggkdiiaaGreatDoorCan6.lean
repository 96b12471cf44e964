import Derived.Test.YtdhnjbgggkdiiaaGreatDoorEvC
import Derived.Test.YtdhnjbgggkdiiaaGreatDoorCan4
set_option linter.unusedSimpArgs false
set_option linter.unusedVariables false
namespace Go.Ev
open Go.RowKit Go.Proofs
set_option linter.defProp false
def TF123Can5 := And.intro (And.intro (And.intro (@Tryz.underlying3) (And.intro (@sz3) (@bK))) (And.intro (And.intro (@I3s) (@I3b)) (And.intro (@bJ) (@bL)))) (And.intro (And.intro (And.intro (@Tryz.underlying25) (@dI)) (And.intro (@bQ) (@dJ))) (And.intro (And.intro (@dK) (@bP)) (And.intro (@bR) (@Tryz.results123))))
def TF152Can5 := And.intro (And.intro (And.intro (@Tryz.underlying3) (And.intro (@sz3) (@bK))) (And.intro (And.intro (@I3s) (@I3b)) (And.intro (@bJ) (@bL)))) (And.intro (And.intro (And.intro (@Tryz.underlying25) (@dI)) (And.intro (@bQ) (@dJ))) (And.intro (And.intro (@dK) (@bP)) (And.intro (@bR) (@Tryz.results152))))
set_option maxRecDepth 20000
set_option maxHeartbeats 8000000

/-! touches, copied into memory of their own -/
section
variable {K : bI} {N : Nat} {l : List (Nat × Option EObj)}
theorem ct123n (hN : N < 16000) (hb : ∀ p ∈ l, p.1 < 16000 ∧ p.1 < N ∧ ∃ o, p.2 = some o ∧ aB l p.1 = some o ∧ aR N o = true) : cE Tryz.prog gT K 123 [.lsl []] (mkH N l 0 []) fun v h => v = .lsl [] ∧ h = mkH N l 0 [] := by
  refine cE.intro Tryz.func123 rfl (Top.unview ?_)
  refine Top.view (aF.start (n := 8) rfl (by simp)) (aD aJ _ _ _ _ ?_)
  (try simp only [aI, SS, TF123Can5, aA, Nat.reduceLT, Nat.reduceEqDiff, reduceCtorEq, eOther, eqX, eqNilS, ndEq_yes Tryz.underlying25])
  intro q
  cases q with
  | true =>
    (try simp only [SS, aA, Nat.reduceLT])
    refine ⟨_, _, aF.told (ds := []) (r := none) (fl2 := [(2, .lsl [])]) (l2 := l) (by simp [look, toldR]) (fun p hp => ?_), cK (es := [.lsl []]) (.inl rfl) rfl (by simp only [SS, TF123Can5, Nat.reduceLT]) ⟨rfl, rfl⟩⟩
    obtain ⟨h1, _, o, h2, h3, _⟩ := hb p hp
    exact ⟨h1, o, h2, .inl h3⟩
  | false =>
    (try simp only [SS, TF123Can5, setRange, bS, aA, aE, Nat.reduceLT, Nat.reduceEqDiff, Nat.reduceMul, Nat.reduceLeDiff, reduceCtorEq, lensOK, List.all_nil, hN])
    have hb2 : ∀ p ∈ l, p.1 < 16000 ∧ p.1 ≠ N ∧ ∃ o2, p.2 = some o2 ∧ (aB ((N, some (.row [] 3 0 0 false)) :: (N, some (.row [] 3 0 0 false)) :: l) p.1 = some o2 ∨ ∃ cs1 cs2 e lo hi sl, aB ((N, some (.row [] 3 0 0 false)) :: (N, some (.row [] 3 0 0 false)) :: l) p.1 = some (.row cs1 e lo hi sl) ∧ o2 = .row cs2 e lo hi sl ∧ fzL N 0 (.lsl (cJ 1 0 [])) cs1 cs2) := by
      intro p hp
      obtain ⟨h1, h4, o, h2, h3, _⟩ := hb p hp
      exact ⟨h1, by omega, o, h2, .inl (by rw [aB.eq_2, if_neg (by omega), aB.eq_2, if_neg (by omega)]; exact h3)⟩
    refine ⟨_, _, aF.trans (aF.fz (sz := 1) (len := 0) (cells := []) (cells' := []) (e := 3) (lo := 0) (hi := 0) (sl := false) (fl2 := [(2, .lsl [])]) (l2 := l) (k2 := []) N hN (by simp [aB]) rfl rfl (by simp [look, fzR, capOK, cJ]) hb2 (by simp)) (aF.drop (fl2 := [(2, .lsl [])]) (l2 := l) (by simp [look, below]) hb (by simp) (fun q h => by cases h; simp)), cK (es := [.lsl []]) (.inl rfl) rfl (by simp only [SS, TF123Can5, Nat.reduceLT]) ⟨rfl, rfl⟩⟩
theorem ct123 {b : List Int} (hb : b ≠ []) (hlen : b.length ≤ 1000) (hN : N + 1 < 16000) : cE Tryz.prog gT K 123 [.lsl (aS b)] (mkH N l 0 []) fun v h => v = .slice (N + 1) 0 b.length (.slack 0) ∧ h = mkH (N + 1 + 1) ((N + 1, some (.row (dF b) 3 0 0 true)) :: (N, some (.row [] 3 0 0 false)) :: l) 0 [] := by
  refine cE.intro Tryz.func123 rfl ?_
  refine Top.view (aF.start (n := 8) rfl (by simp)) (aD aJ _ _ _ _ ?_)
  match b, hb, hlen with
  | x :: b, _, hlen =>
    have hl : (aS (x :: b)).length = b.length + 1 := by rw [aM]; rfl
    have hf : (aS (x :: b)).flatten = dF (x :: b) := eInts_flatten _
    have hlens : lensOK 1 (aS (x :: b)) = true := lensOK_eInts _
    have q4 : (b.length + 1 ≤ 0) = False := by simp
    have q5 : 8 * (b.length + 1) ≤ 1000000 := by simp only [List.length_cons] at hlen; omega
    have hq : eqNilS (.lsl (aS (x :: b))) .nilslice = some false := rfl
    have hN0 : N < 16000 := by omega
    (try simp only [aI, SS, TF123Can5, setRange, bS, aA, aE, Nat.reduceLT, Nat.reduceEqDiff, Nat.reduceLeDiff, reduceCtorEq, eOther, eqX, hq, hl, hf, hlens, q4, q5, hN0])
    exact cK (es := [.slice (N + 1) 0 (b.length + 1) (.slack 0)]) (.inl rfl) rfl (by simp only [SS, TF123Can5, Nat.reduceLT, Nat.reduceEqDiff, reduceCtorEq]) ⟨rfl, rfl⟩
theorem ct152n : cE Tryz.prog gT K 152 [.lsl []] (mkH N l 0 []) fun v h => v = .lsl [] ∧ h = mkH N l 0 [] := by
  refine cE.intro Tryz.func152 rfl ?_
  refine Top.view (aF.start (n := 61) rfl (by simp)) (aD aJ _ _ _ _ ?_)
  have q1 : decide ((0 : Int) < 2) = true := by decide
  (try simp only [aI, SS, TF152Can5, aA, Nat.reduceLT, Nat.reduceEqDiff, reduceCtorEq, q1])
  exact cK (es := [.lsl []]) (.inl rfl) rfl (by simp only [SS, TF152Can5, Nat.reduceLT, Nat.reduceEqDiff, reduceCtorEq]) ⟨rfl, rfl⟩
end
end Go.Ev
namespace Go.Ev
open Go.RowKit Go.Proofs
set_option linter.defProp false
def TF113Can6 := And.intro (And.intro (And.intro (And.intro (And.intro (And.intro (@Tryz.underlying3) (@sz3)) (And.intro (@bK) (@I3s))) (And.intro (And.intro (@I3b) (@bJ)) (And.intro (@bL) (And.intro (@Tryz.underlying4) (@sz4))))) (And.intro (And.intro (And.intro (@cT) (@I4s)) (And.intro (@I4b) (@cS))) (And.intro (And.intro (@cU) (@Tryz.underlying9)) (And.intro (@sz9) (And.intro (@bZ) (@I9s)))))) (And.intro (And.intro (And.intro (And.intro (@I9b) (@bX)) (And.intro (@cA) (@Tryz.underlying22))) (And.intro (And.intro (@dX) (@cZ)) (And.intro (@dY) (And.intro (@dZ) (@cX))))) (And.intro (And.intro (And.intro (@dA) (@Tryz.underlying24)) (And.intro (@sz24) (And.intro (@fok24) (@info24)))) (And.intro (And.intro (@I24s) (@I24b)) (And.intro (@zero24) (And.intro (@grow24) (@Tryz.underlying25))))))) (And.intro (And.intro (And.intro (And.intro (And.intro (@dI) (@bQ)) (And.intro (@dJ) (@dK))) (And.intro (And.intro (@bP) (@bR)) (And.intro (@Tryz.underlying27) (And.intro (@dN) (@cV))))) (And.intro (And.intro (And.intro (@cF) (@dO)) (And.intro (@dP) (And.intro (@cC) (@cG)))) (And.intro (And.intro (@Tryz.underlying123) (@sz123)) (And.intro (@info123) (And.intro (@I123s) (@I123b)))))) (And.intro (And.intro (And.intro (And.intro (@zero123) (@grow123)) (And.intro (@Tryz.underlying174) (@sz174))) (And.intro (And.intro (@info174) (@I174s)) (And.intro (@I174b) (And.intro (@zero174) (@grow174))))) (And.intro (And.intro (And.intro (@call120) (@call121)) (And.intro (@call122) (And.intro (@call123) (@call147)))) (And.intro (And.intro (@call148) (@call150)) (And.intro (@call152) (And.intro (@call153) (@Tryz.results113)))))))
set_option maxRecDepth 20000
set_option maxHeartbeats 8000000

/-! the canonical form, without any check -/
def compM (m : Mv) : Mv := ⟨m.f, m.t, m.o, m.h, comp m.b⟩
def tidyM (l : List Mv) : List Mv := ((sortM l).filter keepM).map compM
def lateT (late : Bool) (l : List Mv) : Bool := late && ((tidyM l).any isR && (tidyM l).any isO)
def smallM (l : List Mv) : Bool := decide (l.length ≤ 9) && l.all fun m => decide (m.b.length ≤ 1000)
theorem ct120' {N id n : Nat} {l : List (Nat × Option EObj)} {k : EVal → H → Prop} {cap : ECap} {sl : Bool} {c : List Mv} (hn : n = c.length) (hc : c.length ≤ 9) (hid : id < N) (hN : N < 8000) (hl : aB l id = some (.row (aV c) 27 0 0 sl))
    (hk : ∀ N' l' v, ML N v (c.filter keepM) N' l' → N ≤ N' → N' ≤ N + 3 * c.length → (∀ i, i < N → aB l' i = aB l i) → k v (mkH N' l' 0 [])) :
    cE Tryz.prog gT (dR KC) 120 [.slice id 0 n cap, .func 150 []] (mkH N l 0 []) k := by
  subst hn; exact ct120 hc hid hN hl hk
theorem repl_len {z : List EVal} : ∀ n, (bS z n).length = n * z.length
  | 0 => by simp [bS]
  | n + 1 => by rw [bS, List.length_append, repl_len n, Nat.succ_mul]; omega
theorem allOne_append {a b : List EVal} : allOne (a ++ b) = (allOne a && allOne b) := by
  induction a with
  | nil => rfl
  | cons x a ih => simp only [List.cons_append, allOne, ih, Bool.and_assoc]
theorem allOne_cellM (l : List Mv) : allOne (aV l) = true := by
  induction l with
  | nil => rfl
  | cons m l ih =>
    have e : aV (m :: l) = dE m ++ aV l := by simp [aV]
    rw [e, allOne_append, ih]; rfl
theorem setRange_all {a b : List EVal} (h : a.length = b.length) : setRange a 0 b = b := by
  unfold setRange
  rw [Nat.zero_add, List.take_zero, List.nil_append, List.drop_eq_nil_of_le (by omega), List.append_nil]
def csM (F : List Mv) (i : Nat) : List Mv := (F.take i).map compM ++ F.drop i
theorem csM_len (F : List Mv) (i : Nat) : (csM F i).length = F.length := by simp [csM]; omega
theorem csM_at {F : List Mv} {i : Nat} (h : i < F.length) : mAt (csM F i) i = mAt F i := by
  unfold mAt csM
  have hl : ((F.take i).map compM).length = i := by rw [List.length_map, List.length_take]; omega
  simp only [List.getD_eq_getElem?_getD]
  rw [List.getElem?_append_right (by omega), hl, Nat.sub_self, List.getElem?_drop, Nat.add_zero]
theorem csM_set {F : List Mv} {i : Nat} (h : i < F.length) : (csM F i).set i (compM (mAt F i)) = csM F (i + 1) := by
  unfold csM
  have hl : ((F.take i).map compM).length = i := by rw [List.length_map, List.length_take]; omega
  have e1 : F.take (i + 1) = F.take i ++ [mAt F i] := by
    rw [List.take_add_one, List.getElem?_eq_getElem h]; simp [mAt, h]
  rw [List.set_append_right _ _ (by omega), hl, Nat.sub_self, List.drop_eq_getElem_cons h, List.set_cons_zero, e1, List.map_append, List.append_assoc]; rfl
theorem cellM_by {d : List Mv} {i : Nat} (h : i < d.length) : (aV d)[i * 5 + 4]? = some (.lsl (aS (mAt d i).b)) := by
  have h1 := cellM_at h
  have h2 := congrArg (fun x : List EVal => x[4]?) h1
  simp only [List.getElem?_take, List.getElem?_drop] at h2
  exact h2
theorem cellM_set_by {d : List Mv} {i : Nat} {m : Mv} (h : i < d.length) (h2 : m = ⟨(mAt d i).f, (mAt d i).t, (mAt d i).o, (mAt d i).h, m.b⟩) : aV (d.set i m) = (aV d).set (i * 5 + 4) (.lsl (aS m.b)) := by
  have e1 : d = d.take i ++ mAt d i :: d.drop (i + 1) := by
    have : mAt d i = d[i] := by simp [mAt, h]
    rw [this, ← List.drop_eq_getElem_cons h, List.take_append_drop]
  have e2 : aV d = aV (d.take i) ++ (dE (mAt d i) ++ aV (d.drop (i + 1))) := by
    conv => lhs; rw [e1]
    simp [aV]
  have e3 : (aV (d.take i)).length = i * 5 := by rw [cellM_length, List.length_take, Nat.min_eq_left (by omega)]
  have e4 : d.set i m = d.take i ++ m :: d.drop (i + 1) := by
    rw [List.set_eq_take_append_cons_drop, if_pos h]
  have e5 : aV (d.set i m) = aV (d.take i) ++ (dE m ++ aV (d.drop (i + 1))) := by rw [e4]; simp [aV]
  rw [e5, e2, List.set_append_right _ _ (by omega), e3, show i * 5 + 4 - i * 5 = 4 by omega]
  conv => lhs; rw [h2]
  rfl
theorem fzL_set {id len : Nat} {L v v2 : EVal} (h : fzR id len L v v2) : ∀ (cs : List EVal) (j : Nat), fzL id len L (cs.set j v) (cs.set j v2)
  | [], _ => trivial
  | c :: cs, 0 => ⟨h, by induction cs with | nil => trivial | cons c cs ih => exact ⟨.inl rfl, ih⟩⟩
  | c :: cs, j + 1 => ⟨.inl rfl, fzL_set h cs j⟩
theorem ML_len {lo : Nat} {v : EVal} {ms : List Mv} {N : Nat} {l : List (Nat × Option EObj)} (h : ML lo v ms N l) : ∀ h, eLen Tryz.prog h 22 v = some (.int .i64 (ms.length : Nat)) := by
  rcases h with ⟨rfl, rfl⟩ | ⟨id, _, _, rfl, _⟩ <;> exact fun h => by simp only [SS, TF113Can6]
theorem belowL_append {N : Nat} {a b : List EVal} : aX N (a ++ b) = (aX N a && aX N b) := by
  induction a with
  | nil => rfl
  | cons x a ih => simp only [List.cons_append, aX, ih, Bool.and_assoc]
theorem below_cellM {N : Nat} {e : TypeId} {sl : Bool} (l : List Mv) : aR N (.row (aV l) e 0 0 sl) = true := by
  have h : aX N (aV l) = true := by
    induction l with
    | nil => rfl
    | cons m l ih =>
      have e : aV (m :: l) = dE m ++ aV l := by simp [aV]
      rw [e, belowL_append, ih]; rfl
  simpa [aR] using h
theorem chunk_padC (b : List Int) : cJ 1 (comp b).length (dF (padC b)) = aS (comp b) := by
  rw [← chunk_take, Nat.mul_one]
  have : (dF (padC b)).take (comp b).length = dF (comp b) := by simp [dF, padC]
  rw [this]
  exact chunk_eRow _
def zq : EObj := .row [.str [], .str [], .bool false, .nilslice] 24 0 0 false
def F113 : List EVal → Option EVal
  | [.agg [.str p, .str e, .bool late, ms]] => (bH ms).bind fun l => if smallM l = true then some (.agg [.str p, .str e, .bool (lateT late l), .lsl (aG (tidyM l))]) else none
  | _ => none
theorem fn113 : FnT 113 F113 := by
  refine Fn.intro mixed aJ Tryz.func113 rfl [(148, F148), (173, F173), (150, F150), (153, F153)] (by simp only [List.forall_mem_cons]; exact ⟨fn148, fn173, fn150, fn153, fun _ h => by cases h⟩) ?_
  intro args v hF
  unfold F113 at hF
  split at hF
  rotate_left
  · cases hF
  intro Q hV
  have hQ := aW.of hV
  rename_i p e late ms
  cases ha : bH ms with
  | none => rw [ha] at hF; cases hF
  | some l =>
  rw [ha] at hF
  simp only [Option.bind_some] at hF
  split at hF
  rotate_left
  · cases hF
  rename_i hc
  cases hF
  obtain ⟨rfl, hlen, hok⟩ := bE ha
  clear ha
  simp only [smallM, Bool.and_eq_true, decide_eq_true_eq, List.all_eq_true] at hc
  obtain ⟨h9, hb⟩ := hc
  have mk1 : ((l.length : Int) < 100000) = True := by simp only [eq_iff_iff, iff_true]; omega
  have mk2 : (Tryz.prog.bytesOf 27 < 1000) = True := by rw [show Tryz.prog.bytesOf 27 = 64 by kernel_rfl]; simp
  refine Top.view (aF.start (n := 58) rfl (by simp)) ?_
  obtain ⟨rq, hrq⟩ : ∃ o : EObj, o = .row [.str p, .str e, .bool late, .lsl (aG l)] 24 0 0 false := ⟨_, rfl⟩
  refine Top.join (σ := Unit) aJ (fun _ => mkF 58 [(1, .ptr 0 0), (2, .ptr 1 0)]) (fun _ => mkH 2 [(1, some zq), (0, some rq)] 0 []) ?_ ?_
  · intro R hR
    rw [hrq] at hR
    (try simp only [aI, SS, TF113Can6, aA, Nat.reduceLT, Nat.reduceAdd])
    exact hR () _ _ (aF.sub (by simp [look]))
  intro _
  refine Top.join (σ := Unit) aJ (fun _ => mkF 58 [(3, .slice 2 0 l.length (.exact l.length)), (1, .ptr 0 0), (2, .ptr 1 0)]) (fun _ => mkH 3 [(2, some (.row (bS [.int .i64 0, .int .i64 0, .bool false, .str [], .nilslice] l.length) 27 0 0 false)), (1, some zq), (0, some rq)] 0 []) ?_ ?_
  · intro R hR
    rw [hrq] at hR ⊢
    (try simp only [SS, TF113Can6, aA, Nat.reduceLT, Nat.reduceEqDiff, Nat.reduceAdd, reduceCtorEq, aL, mk1, mk2])
    exact hR () _ _ (aF.sub (by simp [look]))
  intro _
  have rl := repl_len (z := [.int .i64 0, .int .i64 0, .bool false, .str [], .nilslice]) l.length
  refine Top.join (σ := Unit) aJ (fun _ => mkF 58 [(3, .slice 2 0 l.length (.exact l.length)), (1, .ptr 0 0), (2, .ptr 1 0)]) (fun _ => mkH 3 [(2, some (.row (aV l) 27 0 0 false)), (1, some zq), (0, some rq)] 0 []) ?_ ?_
  · intro R hR
    rw [hrq] at hR ⊢
    have c1 : (aG l).flatten = aV l := rfl
    have c2 := cellM_take l
    have c3 := allOne_cellM l
    have c4 : Nat.min l.length l.length = l.length := Nat.min_self _
    have c5 := setRange_all (a := bS [.int .i64 0, .int .i64 0, .bool false, .str [], .nilslice] l.length) (b := aV l) (by rw [rl, cellM_length]; rfl)
    have c6 := lensOK_eMoves l
    (try simp only [SS, TF113Can6, aA, Nat.reduceLT, Nat.reduceEqDiff, Nat.reduceAdd, reduceCtorEq, aL, eCopy, c1, c2, c3, c4, c5, c6, cellM_length, rl])
    exact hR () _ _ (aF.trans (aF.sub (by simp [look])) (aF.sameH (by simp [aB])))
  intro _
  -- sorted
  refine Top.join (σ := Unit) aJ (fun _ => mkF 58 [(3, .slice 2 0 l.length (.exact l.length)), (1, .ptr 0 0), (2, .ptr 1 0)]) (fun _ => mkH 3 [(2, some (.row (aV (sortM l)) 27 0 0 false)), (1, some zq), (0, some rq)] 0 []) ?_ ?_
  · intro R hR
    (try simp only [SS, TF113Can6, aA, Nat.reduceLT, Nat.reduceEqDiff, ↓bB])
    refine ct147 (sl := false) h9 (by omega) (by simp [aB]) ?_
    intro l' h1 h2
    (try simp only [SS, Nat.reduceLT])
    refine hR () _ _ (aF.trans (aF.sub (by simp [look])) (aF.sameH ?_))
    intro x hx
    simp only [List.mem_cons, List.not_mem_nil, or_false] at hx
    rcases hx with rfl | rfl | rfl
    · exact ⟨by simp, _, rfl, h1⟩
    · exact ⟨by simp, _, rfl, by rw [h2 1 (by omega)]; simp [aB]⟩
    · exact ⟨by simp, _, rfl, by rw [h2 0 (by omega)]; simp [aB]⟩
  intro _
  refine Top.join (σ := Unit) aJ (fun _ => mkF 58 [(3, .slice 2 0 l.length (.exact l.length)), (1, .ptr 0 0), (2, .ptr 1 0), (4, .ptr 3 0)]) (fun _ => mkH 4 [(3, some (.row [.str p, .str e, .bool false, .nilslice] 24 0 0 false)), (2, some (.row (aV (sortM l)) 27 0 0 false)), (1, some zq), (0, some rq)] 0 []) ?_ ?_
  · intro R hR
    rw [hrq] at hR ⊢
    (try simp only [SS, TF113Can6, setRange, aA, aY, Nat.reduceLT, Nat.reduceEqDiff, Nat.reduceAdd, reduceCtorEq])
    exact hR () _ _ (aF.trans (aF.sub (by simp [look])) (aF.sameH (by simp [aB, zq])))
  intro _
  obtain ⟨F, hF⟩ : ∃ F, F = (sortM l).filter keepM := ⟨_, rfl⟩
  have hFl : F.length ≤ 9 := by
    have := List.length_filter_le keepM (sortM l)
    rw [← hF, sortM_len] at this
    omega
  have hFb : ∀ m ∈ F, m.b.length ≤ 1000 := fun m hm => by
    rw [hF] at hm
    exact sortM_mem (q := fun m => m.b.length ≤ 1000) hb m (List.mem_filter.1 hm).1
  have hT : tidyM l = F.map compM := by rw [hF]; rfl
  refine Top.join (σ := { x : EVal × Nat × List (Nat × Option EObj) // ML 4 x.1 F x.2.1 x.2.2 ∧ 4 ≤ x.2.1 ∧ x.2.1 ≤ 40 ∧ aB x.2.2 0 = some rq ∧ aB x.2.2 1 = some zq ∧ aB x.2.2 3 = some (.row [.str p, .str e, .bool false, x.1] 24 0 0 false) }) aJ (fun _ => mkF 58 [(1, .ptr 0 0), (2, .ptr 1 0), (4, .ptr 3 0)]) (fun x => mkH x.1.2.1 x.1.2.2 0 []) ?_ ?_
  · intro R hR
    (try simp only [SS, TF113Can6, aA, Nat.reduceLT, Nat.reduceEqDiff, ↓bB])
    refine ct120' (c := sortM l) (sortM_len l).symm (by rw [sortM_len]; exact h9) (by omega) (by omega) (by simp [aB]; rfl) ?_
    intro N' l' v M2 hN1 hN2 hL
    rw [← hF] at M2
    rw [sortM_len] at hN2
    obtain ⟨o1, o2, o3⟩ := ML_one M2
    have L3 : aB l' 3 = some (.row [.str p, .str e, .bool false, .nilslice] 24 0 0 false) := by rw [hL 3 (by omega)]; simp [aB]
    have L0 : aB l' 0 = some rq := by rw [hL 0 (by omega)]; simp [aB]
    have L1 : aB l' 1 = some zq := by rw [hL 1 (by omega)]; simp [aB]
    (try simp only [SS, TF113Can6, setRange, aA, Nat.reduceLT, Nat.reduceEqDiff, Nat.reduceAdd, reduceCtorEq, o1, o3, L3])
    refine hR ⟨(v, N', _), MLc (by omega) M2, hN1, by show N' ≤ 40; omega, ?_, ?_, ?_⟩ _ _ (aF.sub (by simp [look]))
    · rw [aB.eq_2, if_neg (by omega)]; exact L0
    · rw [aB.eq_2, if_neg (by omega)]; exact L1
    · rw [aB.eq_2, if_pos rfl]
  rintro ⟨⟨v, N, L⟩, M0, hN1, hN2, L0, L1, L3⟩
  dsimp only at M0 hN1 hN2 L0 L1 L3
  -- each without neighbours that are the same
  refine Top.join (σ := { N : Nat // 4 ≤ N ∧ N ≤ 100 }) aJ (fun _ => mkF 58 [(1, .ptr 0 0), (2, .ptr 1 0), (4, .ptr 3 0)]) (fun N => mkH N.1 [(3, some (.row [.str p, .str e, .bool false, .lsl (aG (tidyM l))] 24 0 0 false)), (1, some zq), (0, some rq)] 0 []) ?_ ?_
  · intro R hR
    have hln := ML_len M0
    (try simp only [SS, TF113Can6, aA, Nat.reduceLT, Nat.reduceEqDiff, reduceCtorEq, L3, hln])
    refine aT (Top.loop (I := fun s : { x : Nat × EVal × Nat × List (Nat × Option EObj) // x.1 ≤ F.length ∧ ML 4 x.2.1 (csM F x.1) x.2.2.1 x.2.2.2 ∧ 4 ≤ x.2.2.1 ∧ x.2.2.1 ≤ 40 + 2 * x.1 ∧ aB x.2.2.2 0 = some rq ∧ aB x.2.2.2 1 = some zq ∧ aB x.2.2.2 3 = some (.row [.str p, .str e, .bool false, x.2.1] 24 0 0 false) } => (mkF 58 [(27, .int .i64 (s.1.1 : Nat)), (26, .int .i64 (F.length : Int)), (1, .ptr 0 0), (2, .ptr 1 0), (4, .ptr 3 0)], mkH s.1.2.2.1 s.1.2.2.2 0 [])) (μ := fun s => F.length - s.1.1) ⟨(0, v, N, L), by simp, by simpa [csM] using M0, hN1, by show N ≤ 40 + 2 * 0; omega, L0, L1, L3⟩ (aF.sub (by simp [look])) ?_)
    rintro ⟨⟨i, v, N, L⟩, hi, M1, hN1, hN2, L0, L1, L3⟩
    dsimp only at hi M1 hN1 hN2 L0 L1 L3
    by_cases hlt : i < F.length
    rotate_left
    · obtain rfl : i = F.length := by omega
      have q1 : decide ((F.length : Int) < (F.length : Int)) = false := by simp
      have hcs : csM F F.length = tidyM l := by rw [hT]; simp [csM]
      rw [hcs] at M1
      refine aD aJ _ _ _ _ ?_
      (try simp only [SS, aA, Nat.reduceLT, Nat.reduceEqDiff, q1])
      rcases M1 with ⟨rfl, hn⟩ | ⟨id, h1, h2, rfl, h4⟩
      · refine hR ⟨N, hN1, by omega⟩ _ _ ?_
        have hv : aG (tidyM l) = [] := by rw [hn]; rfl
        simp only [hv]
        refine aF.told (ds := []) (r := none) (by simp [look, toldR]) ?_
        intro x hx
        simp only [List.mem_cons, List.not_mem_nil, or_false] at hx
        rcases hx with rfl | rfl | rfl
        · exact ⟨by simp, _, rfl, .inr ⟨_, _, _, _, _, _, L3, rfl, .inl rfl, .inl rfl, .inl rfl, .inr ⟨rfl, rfl⟩, trivial⟩⟩
        · exact ⟨by simp, _, rfl, .inl L1⟩
        · exact ⟨by simp, _, rfl, .inl L0⟩
      · have hid0 : id < 16000 := by omega
        refine hR ⟨N, hN1, by omega⟩ _ _ ?_
        refine aF.fz (sz := 5) (len := (tidyM l).length) id hid0 h4 (keepL_cellM _) (cellM_length _) (by simp [look, fzR]) ?_ (by simp)
        rw [chunk_cellM]
        intro x hx
        simp only [List.mem_cons, List.not_mem_nil, or_false] at hx
        rcases hx with rfl | rfl | rfl
        · exact ⟨by simp, by show 3 ≠ id; omega, _, rfl, .inr ⟨_, _, _, _, _, _, L3, rfl, .inl rfl, .inl rfl, .inl rfl, .inr ⟨.slack 0, rfl, rfl, rfl⟩, trivial⟩⟩
        · exact ⟨by simp, by show 1 ≠ id; omega, _, rfl, .inl L1⟩
        · exact ⟨by simp, by show 0 ≠ id; omega, _, rfl, .inl L0⟩
    have hcl := csM_len F i
    rcases M1 with ⟨_, hn⟩ | ⟨id, h1, h2, rfl, h4⟩
    · rw [hn] at hcl; simp at hcl; omega
    rw [hcl] at L3
    have hd := csM_at (F := F) (i := i) hlt
    have hs := csM_set (F := F) (i := i) hlt
    have hby := cellM_by (d := csM F i) (i := i) (by omega)
    have hset := cellM_set_by (d := csM F i) (i := i) (m := compM (mAt F i)) (by omega) (by rw [hd]; rfl)
    rw [hs] at hset
    rw [hd] at hby
    have hmb : (mAt F i).b.length ≤ 1000 := hFb _ (by
      have : mAt F i = F[i] := by simp [mAt, hlt]
      rw [this]; exact List.getElem_mem hlt)
    have hcl2 := csM_len F (i + 1)
    rw [show (compM (mAt F i)).b = comp (mAt F i).b from rfl] at hset
    clear hd hs
    obtain ⟨D, hD⟩ : ∃ D, D = csM F i := ⟨_, rfl⟩
    obtain ⟨b, hb'⟩ : ∃ b, b = (mAt F i).b := ⟨_, rfl⟩
    rw [← hD] at h4 hcl hby hset
    rw [← hb'] at hby hset hmb
    have hid0 : id < 16000 := by omega
    have hN0 : N < 16000 := by omega
    have hN1' : N + 1 < 16000 := by omega
    refine Top.view (aF.sameH (l2 := [(id, some (.row (aV D) 27 0 0 true)), (3, some (.row [.str p, .str e, .bool false, .slice id 0 F.length (.slack 0)] 24 0 0 false)), (1, some zq), (0, some rq)]) ?_) (aD aJ _ _ _ _ ?_)
    · intro x hx
      simp only [List.mem_cons, List.not_mem_nil, or_false] at hx
      rcases hx with rfl | rfl | rfl | rfl
      · exact ⟨hid0, _, rfl, h4⟩
      · exact ⟨by simp, _, rfl, L3⟩
      · exact ⟨by simp, _, rfl, L1⟩
      · exact ⟨by simp, _, rfl, L0⟩
    have q1 : decide ((i : Int) < (F.length : Int)) = true := by simp; omega
    have q2 : IntKind.i64.wrap ((i : Int) + 1) = ((i + 1 : Nat) : Int) := by rw [aP] <;> omega
    have b1 : ((i : Int) < (F.length : Int)) = True := by simp only [eq_iff_iff, iff_true]; omega
    have n1 : (id = 3) = False := by simp only [eq_iff_iff, iff_false]; omega
    have n2 : (N = 3) = False := by simp only [eq_iff_iff, iff_false]; omega
    have n3 : (N + 1 = 3) = False := by simp only [eq_iff_iff, iff_false]; omega
    have n4 : (N = id) = False := by simp only [eq_iff_iff, iff_false]; omega
    have n5 : (N + 1 = id) = False := by simp only [eq_iff_iff, iff_false]; omega
    have c1 : (i * 5 + 4 + 1 ≤ (aV D).length) = True := by rw [cellM_length]; simp only [eq_iff_iff, iff_true]; omega
    have sr : ∀ x : EVal, setRange (aV D) (i * 5 + 4) [x] = (aV D).set (i * 5 + 4) x := fun x => setRange_one (by rw [cellM_length]; omega)
    obtain ⟨X, hX⟩ : ∃ X : List (Nat × Option EObj), X = [(id, some (.row (aV D) 27 0 0 true)), (3, some (.row [.str p, .str e, .bool false, .slice id 0 F.length (.slack 0)] 24 0 0 false)), (1, some zq), (0, some rq)] := ⟨_, rfl⟩
    have hX3 : aB X 3 = some (.row [.str p, .str e, .bool false, .slice id 0 F.length (.slack 0)] 24 0 0 false) := by rw [hX]; simp [aB]; omega
    have hXi : aB X id = some (.row (aV D) 27 0 0 true) := by rw [hX]; simp [aB]
    have hX1 : aB X 1 = some zq := by rw [hX, aB.eq_2, if_neg (by omega)]; simp [aB]
    have hX0 : aB X 0 = some rq := by rw [hX, aB.eq_2, if_neg (by omega)]; simp [aB]
    have hXb : ∀ x ∈ X, x.1 < 16000 ∧ x.1 < N := by rw [hX]; simp; omega
    rw [← hX]
    by_cases hb0 : b = []
    · subst hb0
      rw [show aS [] = [] from rfl] at hby
      have hXc : ∀ x ∈ X, x.1 < 16000 ∧ x.1 < N ∧ ∃ o, x.2 = some o ∧ aB X x.1 = some o ∧ aR N o = true := by
        intro x hx
        refine ⟨(hXb x hx).1, (hXb x hx).2, ?_⟩
        rw [hX] at hx
        simp only [List.mem_cons, List.not_mem_nil, or_false] at hx
        rcases hx with rfl | rfl | rfl | rfl
        · exact ⟨_, rfl, hXi, below_cellM _⟩
        · exact ⟨_, rfl, hX3, by simp [aR, below, aX]; omega⟩
        · exact ⟨_, rfl, hX1, by simp [zq, aR, below, aX]⟩
        · exact ⟨_, rfl, hX0, by rw [hrq]; simp [aR, below, aX]⟩
      (try simp only [SS, aA, Nat.reduceLT, Nat.reduceEqDiff, q1])
      refine bA (Top.drawM [⟨123, [.lsl []], mkH N X 0 [], .lsl [], mkH N X 0 []⟩, ⟨152, [.lsl []], mkH N X 0 [], .lsl [], mkH N X 0 []⟩] [(8, 13)] mixed aJ (by simp only [List.forall_mem_cons]; exact ⟨ct123n hN0 hXc, ct152n, fun _ h => by cases h⟩) (by kernel_rfl) (by kernel_rfl) ?_)
      (try simp only [SS, TF113Can6, aA, Nat.reduceLT, Nat.reduceEqDiff, Nat.reduceAdd, reduceCtorEq, WS, WM, ↓bB, hX3, hXi, b1, hby, hid0, c1, sr, n1])
      refine ⟨by kernel_rfl, ?_⟩
      (try simp only [q2])
      refine ⟨⟨(i + 1, .slice id 0 F.length (.slack 0), N, _), hlt, .inr ⟨id, h1, h2, by rw [hcl2], by rw [aB.eq_2, if_pos rfl, hset]; rfl⟩, hN1, by show N ≤ 40 + 2 * (i + 1); omega, ?_, ?_, ?_⟩, by simp; omega, aF.sub (by simp [look])⟩
      · rw [aB.eq_2, if_neg (by omega)]; exact hX0
      · rw [aB.eq_2, if_neg (by omega)]; exact hX1
      · rw [aB.eq_2, if_neg (by omega)]; exact hX3
    have hcb := comp_len b
    (try simp only [SS, aA, Nat.reduceLT, Nat.reduceEqDiff, q1])
    refine bA (Top.drawM [⟨123, [.lsl (aS b)], mkH N X 0 [], .slice (N + 1) 0 b.length (.slack 0), mkH (N + 1 + 1) ((N + 1, some (.row (dF b) 3 0 0 true)) :: (N, some (.row [] 3 0 0 false)) :: X) 0 []⟩, ⟨152, [.slice (N + 1) 0 b.length (.slack 0)], mkH (N + 1 + 1) ((N + 1, some (.row (dF b) 3 0 0 true)) :: (N, some (.row [] 3 0 0 false)) :: X) 0 [], .slice (N + 1) 0 (comp b).length (.slack 0), mkH (N + 1 + 1) ((N + 1, some (.row (dF (padC b)) 3 0 0 true)) :: (N + 1, some (.row (dF b) 3 0 0 true)) :: (N, some (.row [] 3 0 0 false)) :: X) 0 []⟩] [(8, 13)] mixed aJ (by
      simp only [List.forall_mem_cons]
      refine ⟨ct123 hb0 hmb hN1', ct152 hb0 hmb hN1' (by rw [aB.eq_2, if_pos rfl]) ?_, fun _ h => by cases h⟩
      intro x hx
      simp only [List.mem_cons] at hx
      rcases hx with rfl | rfl | hx
      · exact hN1'
      · exact hN0
      · exact (hXb x hx).1) (by kernel_rfl) (by kernel_rfl) ?_)
    (try simp only [SS, TF113Can6, aA, Nat.reduceLT, Nat.reduceEqDiff, Nat.reduceAdd, reduceCtorEq, WS, WM, ↓bB, hX3, hXi, b1, hby, hid0, c1, sr, n1, n2, n3, n4, n5])
    refine ⟨by kernel_rfl, ?_⟩
    (try simp only [q2])
    refine ⟨⟨(i + 1, .slice id 0 F.length (.slack 0), N + 1 + 1, [(id, some (.row (aV (csM F (i + 1))) 27 0 0 true)), (3, some (.row [.str p, .str e, .bool false, .slice id 0 F.length (.slack 0)] 24 0 0 false)), (1, some zq), (0, some rq)]), hlt, .inr ⟨id, h1, by show id < N + 1 + 1; omega, by rw [hcl2], by rw [aB.eq_2, if_pos rfl]⟩, by show 4 ≤ N + 1 + 1; omega, by show N + 1 + 1 ≤ 40 + 2 * (i + 1); omega, ?_, ?_, ?_⟩, by simp; omega, ?_⟩
    · rw [aB.eq_2, if_neg (by omega)]; simp [aB]
    · rw [aB.eq_2, if_neg (by omega)]; simp [aB]
    · rw [aB.eq_2, if_neg (by omega)]; simp [aB]
    refine aF.fzP (sz := 1) (len := (comp b).length) (cells := dF (padC b)) (cells' := dF (padC b)) (N + 1) hN1' (by rw [aB.eq_2, if_neg (by omega), aB.eq_2, if_pos rfl]) (keepL_eRow _) (by rw [eRow_length, padC_len]; omega) (by simp [look, fzR]) ?_ (by simp)
    rw [chunk_padC]
    intro x hx
    simp only [List.mem_cons, List.not_mem_nil, or_false] at hx
    rcases hx with rfl | rfl | rfl | rfl
    · exact ⟨hid0, by show id ≠ N + 1; omega, _, rfl, .inr ⟨(aV D).set (i * 5 + 4) (.slice (N + 1) 0 (comp b).length (.slack 0)), _, _, _, _, _, by rw [aB.eq_2, if_pos rfl], rfl, by rw [hset]; exact fzL_set (.inr ⟨.slack 0, rfl, rfl, rfl⟩) _ _⟩⟩
    · exact ⟨by simp, by show 3 ≠ N + 1; omega, _, rfl, .inl (by rw [aB.eq_2, if_neg (by omega), aB.eq_2, if_neg (by omega), aB.eq_2, if_neg (by omega), aB.eq_2, if_neg (by omega)]; exact hX3)⟩
    · exact ⟨by simp, by show 1 ≠ N + 1; omega, _, rfl, .inl (by rw [aB.eq_2, if_neg (by omega), aB.eq_2, if_neg (by omega), aB.eq_2, if_neg (by omega), aB.eq_2, if_neg (by omega)]; exact hX1)⟩
    · exact ⟨by simp, by show 0 ≠ N + 1; omega, _, rfl, .inl (by rw [aB.eq_2, if_neg (by omega), aB.eq_2, if_neg (by omega), aB.eq_2, if_neg (by omega), aB.eq_2, if_neg (by omega)]; exact hX0)⟩
  rintro ⟨N, hN1, hN2⟩
  dsimp only
  -- late, if there is a run and an out
  obtain ⟨T, hTT⟩ : ∃ T, T = tidyM l := ⟨_, rfl⟩
  have hTl : T.length < 9223372036854775808 := by rw [hTT, hT, List.length_map]; omega
  have hTo : ∀ m ∈ T, eA m := fun m hm => by
    rw [hTT, hT] at hm
    obtain ⟨x, hx, rfl⟩ := List.mem_map.1 hm
    have := hFb x hx
    have := comp_len x.b
    show (comp x.b).length < _
    omega
  have hlate : lateT late l = (late && (T.any isR && T.any isO)) := by rw [hTT]; rfl
  rw [hlate] at hQ
  rw [← hTT] at hQ ⊢
  have h122 : F153 [.lsl (aG T), .func 122 []] = some (.bool (T.any isR)) := by simp only [F153, F153_121, F153_122, cB hTl hTo, Option.map_some, Option.none_or]
  have h121 : F153 [.lsl (aG T), .func 121 []] = some (.bool (T.any isO)) := by simp only [F153, F153_121, cB hTl hTo, Option.map_some, Option.some_or]
  subst hrq
  unfold zq
  refine aD aJ _ _ _ _ ?_
  cases late with
  | false =>
    (try simp only [SS, TF113Can6, setRange, aA, Nat.reduceLT, Nat.reduceEqDiff, Nat.reduceAdd, Nat.reduceLeDiff, reduceCtorEq])
    (refine hQ _ _ _ (aC (by first | exact .inl rfl | exact .inr rfl) ?_); simp only [SS, TF113Can6, Nat.reduceLT, Nat.reduceEqDiff, Nat.reduceAdd, reduceCtorEq])
  | true =>
  cases y1 : T.any isR with
  | false =>
    rw [y1] at h122 hQ
    (try simp only [SS, TF113Can6, aH, setRange, aA, Nat.reduceLT, Nat.reduceEqDiff, Nat.reduceAdd, Nat.reduceLeDiff, reduceCtorEq, h122])
    (refine hQ _ _ _ (aC (by first | exact .inl rfl | exact .inr rfl) ?_); simp only [SS, TF113Can6, Nat.reduceLT, Nat.reduceEqDiff, Nat.reduceAdd, reduceCtorEq])
  | true =>
    rw [y1] at h122 hQ
    generalize T.any isO = q at *
    (try simp only [SS, TF113Can6, aH, setRange, aA, Nat.reduceLT, Nat.reduceEqDiff, Nat.reduceAdd, Nat.reduceLeDiff, reduceCtorEq, h122, h121])
    (refine hQ _ _ _ (aC (by first | exact .inl rfl | exact .inr rfl) ?_); simp only [SS, TF113Can6, Nat.reduceLT, Nat.reduceEqDiff, Nat.reduceAdd, reduceCtorEq])
theorem e113 {p e : List Nat} {late : Bool} {l : List Mv} (hlen : l.length < 9223372036854775808) (hok : ∀ m ∈ l, eA m) (hs : smallM l = true) : F113 [.agg [.str p, .str e, .bool late, .lsl (aG l)]] = some (.agg [.str p, .str e, .bool (lateT late l), .lsl (aG (tidyM l))]) := by
  simp only [F113, cB hlen hok, Option.bind_some]; rw [if_pos hs]
end Go.Ev
