import Derived.Test.YtdhnjbgggkdiiaaGreatDoorBackV
import Derived.Test.YtdhnjbgggkdiiaaGreatDoorSame
set_option linter.unusedSimpArgs false
set_option linter.unusedVariables false
namespace Go.Ev
open Go.RowKit Go.Proofs
set_option maxRecDepth 20000
set_option maxHeartbeats 8000000

/-! what is read without an error is the string of the play that is read -/
end Go.Ev
namespace Go.Ev
open Go.RowKit Go.Proofs
set_option linter.defProp false
def TF40Plays := And.intro (And.intro (And.intro (And.intro (And.intro (@Tryz.underlying3) (And.intro (@sz3) (@bN))) (And.intro (And.intro (@I3s) (@I3b)) (And.intro (@bL) (@bO)))) (And.intro (And.intro (And.intro (@Tryz.underlying4) (@sz4)) (And.intro (@dC) (@I4s))) (And.intro (And.intro (@I4b) (@cY)) (And.intro (@dD) (@Tryz.underlying9))))) (And.intro (And.intro (And.intro (@sz9) (And.intro (@bI) (@I9s))) (And.intro (And.intro (@I9b) (@bH)) (And.intro (@bJ) (@Tryz.underlying22)))) (And.intro (And.intro (And.intro (@eN) (@dO)) (And.intro (@eO) (@eP))) (And.intro (And.intro (@dH) (@dP)) (And.intro (@Tryz.underlying24) (@sz24)))))) (And.intro (And.intro (And.intro (And.intro (@fok24) (And.intro (@info24) (@I24s))) (And.intro (And.intro (@I24b) (@zero24)) (And.intro (@grow24) (@Tryz.underlying25)))) (And.intro (And.intro (And.intro (@eB) (@cE)) (And.intro (@eC) (@eD))) (And.intro (And.intro (@cC) (@cF)) (And.intro (@Tryz.underlying27) (@eE))))) (And.intro (And.intro (And.intro (@dF) (And.intro (@cJ) (@eF))) (And.intro (And.intro (@eG) (@cH)) (And.intro (@cK) (@Tryz.underlying54)))) (And.intro (And.intro (And.intro (@sz54) (@info54)) (And.intro (@I54s) (@I54b))) (And.intro (And.intro (@zero54) (@grow54)) (And.intro (@call20) (@Tryz.results40))))))
set_option maxRecDepth 20000
set_option maxHeartbeats 8000000

/-! lists of plays -/
def ePl (q : Pl) : List EVal := [.str q.p, .str q.e, .bool q.l, .lsl (aZ q.m)]
def cX (l : List Pl) : List (List EVal) := l.map ePl
def eM (q : Pl) : Prop := q.m.length < 9223372036854775808 ∧ ∀ m ∈ q.m, eI m
def dPl : List EVal → Option Pl
  | [.str p, .str e, .bool l, ms] => (dI ms).map fun m => ⟨p, e, l, m⟩
  | _ => none
def dPlsL : List (List EVal) → Option (List Pl)
  | [] => some []
  | x :: l => match dPl x, dPlsL l with
    | some q, some r => some (q :: r)
    | _, _ => none
def dPls : EVal → Option (List Pl)
  | .lsl els => if els.length < 9223372036854775808 then dPlsL els else none
  | _ => none
theorem dPl_inv {x : List EVal} {q : Pl} (h : dPl x = some q) : x = ePl q ∧ eM q := by
  unfold dPl at h
  split at h
  · rename_i p e l ms
    cases hm : dI ms with
    | none => rw [hm] at h; cases h
    | some m =>
      rw [hm] at h; cases h
      obtain ⟨rfl, h1, h2⟩ := dMoves_inv hm
      exact ⟨rfl, h1, h2⟩
  · cases h
theorem dPlsL_inv : ∀ {els : List (List EVal)} {l : List Pl}, dPlsL els = some l → els = cX l ∧ ∀ q ∈ l, eM q
  | [], l, h => by cases h; exact ⟨rfl, fun _ h => by cases h⟩
  | x :: els, l, h => by
    unfold dPlsL at h
    split at h
    · rename_i q r h1 h2
      cases h
      obtain ⟨rfl, a⟩ := dPl_inv h1
      obtain ⟨rfl, b⟩ := dPlsL_inv h2
      refine ⟨rfl, fun y hy => ?_⟩
      rcases List.mem_cons.1 hy with rfl | hy
      · exact a
      · exact b y hy
    · cases h
theorem bE (l : List Pl) : (cX l).length = l.length := by simp [cX]
theorem dPls_inv {v : EVal} {l : List Pl} (h : dPls v = some l) : v = .lsl (cX l) ∧ l.length < 9223372036854775808 ∧ ∀ q ∈ l, eM q := by
  unfold dPls at h
  split at h
  · split at h
    · rename_i hl
      obtain ⟨rfl, h2⟩ := dPlsL_inv h
      exact ⟨rfl, by simpa [bE] using hl, h2⟩
    · cases h
  · cases h
theorem dPl_e {q : Pl} (h : eM q) : dPl (ePl q) = some q := by
  simp only [dPl, ePl, dMoves_e h.1 h.2, Option.map_some]
theorem dPlsL_e : ∀ {l : List Pl}, (∀ q ∈ l, eM q) → dPlsL (cX l) = some l
  | [], _ => rfl
  | q :: l, h => by
    have ih := dPlsL_e (l := l) fun x hx => h x (List.mem_cons_of_mem _ hx)
    show dPlsL (ePl q :: cX l) = _
    simp only [dPlsL, dPl_e (h q List.mem_cons_self), ih]
theorem dPls_e {l : List Pl} (hl : l.length < 9223372036854775808) (h : ∀ q ∈ l, eM q) : dPls (.lsl (cX l)) = some l := by
  simp only [dPls, bE, hl, if_true]
  exact dPlsL_e h
theorem ePls_get (l : List Pl) (i : Nat) : (cX l)[i]? = (l[i]?).map ePl := by simp [cX]
theorem ePl_q (q : Pl) : ePl q = [.str q.p, .str q.e, .bool q.l, .lsl (aZ q.m)] := (rfl)
/-- the first error of plays -/
def checkL : List Pl → Int
  | [] => 0
  | q :: r => if playE q.p q.e q.m ≠ 0 then playE q.p q.e q.m else checkL r
def chE (l : List Pl) : Int := if 256 < l.length then 5 else checkL l
theorem checkL_drop {l : List Pl} {k : Nat} {q : Pl} (h : l[k]? = some q) : checkL (l.drop k) = if playE q.p q.e q.m ≠ 0 then playE q.p q.e q.m else checkL (l.drop (k + 1)) := by
  obtain ⟨hk, rfl⟩ := List.getElem?_eq_some_iff.1 h
  rw [List.drop_eq_getElem_cons hk]; rfl
def F40 : List EVal → Option EVal
  | [v] => (dPls v).map fun l => .int .i64 (chE l)
  | _ => none
theorem fn40 : FnT 40 F40 := by
  refine Fn.intro mixed aI Tryz.func40 rfl [(20, F20)] (by simp only [List.forall_mem_cons]; exact ⟨fn20, fun _ h => by cases h⟩) ?_
  intro args v hF
  unfold F40 at hF
  split at hF
  rotate_left
  · cases hF
  intro Q hV
  have hQ := aS.of hV
  rename_i ps
  cases ha : dPls ps with
  | none => rw [ha] at hF; cases hF
  | some l =>
  rw [ha] at hF
  cases hF
  obtain ⟨rfl, hlen, hok⟩ := dPls_inv ha
  clear ha
  refine Top.view (aH.start (n := 22) rfl (by simp)) (aD aI _ _ _ _ ?_)
  by_cases hl : 256 < l.length
  · have q1 : decide ((256 : Int) < (l.length : Int)) = true := by simp; omega
    (try simp only [aG, SS, TF40Plays, aA, Nat.reduceLT, Nat.reduceEqDiff, reduceCtorEq, bE, q1])
    (refine hQ _ _ _ (aC (by first | exact .inl rfl | exact .inr rfl) ?_); simp only [SS, TF40Plays, Nat.reduceLT, Nat.reduceEqDiff, reduceCtorEq])
    simp only [chE, if_pos hl]
  have q1 : decide ((256 : Int) < (l.length : Int)) = false := by simp; omega
  (try simp only [aG, SS, TF40Plays, aA, Nat.reduceLT, Nat.reduceEqDiff, reduceCtorEq, bE, q1])
  refine aU (Top.loop (I := fun s : { k : Nat // k ≤ l.length ∧ checkL l = checkL (l.drop k) } => (mkF 22 [(3, .int .i64 (s.1 : Nat)), (0, .lsl (cX l))], mkH 0 [] 0 [])) (μ := fun s => l.length - s.1) ⟨0, by simp, rfl⟩ (aH.drop (by simp [look, below]) (by simp [aB, bG]) (by simp [aB])) ?_)
  rintro ⟨k, hk, hf⟩
  refine aD aI _ _ _ _ ?_
  by_cases hlt : k < l.length
  rotate_left
  · have q2 : decide ((k : Int) < (l.length : Int)) = false := by simp; omega
    (try simp only [SS, TF40Plays, aA, Nat.reduceLT, Nat.reduceEqDiff, reduceCtorEq, bE, q2])
    (refine hQ _ _ _ (aC (by first | exact .inl rfl | exact .inr rfl) ?_); simp only [SS, TF40Plays, Nat.reduceLT, Nat.reduceEqDiff, reduceCtorEq])
    have : l.drop k = [] := List.drop_eq_nil_of_le (by omega)
    rw [this] at hf
    simp only [chE, if_neg hl, hf]; rfl
  obtain ⟨q, hx⟩ : ∃ q, l[k]? = some q := ⟨l[k], List.getElem?_eq_getElem hlt⟩
  have hq := hok q (List.mem_of_getElem? hx)
  have h20 : F20 [.agg [.str q.p, .str q.e, .bool q.l, .lsl (aZ q.m)]] = some (.int .i64 (playE q.p q.e q.m)) := by simp only [F20, dMoves_e hq.1 hq.2, Option.map_some]
  have hd := checkL_drop hx
  obtain ⟨z, hz⟩ : ∃ z, playE q.p q.e q.m = z := ⟨_, rfl⟩
  rw [hz] at h20 hd
  have q2 : decide ((k : Int) < (l.length : Int)) = true := by simp; omega
  have w1 : IntKind.i64.wrap ((k : Int) + 1) = ((k + 1 : Nat) : Int) := by rw [aR] <;> omega
  cases hz0 : (z == 0) with
  | false =>
    have hz1 : z ≠ 0 := by simpa using hz0
    rw [if_pos hz1] at hd
    (try simp only [SS, TF40Plays, aF, aA, Nat.reduceLT, Nat.reduceEqDiff, Nat.reduceAdd, reduceCtorEq, bE, ePls_get, ePl_q, hx, q2, h20, hz0])
    (refine hQ _ _ _ (aC (by first | exact .inl rfl | exact .inr rfl) ?_); simp only [SS, TF40Plays, Nat.reduceLT, Nat.reduceEqDiff, reduceCtorEq])
    simp only [chE, if_neg hl, hf, hd]
  | true =>
    have hz1 : z = 0 := by simpa using hz0
    rw [if_neg (by simpa using hz1)] at hd
    (try simp only [SS, TF40Plays, aF, aA, Nat.reduceLT, Nat.reduceEqDiff, Nat.reduceAdd, reduceCtorEq, bE, ePls_get, ePl_q, hx, q2, h20, hz0, w1])
    exact ⟨⟨k + 1, hlt, by rw [hf, hd]⟩, by simp; omega, (aH.drop (by simp [look, below]) (by simp [aB, bG]) (by simp [aB]))⟩
end Go.Ev
