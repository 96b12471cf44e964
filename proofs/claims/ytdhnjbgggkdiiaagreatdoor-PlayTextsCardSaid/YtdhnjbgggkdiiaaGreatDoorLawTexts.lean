import Derived.Test.YtdhnjbgggkdiiaaGreatDoorRefPa
import Derived.Test.YtdhnjbgggkdiiaaGreatDoorPrintA
import Derived.Test.YtdhnjbgggkdiiaaGreatDoorPaAll
import Derived.Test.YtdhnjbgggkdiiaaGreatDoorAwake
set_option linter.unusedSimpArgs false
set_option linter.unusedVariables false
namespace Go.Ev
open Go.RowKit Go.Proofs
set_option linter.defProp false
def TF6LawTexts := And.intro (And.intro (And.intro (And.intro (And.intro (And.intro (@Tryz.underlying3) (@sz3)) (And.intro (@bN) (And.intro (@I3s) (@I3b)))) (And.intro (And.intro (@bL) (@bO)) (And.intro (@Tryz.underlying4) (And.intro (@sz4) (@dC))))) (And.intro (And.intro (And.intro (@I4s) (@I4b)) (And.intro (@cY) (And.intro (@dD) (@Tryz.underlying5)))) (And.intro (And.intro (@sz5) (@dK)) (And.intro (@I5s) (And.intro (@I5b) (@dG)))))) (And.intro (And.intro (And.intro (And.intro (@dL) (@Tryz.underlying9)) (And.intro (@sz9) (And.intro (@bI) (@I9s)))) (And.intro (And.intro (@I9b) (@bH)) (And.intro (@bJ) (And.intro (@Tryz.underlying22) (@eN))))) (And.intro (And.intro (And.intro (@dO) (@eO)) (And.intro (@eP) (And.intro (@dH) (@dP)))) (And.intro (And.intro (@Tryz.underlying24) (And.intro (@sz24) (@fok24))) (And.intro (@info24) (And.intro (@I24s) (@I24b))))))) (And.intro (And.intro (And.intro (And.intro (And.intro (@zero24) (@grow24)) (And.intro (@Tryz.underlying25) (And.intro (@eB) (@cE)))) (And.intro (And.intro (@eC) (@eD)) (And.intro (@cC) (And.intro (@cF) (@Tryz.underlying27))))) (And.intro (And.intro (And.intro (@eE) (@dF)) (And.intro (@cJ) (And.intro (@eF) (@eG)))) (And.intro (And.intro (@cH) (And.intro (@cK) (@Tryz.underlying54))) (And.intro (@sz54) (And.intro (@info54) (@I54s)))))) (And.intro (And.intro (And.intro (And.intro (@I54b) (@zero54)) (And.intro (@grow54) (And.intro (@Tryz.underlying56) (@sz56)))) (And.intro (And.intro (@info56) (@I56s)) (And.intro (@I56b) (And.intro (@zero56) (@grow56))))) (And.intro (And.intro (And.intro (@call16) (@call35)) (And.intro (@call36) (And.intro (@call37) (@call38)))) (And.intro (And.intro (@call39) (And.intro (@call40) (@call41))) (And.intro (@call42) (And.intro (@call43) (@Tryz.results6)))))))
set_option maxRecDepth 20000
set_option maxHeartbeats 8000000

def F6 : List EVal → Option EVal
  | [v, .str s] => match dPls v with
    | some L => if L.all plB = true ∧ aM s = true then some (.bool true) else none
    | _ => none
  | _ => none
theorem fn6 : FnT 6 F6 := by
  refine Fn.intro mixed aI Tryz.func6 rfl [(16, F16), (35, F35), (36, F36), (37, F37), (38, F38), (39, F39), (40, F40), (41, F41), (42, F42), (43, F43)] (by simp only [List.forall_mem_cons]; exact ⟨fn16, fn35, fn36, fn37, fn38, fn39, fn40, fn41, fn42, fn43, fun _ h => by cases h⟩) ?_
  intro args v hF
  unfold F6 at hF
  split at hF
  rotate_left
  · cases hF
  intro Q hV
  have hQ := aS.of hV
  rename_i v s
  split at hF
  rotate_left
  · cases hF
  rename_i L hv
  split at hF
  rotate_left
  · cases hF
  rename_i hc
  obtain ⟨hbL, hbs⟩ := hc
  cases hF
  obtain ⟨rfl, hlenL, hokL⟩ := dPls_inv hv
  clear hv
  have h16 := e16
  have h35 := e35 (n := 8) hlenL hokL
  refine Top.view (aH.start (n := 86) rfl (by simp)) ?_
  refine Top.join (σ := Unit) aI (fun _ => mkF 86 [(0, .lsl (cX L)), (1, .str s)]) (fun _ => mkH 0 [] 0 []) ?_ ?_
  · intro R hR
    (try simp only [aG, SS, aA, Nat.reduceLT])
    exact hR () _ _ (aH.sub (by simp [look]))
  intro _
  refine Top.joinR (σ := { _u : Unit // shortL L 8 = true ∧ s.length ≤ 4000 }) aI (fun _ => mkF 86 [(0, .lsl (cX L)), (1, .str s)]) (fun _ => mkH 0 [] 0 []) ?_ ?_
  · intro R hR hRr
    have fin : ∀ f : List (Nat × EVal), look f 4 = some (.bool true) → R .ret (mkF 86 f) (mkH 0 [] 0 []) := fun f h => hRr _ _ (hQ _ _ _ (aC (.inl rfl) (by simp only [SS, TF6LawTexts, Nat.reduceLT, h])))
    cases y1 : shortL L 8 with
    | false =>
      rw [y1] at h35
      (try simp only [SS, TF6LawTexts, aF, aA, Nat.reduceLT, Nat.reduceEqDiff, reduceCtorEq, h16, h35])
      exact fin _ rfl
    | true =>
    rw [y1] at h35
    by_cases h4 : 4000 < s.length
    · have q4 : decide ((4000 : Int) < (s.length : Int)) = true := by simp; omega
      (try simp only [SS, TF6LawTexts, aF, aA, Nat.reduceLT, Nat.reduceEqDiff, reduceCtorEq, h16, h35, q4])
      exact fin _ rfl
    have q4 : decide ((4000 : Int) < (s.length : Int)) = false := by simp; omega
    have h36 : F36 [.str s, .int .u8 10] = some (.lsl (cZ (aT 10 s))) := e36 (l := s) (c := 10) (by omega) (by omega)
    by_cases h6 : 600 < s.length
    · have q6 : decide ((600 : Int) < (s.length : Int)) = true := by simp; omega
      generalize aT 10 s = ws at h36
      by_cases hw : ws.length ≤ 256
      · have q7 : decide ((ws.length : Int) ≤ 256) = true := by simp; omega
        (try simp only [SS, TF6LawTexts, aF, aA, Nat.reduceLT, Nat.reduceEqDiff, reduceCtorEq, h16, h35, q4, q6, h36, aY, q7])
        exact fin _ rfl
      · have q7 : decide ((ws.length : Int) ≤ 256) = false := by simp; omega
        (try simp only [SS, TF6LawTexts, aF, aA, Nat.reduceLT, Nat.reduceEqDiff, reduceCtorEq, h16, h35, q4, q6, h36, aY, q7])
        exact hR ⟨(), y1, by omega⟩ _ _ (aH.sub (by simp [look]))
    · have q6 : decide ((600 : Int) < (s.length : Int)) = false := by simp; omega
      (try simp only [SS, TF6LawTexts, aF, aA, Nat.reduceLT, Nat.reduceEqDiff, reduceCtorEq, h16, h35, q4, q6])
      exact hR ⟨(), y1, by omega⟩ _ _ (aH.sub (by simp [look]))
  rintro ⟨_, hsh, hsl⟩
  simp only [shortL, Bool.and_eq_true, Bool.not_eq_true', Bool.or_eq_false_iff, decide_eq_false_iff_not, List.all_eq_true] at hsh
  obtain ⟨⟨_, h258⟩, hsh⟩ := hsh
  have h38 := e38 hlenL hokL (by
    simp only [copyL, Bool.and_eq_true, decide_eq_true_eq, List.all_eq_true]
    exact ⟨by omega, fun x hx => short_copy3 (hsh x hx)⟩)
  have h37 := e37 hlenL hokL hbL
  have h39 := e39 hbs (by omega)
  have h41 := e41 hbs (by omega)
  have h40 : F40 [.lsl (cX L)] = some (.int .i64 (chE L)) := by simp only [F40, dPls_e hlenL hokL, Option.map_some]
  obtain ⟨okp, lp⟩ := paT_ok (s := s) (by omega)
  unfold paE at h39 h41
  obtain ⟨G, hG⟩ : ∃ G, G = (paT s).1 := ⟨_, rfl⟩
  obtain ⟨a1, ha1⟩ : ∃ a1 : Int, a1 = (((paT s).2.1 : Nat) : Int) := ⟨_, rfl⟩
  obtain ⟨a2, ha2⟩ : ∃ a2, a2 = (paT s).2.2 := ⟨_, rfl⟩
  rw [← hG, ← ha1, ← ha2] at h39 h41
  rw [← hG] at okp lp
  have h43 := e43 lp okp lp okp
  rw [samePls_rfl] at h43
  have qa1 : (a1 == a1) = true := by simp
  have qa2 : (a2 == a2) = true := by simp
  obtain ⟨T, hT⟩ : ∃ T, T = (if chE L = 0 then dZ L else []) := ⟨_, rfl⟩
  unfold prR at h37
  rw [← hT] at h37
  have h42 : chE L = 0 → F42 [.lsl (cX L)] = some (.str T) := by
    intro h
    have hz := chE_zero h
    rw [hT, if_pos h]
    refine e42 hlenL hokL ?_
    simp only [okPr, Bool.and_eq_true, decide_eq_true_eq, List.all_eq_true]
    refine ⟨by omega, fun x hx => playE_pr ?_ (hz.2 x hx)⟩
    have := List.all_eq_true.1 hbL x hx
    simpa [plB] using this
  have hT0 : chE L ≠ 0 → T = [] := fun h => by rw [hT, if_neg h]
  obtain ⟨z, hz⟩ : ∃ z, z = chE L := ⟨_, rfl⟩
  rw [← hz] at h37 h40 h42 hT0
  have qz : (z == z) = true := by simp
  have qt : decide (T = T) = true := by simp
  clear hG ha1 ha2 hz hT hsh okp lp
  refine Top.join (σ := Unit) aI (fun _ => mkF 86 [(0, .lsl (cX L)), (1, .str s), (5, .str T), (6, .int .i64 z)]) (fun _ => mkH 0 [] 0 []) ?_ ?_
  · intro R hR
    (try simp only [SS, TF6LawTexts, aF, aA, Nat.reduceLT, Nat.reduceEqDiff, reduceCtorEq, h38, h37])
    exact hR () _ _ (aH.sub (by simp [look]))
  intro _
  refine Top.join (σ := Unit) aI (fun _ => mkF 86 [(0, .lsl (cX L)), (1, .str s), (5, .str T), (6, .int .i64 z), (7, .lsl (cX G)), (8, .int .i64 a1), (9, .int .i64 a2)]) (fun _ => mkH 0 [] 0 []) ?_ ?_
  · intro R hR
    (try simp only [SS, TF6LawTexts, aF, aA, Nat.reduceLT, Nat.reduceEqDiff, reduceCtorEq, h39])
    exact hR () _ _ (aH.sub (by simp [look]))
  intro _
  refine Top.join (σ := Unit) aI (fun _ => mkF 86 [(0, .lsl (cX L)), (1, .str s), (5, .str T), (6, .int .i64 z), (7, .lsl (cX G)), (8, .int .i64 a1), (9, .int .i64 a2), (10, .int .i64 z)]) (fun _ => mkH 0 [] 0 []) ?_ ?_
  · intro R hR
    (try simp only [SS, TF6LawTexts, aF, aA, Nat.reduceLT, Nat.reduceEqDiff, reduceCtorEq, h40])
    exact hR () _ _ (aH.sub (by simp [look]))
  intro _
  refine Top.join (σ := Unit) aI (fun _ => mkF 86 [(0, .lsl (cX L)), (5, .str T), (6, .int .i64 z), (7, .lsl (cX G)), (8, .int .i64 a1), (9, .int .i64 a2), (10, .int .i64 z), (11, .lsl (cX G)), (12, .int .i64 a1), (13, .int .i64 a2)]) (fun _ => mkH 0 [] 0 []) ?_ ?_
  · intro R hR
    (try simp only [SS, TF6LawTexts, aF, aA, Nat.reduceLT, Nat.reduceEqDiff, reduceCtorEq, h41])
    exact hR () _ _ (aH.sub (by simp [look]))
  intro _
  refine aD aI _ _ _ _ ?_
  cases y : (z == 0) with
  | false =>
    rw [hT0 (by simpa using y)]
    have qe : decide (([] : List Nat) = []) = true := by simp
    (try simp only [SS, TF6LawTexts, aF, aA, Nat.reduceLT, Nat.reduceEqDiff, reduceCtorEq, y, h43])
    (refine hQ _ _ _ (aC (by first | exact .inl rfl | exact .inr rfl) ?_); simp only [SS, TF6LawTexts, Nat.reduceLT, Nat.reduceEqDiff, reduceCtorEq])
  | true =>
    have h42 := h42 (by simpa using y)
    (try simp only [SS, TF6LawTexts, aF, aA, Nat.reduceLT, Nat.reduceEqDiff, reduceCtorEq, y, h42, h43])
    (refine hQ _ _ _ (aC (by first | exact .inl rfl | exact .inr rfl) ?_); simp only [SS, TF6LawTexts, Nat.reduceLT, Nat.reduceEqDiff, reduceCtorEq])
end Go.Ev
