import Derived.Test.YtahijjbkefmdpaaGreatDoorEvD
import Derived.Test.YtahijjbkefmdpaaGreatDoorCards
import Derived.Test.YtahijjbkefmdpaaGreatDoorTie
import Derived.Test.YtahijjbkefmdpaaGreatDoorLuT3
set_option linter.unusedSimpArgs false
set_option linter.unusedVariables false
namespace Go.Proofs.YtahijjbkefmdpaaGreatDoor.base
open Go.ChangeShapes Go.WideShapes Go.ChangeAt Go.RowKit Go.Lib Go.Ev Go.Joins Go.Deep
theorem own : ownKnob Tryz.prog.godebug = none := by kernel_rfl
set_option maxRecDepth 100000 in
theorem uT : laidOutB Tryz.prog = true := by kernel_rfl
noncomputable def nG (os : Os) : World :=
 { World.holding Tryz.prog os ⟨#[], #[], []⟩ with heap := layH [(2, Rows.laid_math_bits_deBruijn32tab), (3, Rows.laid_math_bits_deBruijn64tab), (0, Rows.laid_internal_strconv_uint64pow10), (5, Rows.laid_unicode_utf8_acceptRanges), (4, Rows.laid_unicode_utf8_first)] (World.holding Tryz.prog os ⟨#[], #[], []⟩).heap }
theorem gLaid {W : World} (_ : laidMet Tryz.prog Rows.lineupTurnsRow.laid W) : GRel W.heap.size W gT := fun _ _ h => by cases h
theorem bS {l : List Nat} (h : zB .s (.str l)) : aQ l = true := by
 cases h with
 | s x _ =>
   unfold aQ
   rw [List.all_eq_true]
   intro c hc
   simp only [List.mem_map] at hc
   obtain ⟨a, _, rfl⟩ := hc
   exact decide_eq_true a.toNat_lt
theorem luY {x : Lu} (h : Suits [.s, .s, .s, .s, .s, .s, .s, .s, .s, .i .i64, .i .i64, .i .i64, .i .i64, .i .i64, .i .i64, .i .i64, .i .i64, .i .i64] [.str x.b0, .str x.b1, .str x.b2, .str x.b3, .str x.b4, .str x.b5, .str x.b6, .str x.b7, .str x.b8, .int .i64 x.p0, .int .i64 x.p1, .int .i64 x.p2, .int .i64 x.p3, .int .i64 x.p4, .int .i64 x.p5, .int .i64 x.p6, .int .i64 x.p7, .int .i64 x.p8]) : aQ x.b0 = true ∧ aQ x.b1 = true ∧ aQ x.b2 = true ∧ aQ x.b3 = true ∧ aQ x.b4 = true ∧ aQ x.b5 = true ∧ aQ x.b6 = true ∧ aQ x.b7 = true ∧ aQ x.b8 = true := by
 cases h with | cons _ _ _ _ h0 h =>
 cases h with | cons _ _ _ _ h1 h =>
 cases h with | cons _ _ _ _ h2 h =>
 cases h with | cons _ _ _ _ h3 h =>
 cases h with | cons _ _ _ _ h4 h =>
 cases h with | cons _ _ _ _ h5 h =>
 cases h with | cons _ _ _ _ h6 h =>
 cases h with | cons _ _ _ _ h7 h =>
 cases h with | cons _ _ _ _ h8 h =>
 exact ⟨bS h0, bS h1, bS h2, bS h3, bS h4, bS h5, bS h6, bS h7, bS h8⟩
theorem zH {n : Int} (h : zB (.i .u8) (.int .u8 n)) : 0 ≤ n ∧ n < 256 := by
 cases h with
 | i _ _ hw =>
   have h2 : IntKind.u8.min ≤ n ∧ n ≤ IntKind.u8.max := by simpa [Lit.wf] using hw
   have e1 : IntKind.u8.min = 0 := rfl
   have e2 : IntKind.u8.max = 255 := rfl
   omega
theorem vZ : ∀ {l : List Int}, SuitR [.i .u8] (V.css (l.map rU8.v)) → ∀ x ∈ l, 0 ≤ x
 | [], _, x, hx => by cases hx
 | y :: l, h, x, hx => by
   have h : SuitR [.i .u8] ([.int .u8 y] :: V.css (l.map rU8.v)) := h
   cases h with
   | cons _ _ _ hs hr =>
     rcases List.mem_cons.1 hx with rfl | hx
     · cases hs with | cons _ _ _ _ h1 _ => exact (zH h1).1
     · exact vZ hr x hx
theorem ajY {l : List Int} (h : zB (.l [.i .u8]) ((Cod.list 0 rU8).v l).c) : ∀ x ∈ l, 0 ≤ x := by
 have e : ((Cod.list 0 rU8).v l).c = .lsl (V.css (l.map rU8.v)) := (nF (d := 0) (A := rU8) (hk := rfl) (l := l)).symm.trans (by rw [V.c])
 have h2 : zB (.l [.i .u8]) (.lsl (V.css (l.map rU8.v))) := cast (congrArg (zB _) e) h
 cases h2 with
 | l _ _ _ hr => exact vZ hr
end Go.Proofs.YtahijjbkefmdpaaGreatDoor.base
