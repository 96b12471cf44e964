import Derived.Test.YthdehohoafhnjaaGreatDoorEvD
import Derived.Test.YthdehohoafhnjaaGreatDoorCards
import Derived.Test.YthdehohoafhnjaaGreatDoorTie
import Derived.Test.YthdehohoafhnjaaGreatDoorLuL
set_option linter.unusedSimpArgs false
set_option linter.unusedVariables false
namespace Go.Proofs.YthdehohoafhnjaaGreatDoor.base
open Go.ChangeShapes Go.WideShapes Go.ChangeAt Go.RowKit Go.Lib Go.Ev Go.Joins Go.Deep
theorem own : ownKnob Tryz.prog.godebug = none := by kernel_rfl
set_option maxRecDepth 100000 in
theorem uS : laidOutB Tryz.prog = true := by kernel_rfl
noncomputable def m6 (os : Os) : World :=
 { World.holding Tryz.prog os ⟨#[], #[], []⟩ with heap := layH [(2, Rows.laid_math_bits_deBruijn32tab), (3, Rows.laid_math_bits_deBruijn64tab), (0, Rows.laid_internal_strconv_uint64pow10), (5, Rows.laid_unicode_utf8_acceptRanges), (4, Rows.laid_unicode_utf8_first)] (World.holding Tryz.prog os ⟨#[], #[], []⟩).heap }
theorem gLaid {W : World} (_ : laidMet Tryz.prog Rows.lineupOrdersRow.laid W) : GRel W.heap.size W gT := fun _ _ h => by cases h
theorem bN {l : List Nat} (h : axS .s (.str l)) : bH l = true := by
 cases h with
 | s x _ =>
   unfold bH
   rw [List.all_eq_true]
   intro c hc
   simp only [List.mem_map] at hc
   obtain ⟨a, _, rfl⟩ := hc
   exact decide_eq_true a.toNat_lt
theorem luY {x : Lu} (h : Suits [.s, .s, .s, .s, .s, .s, .s, .s, .s, .i .i64, .i .i64, .i .i64, .i .i64, .i .i64, .i .i64, .i .i64, .i .i64, .i .i64] [.str x.b0, .str x.b1, .str x.b2, .str x.b3, .str x.b4, .str x.b5, .str x.b6, .str x.b7, .str x.b8, .int .i64 x.p0, .int .i64 x.p1, .int .i64 x.p2, .int .i64 x.p3, .int .i64 x.p4, .int .i64 x.p5, .int .i64 x.p6, .int .i64 x.p7, .int .i64 x.p8]) : LuY x := by
 cases h with | cons _ _ _ _ h0 h =>
 cases h with | cons _ _ _ _ h1 h =>
 cases h with | cons _ _ _ _ h2 h =>
 cases h with | cons _ _ _ _ h3 h =>
 cases h with | cons _ _ _ _ h4 h =>
 cases h with | cons _ _ _ _ h5 h =>
 cases h with | cons _ _ _ _ h6 h =>
 cases h with | cons _ _ _ _ h7 h =>
 cases h with | cons _ _ _ _ h8 h =>
 exact ⟨bN h0, bN h1, bN h2, bN h3, bN h4, bN h5, bN h6, bN h7, bN h8⟩
end Go.Proofs.YthdehohoafhnjaaGreatDoor.base
