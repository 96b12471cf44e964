/-
  NARROWER THAN 'FOR EVERY INPUT', by the rows' own cells (each row's printed sentence says how): RuleStates: laid · RuleCounts: laid · RulePlays: laid · RuleGames: laid · RuleHalves: laid · RuleTexts: laid · RuleConserves: laid · RuleBalances: laid · RuleParts: laid · RuleStrict: laid · RuleForces: laid.
  DERIVED. THE GIVEN ROWS OF THIS SEAT. 11 by the template 'for every input the law returns true; each argument reads behind the call as it read before'; 0 by the template 'total and deterministic' (their statements: YtgjbmohchdmdkaaGreatDoorTotals.lean).
  GIVEN WITH THE SEED: the statements are not yours to turn. If you find one false, say at which input.
  Laid BY PROGRAM, IN A SANDBOX (cutbox-rows.mjs): the forced cells as the released guide's own fill.sh prints them over the translation f0740a6e680c50c9… (all of the seat's roots in one cut). By AI agents, Wed Nov 11 2026. No macro, syntax, notation, axiom, sorry.
-/
import Derived.Test.YtgjbmohchdmdkaaGreatDoorChecked
import GoSem.PinnedTables
import GoSem.Claim
import GoSem.ClaimJoined
import GoSem.ClaimMapViews
import Derived.JoinedTies
import Derived.KernelRfl
namespace Go.Proofs.YtgjbmohchdmdkaaGreatDoor
/- THE CELL 'sum', in the pinned program and in every row, IS THE sha256 OF THE DUMP (.gsa) THAT YtgjbmohchdmdkaaGreatDoorProg.lean LOADS. Nothing in Lean hashes anything: it is a label: what it is worth is what the hold of that sum in a sandbox is worth. -/
noncomputable def Tryz.pinned : Pinned := { name := "ytgjbmohchdmdkaagreatdoor", sum := "f0740a6e680c50c9eb6d69d96590c29774349810cfe57e8a4c4b67483db8980d", checked := Tryz.checked }
namespace Rows
def none {H : Type} : Left H := { results := [], args := [] }

/- WHAT THE LISTED PACKAGE-LEVEL VARIABLES READ AS WHEN THE CALL BEGINS. Each datum BY PROGRAM (the guide's laid-datum.mjs) off the statement by which the dump's own 'gosem.cut.vars' lays the variable. In a bare row this is a premise. The card (YtgjbmohchdmdkaaGreatDoorCards.lean) ties it to the program's text. -/
def laid_math_bits_deBruijn32tab {H : Type} : DataW H := .agg [.lit (.int .u8 0), .lit (.int .u8 1), .lit (.int .u8 28), .lit (.int .u8 2), .lit (.int .u8 29), .lit (.int .u8 14), .lit (.int .u8 24), .lit (.int .u8 3), .lit (.int .u8 30), .lit (.int .u8 22), .lit (.int .u8 20), .lit (.int .u8 15), .lit (.int .u8 25), .lit (.int .u8 17), .lit (.int .u8 4), .lit (.int .u8 8), .lit (.int .u8 31), .lit (.int .u8 27), .lit (.int .u8 13), .lit (.int .u8 23), .lit (.int .u8 21), .lit (.int .u8 19), .lit (.int .u8 16), .lit (.int .u8 7), .lit (.int .u8 26), .lit (.int .u8 12), .lit (.int .u8 18), .lit (.int .u8 6), .lit (.int .u8 11), .lit (.int .u8 5), .lit (.int .u8 10), .lit (.int .u8 9)]
def laid_math_bits_deBruijn64tab {H : Type} : DataW H := .agg [.lit (.int .u8 0), .lit (.int .u8 1), .lit (.int .u8 56), .lit (.int .u8 2), .lit (.int .u8 57), .lit (.int .u8 49), .lit (.int .u8 28), .lit (.int .u8 3), .lit (.int .u8 61), .lit (.int .u8 58), .lit (.int .u8 42), .lit (.int .u8 50), .lit (.int .u8 38), .lit (.int .u8 29), .lit (.int .u8 17), .lit (.int .u8 4), .lit (.int .u8 62), .lit (.int .u8 47), .lit (.int .u8 59), .lit (.int .u8 36), .lit (.int .u8 45), .lit (.int .u8 43), .lit (.int .u8 51), .lit (.int .u8 22), .lit (.int .u8 53), .lit (.int .u8 39), .lit (.int .u8 33), .lit (.int .u8 30), .lit (.int .u8 24), .lit (.int .u8 18), .lit (.int .u8 12), .lit (.int .u8 5), .lit (.int .u8 63), .lit (.int .u8 55), .lit (.int .u8 48), .lit (.int .u8 27), .lit (.int .u8 60), .lit (.int .u8 41), .lit (.int .u8 37), .lit (.int .u8 16), .lit (.int .u8 46), .lit (.int .u8 35), .lit (.int .u8 44), .lit (.int .u8 21), .lit (.int .u8 52), .lit (.int .u8 32), .lit (.int .u8 23), .lit (.int .u8 11), .lit (.int .u8 54), .lit (.int .u8 26), .lit (.int .u8 40), .lit (.int .u8 15), .lit (.int .u8 34), .lit (.int .u8 20), .lit (.int .u8 31), .lit (.int .u8 10), .lit (.int .u8 25), .lit (.int .u8 14), .lit (.int .u8 19), .lit (.int .u8 9), .lit (.int .u8 13), .lit (.int .u8 8), .lit (.int .u8 7), .lit (.int .u8 6)]
def laid_internal_strconv_uint64pow10 {H : Type} : DataW H := .agg [.lit (.int .u64 1), .lit (.int .u64 10), .lit (.int .u64 100), .lit (.int .u64 1000), .lit (.int .u64 10000), .lit (.int .u64 100000), .lit (.int .u64 1000000), .lit (.int .u64 10000000), .lit (.int .u64 100000000), .lit (.int .u64 1000000000), .lit (.int .u64 10000000000), .lit (.int .u64 100000000000), .lit (.int .u64 1000000000000), .lit (.int .u64 10000000000000), .lit (.int .u64 100000000000000), .lit (.int .u64 1000000000000000), .lit (.int .u64 10000000000000000), .lit (.int .u64 100000000000000000), .lit (.int .u64 1000000000000000000), .lit (.int .u64 10000000000000000000)]
def laid_dugout_play_ways {H : Type} : DataW H := .agg [.agg [.lit (.bool false), .lit (.string [98]), .lit (.int .i64 3), .lit (.int .i64 3)], .agg [.lit (.bool false), .lit (.string [97]), .lit (.int .i64 3), .lit (.int .i64 3)], .agg [.lit (.bool false), .lit (.string [115]), .lit (.int .i64 0), .lit (.int .i64 3)], .agg [.lit (.bool false), .lit (.string [112]), .lit (.int .i64 3), .lit (.int .i64 3)], .agg [.lit (.bool false), .lit (.string [107]), .lit (.int .i64 0), .lit (.int .i64 3)], .agg [.lit (.bool false), .lit (.string [116]), .lit (.int .i64 3), .lit (.int .i64 3)], .agg [.lit (.bool false), .lit (.string [111]), .lit (.int .i64 3), .lit (.int .i64 3)], .agg [.lit (.bool true), .lit (.string [102]), .lit (.int .i64 2), .lit (.int .i64 2)], .agg [.lit (.bool true), .lit (.string [103]), .lit (.int .i64 3), .lit (.int .i64 4)], .agg [.lit (.bool true), .lit (.string [99]), .lit (.int .i64 2), .lit (.int .i64 0)], .agg [.lit (.bool true), .lit (.string [100]), .lit (.int .i64 0), .lit (.int .i64 1)], .agg [.lit (.bool true), .lit (.string [107]), .lit (.int .i64 2), .lit (.int .i64 0)], .agg [.lit (.bool true), .lit (.string [110]), .lit (.int .i64 2), .lit (.int .i64 3)], .agg [.lit (.bool true), .lit (.string [121]), .lit (.int .i64 2), .lit (.int .i64 0)]]
def laid_unicode_utf8_acceptRanges {H : Type} : DataW H := .agg [.agg [.lit (.int .u8 128), .lit (.int .u8 191)], .agg [.lit (.int .u8 160), .lit (.int .u8 191)], .agg [.lit (.int .u8 128), .lit (.int .u8 159)], .agg [.lit (.int .u8 144), .lit (.int .u8 191)], .agg [.lit (.int .u8 128), .lit (.int .u8 143)], .agg [.lit (.int .u8 0), .lit (.int .u8 0)], .agg [.lit (.int .u8 0), .lit (.int .u8 0)], .agg [.lit (.int .u8 0), .lit (.int .u8 0)], .agg [.lit (.int .u8 0), .lit (.int .u8 0)], .agg [.lit (.int .u8 0), .lit (.int .u8 0)], .agg [.lit (.int .u8 0), .lit (.int .u8 0)], .agg [.lit (.int .u8 0), .lit (.int .u8 0)], .agg [.lit (.int .u8 0), .lit (.int .u8 0)], .agg [.lit (.int .u8 0), .lit (.int .u8 0)], .agg [.lit (.int .u8 0), .lit (.int .u8 0)], .agg [.lit (.int .u8 0), .lit (.int .u8 0)]]
/-- One of Go's own tables, pinned by name: the form's constant. -/
def laid_unicode_utf8_first : DataW Unit := Go.Pinned.utf8First

/-- 'dugoutlaw02.RuleStates': WHATEVER THE INPUT: true; the input reads as it did. -/
def ruleStatesSpec : ChangeSpec := { name := "ruleStates", fn := fun _ => fun
  | [d] => { results := [.lit (.bool true)], args := [d] }
  | _ => none }
def ruleStatesRow : OpenClaim := { program := "ytgjbmohchdmdkaagreatdoor", sum := "f0740a6e680c50c9eb6d69d96590c29774349810cfe57e8a4c4b67483db8980d", func := "dugout/dugoutlaw02.RuleStates", spec := "ruleStates", inPlace := ["internal/bytealg.IndexByteString", "internal/bytealg.IndexString", "internal/abi.NoEscape", "internal/bytealg.MakeNoZero"], unfollowed := true, recurses := true, named := ["internal/bytealg.MaxLen", "internal/strconv.uint64pow10", "math/bits.deBruijn32tab", "math/bits.deBruijn64tab", "dugout/play.ways"], apart := false, laid := [("math/bits.deBruijn32tab", laid_math_bits_deBruijn32tab), ("math/bits.deBruijn64tab", laid_math_bits_deBruijn64tab), ("internal/strconv.uint64pow10", laid_internal_strconv_uint64pow10), ("dugout/play.ways", laid_dugout_play_ways)] }
def RuleStatesSaid : Prop := ruleStatesRow.holds Tryz.pinned (OpenSpec.ofChange ruleStatesSpec)

/-- ITS FALSE NEIGHBOUR: 'it returns false'. Refute it at one input. -/
def ruleStatesWrong : ChangeSpec := { name := "ruleStates", fn := fun _ => fun
  | [d] => { results := [.lit (.bool false)], args := [d] }
  | _ => none }
def RuleStatesWrongFalsely : Prop := ruleStatesRow.holds Tryz.pinned (OpenSpec.ofChange ruleStatesWrong)

/-- 'dugoutlaw02.RuleCounts': WHATEVER THE INPUT: true; the input reads as it did. -/
def ruleCountsSpec : ChangeSpec := { name := "ruleCounts", fn := fun _ => fun
  | [d1, d2] => { results := [.lit (.bool true)], args := [d1, d2] }
  | _ => none }
def ruleCountsRow : OpenClaim := { program := "ytgjbmohchdmdkaagreatdoor", sum := "f0740a6e680c50c9eb6d69d96590c29774349810cfe57e8a4c4b67483db8980d", func := "dugout/dugoutlaw02.RuleCounts", spec := "ruleCounts", inPlace := ["internal/abi.NoEscape", "internal/bytealg.MakeNoZero", "internal/bytealg.IndexByteString", "internal/bytealg.IndexString"], unfollowed := true, recurses := true, named := ["internal/strconv.uint64pow10", "math/bits.deBruijn32tab", "math/bits.deBruijn64tab", "internal/bytealg.MaxLen", "dugout/play.ways"], apart := false, laid := [("math/bits.deBruijn32tab", laid_math_bits_deBruijn32tab), ("math/bits.deBruijn64tab", laid_math_bits_deBruijn64tab), ("internal/strconv.uint64pow10", laid_internal_strconv_uint64pow10), ("dugout/play.ways", laid_dugout_play_ways)] }
def RuleCountsSaid : Prop := ruleCountsRow.holds Tryz.pinned (OpenSpec.ofChange ruleCountsSpec)

/-- ITS FALSE NEIGHBOUR: 'it returns false'. Refute it at one input. -/
def ruleCountsWrong : ChangeSpec := { name := "ruleCounts", fn := fun _ => fun
  | [d1, d2] => { results := [.lit (.bool false)], args := [d1, d2] }
  | _ => none }
def RuleCountsWrongFalsely : Prop := ruleCountsRow.holds Tryz.pinned (OpenSpec.ofChange ruleCountsWrong)

/-- 'dugoutlaw02.RulePlays': WHATEVER THE INPUT: true; the input reads as it did. -/
def rulePlaysSpec : ChangeSpec := { name := "rulePlays", fn := fun _ => fun
  | [d1, d2] => { results := [.lit (.bool true)], args := [d1, d2] }
  | _ => none }
def rulePlaysRow : OpenClaim := { program := "ytgjbmohchdmdkaagreatdoor", sum := "f0740a6e680c50c9eb6d69d96590c29774349810cfe57e8a4c4b67483db8980d", func := "dugout/dugoutlaw02.RulePlays", spec := "rulePlays", inPlace := ["internal/abi.NoEscape", "internal/bytealg.MakeNoZero", "internal/bytealg.IndexByteString", "internal/bytealg.IndexString"], unfollowed := true, recurses := true, named := ["internal/strconv.uint64pow10", "math/bits.deBruijn32tab", "math/bits.deBruijn64tab", "internal/bytealg.MaxLen", "dugout/play.ways"], apart := false, laid := [("math/bits.deBruijn32tab", laid_math_bits_deBruijn32tab), ("math/bits.deBruijn64tab", laid_math_bits_deBruijn64tab), ("internal/strconv.uint64pow10", laid_internal_strconv_uint64pow10), ("dugout/play.ways", laid_dugout_play_ways)] }
def RulePlaysSaid : Prop := rulePlaysRow.holds Tryz.pinned (OpenSpec.ofChange rulePlaysSpec)

/-- ITS FALSE NEIGHBOUR: 'it returns false'. Refute it at one input. -/
def rulePlaysWrong : ChangeSpec := { name := "rulePlays", fn := fun _ => fun
  | [d1, d2] => { results := [.lit (.bool false)], args := [d1, d2] }
  | _ => none }
def RulePlaysWrongFalsely : Prop := rulePlaysRow.holds Tryz.pinned (OpenSpec.ofChange rulePlaysWrong)

/-- 'dugoutlaw02.RuleGames': WHATEVER THE INPUT: true; the input reads as it did. -/
def ruleGamesSpec : ChangeSpec := { name := "ruleGames", fn := fun _ => fun
  | [d] => { results := [.lit (.bool true)], args := [d] }
  | _ => none }
def ruleGamesRow : OpenClaim := { program := "ytgjbmohchdmdkaagreatdoor", sum := "f0740a6e680c50c9eb6d69d96590c29774349810cfe57e8a4c4b67483db8980d", func := "dugout/dugoutlaw02.RuleGames", spec := "ruleGames", inPlace := ["internal/abi.NoEscape", "internal/bytealg.MakeNoZero", "internal/bytealg.IndexByteString", "internal/bytealg.IndexString"], unfollowed := true, recurses := true, named := ["internal/strconv.uint64pow10", "math/bits.deBruijn32tab", "math/bits.deBruijn64tab", "internal/bytealg.MaxLen", "dugout/play.ways"], apart := false, laid := [("math/bits.deBruijn32tab", laid_math_bits_deBruijn32tab), ("math/bits.deBruijn64tab", laid_math_bits_deBruijn64tab), ("internal/strconv.uint64pow10", laid_internal_strconv_uint64pow10), ("dugout/play.ways", laid_dugout_play_ways)] }
def RuleGamesSaid : Prop := ruleGamesRow.holds Tryz.pinned (OpenSpec.ofChange ruleGamesSpec)

/-- ITS FALSE NEIGHBOUR: 'it returns false'. Refute it at one input. -/
def ruleGamesWrong : ChangeSpec := { name := "ruleGames", fn := fun _ => fun
  | [d] => { results := [.lit (.bool false)], args := [d] }
  | _ => none }
def RuleGamesWrongFalsely : Prop := ruleGamesRow.holds Tryz.pinned (OpenSpec.ofChange ruleGamesWrong)

/-- 'dugoutlaw02.RuleHalves': WHATEVER THE INPUT: true; the input reads as it did. -/
def ruleHalvesSpec : ChangeSpec := { name := "ruleHalves", fn := fun _ => fun
  | [d] => { results := [.lit (.bool true)], args := [d] }
  | _ => none }
def ruleHalvesRow : OpenClaim := { program := "ytgjbmohchdmdkaagreatdoor", sum := "f0740a6e680c50c9eb6d69d96590c29774349810cfe57e8a4c4b67483db8980d", func := "dugout/dugoutlaw02.RuleHalves", spec := "ruleHalves", inPlace := ["internal/abi.NoEscape", "internal/bytealg.MakeNoZero", "internal/bytealg.IndexByteString", "internal/bytealg.IndexString"], unfollowed := true, recurses := true, named := ["internal/strconv.uint64pow10", "math/bits.deBruijn32tab", "math/bits.deBruijn64tab", "internal/bytealg.MaxLen", "dugout/play.ways"], apart := false, laid := [("math/bits.deBruijn32tab", laid_math_bits_deBruijn32tab), ("math/bits.deBruijn64tab", laid_math_bits_deBruijn64tab), ("internal/strconv.uint64pow10", laid_internal_strconv_uint64pow10), ("dugout/play.ways", laid_dugout_play_ways)] }
def RuleHalvesSaid : Prop := ruleHalvesRow.holds Tryz.pinned (OpenSpec.ofChange ruleHalvesSpec)

/-- ITS FALSE NEIGHBOUR: 'it returns false'. Refute it at one input. -/
def ruleHalvesWrong : ChangeSpec := { name := "ruleHalves", fn := fun _ => fun
  | [d] => { results := [.lit (.bool false)], args := [d] }
  | _ => none }
def RuleHalvesWrongFalsely : Prop := ruleHalvesRow.holds Tryz.pinned (OpenSpec.ofChange ruleHalvesWrong)

/-- 'dugoutlaw02.RuleTexts': WHATEVER THE INPUT: true; the input reads as it did. -/
def ruleTextsSpec : ChangeSpec := { name := "ruleTexts", fn := fun _ => fun
  | [d1, d2] => { results := [.lit (.bool true)], args := [d1, d2] }
  | _ => none }
def ruleTextsRow : OpenClaim := { program := "ytgjbmohchdmdkaagreatdoor", sum := "f0740a6e680c50c9eb6d69d96590c29774349810cfe57e8a4c4b67483db8980d", func := "dugout/dugoutlaw02.RuleTexts", spec := "ruleTexts", inPlace := ["internal/abi.NoEscape", "internal/bytealg.MakeNoZero", "internal/bytealg.IndexByteString", "internal/bytealg.IndexString", "internal/bytealg.CountString"], unfollowed := true, recurses := true, named := ["internal/strconv.uint64pow10", "math/bits.deBruijn32tab", "math/bits.deBruijn64tab", "internal/bytealg.MaxLen", "dugout/play.ways", "unicode/utf8.first", "unicode/utf8.acceptRanges"], apart := false, laid := [("math/bits.deBruijn32tab", laid_math_bits_deBruijn32tab), ("math/bits.deBruijn64tab", laid_math_bits_deBruijn64tab), ("internal/strconv.uint64pow10", laid_internal_strconv_uint64pow10), ("unicode/utf8.acceptRanges", laid_unicode_utf8_acceptRanges), ("dugout/play.ways", laid_dugout_play_ways), ("unicode/utf8.first", laid_unicode_utf8_first)] }
def RuleTextsSaid : Prop := ruleTextsRow.holds Tryz.pinned (OpenSpec.ofChange ruleTextsSpec)

/-- ITS FALSE NEIGHBOUR: 'it returns false'. Refute it at one input. -/
def ruleTextsWrong : ChangeSpec := { name := "ruleTexts", fn := fun _ => fun
  | [d1, d2] => { results := [.lit (.bool false)], args := [d1, d2] }
  | _ => none }
def RuleTextsWrongFalsely : Prop := ruleTextsRow.holds Tryz.pinned (OpenSpec.ofChange ruleTextsWrong)

/-- 'dugoutlaw02.RuleConserves': WHATEVER THE INPUT: true; the input reads as it did. -/
def ruleConservesSpec : ChangeSpec := { name := "ruleConserves", fn := fun _ => fun
  | [d1, d2] => { results := [.lit (.bool true)], args := [d1, d2] }
  | _ => none }
def ruleConservesRow : OpenClaim := { program := "ytgjbmohchdmdkaagreatdoor", sum := "f0740a6e680c50c9eb6d69d96590c29774349810cfe57e8a4c4b67483db8980d", func := "dugout/dugoutlaw02.RuleConserves", spec := "ruleConserves", inPlace := ["internal/abi.NoEscape", "internal/bytealg.MakeNoZero", "internal/bytealg.IndexByteString", "internal/bytealg.IndexString"], unfollowed := true, recurses := true, named := ["internal/strconv.uint64pow10", "math/bits.deBruijn32tab", "math/bits.deBruijn64tab", "internal/bytealg.MaxLen", "dugout/play.ways"], apart := false, laid := [("math/bits.deBruijn32tab", laid_math_bits_deBruijn32tab), ("math/bits.deBruijn64tab", laid_math_bits_deBruijn64tab), ("internal/strconv.uint64pow10", laid_internal_strconv_uint64pow10), ("dugout/play.ways", laid_dugout_play_ways)] }
def RuleConservesSaid : Prop := ruleConservesRow.holds Tryz.pinned (OpenSpec.ofChange ruleConservesSpec)

/-- ITS FALSE NEIGHBOUR: 'it returns false'. Refute it at one input. -/
def ruleConservesWrong : ChangeSpec := { name := "ruleConserves", fn := fun _ => fun
  | [d1, d2] => { results := [.lit (.bool false)], args := [d1, d2] }
  | _ => none }
def RuleConservesWrongFalsely : Prop := ruleConservesRow.holds Tryz.pinned (OpenSpec.ofChange ruleConservesWrong)

/-- 'dugoutlaw02.RuleBalances': WHATEVER THE INPUT: true; the input reads as it did. -/
def ruleBalancesSpec : ChangeSpec := { name := "ruleBalances", fn := fun _ => fun
  | [d] => { results := [.lit (.bool true)], args := [d] }
  | _ => none }
def ruleBalancesRow : OpenClaim := { program := "ytgjbmohchdmdkaagreatdoor", sum := "f0740a6e680c50c9eb6d69d96590c29774349810cfe57e8a4c4b67483db8980d", func := "dugout/dugoutlaw02.RuleBalances", spec := "ruleBalances", inPlace := ["internal/abi.NoEscape", "internal/bytealg.MakeNoZero", "internal/bytealg.IndexByteString", "internal/bytealg.IndexString"], unfollowed := true, recurses := true, named := ["internal/strconv.uint64pow10", "math/bits.deBruijn32tab", "math/bits.deBruijn64tab", "internal/bytealg.MaxLen", "dugout/play.ways"], apart := false, laid := [("math/bits.deBruijn32tab", laid_math_bits_deBruijn32tab), ("math/bits.deBruijn64tab", laid_math_bits_deBruijn64tab), ("internal/strconv.uint64pow10", laid_internal_strconv_uint64pow10), ("dugout/play.ways", laid_dugout_play_ways)] }
def RuleBalancesSaid : Prop := ruleBalancesRow.holds Tryz.pinned (OpenSpec.ofChange ruleBalancesSpec)

/-- ITS FALSE NEIGHBOUR: 'it returns false'. Refute it at one input. -/
def ruleBalancesWrong : ChangeSpec := { name := "ruleBalances", fn := fun _ => fun
  | [d] => { results := [.lit (.bool false)], args := [d] }
  | _ => none }
def RuleBalancesWrongFalsely : Prop := ruleBalancesRow.holds Tryz.pinned (OpenSpec.ofChange ruleBalancesWrong)

/-- 'dugoutlaw02.RuleParts': WHATEVER THE INPUT: true; the input reads as it did. -/
def rulePartsSpec : ChangeSpec := { name := "ruleParts", fn := fun _ => fun
  | [d1, d2, d3] => { results := [.lit (.bool true)], args := [d1, d2, d3] }
  | _ => none }
def rulePartsRow : OpenClaim := { program := "ytgjbmohchdmdkaagreatdoor", sum := "f0740a6e680c50c9eb6d69d96590c29774349810cfe57e8a4c4b67483db8980d", func := "dugout/dugoutlaw02.RuleParts", spec := "ruleParts", inPlace := ["internal/abi.NoEscape", "internal/bytealg.MakeNoZero", "internal/bytealg.IndexByteString", "internal/bytealg.IndexString"], unfollowed := true, recurses := true, named := ["internal/strconv.uint64pow10", "math/bits.deBruijn32tab", "math/bits.deBruijn64tab", "internal/bytealg.MaxLen", "dugout/play.ways"], apart := false, laid := [("math/bits.deBruijn32tab", laid_math_bits_deBruijn32tab), ("math/bits.deBruijn64tab", laid_math_bits_deBruijn64tab), ("internal/strconv.uint64pow10", laid_internal_strconv_uint64pow10), ("dugout/play.ways", laid_dugout_play_ways)] }
def RulePartsSaid : Prop := rulePartsRow.holds Tryz.pinned (OpenSpec.ofChange rulePartsSpec)

/-- ITS FALSE NEIGHBOUR: 'it returns false'. Refute it at one input. -/
def rulePartsWrong : ChangeSpec := { name := "ruleParts", fn := fun _ => fun
  | [d1, d2, d3] => { results := [.lit (.bool false)], args := [d1, d2, d3] }
  | _ => none }
def RulePartsWrongFalsely : Prop := rulePartsRow.holds Tryz.pinned (OpenSpec.ofChange rulePartsWrong)

/-- 'dugoutlaw02.RuleStrict': WHATEVER THE INPUT: true; the input reads as it did. -/
def ruleStrictSpec : ChangeSpec := { name := "ruleStrict", fn := fun _ => fun
  | [d1, d2] => { results := [.lit (.bool true)], args := [d1, d2] }
  | _ => none }
def ruleStrictRow : OpenClaim := { program := "ytgjbmohchdmdkaagreatdoor", sum := "f0740a6e680c50c9eb6d69d96590c29774349810cfe57e8a4c4b67483db8980d", func := "dugout/dugoutlaw02.RuleStrict", spec := "ruleStrict", inPlace := ["internal/abi.NoEscape", "internal/bytealg.MakeNoZero", "internal/bytealg.IndexByteString", "internal/bytealg.IndexString", "internal/bytealg.CountString"], unfollowed := true, recurses := true, named := ["internal/strconv.uint64pow10", "math/bits.deBruijn32tab", "math/bits.deBruijn64tab", "internal/bytealg.MaxLen", "dugout/play.ways", "unicode/utf8.first", "unicode/utf8.acceptRanges"], apart := false, laid := [("math/bits.deBruijn32tab", laid_math_bits_deBruijn32tab), ("math/bits.deBruijn64tab", laid_math_bits_deBruijn64tab), ("internal/strconv.uint64pow10", laid_internal_strconv_uint64pow10), ("unicode/utf8.acceptRanges", laid_unicode_utf8_acceptRanges), ("dugout/play.ways", laid_dugout_play_ways), ("unicode/utf8.first", laid_unicode_utf8_first)] }
def RuleStrictSaid : Prop := ruleStrictRow.holds Tryz.pinned (OpenSpec.ofChange ruleStrictSpec)

/-- ITS FALSE NEIGHBOUR: 'it returns false'. Refute it at one input. -/
def ruleStrictWrong : ChangeSpec := { name := "ruleStrict", fn := fun _ => fun
  | [d1, d2] => { results := [.lit (.bool false)], args := [d1, d2] }
  | _ => none }
def RuleStrictWrongFalsely : Prop := ruleStrictRow.holds Tryz.pinned (OpenSpec.ofChange ruleStrictWrong)

/-- 'dugoutlaw02.RuleForces': WHATEVER THE INPUT: true; the input reads as it did. -/
def ruleForcesSpec : ChangeSpec := { name := "ruleForces", fn := fun _ => fun
  | [d] => { results := [.lit (.bool true)], args := [d] }
  | _ => none }
def ruleForcesRow : OpenClaim := { program := "ytgjbmohchdmdkaagreatdoor", sum := "f0740a6e680c50c9eb6d69d96590c29774349810cfe57e8a4c4b67483db8980d", func := "dugout/dugoutlaw02.RuleForces", spec := "ruleForces", inPlace := ["internal/abi.NoEscape", "internal/bytealg.MakeNoZero", "internal/bytealg.IndexByteString", "internal/bytealg.IndexString"], unfollowed := true, recurses := true, named := ["internal/strconv.uint64pow10", "math/bits.deBruijn32tab", "math/bits.deBruijn64tab", "internal/bytealg.MaxLen", "dugout/play.ways"], apart := false, laid := [("math/bits.deBruijn32tab", laid_math_bits_deBruijn32tab), ("math/bits.deBruijn64tab", laid_math_bits_deBruijn64tab), ("internal/strconv.uint64pow10", laid_internal_strconv_uint64pow10), ("dugout/play.ways", laid_dugout_play_ways)] }
def RuleForcesSaid : Prop := ruleForcesRow.holds Tryz.pinned (OpenSpec.ofChange ruleForcesSpec)

/-- ITS FALSE NEIGHBOUR: 'it returns false'. Refute it at one input. -/
def ruleForcesWrong : ChangeSpec := { name := "ruleForces", fn := fun _ => fun
  | [d] => { results := [.lit (.bool false)], args := [d] }
  | _ => none }
def RuleForcesWrongFalsely : Prop := ruleForcesRow.holds Tryz.pinned (OpenSpec.ofChange ruleForcesWrong)

/- THE SECOND FORM. 'bulk': how many values and letters a reading holds, each counted each time it is reached (what is shared counts as often as it is met; a slice's spare places count too). A statement '..UptoSaid' is the law's where the arguments, and the package variables that the reading takes, are together of bulk at most 1048576: NARROWER than '..Said'. Prove '..Said' where nothing that the law and all that it calls make is longer than what came in: it says more and counts as full. Else prove '..UptoSaid'. A law counts once. -/
mutual
def uptoBulk {H : Type} : DataW H → Nat
  | .lit (.string bytes) => bytes.length + 1
  | .lit _ => 1
  | .nil => 1
  | .ptr d => uptoBulk d + 1
  | .slice elems spare => uptoBulkAll elems + uptoBulkAll spare + 1
  | .agg parts => uptoBulkAll parts + 1
  | .iface _ d => uptoBulk d + 1
  | .map entries => uptoBulkEntries entries + 1
  | .held _ => 1
def uptoBulkAll {H : Type} : List (DataW H) → Nat
  | [] => 0
  | d :: r => uptoBulk d + uptoBulkAll r
def uptoBulkEntries {H : Type} : List (Lit × DataW H) → Nat
  | [] => 0
  | x :: r => uptoBulkEntry x + uptoBulkEntries r
def uptoBulkEntry {H : Type} : Lit × DataW H → Nat
  | (.string bytes, d) => bytes.length + uptoBulk d + 1
  | (_, d) => uptoBulk d + 1
 end
def uptoSmall : (H : Type) → List (DataW H) → Bool := fun _ ds => decide (uptoBulkAll ds ≤ 1048576)
def OpenSpec.upto (s : _root_.Go.ChangeSpec) : _root_.Go.OpenSpec := { _root_.Go.OpenSpec.ofChange s with cond := some uptoSmall }

/-- 'dugoutlaw02.RuleStates', WHERE WHAT IT READS IS OF BULK AT MOST 1048576: true; the input reads as it did. -/
def ruleStatesUptoRow : OpenClaim := { program := "ytgjbmohchdmdkaagreatdoor", sum := "f0740a6e680c50c9eb6d69d96590c29774349810cfe57e8a4c4b67483db8980d", func := "dugout/dugoutlaw02.RuleStates", spec := "ruleStates", inPlace := ["internal/bytealg.IndexByteString", "internal/bytealg.IndexString", "internal/abi.NoEscape", "internal/bytealg.MakeNoZero"], unfollowed := true, recurses := true, named := ["internal/bytealg.MaxLen", "internal/strconv.uint64pow10", "math/bits.deBruijn32tab", "math/bits.deBruijn64tab", "dugout/play.ways"], apart := false, laid := [("math/bits.deBruijn32tab", laid_math_bits_deBruijn32tab), ("math/bits.deBruijn64tab", laid_math_bits_deBruijn64tab), ("internal/strconv.uint64pow10", laid_internal_strconv_uint64pow10), ("dugout/play.ways", laid_dugout_play_ways)], narrowed := true }
def RuleStatesUptoSaid : Prop := ruleStatesUptoRow.holds Tryz.pinned (OpenSpec.upto ruleStatesSpec)

/-- 'dugoutlaw02.RuleCounts', WHERE WHAT IT READS IS OF BULK AT MOST 1048576: true; the input reads as it did. -/
def ruleCountsUptoRow : OpenClaim := { program := "ytgjbmohchdmdkaagreatdoor", sum := "f0740a6e680c50c9eb6d69d96590c29774349810cfe57e8a4c4b67483db8980d", func := "dugout/dugoutlaw02.RuleCounts", spec := "ruleCounts", inPlace := ["internal/abi.NoEscape", "internal/bytealg.MakeNoZero", "internal/bytealg.IndexByteString", "internal/bytealg.IndexString"], unfollowed := true, recurses := true, named := ["internal/strconv.uint64pow10", "math/bits.deBruijn32tab", "math/bits.deBruijn64tab", "internal/bytealg.MaxLen", "dugout/play.ways"], apart := false, laid := [("math/bits.deBruijn32tab", laid_math_bits_deBruijn32tab), ("math/bits.deBruijn64tab", laid_math_bits_deBruijn64tab), ("internal/strconv.uint64pow10", laid_internal_strconv_uint64pow10), ("dugout/play.ways", laid_dugout_play_ways)], narrowed := true }
def RuleCountsUptoSaid : Prop := ruleCountsUptoRow.holds Tryz.pinned (OpenSpec.upto ruleCountsSpec)

/-- 'dugoutlaw02.RulePlays', WHERE WHAT IT READS IS OF BULK AT MOST 1048576: true; the input reads as it did. -/
def rulePlaysUptoRow : OpenClaim := { program := "ytgjbmohchdmdkaagreatdoor", sum := "f0740a6e680c50c9eb6d69d96590c29774349810cfe57e8a4c4b67483db8980d", func := "dugout/dugoutlaw02.RulePlays", spec := "rulePlays", inPlace := ["internal/abi.NoEscape", "internal/bytealg.MakeNoZero", "internal/bytealg.IndexByteString", "internal/bytealg.IndexString"], unfollowed := true, recurses := true, named := ["internal/strconv.uint64pow10", "math/bits.deBruijn32tab", "math/bits.deBruijn64tab", "internal/bytealg.MaxLen", "dugout/play.ways"], apart := false, laid := [("math/bits.deBruijn32tab", laid_math_bits_deBruijn32tab), ("math/bits.deBruijn64tab", laid_math_bits_deBruijn64tab), ("internal/strconv.uint64pow10", laid_internal_strconv_uint64pow10), ("dugout/play.ways", laid_dugout_play_ways)], narrowed := true }
def RulePlaysUptoSaid : Prop := rulePlaysUptoRow.holds Tryz.pinned (OpenSpec.upto rulePlaysSpec)

/-- 'dugoutlaw02.RuleGames', WHERE WHAT IT READS IS OF BULK AT MOST 1048576: true; the input reads as it did. -/
def ruleGamesUptoRow : OpenClaim := { program := "ytgjbmohchdmdkaagreatdoor", sum := "f0740a6e680c50c9eb6d69d96590c29774349810cfe57e8a4c4b67483db8980d", func := "dugout/dugoutlaw02.RuleGames", spec := "ruleGames", inPlace := ["internal/abi.NoEscape", "internal/bytealg.MakeNoZero", "internal/bytealg.IndexByteString", "internal/bytealg.IndexString"], unfollowed := true, recurses := true, named := ["internal/strconv.uint64pow10", "math/bits.deBruijn32tab", "math/bits.deBruijn64tab", "internal/bytealg.MaxLen", "dugout/play.ways"], apart := false, laid := [("math/bits.deBruijn32tab", laid_math_bits_deBruijn32tab), ("math/bits.deBruijn64tab", laid_math_bits_deBruijn64tab), ("internal/strconv.uint64pow10", laid_internal_strconv_uint64pow10), ("dugout/play.ways", laid_dugout_play_ways)], narrowed := true }
def RuleGamesUptoSaid : Prop := ruleGamesUptoRow.holds Tryz.pinned (OpenSpec.upto ruleGamesSpec)

/-- 'dugoutlaw02.RuleHalves', WHERE WHAT IT READS IS OF BULK AT MOST 1048576: true; the input reads as it did. -/
def ruleHalvesUptoRow : OpenClaim := { program := "ytgjbmohchdmdkaagreatdoor", sum := "f0740a6e680c50c9eb6d69d96590c29774349810cfe57e8a4c4b67483db8980d", func := "dugout/dugoutlaw02.RuleHalves", spec := "ruleHalves", inPlace := ["internal/abi.NoEscape", "internal/bytealg.MakeNoZero", "internal/bytealg.IndexByteString", "internal/bytealg.IndexString"], unfollowed := true, recurses := true, named := ["internal/strconv.uint64pow10", "math/bits.deBruijn32tab", "math/bits.deBruijn64tab", "internal/bytealg.MaxLen", "dugout/play.ways"], apart := false, laid := [("math/bits.deBruijn32tab", laid_math_bits_deBruijn32tab), ("math/bits.deBruijn64tab", laid_math_bits_deBruijn64tab), ("internal/strconv.uint64pow10", laid_internal_strconv_uint64pow10), ("dugout/play.ways", laid_dugout_play_ways)], narrowed := true }
def RuleHalvesUptoSaid : Prop := ruleHalvesUptoRow.holds Tryz.pinned (OpenSpec.upto ruleHalvesSpec)

/-- 'dugoutlaw02.RuleTexts', WHERE WHAT IT READS IS OF BULK AT MOST 1048576: true; the input reads as it did. -/
def ruleTextsUptoRow : OpenClaim := { program := "ytgjbmohchdmdkaagreatdoor", sum := "f0740a6e680c50c9eb6d69d96590c29774349810cfe57e8a4c4b67483db8980d", func := "dugout/dugoutlaw02.RuleTexts", spec := "ruleTexts", inPlace := ["internal/abi.NoEscape", "internal/bytealg.MakeNoZero", "internal/bytealg.IndexByteString", "internal/bytealg.IndexString", "internal/bytealg.CountString"], unfollowed := true, recurses := true, named := ["internal/strconv.uint64pow10", "math/bits.deBruijn32tab", "math/bits.deBruijn64tab", "internal/bytealg.MaxLen", "dugout/play.ways", "unicode/utf8.first", "unicode/utf8.acceptRanges"], apart := false, laid := [("math/bits.deBruijn32tab", laid_math_bits_deBruijn32tab), ("math/bits.deBruijn64tab", laid_math_bits_deBruijn64tab), ("internal/strconv.uint64pow10", laid_internal_strconv_uint64pow10), ("unicode/utf8.acceptRanges", laid_unicode_utf8_acceptRanges), ("dugout/play.ways", laid_dugout_play_ways), ("unicode/utf8.first", laid_unicode_utf8_first)], narrowed := true }
def RuleTextsUptoSaid : Prop := ruleTextsUptoRow.holds Tryz.pinned (OpenSpec.upto ruleTextsSpec)

/-- 'dugoutlaw02.RuleConserves', WHERE WHAT IT READS IS OF BULK AT MOST 1048576: true; the input reads as it did. -/
def ruleConservesUptoRow : OpenClaim := { program := "ytgjbmohchdmdkaagreatdoor", sum := "f0740a6e680c50c9eb6d69d96590c29774349810cfe57e8a4c4b67483db8980d", func := "dugout/dugoutlaw02.RuleConserves", spec := "ruleConserves", inPlace := ["internal/abi.NoEscape", "internal/bytealg.MakeNoZero", "internal/bytealg.IndexByteString", "internal/bytealg.IndexString"], unfollowed := true, recurses := true, named := ["internal/strconv.uint64pow10", "math/bits.deBruijn32tab", "math/bits.deBruijn64tab", "internal/bytealg.MaxLen", "dugout/play.ways"], apart := false, laid := [("math/bits.deBruijn32tab", laid_math_bits_deBruijn32tab), ("math/bits.deBruijn64tab", laid_math_bits_deBruijn64tab), ("internal/strconv.uint64pow10", laid_internal_strconv_uint64pow10), ("dugout/play.ways", laid_dugout_play_ways)], narrowed := true }
def RuleConservesUptoSaid : Prop := ruleConservesUptoRow.holds Tryz.pinned (OpenSpec.upto ruleConservesSpec)

/-- 'dugoutlaw02.RuleBalances', WHERE WHAT IT READS IS OF BULK AT MOST 1048576: true; the input reads as it did. -/
def ruleBalancesUptoRow : OpenClaim := { program := "ytgjbmohchdmdkaagreatdoor", sum := "f0740a6e680c50c9eb6d69d96590c29774349810cfe57e8a4c4b67483db8980d", func := "dugout/dugoutlaw02.RuleBalances", spec := "ruleBalances", inPlace := ["internal/abi.NoEscape", "internal/bytealg.MakeNoZero", "internal/bytealg.IndexByteString", "internal/bytealg.IndexString"], unfollowed := true, recurses := true, named := ["internal/strconv.uint64pow10", "math/bits.deBruijn32tab", "math/bits.deBruijn64tab", "internal/bytealg.MaxLen", "dugout/play.ways"], apart := false, laid := [("math/bits.deBruijn32tab", laid_math_bits_deBruijn32tab), ("math/bits.deBruijn64tab", laid_math_bits_deBruijn64tab), ("internal/strconv.uint64pow10", laid_internal_strconv_uint64pow10), ("dugout/play.ways", laid_dugout_play_ways)], narrowed := true }
def RuleBalancesUptoSaid : Prop := ruleBalancesUptoRow.holds Tryz.pinned (OpenSpec.upto ruleBalancesSpec)

/-- 'dugoutlaw02.RuleParts', WHERE WHAT IT READS IS OF BULK AT MOST 1048576: true; the input reads as it did. -/
def rulePartsUptoRow : OpenClaim := { program := "ytgjbmohchdmdkaagreatdoor", sum := "f0740a6e680c50c9eb6d69d96590c29774349810cfe57e8a4c4b67483db8980d", func := "dugout/dugoutlaw02.RuleParts", spec := "ruleParts", inPlace := ["internal/abi.NoEscape", "internal/bytealg.MakeNoZero", "internal/bytealg.IndexByteString", "internal/bytealg.IndexString"], unfollowed := true, recurses := true, named := ["internal/strconv.uint64pow10", "math/bits.deBruijn32tab", "math/bits.deBruijn64tab", "internal/bytealg.MaxLen", "dugout/play.ways"], apart := false, laid := [("math/bits.deBruijn32tab", laid_math_bits_deBruijn32tab), ("math/bits.deBruijn64tab", laid_math_bits_deBruijn64tab), ("internal/strconv.uint64pow10", laid_internal_strconv_uint64pow10), ("dugout/play.ways", laid_dugout_play_ways)], narrowed := true }
def RulePartsUptoSaid : Prop := rulePartsUptoRow.holds Tryz.pinned (OpenSpec.upto rulePartsSpec)

/-- 'dugoutlaw02.RuleStrict', WHERE WHAT IT READS IS OF BULK AT MOST 1048576: true; the input reads as it did. -/
def ruleStrictUptoRow : OpenClaim := { program := "ytgjbmohchdmdkaagreatdoor", sum := "f0740a6e680c50c9eb6d69d96590c29774349810cfe57e8a4c4b67483db8980d", func := "dugout/dugoutlaw02.RuleStrict", spec := "ruleStrict", inPlace := ["internal/abi.NoEscape", "internal/bytealg.MakeNoZero", "internal/bytealg.IndexByteString", "internal/bytealg.IndexString", "internal/bytealg.CountString"], unfollowed := true, recurses := true, named := ["internal/strconv.uint64pow10", "math/bits.deBruijn32tab", "math/bits.deBruijn64tab", "internal/bytealg.MaxLen", "dugout/play.ways", "unicode/utf8.first", "unicode/utf8.acceptRanges"], apart := false, laid := [("math/bits.deBruijn32tab", laid_math_bits_deBruijn32tab), ("math/bits.deBruijn64tab", laid_math_bits_deBruijn64tab), ("internal/strconv.uint64pow10", laid_internal_strconv_uint64pow10), ("unicode/utf8.acceptRanges", laid_unicode_utf8_acceptRanges), ("dugout/play.ways", laid_dugout_play_ways), ("unicode/utf8.first", laid_unicode_utf8_first)], narrowed := true }
def RuleStrictUptoSaid : Prop := ruleStrictUptoRow.holds Tryz.pinned (OpenSpec.upto ruleStrictSpec)

/-- 'dugoutlaw02.RuleForces', WHERE WHAT IT READS IS OF BULK AT MOST 1048576: true; the input reads as it did. -/
def ruleForcesUptoRow : OpenClaim := { program := "ytgjbmohchdmdkaagreatdoor", sum := "f0740a6e680c50c9eb6d69d96590c29774349810cfe57e8a4c4b67483db8980d", func := "dugout/dugoutlaw02.RuleForces", spec := "ruleForces", inPlace := ["internal/abi.NoEscape", "internal/bytealg.MakeNoZero", "internal/bytealg.IndexByteString", "internal/bytealg.IndexString"], unfollowed := true, recurses := true, named := ["internal/strconv.uint64pow10", "math/bits.deBruijn32tab", "math/bits.deBruijn64tab", "internal/bytealg.MaxLen", "dugout/play.ways"], apart := false, laid := [("math/bits.deBruijn32tab", laid_math_bits_deBruijn32tab), ("math/bits.deBruijn64tab", laid_math_bits_deBruijn64tab), ("internal/strconv.uint64pow10", laid_internal_strconv_uint64pow10), ("dugout/play.ways", laid_dugout_play_ways)], narrowed := true }
def RuleForcesUptoSaid : Prop := ruleForcesUptoRow.holds Tryz.pinned (OpenSpec.upto ruleForcesSpec)

end Rows
end Go.Proofs.YtgjbmohchdmdkaaGreatDoor
