/-
  NARROWER THAN 'FOR EVERY INPUT', by the rows' own cells (each row's printed sentence says how): StoryWrites: laid · StoryReads: laid · StoryBack: laid · StoryForms: laid · StoryLines: laid · StoryTexts: laid.
  DERIVED. THE GIVEN ROWS OF THIS SEAT. 6 by the template 'for every input the law returns true; each argument reads behind the call as it read before'; 0 by the template 'total and deterministic' (their statements: YtfeppannfcbakaaGreatDoorTotals.lean).
  GIVEN WITH THE SEED: the statements are not yours to turn. If you find one false, say at which input.
  Laid BY PROGRAM, IN A SANDBOX (cutbox-rows.mjs): the forced cells as the released guide's own fill.sh prints them over the translation 9dc0e6754366d744… (all of the seat's roots in one cut). By AI agents, Wed Nov 11 2026. No macro, syntax, notation, axiom, sorry.
-/
import Derived.Test.YtfeppannfcbakaaGreatDoorChecked
import GoSem.PinnedTables
import GoSem.Claim
import GoSem.ClaimJoined
import GoSem.ClaimMapViews
import Derived.JoinedTies
import Derived.KernelRfl
namespace Go.Proofs.YtfeppannfcbakaaGreatDoor
/- THE CELL 'sum', in the pinned program and in every row, IS THE sha256 OF THE DUMP (.gsa) THAT YtfeppannfcbakaaGreatDoorProg.lean LOADS. Nothing in Lean hashes anything: it is a label: what it is worth is what the hold of that sum in a sandbox is worth. -/
noncomputable def Tryz.pinned : Pinned := { name := "ytfeppannfcbakaagreatdoor", sum := "9dc0e6754366d74461d08badf10011a68c21beb3a16b321df1a2521d872247d5", checked := Tryz.checked }
namespace Rows
def none {H : Type} : Left H := { results := [], args := [] }

/- WHAT THE LISTED PACKAGE-LEVEL VARIABLES READ AS WHEN THE CALL BEGINS. Each datum BY PROGRAM (the guide's laid-datum.mjs) off the statement by which the dump's own 'gosem.cut.vars' lays the variable. In a bare row this is a premise. The card (YtfeppannfcbakaaGreatDoorCards.lean) ties it to the program's text. -/
def laid_math_bits_deBruijn32tab {H : Type} : DataW H := .agg [.lit (.int .u8 0), .lit (.int .u8 1), .lit (.int .u8 28), .lit (.int .u8 2), .lit (.int .u8 29), .lit (.int .u8 14), .lit (.int .u8 24), .lit (.int .u8 3), .lit (.int .u8 30), .lit (.int .u8 22), .lit (.int .u8 20), .lit (.int .u8 15), .lit (.int .u8 25), .lit (.int .u8 17), .lit (.int .u8 4), .lit (.int .u8 8), .lit (.int .u8 31), .lit (.int .u8 27), .lit (.int .u8 13), .lit (.int .u8 23), .lit (.int .u8 21), .lit (.int .u8 19), .lit (.int .u8 16), .lit (.int .u8 7), .lit (.int .u8 26), .lit (.int .u8 12), .lit (.int .u8 18), .lit (.int .u8 6), .lit (.int .u8 11), .lit (.int .u8 5), .lit (.int .u8 10), .lit (.int .u8 9)]
def laid_math_bits_deBruijn64tab {H : Type} : DataW H := .agg [.lit (.int .u8 0), .lit (.int .u8 1), .lit (.int .u8 56), .lit (.int .u8 2), .lit (.int .u8 57), .lit (.int .u8 49), .lit (.int .u8 28), .lit (.int .u8 3), .lit (.int .u8 61), .lit (.int .u8 58), .lit (.int .u8 42), .lit (.int .u8 50), .lit (.int .u8 38), .lit (.int .u8 29), .lit (.int .u8 17), .lit (.int .u8 4), .lit (.int .u8 62), .lit (.int .u8 47), .lit (.int .u8 59), .lit (.int .u8 36), .lit (.int .u8 45), .lit (.int .u8 43), .lit (.int .u8 51), .lit (.int .u8 22), .lit (.int .u8 53), .lit (.int .u8 39), .lit (.int .u8 33), .lit (.int .u8 30), .lit (.int .u8 24), .lit (.int .u8 18), .lit (.int .u8 12), .lit (.int .u8 5), .lit (.int .u8 63), .lit (.int .u8 55), .lit (.int .u8 48), .lit (.int .u8 27), .lit (.int .u8 60), .lit (.int .u8 41), .lit (.int .u8 37), .lit (.int .u8 16), .lit (.int .u8 46), .lit (.int .u8 35), .lit (.int .u8 44), .lit (.int .u8 21), .lit (.int .u8 52), .lit (.int .u8 32), .lit (.int .u8 23), .lit (.int .u8 11), .lit (.int .u8 54), .lit (.int .u8 26), .lit (.int .u8 40), .lit (.int .u8 15), .lit (.int .u8 34), .lit (.int .u8 20), .lit (.int .u8 31), .lit (.int .u8 10), .lit (.int .u8 25), .lit (.int .u8 14), .lit (.int .u8 19), .lit (.int .u8 9), .lit (.int .u8 13), .lit (.int .u8 8), .lit (.int .u8 7), .lit (.int .u8 6)]
def laid_internal_strconv_uint64pow10 {H : Type} : DataW H := .agg [.lit (.int .u64 1), .lit (.int .u64 10), .lit (.int .u64 100), .lit (.int .u64 1000), .lit (.int .u64 10000), .lit (.int .u64 100000), .lit (.int .u64 1000000), .lit (.int .u64 10000000), .lit (.int .u64 100000000), .lit (.int .u64 1000000000), .lit (.int .u64 10000000000), .lit (.int .u64 100000000000), .lit (.int .u64 1000000000000), .lit (.int .u64 10000000000000), .lit (.int .u64 100000000000000), .lit (.int .u64 1000000000000000), .lit (.int .u64 10000000000000000), .lit (.int .u64 100000000000000000), .lit (.int .u64 1000000000000000000), .lit (.int .u64 10000000000000000000)]
def laid_strconv_ErrRange {H : Type} : DataW H := .iface "*errors.errorString" (.ptr (.agg [.lit (.string [118, 97, 108, 117, 101, 32, 111, 117, 116, 32, 111, 102, 32, 114, 97, 110, 103, 101])]))
def laid_strconv_ErrSyntax {H : Type} : DataW H := .iface "*errors.errorString" (.ptr (.agg [.lit (.string [105, 110, 118, 97, 108, 105, 100, 32, 115, 121, 110, 116, 97, 120])]))
def laid_flotilla_shelf_forms {H : Type} : DataW H := .agg [.agg [.agg [.lit (.int .i64 0), .lit (.int .i64 0)], .agg [.lit (.int .i64 0), .lit (.int .i64 0)], .agg [.lit (.int .i64 0), .lit (.int .i64 0)], .agg [.lit (.int .i64 0), .lit (.int .i64 0)]], .agg [.agg [.lit (.int .i64 1), .lit (.int .i64 16)], .agg [.lit (.int .i64 0), .lit (.int .i64 0)], .agg [.lit (.int .i64 0), .lit (.int .i64 0)], .agg [.lit (.int .i64 0), .lit (.int .i64 0)]], .agg [.agg [.lit (.int .i64 1), .lit (.int .i64 16)], .agg [.lit (.int .i64 0), .lit (.int .i64 0)], .agg [.lit (.int .i64 0), .lit (.int .i64 0)], .agg [.lit (.int .i64 0), .lit (.int .i64 0)]], .agg [.agg [.lit (.int .i64 1), .lit (.int .i64 16)], .agg [.lit (.int .i64 0), .lit (.int .i64 64)], .agg [.lit (.int .i64 0), .lit (.int .i64 0)], .agg [.lit (.int .i64 0), .lit (.int .i64 0)]], .agg [.agg [.lit (.int .i64 1), .lit (.int .i64 16)], .agg [.lit (.int .i64 0), .lit (.int .i64 0)], .agg [.lit (.int .i64 0), .lit (.int .i64 1099511627776)], .agg [.lit (.int .i64 0), .lit (.int .i64 0)]], .agg [.agg [.lit (.int .i64 1), .lit (.int .i64 16)], .agg [.lit (.int .i64 1), .lit (.int .i64 16)], .agg [.lit (.int .i64 0), .lit (.int .i64 0)], .agg [.lit (.int .i64 0), .lit (.int .i64 0)]], .agg [.agg [.lit (.int .i64 1), .lit (.int .i64 16)], .agg [.lit (.int .i64 0), .lit (.int .i64 0)], .agg [.lit (.int .i64 0), .lit (.int .i64 1099511627776)], .agg [.lit (.int .i64 1), .lit (.int .i64 8)]], .agg [.agg [.lit (.int .i64 1), .lit (.int .i64 16)], .agg [.lit (.int .i64 0), .lit (.int .i64 0)], .agg [.lit (.int .i64 0), .lit (.int .i64 0)], .agg [.lit (.int .i64 0), .lit (.int .i64 0)]], .agg [.agg [.lit (.int .i64 0), .lit (.int .i64 0)], .agg [.lit (.int .i64 0), .lit (.int .i64 0)], .agg [.lit (.int .i64 0), .lit (.int .i64 0)], .agg [.lit (.int .i64 0), .lit (.int .i64 0)]]]
def laid_flotilla_words_forms {H : Type} : DataW H := .agg [.agg [.lit (.string []), .lit (.string [])], .agg [.lit (.string [109, 97, 107, 101]), .lit (.string [78])], .agg [.lit (.string [100, 114, 111, 112]), .lit (.string [78])], .agg [.lit (.string [112, 117, 115, 104]), .lit (.string [78, 84])], .agg [.lit (.string [116, 114, 105, 109]), .lit (.string [78, 75])], .agg [.lit (.string [116, 97, 107, 101]), .lit (.string [78, 84])], .agg [.lit (.string [114, 101, 97, 100]), .lit (.string [78, 75, 77])], .agg [.lit (.string [99, 111, 117, 110, 116]), .lit (.string [78])], .agg [.lit (.string [108, 105, 115, 116]), .lit (.string [])]]
def laid_flotilla_words_codes {H : Type} : DataW H := .agg [.lit (.string [100, 111, 110, 101]), .lit (.string [110, 111, 110, 101]), .lit (.string [116, 104, 101, 114, 101]), .lit (.string [102, 117, 108, 108]), .lit (.string [101, 109, 112, 116, 121])]
def laid_flotilla_story_kinds {H : Type} : DataW H := .agg [.lit (.string []), .lit (.string [114, 101, 102, 117, 115, 101, 100]), .lit (.string [115, 117, 98, 109, 105, 116, 116, 101, 100]), .lit (.string [97, 115, 107, 101, 100]), .lit (.string [97, 110, 115, 119, 101, 114, 101, 100]), .lit (.string [116, 111, 108, 100]), .lit (.string [114, 97, 110]), .lit (.string [115, 116, 97, 110, 100, 115]), .lit (.string [108, 111, 115, 116]), .lit (.string [100, 111, 119, 110]), .lit (.string [117, 112]), .lit (.string [115, 104, 101, 101, 116])]
def laid_flotilla_story_statuses {H : Type} : DataW H := .agg [.lit (.string []), .lit (.string [110, 111, 114, 109, 97, 108]), .lit (.string [99, 104, 97, 110, 103, 101]), .lit (.string [114, 101, 99, 111, 118, 101, 114, 105, 110, 103])]
def laid_unicode_utf8_acceptRanges {H : Type} : DataW H := .agg [.agg [.lit (.int .u8 128), .lit (.int .u8 191)], .agg [.lit (.int .u8 160), .lit (.int .u8 191)], .agg [.lit (.int .u8 128), .lit (.int .u8 159)], .agg [.lit (.int .u8 144), .lit (.int .u8 191)], .agg [.lit (.int .u8 128), .lit (.int .u8 143)], .agg [.lit (.int .u8 0), .lit (.int .u8 0)], .agg [.lit (.int .u8 0), .lit (.int .u8 0)], .agg [.lit (.int .u8 0), .lit (.int .u8 0)], .agg [.lit (.int .u8 0), .lit (.int .u8 0)], .agg [.lit (.int .u8 0), .lit (.int .u8 0)], .agg [.lit (.int .u8 0), .lit (.int .u8 0)], .agg [.lit (.int .u8 0), .lit (.int .u8 0)], .agg [.lit (.int .u8 0), .lit (.int .u8 0)], .agg [.lit (.int .u8 0), .lit (.int .u8 0)], .agg [.lit (.int .u8 0), .lit (.int .u8 0)], .agg [.lit (.int .u8 0), .lit (.int .u8 0)]]
/-- One of Go's own tables, pinned by name: the form's constant. -/
def laid_unicode_utf8_first : DataW Unit := Go.Pinned.utf8First

/-- 'flotillalaw19.StoryWrites': WHATEVER THE INPUT: true; the input reads as it did. -/
def storyWritesSpec : ChangeSpec := { name := "storyWrites", fn := fun _ => fun
  | [d1, d2] => { results := [.lit (.bool true)], args := [d1, d2] }
  | _ => none }
def storyWritesRow : OpenClaim := { program := "ytfeppannfcbakaagreatdoor", sum := "9dc0e6754366d74461d08badf10011a68c21beb3a16b321df1a2521d872247d5", func := "flotilla/flotillalaw19.StoryWrites", spec := "storyWrites", inPlace := ["internal/abi.NoEscape", "internal/bytealg.IndexByteString"], recurses := true, named := ["flotilla/story.kinds", "flotilla/story.statuses", "internal/strconv.uint64pow10", "math/bits.deBruijn32tab", "math/bits.deBruijn64tab", "flotilla/words.forms", "flotilla/shelf.forms", "flotilla/words.codes", "strconv.ErrSyntax", "strconv.ErrRange"], apart := false, laid := [("math/bits.deBruijn32tab", laid_math_bits_deBruijn32tab), ("math/bits.deBruijn64tab", laid_math_bits_deBruijn64tab), ("internal/strconv.uint64pow10", laid_internal_strconv_uint64pow10), ("strconv.ErrRange", laid_strconv_ErrRange), ("strconv.ErrSyntax", laid_strconv_ErrSyntax), ("flotilla/shelf.forms", laid_flotilla_shelf_forms), ("flotilla/words.forms", laid_flotilla_words_forms), ("flotilla/words.codes", laid_flotilla_words_codes), ("flotilla/story.kinds", laid_flotilla_story_kinds), ("flotilla/story.statuses", laid_flotilla_story_statuses)] }
def StoryWritesSaid : Prop := storyWritesRow.holds Tryz.pinned (OpenSpec.ofChange storyWritesSpec)

/-- ITS FALSE NEIGHBOUR: 'it returns false'. Refute it at one input. -/
def storyWritesWrong : ChangeSpec := { name := "storyWrites", fn := fun _ => fun
  | [d1, d2] => { results := [.lit (.bool false)], args := [d1, d2] }
  | _ => none }
def StoryWritesWrongFalsely : Prop := storyWritesRow.holds Tryz.pinned (OpenSpec.ofChange storyWritesWrong)

/-- 'flotillalaw19.StoryReads': WHATEVER THE INPUT: true; the input reads as it did. -/
def storyReadsSpec : ChangeSpec := { name := "storyReads", fn := fun _ => fun
  | [d1, d2] => { results := [.lit (.bool true)], args := [d1, d2] }
  | _ => none }
def storyReadsRow : OpenClaim := { program := "ytfeppannfcbakaagreatdoor", sum := "9dc0e6754366d74461d08badf10011a68c21beb3a16b321df1a2521d872247d5", func := "flotilla/flotillalaw19.StoryReads", spec := "storyReads", inPlace := ["internal/abi.NoEscape", "internal/bytealg.IndexByteString"], recurses := true, named := ["flotilla/story.kinds", "flotilla/story.statuses", "internal/strconv.uint64pow10", "math/bits.deBruijn32tab", "math/bits.deBruijn64tab", "flotilla/words.forms", "flotilla/shelf.forms", "flotilla/words.codes", "strconv.ErrSyntax", "strconv.ErrRange"], apart := false, laid := [("math/bits.deBruijn32tab", laid_math_bits_deBruijn32tab), ("math/bits.deBruijn64tab", laid_math_bits_deBruijn64tab), ("internal/strconv.uint64pow10", laid_internal_strconv_uint64pow10), ("strconv.ErrRange", laid_strconv_ErrRange), ("strconv.ErrSyntax", laid_strconv_ErrSyntax), ("flotilla/shelf.forms", laid_flotilla_shelf_forms), ("flotilla/words.forms", laid_flotilla_words_forms), ("flotilla/words.codes", laid_flotilla_words_codes), ("flotilla/story.kinds", laid_flotilla_story_kinds), ("flotilla/story.statuses", laid_flotilla_story_statuses)] }
def StoryReadsSaid : Prop := storyReadsRow.holds Tryz.pinned (OpenSpec.ofChange storyReadsSpec)

/-- ITS FALSE NEIGHBOUR: 'it returns false'. Refute it at one input. -/
def storyReadsWrong : ChangeSpec := { name := "storyReads", fn := fun _ => fun
  | [d1, d2] => { results := [.lit (.bool false)], args := [d1, d2] }
  | _ => none }
def StoryReadsWrongFalsely : Prop := storyReadsRow.holds Tryz.pinned (OpenSpec.ofChange storyReadsWrong)

/-- 'flotillalaw19.StoryBack': WHATEVER THE INPUT: true; the input reads as it did. -/
def storyBackSpec : ChangeSpec := { name := "storyBack", fn := fun _ => fun
  | [d] => { results := [.lit (.bool true)], args := [d] }
  | _ => none }
def storyBackRow : OpenClaim := { program := "ytfeppannfcbakaagreatdoor", sum := "9dc0e6754366d74461d08badf10011a68c21beb3a16b321df1a2521d872247d5", func := "flotilla/flotillalaw19.StoryBack", spec := "storyBack", inPlace := ["internal/abi.NoEscape", "internal/bytealg.IndexByteString"], recurses := true, named := ["flotilla/story.kinds", "flotilla/story.statuses", "internal/strconv.uint64pow10", "math/bits.deBruijn32tab", "math/bits.deBruijn64tab", "flotilla/words.forms", "flotilla/shelf.forms", "flotilla/words.codes", "strconv.ErrSyntax", "strconv.ErrRange"], apart := false, laid := [("math/bits.deBruijn32tab", laid_math_bits_deBruijn32tab), ("math/bits.deBruijn64tab", laid_math_bits_deBruijn64tab), ("internal/strconv.uint64pow10", laid_internal_strconv_uint64pow10), ("strconv.ErrRange", laid_strconv_ErrRange), ("strconv.ErrSyntax", laid_strconv_ErrSyntax), ("flotilla/shelf.forms", laid_flotilla_shelf_forms), ("flotilla/words.forms", laid_flotilla_words_forms), ("flotilla/words.codes", laid_flotilla_words_codes), ("flotilla/story.kinds", laid_flotilla_story_kinds), ("flotilla/story.statuses", laid_flotilla_story_statuses)] }
def StoryBackSaid : Prop := storyBackRow.holds Tryz.pinned (OpenSpec.ofChange storyBackSpec)

/-- ITS FALSE NEIGHBOUR: 'it returns false'. Refute it at one input. -/
def storyBackWrong : ChangeSpec := { name := "storyBack", fn := fun _ => fun
  | [d] => { results := [.lit (.bool false)], args := [d] }
  | _ => none }
def StoryBackWrongFalsely : Prop := storyBackRow.holds Tryz.pinned (OpenSpec.ofChange storyBackWrong)

/-- 'flotillalaw19.StoryForms': WHATEVER THE INPUT: true; the input reads as it did. -/
def storyFormsSpec : ChangeSpec := { name := "storyForms", fn := fun _ => fun
  | [d] => { results := [.lit (.bool true)], args := [d] }
  | _ => none }
def storyFormsRow : OpenClaim := { program := "ytfeppannfcbakaagreatdoor", sum := "9dc0e6754366d74461d08badf10011a68c21beb3a16b321df1a2521d872247d5", func := "flotilla/flotillalaw19.StoryForms", spec := "storyForms", inPlace := ["internal/abi.NoEscape", "internal/bytealg.IndexByteString"], recurses := true, named := ["flotilla/story.kinds", "flotilla/story.statuses", "internal/strconv.uint64pow10", "math/bits.deBruijn32tab", "math/bits.deBruijn64tab", "flotilla/words.forms", "flotilla/shelf.forms", "flotilla/words.codes", "strconv.ErrSyntax", "strconv.ErrRange"], apart := false, laid := [("math/bits.deBruijn32tab", laid_math_bits_deBruijn32tab), ("math/bits.deBruijn64tab", laid_math_bits_deBruijn64tab), ("internal/strconv.uint64pow10", laid_internal_strconv_uint64pow10), ("strconv.ErrRange", laid_strconv_ErrRange), ("strconv.ErrSyntax", laid_strconv_ErrSyntax), ("flotilla/shelf.forms", laid_flotilla_shelf_forms), ("flotilla/words.forms", laid_flotilla_words_forms), ("flotilla/words.codes", laid_flotilla_words_codes), ("flotilla/story.kinds", laid_flotilla_story_kinds), ("flotilla/story.statuses", laid_flotilla_story_statuses)] }
def StoryFormsSaid : Prop := storyFormsRow.holds Tryz.pinned (OpenSpec.ofChange storyFormsSpec)

/-- ITS FALSE NEIGHBOUR: 'it returns false'. Refute it at one input. -/
def storyFormsWrong : ChangeSpec := { name := "storyForms", fn := fun _ => fun
  | [d] => { results := [.lit (.bool false)], args := [d] }
  | _ => none }
def StoryFormsWrongFalsely : Prop := storyFormsRow.holds Tryz.pinned (OpenSpec.ofChange storyFormsWrong)

/-- 'flotillalaw19.StoryLines': WHATEVER THE INPUT: true; the input reads as it did. -/
def storyLinesSpec : ChangeSpec := { name := "storyLines", fn := fun _ => fun
  | [d1, d2] => { results := [.lit (.bool true)], args := [d1, d2] }
  | _ => none }
def storyLinesRow : OpenClaim := { program := "ytfeppannfcbakaagreatdoor", sum := "9dc0e6754366d74461d08badf10011a68c21beb3a16b321df1a2521d872247d5", func := "flotilla/flotillalaw19.StoryLines", spec := "storyLines", inPlace := ["internal/abi.NoEscape", "internal/bytealg.IndexByteString"], unfollowed := true, recurses := true, named := ["flotilla/story.kinds", "flotilla/story.statuses", "internal/strconv.uint64pow10", "math/bits.deBruijn32tab", "math/bits.deBruijn64tab", "flotilla/words.forms", "flotilla/shelf.forms", "flotilla/words.codes", "strconv.ErrSyntax", "strconv.ErrRange"], apart := false, laid := [("math/bits.deBruijn32tab", laid_math_bits_deBruijn32tab), ("math/bits.deBruijn64tab", laid_math_bits_deBruijn64tab), ("internal/strconv.uint64pow10", laid_internal_strconv_uint64pow10), ("strconv.ErrRange", laid_strconv_ErrRange), ("strconv.ErrSyntax", laid_strconv_ErrSyntax), ("flotilla/shelf.forms", laid_flotilla_shelf_forms), ("flotilla/words.forms", laid_flotilla_words_forms), ("flotilla/words.codes", laid_flotilla_words_codes), ("flotilla/story.kinds", laid_flotilla_story_kinds), ("flotilla/story.statuses", laid_flotilla_story_statuses)] }
def StoryLinesSaid : Prop := storyLinesRow.holds Tryz.pinned (OpenSpec.ofChange storyLinesSpec)

/-- ITS FALSE NEIGHBOUR: 'it returns false'. Refute it at one input. -/
def storyLinesWrong : ChangeSpec := { name := "storyLines", fn := fun _ => fun
  | [d1, d2] => { results := [.lit (.bool false)], args := [d1, d2] }
  | _ => none }
def StoryLinesWrongFalsely : Prop := storyLinesRow.holds Tryz.pinned (OpenSpec.ofChange storyLinesWrong)

/-- 'flotillalaw19.StoryTexts': WHATEVER THE INPUT: true; the input reads as it did. -/
def storyTextsSpec : ChangeSpec := { name := "storyTexts", fn := fun _ => fun
  | [d1, d2] => { results := [.lit (.bool true)], args := [d1, d2] }
  | _ => none }
def storyTextsRow : OpenClaim := { program := "ytfeppannfcbakaagreatdoor", sum := "9dc0e6754366d74461d08badf10011a68c21beb3a16b321df1a2521d872247d5", func := "flotilla/flotillalaw19.StoryTexts", spec := "storyTexts", inPlace := ["internal/abi.NoEscape", "internal/bytealg.IndexByteString", "internal/bytealg.IndexString"], unfollowed := true, recurses := true, named := ["flotilla/story.kinds", "flotilla/story.statuses", "internal/strconv.uint64pow10", "math/bits.deBruijn32tab", "math/bits.deBruijn64tab", "flotilla/words.forms", "flotilla/shelf.forms", "flotilla/words.codes", "strconv.ErrSyntax", "strconv.ErrRange", "unicode/utf8.first", "unicode/utf8.acceptRanges", "internal/bytealg.MaxLen"], apart := false, laid := [("math/bits.deBruijn32tab", laid_math_bits_deBruijn32tab), ("math/bits.deBruijn64tab", laid_math_bits_deBruijn64tab), ("internal/strconv.uint64pow10", laid_internal_strconv_uint64pow10), ("unicode/utf8.acceptRanges", laid_unicode_utf8_acceptRanges), ("strconv.ErrRange", laid_strconv_ErrRange), ("strconv.ErrSyntax", laid_strconv_ErrSyntax), ("flotilla/shelf.forms", laid_flotilla_shelf_forms), ("flotilla/words.forms", laid_flotilla_words_forms), ("flotilla/words.codes", laid_flotilla_words_codes), ("flotilla/story.kinds", laid_flotilla_story_kinds), ("flotilla/story.statuses", laid_flotilla_story_statuses), ("unicode/utf8.first", laid_unicode_utf8_first)] }
def StoryTextsSaid : Prop := storyTextsRow.holds Tryz.pinned (OpenSpec.ofChange storyTextsSpec)

/-- ITS FALSE NEIGHBOUR: 'it returns false'. Refute it at one input. -/
def storyTextsWrong : ChangeSpec := { name := "storyTexts", fn := fun _ => fun
  | [d1, d2] => { results := [.lit (.bool false)], args := [d1, d2] }
  | _ => none }
def StoryTextsWrongFalsely : Prop := storyTextsRow.holds Tryz.pinned (OpenSpec.ofChange storyTextsWrong)

/- THE SECOND FORM. 'bulk': how many values and letters a reading holds, each counted each time it is reached (what is shared counts as often as it is met; a slice's spare places count too). A statement '..UptoSaid' is the law's where the arguments, and the package variables that the reading takes, are together of bulk at most 1048576: NARROWER than '..Said'. Prove '..Said' where nothing that the law and all that it calls make is longer than what came in: it says more and counts as full. Else prove '..UptoSaid'. A law counts once. -/
mutual
def uptoBulk {H : Type} : DataW H → Nat
  | .lit (.string bytes) => bytes.length + 1
  | .lit _ => 1
  | .nil => 1
  | .ptr d => uptoBulk d + 1
  | .slice elems spare => uptoBulkAll elems + uptoBulkAll spare + 1
  | .agg parts => uptoBulkAll parts + 1
  | .iface _ d => uptoBulk d + 1
  | .map entries => uptoBulkEntries entries + 1
  | .held _ => 1
def uptoBulkAll {H : Type} : List (DataW H) → Nat
  | [] => 0
  | d :: r => uptoBulk d + uptoBulkAll r
def uptoBulkEntries {H : Type} : List (Lit × DataW H) → Nat
  | [] => 0
  | x :: r => uptoBulkEntry x + uptoBulkEntries r
def uptoBulkEntry {H : Type} : Lit × DataW H → Nat
  | (.string bytes, d) => bytes.length + uptoBulk d + 1
  | (_, d) => uptoBulk d + 1
 end
def uptoSmall : (H : Type) → List (DataW H) → Bool := fun _ ds => decide (uptoBulkAll ds ≤ 1048576)
def OpenSpec.upto (s : _root_.Go.ChangeSpec) : _root_.Go.OpenSpec := { _root_.Go.OpenSpec.ofChange s with cond := some uptoSmall }

/-- 'flotillalaw19.StoryWrites', WHERE WHAT IT READS IS OF BULK AT MOST 1048576: true; the input reads as it did. -/
def storyWritesUptoRow : OpenClaim := { program := "ytfeppannfcbakaagreatdoor", sum := "9dc0e6754366d74461d08badf10011a68c21beb3a16b321df1a2521d872247d5", func := "flotilla/flotillalaw19.StoryWrites", spec := "storyWrites", inPlace := ["internal/abi.NoEscape", "internal/bytealg.IndexByteString"], recurses := true, named := ["flotilla/story.kinds", "flotilla/story.statuses", "internal/strconv.uint64pow10", "math/bits.deBruijn32tab", "math/bits.deBruijn64tab", "flotilla/words.forms", "flotilla/shelf.forms", "flotilla/words.codes", "strconv.ErrSyntax", "strconv.ErrRange"], apart := false, laid := [("math/bits.deBruijn32tab", laid_math_bits_deBruijn32tab), ("math/bits.deBruijn64tab", laid_math_bits_deBruijn64tab), ("internal/strconv.uint64pow10", laid_internal_strconv_uint64pow10), ("strconv.ErrRange", laid_strconv_ErrRange), ("strconv.ErrSyntax", laid_strconv_ErrSyntax), ("flotilla/shelf.forms", laid_flotilla_shelf_forms), ("flotilla/words.forms", laid_flotilla_words_forms), ("flotilla/words.codes", laid_flotilla_words_codes), ("flotilla/story.kinds", laid_flotilla_story_kinds), ("flotilla/story.statuses", laid_flotilla_story_statuses)], narrowed := true }
def StoryWritesUptoSaid : Prop := storyWritesUptoRow.holds Tryz.pinned (OpenSpec.upto storyWritesSpec)

/-- 'flotillalaw19.StoryReads', WHERE WHAT IT READS IS OF BULK AT MOST 1048576: true; the input reads as it did. -/
def storyReadsUptoRow : OpenClaim := { program := "ytfeppannfcbakaagreatdoor", sum := "9dc0e6754366d74461d08badf10011a68c21beb3a16b321df1a2521d872247d5", func := "flotilla/flotillalaw19.StoryReads", spec := "storyReads", inPlace := ["internal/abi.NoEscape", "internal/bytealg.IndexByteString"], recurses := true, named := ["flotilla/story.kinds", "flotilla/story.statuses", "internal/strconv.uint64pow10", "math/bits.deBruijn32tab", "math/bits.deBruijn64tab", "flotilla/words.forms", "flotilla/shelf.forms", "flotilla/words.codes", "strconv.ErrSyntax", "strconv.ErrRange"], apart := false, laid := [("math/bits.deBruijn32tab", laid_math_bits_deBruijn32tab), ("math/bits.deBruijn64tab", laid_math_bits_deBruijn64tab), ("internal/strconv.uint64pow10", laid_internal_strconv_uint64pow10), ("strconv.ErrRange", laid_strconv_ErrRange), ("strconv.ErrSyntax", laid_strconv_ErrSyntax), ("flotilla/shelf.forms", laid_flotilla_shelf_forms), ("flotilla/words.forms", laid_flotilla_words_forms), ("flotilla/words.codes", laid_flotilla_words_codes), ("flotilla/story.kinds", laid_flotilla_story_kinds), ("flotilla/story.statuses", laid_flotilla_story_statuses)], narrowed := true }
def StoryReadsUptoSaid : Prop := storyReadsUptoRow.holds Tryz.pinned (OpenSpec.upto storyReadsSpec)

/-- 'flotillalaw19.StoryBack', WHERE WHAT IT READS IS OF BULK AT MOST 1048576: true; the input reads as it did. -/
def storyBackUptoRow : OpenClaim := { program := "ytfeppannfcbakaagreatdoor", sum := "9dc0e6754366d74461d08badf10011a68c21beb3a16b321df1a2521d872247d5", func := "flotilla/flotillalaw19.StoryBack", spec := "storyBack", inPlace := ["internal/abi.NoEscape", "internal/bytealg.IndexByteString"], recurses := true, named := ["flotilla/story.kinds", "flotilla/story.statuses", "internal/strconv.uint64pow10", "math/bits.deBruijn32tab", "math/bits.deBruijn64tab", "flotilla/words.forms", "flotilla/shelf.forms", "flotilla/words.codes", "strconv.ErrSyntax", "strconv.ErrRange"], apart := false, laid := [("math/bits.deBruijn32tab", laid_math_bits_deBruijn32tab), ("math/bits.deBruijn64tab", laid_math_bits_deBruijn64tab), ("internal/strconv.uint64pow10", laid_internal_strconv_uint64pow10), ("strconv.ErrRange", laid_strconv_ErrRange), ("strconv.ErrSyntax", laid_strconv_ErrSyntax), ("flotilla/shelf.forms", laid_flotilla_shelf_forms), ("flotilla/words.forms", laid_flotilla_words_forms), ("flotilla/words.codes", laid_flotilla_words_codes), ("flotilla/story.kinds", laid_flotilla_story_kinds), ("flotilla/story.statuses", laid_flotilla_story_statuses)], narrowed := true }
def StoryBackUptoSaid : Prop := storyBackUptoRow.holds Tryz.pinned (OpenSpec.upto storyBackSpec)

/-- 'flotillalaw19.StoryForms', WHERE WHAT IT READS IS OF BULK AT MOST 1048576: true; the input reads as it did. -/
def storyFormsUptoRow : OpenClaim := { program := "ytfeppannfcbakaagreatdoor", sum := "9dc0e6754366d74461d08badf10011a68c21beb3a16b321df1a2521d872247d5", func := "flotilla/flotillalaw19.StoryForms", spec := "storyForms", inPlace := ["internal/abi.NoEscape", "internal/bytealg.IndexByteString"], recurses := true, named := ["flotilla/story.kinds", "flotilla/story.statuses", "internal/strconv.uint64pow10", "math/bits.deBruijn32tab", "math/bits.deBruijn64tab", "flotilla/words.forms", "flotilla/shelf.forms", "flotilla/words.codes", "strconv.ErrSyntax", "strconv.ErrRange"], apart := false, laid := [("math/bits.deBruijn32tab", laid_math_bits_deBruijn32tab), ("math/bits.deBruijn64tab", laid_math_bits_deBruijn64tab), ("internal/strconv.uint64pow10", laid_internal_strconv_uint64pow10), ("strconv.ErrRange", laid_strconv_ErrRange), ("strconv.ErrSyntax", laid_strconv_ErrSyntax), ("flotilla/shelf.forms", laid_flotilla_shelf_forms), ("flotilla/words.forms", laid_flotilla_words_forms), ("flotilla/words.codes", laid_flotilla_words_codes), ("flotilla/story.kinds", laid_flotilla_story_kinds), ("flotilla/story.statuses", laid_flotilla_story_statuses)], narrowed := true }
def StoryFormsUptoSaid : Prop := storyFormsUptoRow.holds Tryz.pinned (OpenSpec.upto storyFormsSpec)

/-- 'flotillalaw19.StoryLines', WHERE WHAT IT READS IS OF BULK AT MOST 1048576: true; the input reads as it did. -/
def storyLinesUptoRow : OpenClaim := { program := "ytfeppannfcbakaagreatdoor", sum := "9dc0e6754366d74461d08badf10011a68c21beb3a16b321df1a2521d872247d5", func := "flotilla/flotillalaw19.StoryLines", spec := "storyLines", inPlace := ["internal/abi.NoEscape", "internal/bytealg.IndexByteString"], unfollowed := true, recurses := true, named := ["flotilla/story.kinds", "flotilla/story.statuses", "internal/strconv.uint64pow10", "math/bits.deBruijn32tab", "math/bits.deBruijn64tab", "flotilla/words.forms", "flotilla/shelf.forms", "flotilla/words.codes", "strconv.ErrSyntax", "strconv.ErrRange"], apart := false, laid := [("math/bits.deBruijn32tab", laid_math_bits_deBruijn32tab), ("math/bits.deBruijn64tab", laid_math_bits_deBruijn64tab), ("internal/strconv.uint64pow10", laid_internal_strconv_uint64pow10), ("strconv.ErrRange", laid_strconv_ErrRange), ("strconv.ErrSyntax", laid_strconv_ErrSyntax), ("flotilla/shelf.forms", laid_flotilla_shelf_forms), ("flotilla/words.forms", laid_flotilla_words_forms), ("flotilla/words.codes", laid_flotilla_words_codes), ("flotilla/story.kinds", laid_flotilla_story_kinds), ("flotilla/story.statuses", laid_flotilla_story_statuses)], narrowed := true }
def StoryLinesUptoSaid : Prop := storyLinesUptoRow.holds Tryz.pinned (OpenSpec.upto storyLinesSpec)

/-- 'flotillalaw19.StoryTexts', WHERE WHAT IT READS IS OF BULK AT MOST 1048576: true; the input reads as it did. -/
def storyTextsUptoRow : OpenClaim := { program := "ytfeppannfcbakaagreatdoor", sum := "9dc0e6754366d74461d08badf10011a68c21beb3a16b321df1a2521d872247d5", func := "flotilla/flotillalaw19.StoryTexts", spec := "storyTexts", inPlace := ["internal/abi.NoEscape", "internal/bytealg.IndexByteString", "internal/bytealg.IndexString"], unfollowed := true, recurses := true, named := ["flotilla/story.kinds", "flotilla/story.statuses", "internal/strconv.uint64pow10", "math/bits.deBruijn32tab", "math/bits.deBruijn64tab", "flotilla/words.forms", "flotilla/shelf.forms", "flotilla/words.codes", "strconv.ErrSyntax", "strconv.ErrRange", "unicode/utf8.first", "unicode/utf8.acceptRanges", "internal/bytealg.MaxLen"], apart := false, laid := [("math/bits.deBruijn32tab", laid_math_bits_deBruijn32tab), ("math/bits.deBruijn64tab", laid_math_bits_deBruijn64tab), ("internal/strconv.uint64pow10", laid_internal_strconv_uint64pow10), ("unicode/utf8.acceptRanges", laid_unicode_utf8_acceptRanges), ("strconv.ErrRange", laid_strconv_ErrRange), ("strconv.ErrSyntax", laid_strconv_ErrSyntax), ("flotilla/shelf.forms", laid_flotilla_shelf_forms), ("flotilla/words.forms", laid_flotilla_words_forms), ("flotilla/words.codes", laid_flotilla_words_codes), ("flotilla/story.kinds", laid_flotilla_story_kinds), ("flotilla/story.statuses", laid_flotilla_story_statuses), ("unicode/utf8.first", laid_unicode_utf8_first)], narrowed := true }
def StoryTextsUptoSaid : Prop := storyTextsUptoRow.holds Tryz.pinned (OpenSpec.upto storyTextsSpec)

end Rows
end Go.Proofs.YtfeppannfcbakaaGreatDoor
