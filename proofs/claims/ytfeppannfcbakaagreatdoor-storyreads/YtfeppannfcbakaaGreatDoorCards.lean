/-
  DERIVED. GIVEN WITH THE SEED: THE CARDS: each row of YtfeppannfcbakaaGreatDoorRows.lean that lists a variable, with what it lists TIED to the program's text (the seventh form; the later family's looks); each row that meets fmt, with fmt's text TOLD by the authors' own Lean function (tested against real Go, not proved from fmt's source: count such statements apart). THE CARD IS WHAT COUNTS. Prove the row's statement (the work); the ties are given (YtfeppannfcbakaaGreatDoorTie.lean); close each card by the builder's one call (the guide's Derived/Test/ToyasCard.lean, 'card_holds'). Laid BY PROGRAM, IN A SANDBOX (cutbox-door.mjs). By AI agents, Wed Nov 11 2026. No macro, syntax, notation, axiom, sorry.
-/
import Derived.Test.YtfeppannfcbakaaGreatDoorRows
import GoSem.ClaimSeven
namespace Go.Proofs.YtfeppannfcbakaaGreatDoor
namespace Rows

/-- THE TIED CARD OF 'flotillalaw19.StoryWrites'. -/
def storyWritesCard : Claim7 := { stood := { row := storyWritesRow, standIns := [], harness := (true, "0df433e2be49c5782844000eaa9be0a6958080c05de8d8750f5256fd4054d7dd"), looks := true }, kinds := [], alts := [], laidByText := true, laidKinds := [.data, .data, .data, .sentinel, .sentinel, .data, .data, .data, .data, .data], laidTests := true, laidLooks := .later }
def StoryWritesCardSaid : Prop := Claim7.holds Tryz.pinned (.plain (OpenSpec.ofChange storyWritesSpec)) storyWritesCard

/-- THE TIED CARD OF 'flotillalaw19.StoryReads'. -/
def storyReadsCard : Claim7 := { stood := { row := storyReadsRow, standIns := [], harness := (true, "0df433e2be49c5782844000eaa9be0a6958080c05de8d8750f5256fd4054d7dd"), looks := true }, kinds := [], alts := [], laidByText := true, laidKinds := [.data, .data, .data, .sentinel, .sentinel, .data, .data, .data, .data, .data], laidTests := true, laidLooks := .later }
def StoryReadsCardSaid : Prop := Claim7.holds Tryz.pinned (.plain (OpenSpec.ofChange storyReadsSpec)) storyReadsCard

/-- THE TIED CARD OF 'flotillalaw19.StoryBack'. -/
def storyBackCard : Claim7 := { stood := { row := storyBackRow, standIns := [], harness := (true, "0df433e2be49c5782844000eaa9be0a6958080c05de8d8750f5256fd4054d7dd"), looks := true }, kinds := [], alts := [], laidByText := true, laidKinds := [.data, .data, .data, .sentinel, .sentinel, .data, .data, .data, .data, .data], laidTests := true, laidLooks := .later }
def StoryBackCardSaid : Prop := Claim7.holds Tryz.pinned (.plain (OpenSpec.ofChange storyBackSpec)) storyBackCard

/-- THE TIED CARD OF 'flotillalaw19.StoryForms'. -/
def storyFormsCard : Claim7 := { stood := { row := storyFormsRow, standIns := [], harness := (true, "0df433e2be49c5782844000eaa9be0a6958080c05de8d8750f5256fd4054d7dd"), looks := true }, kinds := [], alts := [], laidByText := true, laidKinds := [.data, .data, .data, .sentinel, .sentinel, .data, .data, .data, .data, .data], laidTests := true, laidLooks := .later }
def StoryFormsCardSaid : Prop := Claim7.holds Tryz.pinned (.plain (OpenSpec.ofChange storyFormsSpec)) storyFormsCard

/-- THE TIED CARD OF 'flotillalaw19.StoryLines'. -/
def storyLinesCard : Claim7 := { stood := { row := storyLinesRow, standIns := [], harness := (true, "0df433e2be49c5782844000eaa9be0a6958080c05de8d8750f5256fd4054d7dd"), looks := true }, kinds := [], alts := [], laidByText := true, laidKinds := [.data, .data, .data, .sentinel, .sentinel, .data, .data, .data, .data, .data], laidTests := true, laidLooks := .later }
def StoryLinesCardSaid : Prop := Claim7.holds Tryz.pinned (.plain (OpenSpec.ofChange storyLinesSpec)) storyLinesCard

/-- THE TIED CARD OF 'flotillalaw19.StoryTexts'. -/
def storyTextsCard : Claim7 := { stood := { row := storyTextsRow, standIns := [], harness := (true, "0df433e2be49c5782844000eaa9be0a6958080c05de8d8750f5256fd4054d7dd"), looks := true }, kinds := [], alts := [], laidByText := true, laidKinds := [.data, .data, .data, .data, .sentinel, .sentinel, .data, .data, .data, .data, .data, .pinned], laidTests := true, laidLooks := .later }
def StoryTextsCardSaid : Prop := Claim7.holds Tryz.pinned (.plain (OpenSpec.ofChange storyTextsSpec)) storyTextsCard

/-- THE SECOND FORM's CARD OF 'flotillalaw19.StoryWrites'. -/
def storyWritesUptoCard : Claim7 := { stood := { row := storyWritesUptoRow, standIns := [], harness := (true, "0df433e2be49c5782844000eaa9be0a6958080c05de8d8750f5256fd4054d7dd"), looks := true }, kinds := [], alts := [], laidByText := true, laidKinds := [.data, .data, .data, .sentinel, .sentinel, .data, .data, .data, .data, .data], laidTests := true, laidLooks := .later }
def StoryWritesUptoCardSaid : Prop := Claim7.holds Tryz.pinned (.plain (OpenSpec.upto storyWritesSpec)) storyWritesUptoCard

/-- THE SECOND FORM's CARD OF 'flotillalaw19.StoryReads'. -/
def storyReadsUptoCard : Claim7 := { stood := { row := storyReadsUptoRow, standIns := [], harness := (true, "0df433e2be49c5782844000eaa9be0a6958080c05de8d8750f5256fd4054d7dd"), looks := true }, kinds := [], alts := [], laidByText := true, laidKinds := [.data, .data, .data, .sentinel, .sentinel, .data, .data, .data, .data, .data], laidTests := true, laidLooks := .later }
def StoryReadsUptoCardSaid : Prop := Claim7.holds Tryz.pinned (.plain (OpenSpec.upto storyReadsSpec)) storyReadsUptoCard

/-- THE SECOND FORM's CARD OF 'flotillalaw19.StoryBack'. -/
def storyBackUptoCard : Claim7 := { stood := { row := storyBackUptoRow, standIns := [], harness := (true, "0df433e2be49c5782844000eaa9be0a6958080c05de8d8750f5256fd4054d7dd"), looks := true }, kinds := [], alts := [], laidByText := true, laidKinds := [.data, .data, .data, .sentinel, .sentinel, .data, .data, .data, .data, .data], laidTests := true, laidLooks := .later }
def StoryBackUptoCardSaid : Prop := Claim7.holds Tryz.pinned (.plain (OpenSpec.upto storyBackSpec)) storyBackUptoCard

/-- THE SECOND FORM's CARD OF 'flotillalaw19.StoryForms'. -/
def storyFormsUptoCard : Claim7 := { stood := { row := storyFormsUptoRow, standIns := [], harness := (true, "0df433e2be49c5782844000eaa9be0a6958080c05de8d8750f5256fd4054d7dd"), looks := true }, kinds := [], alts := [], laidByText := true, laidKinds := [.data, .data, .data, .sentinel, .sentinel, .data, .data, .data, .data, .data], laidTests := true, laidLooks := .later }
def StoryFormsUptoCardSaid : Prop := Claim7.holds Tryz.pinned (.plain (OpenSpec.upto storyFormsSpec)) storyFormsUptoCard

/-- THE SECOND FORM's CARD OF 'flotillalaw19.StoryLines'. -/
def storyLinesUptoCard : Claim7 := { stood := { row := storyLinesUptoRow, standIns := [], harness := (true, "0df433e2be49c5782844000eaa9be0a6958080c05de8d8750f5256fd4054d7dd"), looks := true }, kinds := [], alts := [], laidByText := true, laidKinds := [.data, .data, .data, .sentinel, .sentinel, .data, .data, .data, .data, .data], laidTests := true, laidLooks := .later }
def StoryLinesUptoCardSaid : Prop := Claim7.holds Tryz.pinned (.plain (OpenSpec.upto storyLinesSpec)) storyLinesUptoCard

/-- THE SECOND FORM's CARD OF 'flotillalaw19.StoryTexts'. -/
def storyTextsUptoCard : Claim7 := { stood := { row := storyTextsUptoRow, standIns := [], harness := (true, "0df433e2be49c5782844000eaa9be0a6958080c05de8d8750f5256fd4054d7dd"), looks := true }, kinds := [], alts := [], laidByText := true, laidKinds := [.data, .data, .data, .data, .sentinel, .sentinel, .data, .data, .data, .data, .data, .pinned], laidTests := true, laidLooks := .later }
def StoryTextsUptoCardSaid : Prop := Claim7.holds Tryz.pinned (.plain (OpenSpec.upto storyTextsSpec)) storyTextsUptoCard
end Rows
end Go.Proofs.YtfeppannfcbakaaGreatDoor
