/-
  DERIVED. GIVEN WITH THE SEED: THE CARDS: each row of YtgmjjopfpenceabDoorRows.lean that lists a variable, with what it lists TIED to the program's text (the seventh form; the later family's looks); each row that meets fmt, with fmt's text TOLD by the authors' own Lean function (tested against real Go, not proved from fmt's source: count such statements apart). THE CARD IS WHAT COUNTS. Prove the row's statement (the work); the ties are given (YtgmjjopfpenceabDoorTie.lean); close each card by the builder's one call (the guide's Derived/Test/ToyasCard.lean, 'card_holds'). Laid BY PROGRAM, IN A SANDBOX (cutbox-door.mjs). By AI agents, Wed Nov 11 2026. No macro, syntax, notation, axiom, sorry.
-/
import Derived.Test.YtgmjjopfpenceabDoorRows
import GoSem.ClaimSeven
namespace Go.Proofs.YtgmjjopfpenceabDoor
namespace Rows

/-- THE TIED CARD OF 'flotillalaw16.WordsResult'. -/
def wordsResultCard : Claim7 := { stood := { row := wordsResultRow, standIns := [], harness := (true, "dbeee6b3316bf5cfc2ec6b7f76ba237214fe221b7c1b4f16f74acaaa6fcc6806"), looks := true }, kinds := [], alts := [], laidByText := true, laidKinds := [.data, .data, .data, .sentinel, .sentinel, .data], laidTests := true, laidLooks := .later }
def WordsResultCardSaid : Prop := Claim7.holds Tryd.pinned (.plain (OpenSpec.ofChange wordsResultSpec)) wordsResultCard

/-- THE TIED CARD OF 'flotillalaw16.WordsReadResult'. -/
def wordsReadResultCard : Claim7 := { stood := { row := wordsReadResultRow, standIns := [], harness := (true, "dbeee6b3316bf5cfc2ec6b7f76ba237214fe221b7c1b4f16f74acaaa6fcc6806"), looks := true }, kinds := [], alts := [], laidByText := true, laidKinds := [.data, .data, .data, .sentinel, .sentinel, .data], laidTests := true, laidLooks := .later }
def WordsReadResultCardSaid : Prop := Claim7.holds Tryd.pinned (.plain (OpenSpec.ofChange wordsReadResultSpec)) wordsReadResultCard

/-- THE SECOND FORM's CARD OF 'flotillalaw16.WordsResult'. -/
def wordsResultUptoCard : Claim7 := { stood := { row := wordsResultUptoRow, standIns := [], harness := (true, "dbeee6b3316bf5cfc2ec6b7f76ba237214fe221b7c1b4f16f74acaaa6fcc6806"), looks := true }, kinds := [], alts := [], laidByText := true, laidKinds := [.data, .data, .data, .sentinel, .sentinel, .data], laidTests := true, laidLooks := .later }
def WordsResultUptoCardSaid : Prop := Claim7.holds Tryd.pinned (.plain (OpenSpec.upto wordsResultSpec)) wordsResultUptoCard

/-- THE SECOND FORM's CARD OF 'flotillalaw16.WordsReadResult'. -/
def wordsReadResultUptoCard : Claim7 := { stood := { row := wordsReadResultUptoRow, standIns := [], harness := (true, "dbeee6b3316bf5cfc2ec6b7f76ba237214fe221b7c1b4f16f74acaaa6fcc6806"), looks := true }, kinds := [], alts := [], laidByText := true, laidKinds := [.data, .data, .data, .sentinel, .sentinel, .data], laidTests := true, laidLooks := .later }
def WordsReadResultUptoCardSaid : Prop := Claim7.holds Tryd.pinned (.plain (OpenSpec.upto wordsReadResultSpec)) wordsReadResultUptoCard
end Rows
end Go.Proofs.YtgmjjopfpenceabDoor
