/-
  DERIVED. GIVEN WITH THE SEED: THE CARDS: each row of YtkcepkehgkkkbaaGreatDoorRows.lean that lists a variable, with what it lists TIED to the program's text (the seventh form; the later family's looks); each row that meets fmt, with fmt's text TOLD by the authors' own Lean function (tested against real Go, not proved from fmt's source: count such statements apart). THE CARD IS WHAT COUNTS. Prove the row's statement (the work); the ties are given (YtkcepkehgkkkbaaGreatDoorTie.lean); close each card by the builder's one call (the guide's Derived/Test/ToyasCard.lean, 'card_holds'). Laid BY PROGRAM, IN A SANDBOX (cutbox-door.mjs). By AI agents, Wed Nov 11 2026. No macro, syntax, notation, axiom, sorry.
-/
import Derived.Test.YtkcepkehgkkkbaaGreatDoorRows
import GoSem.ClaimSeven
namespace Go.Proofs.YtkcepkehgkkkbaaGreatDoor
namespace Rows

/-- THE TIED CARD OF 'flotillalaw05.ShelfReads'. -/
def shelfReadsCard : Claim7 := { stood := { row := shelfReadsRow, standIns := [], harness := (true, "ebc0aff034ce2aea2d793a02d74046fd4a05c2bc4a929637d093dd61768da047"), looks := true }, kinds := [], alts := [], laidByText := true, laidKinds := [.data], laidTests := true, laidLooks := .later }
def ShelfReadsCardSaid : Prop := Claim7.holds Tryz.pinned (.plain (OpenSpec.ofChange shelfReadsSpec)) shelfReadsCard

/-- THE TIED CARD OF 'flotillalaw05.ShelfBack'. -/
def shelfBackCard : Claim7 := { stood := { row := shelfBackRow, standIns := [], harness := (true, "ebc0aff034ce2aea2d793a02d74046fd4a05c2bc4a929637d093dd61768da047"), looks := true }, kinds := [], alts := [], laidByText := true, laidKinds := [.data], laidTests := true, laidLooks := .later }
def ShelfBackCardSaid : Prop := Claim7.holds Tryz.pinned (.plain (OpenSpec.ofChange shelfBackSpec)) shelfBackCard

/-- THE TIED CARD OF 'flotillalaw05.ShelfScript'. -/
def shelfScriptCard : Claim7 := { stood := { row := shelfScriptRow, standIns := [], harness := (true, "ebc0aff034ce2aea2d793a02d74046fd4a05c2bc4a929637d093dd61768da047"), looks := true }, kinds := [], alts := [], laidByText := true, laidKinds := [.data], laidTests := true, laidLooks := .later }
def ShelfScriptCardSaid : Prop := Claim7.holds Tryz.pinned (.plain (OpenSpec.ofChange shelfScriptSpec)) shelfScriptCard

/-- THE SECOND FORM's CARD OF 'flotillalaw05.ShelfReads'. -/
def shelfReadsUptoCard : Claim7 := { stood := { row := shelfReadsUptoRow, standIns := [], harness := (true, "ebc0aff034ce2aea2d793a02d74046fd4a05c2bc4a929637d093dd61768da047"), looks := true }, kinds := [], alts := [], laidByText := true, laidKinds := [.data], laidTests := true, laidLooks := .later }
def ShelfReadsUptoCardSaid : Prop := Claim7.holds Tryz.pinned (.plain (OpenSpec.upto shelfReadsSpec)) shelfReadsUptoCard

/-- THE SECOND FORM's CARD OF 'flotillalaw05.ShelfBack'. -/
def shelfBackUptoCard : Claim7 := { stood := { row := shelfBackUptoRow, standIns := [], harness := (true, "ebc0aff034ce2aea2d793a02d74046fd4a05c2bc4a929637d093dd61768da047"), looks := true }, kinds := [], alts := [], laidByText := true, laidKinds := [.data], laidTests := true, laidLooks := .later }
def ShelfBackUptoCardSaid : Prop := Claim7.holds Tryz.pinned (.plain (OpenSpec.upto shelfBackSpec)) shelfBackUptoCard

/-- THE SECOND FORM's CARD OF 'flotillalaw05.ShelfScript'. -/
def shelfScriptUptoCard : Claim7 := { stood := { row := shelfScriptUptoRow, standIns := [], harness := (true, "ebc0aff034ce2aea2d793a02d74046fd4a05c2bc4a929637d093dd61768da047"), looks := true }, kinds := [], alts := [], laidByText := true, laidKinds := [.data], laidTests := true, laidLooks := .later }
def ShelfScriptUptoCardSaid : Prop := Claim7.holds Tryz.pinned (.plain (OpenSpec.upto shelfScriptSpec)) shelfScriptUptoCard
end Rows
end Go.Proofs.YtkcepkehgkkkbaaGreatDoor
