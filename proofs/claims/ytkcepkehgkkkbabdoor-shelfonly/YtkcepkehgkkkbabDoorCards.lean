/-
  DERIVED. GIVEN WITH THE SEED: THE CARDS: each row of YtkcepkehgkkkbabDoorRows.lean that lists a variable, with what it lists TIED to the program's text (the seventh form; the later family's looks); each row that meets fmt, with fmt's text TOLD by the authors' own Lean function (tested against real Go, not proved from fmt's source: count such statements apart). THE CARD IS WHAT COUNTS. Prove the row's statement (the work); the ties are given (YtkcepkehgkkkbabDoorTie.lean); close each card by the builder's one call (the guide's Derived/Test/ToyasCard.lean, 'card_holds'). Laid BY PROGRAM, IN A SANDBOX (cutbox-door.mjs). By AI agents, Wed Nov 11 2026. No macro, syntax, notation, axiom, sorry.
-/
import Derived.Test.YtkcepkehgkkkbabDoorRows
import GoSem.ClaimSeven
namespace Go.Proofs.YtkcepkehgkkkbabDoor
namespace Rows

/-- THE TIED CARD OF 'flotillalaw05.ShelfOnly'. -/
def shelfOnlyCard : Claim7 := { stood := { row := shelfOnlyRow, standIns := [], harness := (true, "e624dd58966866202ed57d119d77495206106de1d6b3ec943a1deee0218b5aaf"), looks := false }, kinds := [], alts := [], laidByText := true, laidKinds := [.data], laidTests := true, laidLooks := .later }
def ShelfOnlyCardSaid : Prop := Claim7.holds Tryd.pinned (.plain (OpenSpec.ofChange shelfOnlySpec)) shelfOnlyCard

/-- THE TIED CARD OF 'flotillalaw05.ShelfKeeps'. -/
def shelfKeepsCard : Claim7 := { stood := { row := shelfKeepsRow, standIns := [], harness := (true, "e624dd58966866202ed57d119d77495206106de1d6b3ec943a1deee0218b5aaf"), looks := false }, kinds := [], alts := [], laidByText := true, laidKinds := [.data], laidTests := true, laidLooks := .later }
def ShelfKeepsCardSaid : Prop := Claim7.holds Tryd.pinned (.plain (OpenSpec.ofChange shelfKeepsSpec)) shelfKeepsCard

/-- THE SECOND FORM's CARD OF 'flotillalaw05.ShelfOnly'. -/
def shelfOnlyUptoCard : Claim7 := { stood := { row := shelfOnlyUptoRow, standIns := [], harness := (true, "e624dd58966866202ed57d119d77495206106de1d6b3ec943a1deee0218b5aaf"), looks := false }, kinds := [], alts := [], laidByText := true, laidKinds := [.data], laidTests := true, laidLooks := .later }
def ShelfOnlyUptoCardSaid : Prop := Claim7.holds Tryd.pinned (.plain (OpenSpec.upto shelfOnlySpec)) shelfOnlyUptoCard

/-- THE SECOND FORM's CARD OF 'flotillalaw05.ShelfKeeps'. -/
def shelfKeepsUptoCard : Claim7 := { stood := { row := shelfKeepsUptoRow, standIns := [], harness := (true, "e624dd58966866202ed57d119d77495206106de1d6b3ec943a1deee0218b5aaf"), looks := false }, kinds := [], alts := [], laidByText := true, laidKinds := [.data], laidTests := true, laidLooks := .later }
def ShelfKeepsUptoCardSaid : Prop := Claim7.holds Tryd.pinned (.plain (OpenSpec.upto shelfKeepsSpec)) shelfKeepsUptoCard
end Rows
end Go.Proofs.YtkcepkehgkkkbabDoor
