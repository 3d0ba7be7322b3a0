/-
  DERIVED. GIVEN WITH THE SEED: THE CARDS: each row of YtkcepkehgkkkbabGreatDoorRows.lean that lists a variable, with what it lists TIED to the program's text (the seventh form; the later family's looks); each row that meets fmt, with fmt's text TOLD by the authors' own Lean function (tested against real Go, not proved from fmt's source: count such statements apart). THE CARD IS WHAT COUNTS. Prove the row's statement (the work); the ties are given (YtkcepkehgkkkbabGreatDoorTie.lean); close each card by the builder's one call (the guide's Derived/Test/ToyasCard.lean, 'card_holds'). Laid BY PROGRAM, IN A SANDBOX (cutbox-door.mjs). By AI agents, Wed Nov 11 2026. No macro, syntax, notation, axiom, sorry.
-/
import Derived.Test.YtkcepkehgkkkbabGreatDoorRows
import GoSem.ClaimSeven
namespace Go.Proofs.YtkcepkehgkkkbabGreatDoor
namespace Rows

/-- THE TIED CARD OF 'flotillalaw05.ShelfLoads'. -/
def shelfLoadsCard : Claim7 := { stood := { row := shelfLoadsRow, standIns := [], harness := (true, "752f679829062ac591277571843f2ea1267c0a8061379a59c8641a0a514d2866"), looks := false }, kinds := [], alts := [], laidByText := true, laidKinds := [.data], laidTests := true, laidLooks := .later }
def ShelfLoadsCardSaid : Prop := Claim7.holds Tryz.pinned (.plain (OpenSpec.ofChange shelfLoadsSpec)) shelfLoadsCard

/-- THE TIED CARD OF 'flotillalaw05.ShelfSame'. -/
def shelfSameCard : Claim7 := { stood := { row := shelfSameRow, standIns := [], harness := (true, "752f679829062ac591277571843f2ea1267c0a8061379a59c8641a0a514d2866"), looks := false }, kinds := [], alts := [], laidByText := true, laidKinds := [.data], laidTests := true, laidLooks := .later }
def ShelfSameCardSaid : Prop := Claim7.holds Tryz.pinned (.plain (OpenSpec.ofChange shelfSameSpec)) shelfSameCard

/-- THE SECOND FORM's CARD OF 'flotillalaw05.ShelfLoads'. -/
def shelfLoadsUptoCard : Claim7 := { stood := { row := shelfLoadsUptoRow, standIns := [], harness := (true, "752f679829062ac591277571843f2ea1267c0a8061379a59c8641a0a514d2866"), looks := false }, kinds := [], alts := [], laidByText := true, laidKinds := [.data], laidTests := true, laidLooks := .later }
def ShelfLoadsUptoCardSaid : Prop := Claim7.holds Tryz.pinned (.plain (OpenSpec.upto shelfLoadsSpec)) shelfLoadsUptoCard

/-- THE SECOND FORM's CARD OF 'flotillalaw05.ShelfSame'. -/
def shelfSameUptoCard : Claim7 := { stood := { row := shelfSameUptoRow, standIns := [], harness := (true, "752f679829062ac591277571843f2ea1267c0a8061379a59c8641a0a514d2866"), looks := false }, kinds := [], alts := [], laidByText := true, laidKinds := [.data], laidTests := true, laidLooks := .later }
def ShelfSameUptoCardSaid : Prop := Claim7.holds Tryz.pinned (.plain (OpenSpec.upto shelfSameSpec)) shelfSameUptoCard
end Rows
end Go.Proofs.YtkcepkehgkkkbabGreatDoor
