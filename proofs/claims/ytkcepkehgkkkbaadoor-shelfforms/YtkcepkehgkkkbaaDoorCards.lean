/-
  DERIVED. GIVEN WITH THE SEED: THE CARDS: each row of YtkcepkehgkkkbaaDoorRows.lean that lists a variable, with what it lists TIED to the program's text (the seventh form; the later family's looks); each row that meets fmt, with fmt's text TOLD by the authors' own Lean function (tested against real Go, not proved from fmt's source: count such statements apart). THE CARD IS WHAT COUNTS. Prove the row's statement (the work); the ties are given (YtkcepkehgkkkbaaDoorTie.lean); close each card by the builder's one call (the guide's Derived/Test/ToyasCard.lean, 'card_holds'). Laid BY PROGRAM, IN A SANDBOX (cutbox-door.mjs). By AI agents, Wed Nov 11 2026. No macro, syntax, notation, axiom, sorry.
-/
import Derived.Test.YtkcepkehgkkkbaaDoorRows
import GoSem.ClaimSeven
namespace Go.Proofs.YtkcepkehgkkkbaaDoor
namespace Rows

/-- THE TIED CARD OF 'flotillalaw05.ShelfChecks'. -/
def shelfChecksCard : Claim7 := { stood := { row := shelfChecksRow, standIns := [], harness := (true, "23fc1c6e49234d85af6a1405bf37ecda3e496a67d2256ccec9968c4f859975ee"), looks := false }, kinds := [], alts := [], laidByText := true, laidKinds := [.data], laidTests := true, laidLooks := .later }
def ShelfChecksCardSaid : Prop := Claim7.holds Tryd.pinned (.plain (OpenSpec.ofChange shelfChecksSpec)) shelfChecksCard

/-- THE TIED CARD OF 'flotillalaw05.ShelfWrites'. -/
def shelfWritesCard : Claim7 := { stood := { row := shelfWritesRow, standIns := [], harness := (true, "23fc1c6e49234d85af6a1405bf37ecda3e496a67d2256ccec9968c4f859975ee"), looks := false }, kinds := [], alts := [], laidByText := true, laidKinds := [.data], laidTests := true, laidLooks := .later }
def ShelfWritesCardSaid : Prop := Claim7.holds Tryd.pinned (.plain (OpenSpec.ofChange shelfWritesSpec)) shelfWritesCard

/-- THE TIED CARD OF 'flotillalaw05.ShelfForms'. -/
def shelfFormsCard : Claim7 := { stood := { row := shelfFormsRow, standIns := [], harness := (true, "23fc1c6e49234d85af6a1405bf37ecda3e496a67d2256ccec9968c4f859975ee"), looks := false }, kinds := [], alts := [], laidByText := true, laidKinds := [.data], laidTests := true, laidLooks := .later }
def ShelfFormsCardSaid : Prop := Claim7.holds Tryd.pinned (.plain (OpenSpec.ofChange shelfFormsSpec)) shelfFormsCard

/-- THE SECOND FORM's CARD OF 'flotillalaw05.ShelfChecks'. -/
def shelfChecksUptoCard : Claim7 := { stood := { row := shelfChecksUptoRow, standIns := [], harness := (true, "23fc1c6e49234d85af6a1405bf37ecda3e496a67d2256ccec9968c4f859975ee"), looks := false }, kinds := [], alts := [], laidByText := true, laidKinds := [.data], laidTests := true, laidLooks := .later }
def ShelfChecksUptoCardSaid : Prop := Claim7.holds Tryd.pinned (.plain (OpenSpec.upto shelfChecksSpec)) shelfChecksUptoCard

/-- THE SECOND FORM's CARD OF 'flotillalaw05.ShelfWrites'. -/
def shelfWritesUptoCard : Claim7 := { stood := { row := shelfWritesUptoRow, standIns := [], harness := (true, "23fc1c6e49234d85af6a1405bf37ecda3e496a67d2256ccec9968c4f859975ee"), looks := false }, kinds := [], alts := [], laidByText := true, laidKinds := [.data], laidTests := true, laidLooks := .later }
def ShelfWritesUptoCardSaid : Prop := Claim7.holds Tryd.pinned (.plain (OpenSpec.upto shelfWritesSpec)) shelfWritesUptoCard

/-- THE SECOND FORM's CARD OF 'flotillalaw05.ShelfForms'. -/
def shelfFormsUptoCard : Claim7 := { stood := { row := shelfFormsUptoRow, standIns := [], harness := (true, "23fc1c6e49234d85af6a1405bf37ecda3e496a67d2256ccec9968c4f859975ee"), looks := false }, kinds := [], alts := [], laidByText := true, laidKinds := [.data], laidTests := true, laidLooks := .later }
def ShelfFormsUptoCardSaid : Prop := Claim7.holds Tryd.pinned (.plain (OpenSpec.upto shelfFormsSpec)) shelfFormsUptoCard
end Rows
end Go.Proofs.YtkcepkehgkkkbaaDoor
