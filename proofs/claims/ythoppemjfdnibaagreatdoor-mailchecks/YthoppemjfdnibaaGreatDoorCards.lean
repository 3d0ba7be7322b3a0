/-
  DERIVED. GIVEN WITH THE SEED: THE CARDS: each row of YthoppemjfdnibaaGreatDoorRows.lean that lists a variable, with what it lists TIED to the program's text (the seventh form; the later family's looks); each row that meets fmt, with fmt's text TOLD by the authors' own Lean function (tested against real Go, not proved from fmt's source: count such statements apart). THE CARD IS WHAT COUNTS. Prove the row's statement (the work); the ties are given (YthoppemjfdnibaaGreatDoorTie.lean); close each card by the builder's one call (the guide's Derived/Test/ToyasCard.lean, 'card_holds'). Laid BY PROGRAM, IN A SANDBOX (cutbox-door.mjs). By AI agents, Wed Nov 11 2026. No macro, syntax, notation, axiom, sorry.
-/
import Derived.Test.YthoppemjfdnibaaGreatDoorRows
import GoSem.ClaimSeven
namespace Go.Proofs.YthoppemjfdnibaaGreatDoor
namespace Rows

/-- THE TIED CARD OF 'flotillalaw11.MailKinds'. -/
def mailKindsCard : Claim7 := { stood := { row := mailKindsRow, standIns := [], harness := (true, "b4bfb383b87bf8a131d2931a7b7f4d20a475a8fb25c1061062a3d543d9c52b5e"), looks := false }, kinds := [], alts := [], laidByText := true, laidKinds := [.data, .data], laidTests := true, laidLooks := .later }
def MailKindsCardSaid : Prop := Claim7.holds Tryz.pinned (.plain (OpenSpec.ofChange mailKindsSpec)) mailKindsCard

/-- THE TIED CARD OF 'flotillalaw11.MailChecks'. -/
def mailChecksCard : Claim7 := { stood := { row := mailChecksRow, standIns := [], harness := (true, "b4bfb383b87bf8a131d2931a7b7f4d20a475a8fb25c1061062a3d543d9c52b5e"), looks := false }, kinds := [], alts := [], laidByText := true, laidKinds := [.data, .data], laidTests := true, laidLooks := .later }
def MailChecksCardSaid : Prop := Claim7.holds Tryz.pinned (.plain (OpenSpec.ofChange mailChecksSpec)) mailChecksCard

/-- THE TIED CARD OF 'flotillalaw11.MailWrites'. -/
def mailWritesCard : Claim7 := { stood := { row := mailWritesRow, standIns := [], harness := (true, "b4bfb383b87bf8a131d2931a7b7f4d20a475a8fb25c1061062a3d543d9c52b5e"), looks := false }, kinds := [], alts := [], laidByText := true, laidKinds := [.data, .data], laidTests := true, laidLooks := .later }
def MailWritesCardSaid : Prop := Claim7.holds Tryz.pinned (.plain (OpenSpec.ofChange mailWritesSpec)) mailWritesCard

/-- THE TIED CARD OF 'flotillalaw11.MailReads'. -/
def mailReadsCard : Claim7 := { stood := { row := mailReadsRow, standIns := [], harness := (true, "b4bfb383b87bf8a131d2931a7b7f4d20a475a8fb25c1061062a3d543d9c52b5e"), looks := false }, kinds := [], alts := [], laidByText := true, laidKinds := [.data, .data], laidTests := true, laidLooks := .later }
def MailReadsCardSaid : Prop := Claim7.holds Tryz.pinned (.plain (OpenSpec.ofChange mailReadsSpec)) mailReadsCard

/-- THE TIED CARD OF 'flotillalaw11.MailBack'. -/
def mailBackCard : Claim7 := { stood := { row := mailBackRow, standIns := [], harness := (true, "b4bfb383b87bf8a131d2931a7b7f4d20a475a8fb25c1061062a3d543d9c52b5e"), looks := false }, kinds := [], alts := [], laidByText := true, laidKinds := [.data, .data], laidTests := true, laidLooks := .later }
def MailBackCardSaid : Prop := Claim7.holds Tryz.pinned (.plain (OpenSpec.ofChange mailBackSpec)) mailBackCard

/-- THE TIED CARD OF 'flotillalaw11.MailForms'. -/
def mailFormsCard : Claim7 := { stood := { row := mailFormsRow, standIns := [], harness := (true, "b4bfb383b87bf8a131d2931a7b7f4d20a475a8fb25c1061062a3d543d9c52b5e"), looks := false }, kinds := [], alts := [], laidByText := true, laidKinds := [.data, .data], laidTests := true, laidLooks := .later }
def MailFormsCardSaid : Prop := Claim7.holds Tryz.pinned (.plain (OpenSpec.ofChange mailFormsSpec)) mailFormsCard

/-- THE SECOND FORM's CARD OF 'flotillalaw11.MailKinds'. -/
def mailKindsUptoCard : Claim7 := { stood := { row := mailKindsUptoRow, standIns := [], harness := (true, "b4bfb383b87bf8a131d2931a7b7f4d20a475a8fb25c1061062a3d543d9c52b5e"), looks := false }, kinds := [], alts := [], laidByText := true, laidKinds := [.data, .data], laidTests := true, laidLooks := .later }
def MailKindsUptoCardSaid : Prop := Claim7.holds Tryz.pinned (.plain (OpenSpec.upto mailKindsSpec)) mailKindsUptoCard

/-- THE SECOND FORM's CARD OF 'flotillalaw11.MailChecks'. -/
def mailChecksUptoCard : Claim7 := { stood := { row := mailChecksUptoRow, standIns := [], harness := (true, "b4bfb383b87bf8a131d2931a7b7f4d20a475a8fb25c1061062a3d543d9c52b5e"), looks := false }, kinds := [], alts := [], laidByText := true, laidKinds := [.data, .data], laidTests := true, laidLooks := .later }
def MailChecksUptoCardSaid : Prop := Claim7.holds Tryz.pinned (.plain (OpenSpec.upto mailChecksSpec)) mailChecksUptoCard

/-- THE SECOND FORM's CARD OF 'flotillalaw11.MailWrites'. -/
def mailWritesUptoCard : Claim7 := { stood := { row := mailWritesUptoRow, standIns := [], harness := (true, "b4bfb383b87bf8a131d2931a7b7f4d20a475a8fb25c1061062a3d543d9c52b5e"), looks := false }, kinds := [], alts := [], laidByText := true, laidKinds := [.data, .data], laidTests := true, laidLooks := .later }
def MailWritesUptoCardSaid : Prop := Claim7.holds Tryz.pinned (.plain (OpenSpec.upto mailWritesSpec)) mailWritesUptoCard

/-- THE SECOND FORM's CARD OF 'flotillalaw11.MailReads'. -/
def mailReadsUptoCard : Claim7 := { stood := { row := mailReadsUptoRow, standIns := [], harness := (true, "b4bfb383b87bf8a131d2931a7b7f4d20a475a8fb25c1061062a3d543d9c52b5e"), looks := false }, kinds := [], alts := [], laidByText := true, laidKinds := [.data, .data], laidTests := true, laidLooks := .later }
def MailReadsUptoCardSaid : Prop := Claim7.holds Tryz.pinned (.plain (OpenSpec.upto mailReadsSpec)) mailReadsUptoCard

/-- THE SECOND FORM's CARD OF 'flotillalaw11.MailBack'. -/
def mailBackUptoCard : Claim7 := { stood := { row := mailBackUptoRow, standIns := [], harness := (true, "b4bfb383b87bf8a131d2931a7b7f4d20a475a8fb25c1061062a3d543d9c52b5e"), looks := false }, kinds := [], alts := [], laidByText := true, laidKinds := [.data, .data], laidTests := true, laidLooks := .later }
def MailBackUptoCardSaid : Prop := Claim7.holds Tryz.pinned (.plain (OpenSpec.upto mailBackSpec)) mailBackUptoCard

/-- THE SECOND FORM's CARD OF 'flotillalaw11.MailForms'. -/
def mailFormsUptoCard : Claim7 := { stood := { row := mailFormsUptoRow, standIns := [], harness := (true, "b4bfb383b87bf8a131d2931a7b7f4d20a475a8fb25c1061062a3d543d9c52b5e"), looks := false }, kinds := [], alts := [], laidByText := true, laidKinds := [.data, .data], laidTests := true, laidLooks := .later }
def MailFormsUptoCardSaid : Prop := Claim7.holds Tryz.pinned (.plain (OpenSpec.upto mailFormsSpec)) mailFormsUptoCard
end Rows
end Go.Proofs.YthoppemjfdnibaaGreatDoor
