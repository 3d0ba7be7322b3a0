/-
  DERIVED. GIVEN WITH THE SEED: THE CARDS: each row of YthnccpbgccmapabDoorRows.lean that lists a variable, with what it lists TIED to the program's text (the seventh form; the later family's looks); each row that meets fmt, with fmt's text TOLD by the authors' own Lean function (tested against real Go, not proved from fmt's source: count such statements apart). THE CARD IS WHAT COUNTS. Prove the row's statement (the work); the ties are given (YthnccpbgccmapabDoorTie.lean); close each card by the builder's one call (the guide's Derived/Test/ToyasCard.lean, 'card_holds'). Laid BY PROGRAM, IN A SANDBOX (cutbox-door.mjs). By AI agents, Wed Nov 11 2026. No macro, syntax, notation, axiom, sorry.
-/
import Derived.Test.YthnccpbgccmapabDoorRows
import GoSem.ClaimSeven
namespace Go.Proofs.YthnccpbgccmapabDoor
namespace Rows

/-- THE TIED CARD OF 'flotillalaw02.SealStream'. -/
def sealStreamCard : Claim7 := { stood := { row := sealStreamRow, standIns := [], harness := (true, "ac2e56abf2d4b891361699663158cc14bba3577fdb67a7d9a1eb8dd7ca736bb6"), looks := false }, kinds := [], alts := [], laidByText := true, laidKinds := [.data], laidTests := true, laidLooks := .later }
def SealStreamCardSaid : Prop := Claim7.holds Tryd.pinned (.plain (OpenSpec.ofChange sealStreamSpec)) sealStreamCard

/-- THE TIED CARD OF 'flotillalaw02.SealCuts'. -/
def sealCutsCard : Claim7 := { stood := { row := sealCutsRow, standIns := [], harness := (true, "ac2e56abf2d4b891361699663158cc14bba3577fdb67a7d9a1eb8dd7ca736bb6"), looks := false }, kinds := [], alts := [], laidByText := true, laidKinds := [.data], laidTests := true, laidLooks := .later }
def SealCutsCardSaid : Prop := Claim7.holds Tryd.pinned (.plain (OpenSpec.ofChange sealCutsSpec)) sealCutsCard

/-- THE TIED CARD OF 'flotillalaw02.SealRow'. -/
def sealRowCard : Claim7 := { stood := { row := sealRowRow, standIns := [], harness := (true, "ac2e56abf2d4b891361699663158cc14bba3577fdb67a7d9a1eb8dd7ca736bb6"), looks := false }, kinds := [], alts := [], laidByText := true, laidKinds := [.data], laidTests := true, laidLooks := .later }
def SealRowCardSaid : Prop := Claim7.holds Tryd.pinned (.plain (OpenSpec.ofChange sealRowSpec)) sealRowCard

/-- THE SECOND FORM's CARD OF 'flotillalaw02.SealStream'. -/
def sealStreamUptoCard : Claim7 := { stood := { row := sealStreamUptoRow, standIns := [], harness := (true, "ac2e56abf2d4b891361699663158cc14bba3577fdb67a7d9a1eb8dd7ca736bb6"), looks := false }, kinds := [], alts := [], laidByText := true, laidKinds := [.data], laidTests := true, laidLooks := .later }
def SealStreamUptoCardSaid : Prop := Claim7.holds Tryd.pinned (.plain (OpenSpec.upto sealStreamSpec)) sealStreamUptoCard

/-- THE SECOND FORM's CARD OF 'flotillalaw02.SealCuts'. -/
def sealCutsUptoCard : Claim7 := { stood := { row := sealCutsUptoRow, standIns := [], harness := (true, "ac2e56abf2d4b891361699663158cc14bba3577fdb67a7d9a1eb8dd7ca736bb6"), looks := false }, kinds := [], alts := [], laidByText := true, laidKinds := [.data], laidTests := true, laidLooks := .later }
def SealCutsUptoCardSaid : Prop := Claim7.holds Tryd.pinned (.plain (OpenSpec.upto sealCutsSpec)) sealCutsUptoCard

/-- THE SECOND FORM's CARD OF 'flotillalaw02.SealRow'. -/
def sealRowUptoCard : Claim7 := { stood := { row := sealRowUptoRow, standIns := [], harness := (true, "ac2e56abf2d4b891361699663158cc14bba3577fdb67a7d9a1eb8dd7ca736bb6"), looks := false }, kinds := [], alts := [], laidByText := true, laidKinds := [.data], laidTests := true, laidLooks := .later }
def SealRowUptoCardSaid : Prop := Claim7.holds Tryd.pinned (.plain (OpenSpec.upto sealRowSpec)) sealRowUptoCard
end Rows
end Go.Proofs.YthnccpbgccmapabDoor
