/-
  DERIVED. GIVEN WITH THE SEED: THE CARDS: each row of YtdhkdniddjnigaaGreatDoorRows.lean that lists a variable, with what it lists TIED to the program's text (the seventh form; the later family's looks); each row that meets fmt, with fmt's text TOLD by the authors' own Lean function (tested against real Go, not proved from fmt's source: count such statements apart). THE CARD IS WHAT COUNTS. Prove the row's statement (the work); the ties are given (YtdhkdniddjnigaaGreatDoorTie.lean); close each card by the builder's one call (the guide's Derived/Test/ToyasCard.lean, 'card_holds'). Laid BY PROGRAM, IN A SANDBOX (cutbox-door.mjs). By AI agents, Wed Nov 11 2026. No macro, syntax, notation, axiom, sorry.
-/
import Derived.Test.YtdhkdniddjnigaaGreatDoorRows
import GoSem.ClaimSeven
namespace Go.Proofs.YtdhkdniddjnigaaGreatDoor
namespace Rows

/-- THE TIED CARD OF 'flotillalaw23.GateScript'. -/
def gateScriptCard : Claim7 := { stood := { row := gateScriptRow, standIns := [], harness := (true, "f4507ef98112f8e5c04d6eef4b1f6b06b76b26b4803cebd31c97a85acf6f6c80"), looks := true }, kinds := [], alts := [], laidByText := true, laidKinds := [.data, .data, .data, .sentinel, .sentinel, .data, .data, .data, .data], laidTests := true, laidLooks := .later }
def GateScriptCardSaid : Prop := Claim7.holds Tryz.pinned (.plain (OpenSpec.ofChange gateScriptSpec)) gateScriptCard

/-- THE TIED CARD OF 'flotillalaw23.GateCuts'. -/
def gateCutsCard : Claim7 := { stood := { row := gateCutsRow, standIns := [], harness := (true, "f4507ef98112f8e5c04d6eef4b1f6b06b76b26b4803cebd31c97a85acf6f6c80"), looks := true }, kinds := [], alts := [], laidByText := true, laidKinds := [.data, .data, .data, .sentinel, .sentinel, .data, .data], laidTests := true, laidLooks := .later }
def GateCutsCardSaid : Prop := Claim7.holds Tryz.pinned (.plain (OpenSpec.ofChange gateCutsSpec)) gateCutsCard

/-- THE TIED CARD OF 'flotillalaw23.GateEach'. -/
def gateEachCard : Claim7 := { stood := { row := gateEachRow, standIns := [], harness := (true, "f4507ef98112f8e5c04d6eef4b1f6b06b76b26b4803cebd31c97a85acf6f6c80"), looks := true }, kinds := [], alts := [], laidByText := true, laidKinds := [.data, .data, .data, .sentinel, .sentinel, .data, .data, .data, .data], laidTests := true, laidLooks := .later }
def GateEachCardSaid : Prop := Claim7.holds Tryz.pinned (.plain (OpenSpec.ofChange gateEachSpec)) gateEachCard

/-- THE SECOND FORM's CARD OF 'flotillalaw23.GateScript'. -/
def gateScriptUptoCard : Claim7 := { stood := { row := gateScriptUptoRow, standIns := [], harness := (true, "f4507ef98112f8e5c04d6eef4b1f6b06b76b26b4803cebd31c97a85acf6f6c80"), looks := true }, kinds := [], alts := [], laidByText := true, laidKinds := [.data, .data, .data, .sentinel, .sentinel, .data, .data, .data, .data], laidTests := true, laidLooks := .later }
def GateScriptUptoCardSaid : Prop := Claim7.holds Tryz.pinned (.plain (OpenSpec.upto gateScriptSpec)) gateScriptUptoCard

/-- THE SECOND FORM's CARD OF 'flotillalaw23.GateCuts'. -/
def gateCutsUptoCard : Claim7 := { stood := { row := gateCutsUptoRow, standIns := [], harness := (true, "f4507ef98112f8e5c04d6eef4b1f6b06b76b26b4803cebd31c97a85acf6f6c80"), looks := true }, kinds := [], alts := [], laidByText := true, laidKinds := [.data, .data, .data, .sentinel, .sentinel, .data, .data], laidTests := true, laidLooks := .later }
def GateCutsUptoCardSaid : Prop := Claim7.holds Tryz.pinned (.plain (OpenSpec.upto gateCutsSpec)) gateCutsUptoCard

/-- THE SECOND FORM's CARD OF 'flotillalaw23.GateEach'. -/
def gateEachUptoCard : Claim7 := { stood := { row := gateEachUptoRow, standIns := [], harness := (true, "f4507ef98112f8e5c04d6eef4b1f6b06b76b26b4803cebd31c97a85acf6f6c80"), looks := true }, kinds := [], alts := [], laidByText := true, laidKinds := [.data, .data, .data, .sentinel, .sentinel, .data, .data, .data, .data], laidTests := true, laidLooks := .later }
def GateEachUptoCardSaid : Prop := Claim7.holds Tryz.pinned (.plain (OpenSpec.upto gateEachSpec)) gateEachUptoCard
end Rows
end Go.Proofs.YtdhkdniddjnigaaGreatDoor
