/-
  DERIVED. GIVEN WITH THE SEED: THE CARDS: each row of YtafickhhdemjnaaGreatDoorRows.lean that lists a variable, with what it lists TIED to the program's text (the seventh form; the later family's looks); each row that meets fmt, with fmt's text TOLD by the authors' own Lean function (tested against real Go, not proved from fmt's source: count such statements apart). THE CARD IS WHAT COUNTS. Prove the row's statement (the work); the ties are given (YtafickhhdemjnaaGreatDoorTie.lean); close each card by the builder's one call (the guide's Derived/Test/ToyasCard.lean, 'card_holds'). Laid BY PROGRAM, IN A SANDBOX (cutbox-door.mjs). By AI agents, Wed Nov 11 2026. No macro, syntax, notation, axiom, sorry.
-/
import Derived.Test.YtafickhhdemjnaaGreatDoorRows
import GoSem.ClaimSeven
namespace Go.Proofs.YtafickhhdemjnaaGreatDoor
namespace Rows

/-- THE TIED CARD OF 'flotillalaw08.EngineScript'. -/
def engineScriptCard : Claim7 := { stood := { row := engineScriptRow, standIns := [], harness := (true, "4ee1b6f1b2b36253ad977d597d2a6c1d376dcb8377529480f12741ab1d7f398d"), looks := true }, kinds := [], alts := [], laidByText := true, laidKinds := [.data], laidTests := true, laidLooks := .later }
def EngineScriptCardSaid : Prop := Claim7.holds Tryz.pinned (.plain (OpenSpec.ofChange engineScriptSpec)) engineScriptCard

/-- THE TIED CARD OF 'flotillalaw08.EngineSame'. -/
def engineSameCard : Claim7 := { stood := { row := engineSameRow, standIns := [], harness := (true, "4ee1b6f1b2b36253ad977d597d2a6c1d376dcb8377529480f12741ab1d7f398d"), looks := true }, kinds := [], alts := [], laidByText := true, laidKinds := [.data], laidTests := true, laidLooks := .later }
def EngineSameCardSaid : Prop := Claim7.holds Tryz.pinned (.plain (OpenSpec.ofChange engineSameSpec)) engineSameCard

/-- THE TIED CARD OF 'flotillalaw08.EngineOnce'. -/
def engineOnceCard : Claim7 := { stood := { row := engineOnceRow, standIns := [], harness := (true, "4ee1b6f1b2b36253ad977d597d2a6c1d376dcb8377529480f12741ab1d7f398d"), looks := true }, kinds := [], alts := [], laidByText := true, laidKinds := [.data], laidTests := true, laidLooks := .later }
def EngineOnceCardSaid : Prop := Claim7.holds Tryz.pinned (.plain (OpenSpec.ofChange engineOnceSpec)) engineOnceCard

/-- THE TIED CARD OF 'flotillalaw08.EngineTakes'. -/
def engineTakesCard : Claim7 := { stood := { row := engineTakesRow, standIns := [], harness := (true, "4ee1b6f1b2b36253ad977d597d2a6c1d376dcb8377529480f12741ab1d7f398d"), looks := true }, kinds := [], alts := [], laidByText := true, laidKinds := [.data], laidTests := true, laidLooks := .later }
def EngineTakesCardSaid : Prop := Claim7.holds Tryz.pinned (.plain (OpenSpec.ofChange engineTakesSpec)) engineTakesCard

/-- THE TIED CARD OF 'flotillalaw08.EngineStamps'. -/
def engineStampsCard : Claim7 := { stood := { row := engineStampsRow, standIns := [], harness := (true, "4ee1b6f1b2b36253ad977d597d2a6c1d376dcb8377529480f12741ab1d7f398d"), looks := true }, kinds := [], alts := [], laidByText := true, laidKinds := [.data], laidTests := true, laidLooks := .later }
def EngineStampsCardSaid : Prop := Claim7.holds Tryz.pinned (.plain (OpenSpec.ofChange engineStampsSpec)) engineStampsCard

/-- THE SECOND FORM's CARD OF 'flotillalaw08.EngineScript'. -/
def engineScriptUptoCard : Claim7 := { stood := { row := engineScriptUptoRow, standIns := [], harness := (true, "4ee1b6f1b2b36253ad977d597d2a6c1d376dcb8377529480f12741ab1d7f398d"), looks := true }, kinds := [], alts := [], laidByText := true, laidKinds := [.data], laidTests := true, laidLooks := .later }
def EngineScriptUptoCardSaid : Prop := Claim7.holds Tryz.pinned (.plain (OpenSpec.upto engineScriptSpec)) engineScriptUptoCard

/-- THE SECOND FORM's CARD OF 'flotillalaw08.EngineSame'. -/
def engineSameUptoCard : Claim7 := { stood := { row := engineSameUptoRow, standIns := [], harness := (true, "4ee1b6f1b2b36253ad977d597d2a6c1d376dcb8377529480f12741ab1d7f398d"), looks := true }, kinds := [], alts := [], laidByText := true, laidKinds := [.data], laidTests := true, laidLooks := .later }
def EngineSameUptoCardSaid : Prop := Claim7.holds Tryz.pinned (.plain (OpenSpec.upto engineSameSpec)) engineSameUptoCard

/-- THE SECOND FORM's CARD OF 'flotillalaw08.EngineOnce'. -/
def engineOnceUptoCard : Claim7 := { stood := { row := engineOnceUptoRow, standIns := [], harness := (true, "4ee1b6f1b2b36253ad977d597d2a6c1d376dcb8377529480f12741ab1d7f398d"), looks := true }, kinds := [], alts := [], laidByText := true, laidKinds := [.data], laidTests := true, laidLooks := .later }
def EngineOnceUptoCardSaid : Prop := Claim7.holds Tryz.pinned (.plain (OpenSpec.upto engineOnceSpec)) engineOnceUptoCard

/-- THE SECOND FORM's CARD OF 'flotillalaw08.EngineTakes'. -/
def engineTakesUptoCard : Claim7 := { stood := { row := engineTakesUptoRow, standIns := [], harness := (true, "4ee1b6f1b2b36253ad977d597d2a6c1d376dcb8377529480f12741ab1d7f398d"), looks := true }, kinds := [], alts := [], laidByText := true, laidKinds := [.data], laidTests := true, laidLooks := .later }
def EngineTakesUptoCardSaid : Prop := Claim7.holds Tryz.pinned (.plain (OpenSpec.upto engineTakesSpec)) engineTakesUptoCard

/-- THE SECOND FORM's CARD OF 'flotillalaw08.EngineStamps'. -/
def engineStampsUptoCard : Claim7 := { stood := { row := engineStampsUptoRow, standIns := [], harness := (true, "4ee1b6f1b2b36253ad977d597d2a6c1d376dcb8377529480f12741ab1d7f398d"), looks := true }, kinds := [], alts := [], laidByText := true, laidKinds := [.data], laidTests := true, laidLooks := .later }
def EngineStampsUptoCardSaid : Prop := Claim7.holds Tryz.pinned (.plain (OpenSpec.upto engineStampsSpec)) engineStampsUptoCard
end Rows
end Go.Proofs.YtafickhhdemjnaaGreatDoor
