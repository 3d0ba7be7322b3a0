/-
  DERIVED. GIVEN WITH THE SEED: THE CARDS: each row of YteloaggebkbeeaaDoorRows.lean that lists a variable, with what it lists TIED to the program's text (the seventh form; the later family's looks); each row that meets fmt, with fmt's text TOLD by the authors' own Lean function (tested against real Go, not proved from fmt's source: count such statements apart). THE CARD IS WHAT COUNTS. Prove the row's statement (the work); the ties are given (YteloaggebkbeeaaDoorTie.lean); close each card by the builder's one call (the guide's Derived/Test/ToyasCard.lean, 'card_holds'). Laid BY PROGRAM, IN A SANDBOX (cutbox-door.mjs). By AI agents, Wed Nov 11 2026. No macro, syntax, notation, axiom, sorry.
-/
import Derived.Test.YteloaggebkbeeaaDoorRows
import GoSem.ClaimSeven
namespace Go.Proofs.YteloaggebkbeeaaDoor
namespace Rows

/-- THE TIED CARD OF 'flotillalaw14.ProxyOnce'. -/
def proxyOnceCard : Claim7 := { stood := { row := proxyOnceRow, standIns := [], harness := (true, "e604d8d3751f45ab7abb6eb1636f53ca37599e93d8301eae5d6fe4f3a3614e5c"), looks := false }, kinds := [], alts := [], laidByText := true, laidKinds := [.data, .data], laidTests := true, laidLooks := .later }
def ProxyOnceCardSaid : Prop := Claim7.holds Tryd.pinned (.plain (OpenSpec.ofChange proxyOnceSpec)) proxyOnceCard

/-- THE TIED CARD OF 'flotillalaw14.ProxyAgain'. -/
def proxyAgainCard : Claim7 := { stood := { row := proxyAgainRow, standIns := [], harness := (true, "e604d8d3751f45ab7abb6eb1636f53ca37599e93d8301eae5d6fe4f3a3614e5c"), looks := false }, kinds := [], alts := [], laidByText := true, laidKinds := [.data, .data], laidTests := true, laidLooks := .later }
def ProxyAgainCardSaid : Prop := Claim7.holds Tryd.pinned (.plain (OpenSpec.ofChange proxyAgainSpec)) proxyAgainCard

/-- THE TIED CARD OF 'flotillalaw14.ProxyNames'. -/
def proxyNamesCard : Claim7 := { stood := { row := proxyNamesRow, standIns := [], harness := (true, "e604d8d3751f45ab7abb6eb1636f53ca37599e93d8301eae5d6fe4f3a3614e5c"), looks := false }, kinds := [], alts := [], laidByText := true, laidKinds := [.data, .data], laidTests := true, laidLooks := .later }
def ProxyNamesCardSaid : Prop := Claim7.holds Tryd.pinned (.plain (OpenSpec.ofChange proxyNamesSpec)) proxyNamesCard

/-- THE SECOND FORM's CARD OF 'flotillalaw14.ProxyOnce'. -/
def proxyOnceUptoCard : Claim7 := { stood := { row := proxyOnceUptoRow, standIns := [], harness := (true, "e604d8d3751f45ab7abb6eb1636f53ca37599e93d8301eae5d6fe4f3a3614e5c"), looks := false }, kinds := [], alts := [], laidByText := true, laidKinds := [.data, .data], laidTests := true, laidLooks := .later }
def ProxyOnceUptoCardSaid : Prop := Claim7.holds Tryd.pinned (.plain (OpenSpec.upto proxyOnceSpec)) proxyOnceUptoCard

/-- THE SECOND FORM's CARD OF 'flotillalaw14.ProxyAgain'. -/
def proxyAgainUptoCard : Claim7 := { stood := { row := proxyAgainUptoRow, standIns := [], harness := (true, "e604d8d3751f45ab7abb6eb1636f53ca37599e93d8301eae5d6fe4f3a3614e5c"), looks := false }, kinds := [], alts := [], laidByText := true, laidKinds := [.data, .data], laidTests := true, laidLooks := .later }
def ProxyAgainUptoCardSaid : Prop := Claim7.holds Tryd.pinned (.plain (OpenSpec.upto proxyAgainSpec)) proxyAgainUptoCard

/-- THE SECOND FORM's CARD OF 'flotillalaw14.ProxyNames'. -/
def proxyNamesUptoCard : Claim7 := { stood := { row := proxyNamesUptoRow, standIns := [], harness := (true, "e604d8d3751f45ab7abb6eb1636f53ca37599e93d8301eae5d6fe4f3a3614e5c"), looks := false }, kinds := [], alts := [], laidByText := true, laidKinds := [.data, .data], laidTests := true, laidLooks := .later }
def ProxyNamesUptoCardSaid : Prop := Claim7.holds Tryd.pinned (.plain (OpenSpec.upto proxyNamesSpec)) proxyNamesUptoCard
end Rows
end Go.Proofs.YteloaggebkbeeaaDoor
