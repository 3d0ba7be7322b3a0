/-
  NARROWER THAN 'FOR EVERY INPUT', by the rows' own cells (each row's printed sentence says how): ShelfLoads: laid · ShelfSame: laid.
  DERIVED. THE GIVEN ROWS OF THIS SEAT. 2 by the template 'for every input the law returns true; each argument reads behind the call as it read before'; 0 by the template 'total and deterministic' (their statements: YtkcepkehgkkkbabGreatDoorTotals.lean).
  GIVEN WITH THE SEED: the statements are not yours to turn. If you find one false, say at which input.
  Laid BY PROGRAM, IN A SANDBOX (cutbox-rows.mjs): the forced cells as the released guide's own fill.sh prints them over the translation a8136697cc744497… (all of the seat's roots in one cut). By AI agents, Wed Nov 11 2026. No macro, syntax, notation, axiom, sorry.
-/
import Derived.Test.YtkcepkehgkkkbabGreatDoorChecked
import GoSem.Claim
import GoSem.ClaimJoined
import GoSem.ClaimMapViews
import Derived.JoinedTies
import Derived.KernelRfl
namespace Go.Proofs.YtkcepkehgkkkbabGreatDoor
/- THE CELL 'sum', in the pinned program and in every row, IS THE sha256 OF THE DUMP (.gsa) THAT YtkcepkehgkkkbabGreatDoorProg.lean LOADS. Nothing in Lean hashes anything: it is a label: what it is worth is what the hold of that sum in a sandbox is worth. -/
noncomputable def Tryz.pinned : Pinned := { name := "ytkcepkehgkkkbabgreatdoor", sum := "a8136697cc744497c893bc4268445d3df603dbba384d5fad9edebebcfac5da96", checked := Tryz.checked }
namespace Rows
def none {H : Type} : Left H := { results := [], args := [] }

/- WHAT THE LISTED PACKAGE-LEVEL VARIABLES READ AS WHEN THE CALL BEGINS. Each datum BY PROGRAM (the guide's laid-datum.mjs) off the statement by which the dump's own 'gosem.cut.vars' lays the variable. In a bare row this is a premise. The card (YtkcepkehgkkkbabGreatDoorCards.lean) ties it to the program's text. -/
def laid_flotilla_shelf_forms {H : Type} : DataW H := .agg [.agg [.agg [.lit (.int .i64 0), .lit (.int .i64 0)], .agg [.lit (.int .i64 0), .lit (.int .i64 0)], .agg [.lit (.int .i64 0), .lit (.int .i64 0)], .agg [.lit (.int .i64 0), .lit (.int .i64 0)]], .agg [.agg [.lit (.int .i64 1), .lit (.int .i64 16)], .agg [.lit (.int .i64 0), .lit (.int .i64 0)], .agg [.lit (.int .i64 0), .lit (.int .i64 0)], .agg [.lit (.int .i64 0), .lit (.int .i64 0)]], .agg [.agg [.lit (.int .i64 1), .lit (.int .i64 16)], .agg [.lit (.int .i64 0), .lit (.int .i64 0)], .agg [.lit (.int .i64 0), .lit (.int .i64 0)], .agg [.lit (.int .i64 0), .lit (.int .i64 0)]], .agg [.agg [.lit (.int .i64 1), .lit (.int .i64 16)], .agg [.lit (.int .i64 0), .lit (.int .i64 64)], .agg [.lit (.int .i64 0), .lit (.int .i64 0)], .agg [.lit (.int .i64 0), .lit (.int .i64 0)]], .agg [.agg [.lit (.int .i64 1), .lit (.int .i64 16)], .agg [.lit (.int .i64 0), .lit (.int .i64 0)], .agg [.lit (.int .i64 0), .lit (.int .i64 1099511627776)], .agg [.lit (.int .i64 0), .lit (.int .i64 0)]], .agg [.agg [.lit (.int .i64 1), .lit (.int .i64 16)], .agg [.lit (.int .i64 1), .lit (.int .i64 16)], .agg [.lit (.int .i64 0), .lit (.int .i64 0)], .agg [.lit (.int .i64 0), .lit (.int .i64 0)]], .agg [.agg [.lit (.int .i64 1), .lit (.int .i64 16)], .agg [.lit (.int .i64 0), .lit (.int .i64 0)], .agg [.lit (.int .i64 0), .lit (.int .i64 1099511627776)], .agg [.lit (.int .i64 1), .lit (.int .i64 8)]], .agg [.agg [.lit (.int .i64 1), .lit (.int .i64 16)], .agg [.lit (.int .i64 0), .lit (.int .i64 0)], .agg [.lit (.int .i64 0), .lit (.int .i64 0)], .agg [.lit (.int .i64 0), .lit (.int .i64 0)]], .agg [.agg [.lit (.int .i64 0), .lit (.int .i64 0)], .agg [.lit (.int .i64 0), .lit (.int .i64 0)], .agg [.lit (.int .i64 0), .lit (.int .i64 0)], .agg [.lit (.int .i64 0), .lit (.int .i64 0)]]]

/-- 'flotillalaw05.ShelfLoads': WHATEVER THE INPUT: true; the input reads as it did. -/
def shelfLoadsSpec : ChangeSpec := { name := "shelfLoads", fn := fun _ => fun
  | [d1, d2] => { results := [.lit (.bool true)], args := [d1, d2] }
  | _ => none }
def shelfLoadsRow : OpenClaim := { program := "ytkcepkehgkkkbabgreatdoor", sum := "a8136697cc744497c893bc4268445d3df603dbba384d5fad9edebebcfac5da96", func := "flotilla/flotillalaw05.ShelfLoads", spec := "shelfLoads", unfollowed := true, recurses := true, named := ["flotilla/shelf.forms"], apart := false, laid := [("flotilla/shelf.forms", laid_flotilla_shelf_forms)] }
def ShelfLoadsSaid : Prop := shelfLoadsRow.holds Tryz.pinned (OpenSpec.ofChange shelfLoadsSpec)

/-- ITS FALSE NEIGHBOUR: 'it returns false'. Refute it at one input. -/
def shelfLoadsWrong : ChangeSpec := { name := "shelfLoads", fn := fun _ => fun
  | [d1, d2] => { results := [.lit (.bool false)], args := [d1, d2] }
  | _ => none }
def ShelfLoadsWrongFalsely : Prop := shelfLoadsRow.holds Tryz.pinned (OpenSpec.ofChange shelfLoadsWrong)

/-- 'flotillalaw05.ShelfSame': WHATEVER THE INPUT: true; the input reads as it did. -/
def shelfSameSpec : ChangeSpec := { name := "shelfSame", fn := fun _ => fun
  | [d1, d2] => { results := [.lit (.bool true)], args := [d1, d2] }
  | _ => none }
def shelfSameRow : OpenClaim := { program := "ytkcepkehgkkkbabgreatdoor", sum := "a8136697cc744497c893bc4268445d3df603dbba384d5fad9edebebcfac5da96", func := "flotilla/flotillalaw05.ShelfSame", spec := "shelfSame", unfollowed := true, recurses := true, named := ["flotilla/shelf.forms"], apart := false, laid := [("flotilla/shelf.forms", laid_flotilla_shelf_forms)] }
def ShelfSameSaid : Prop := shelfSameRow.holds Tryz.pinned (OpenSpec.ofChange shelfSameSpec)

/-- ITS FALSE NEIGHBOUR: 'it returns false'. Refute it at one input. -/
def shelfSameWrong : ChangeSpec := { name := "shelfSame", fn := fun _ => fun
  | [d1, d2] => { results := [.lit (.bool false)], args := [d1, d2] }
  | _ => none }
def ShelfSameWrongFalsely : Prop := shelfSameRow.holds Tryz.pinned (OpenSpec.ofChange shelfSameWrong)

/- THE SECOND FORM. 'bulk': how many values and letters a reading holds, each counted each time it is reached (what is shared counts as often as it is met; a slice's spare places count too). A statement '..UptoSaid' is the law's where the arguments, and the package variables that the reading takes, are together of bulk at most 1048576: NARROWER than '..Said'. Prove '..Said' where nothing that the law and all that it calls make is longer than what came in: it says more and counts as full. Else prove '..UptoSaid'. A law counts once. -/
mutual
def uptoBulk {H : Type} : DataW H → Nat
  | .lit (.string bytes) => bytes.length + 1
  | .lit _ => 1
  | .nil => 1
  | .ptr d => uptoBulk d + 1
  | .slice elems spare => uptoBulkAll elems + uptoBulkAll spare + 1
  | .agg parts => uptoBulkAll parts + 1
  | .iface _ d => uptoBulk d + 1
  | .map entries => uptoBulkEntries entries + 1
  | .held _ => 1
def uptoBulkAll {H : Type} : List (DataW H) → Nat
  | [] => 0
  | d :: r => uptoBulk d + uptoBulkAll r
def uptoBulkEntries {H : Type} : List (Lit × DataW H) → Nat
  | [] => 0
  | x :: r => uptoBulkEntry x + uptoBulkEntries r
def uptoBulkEntry {H : Type} : Lit × DataW H → Nat
  | (.string bytes, d) => bytes.length + uptoBulk d + 1
  | (_, d) => uptoBulk d + 1
 end
def uptoSmall : (H : Type) → List (DataW H) → Bool := fun _ ds => decide (uptoBulkAll ds ≤ 1048576)
def OpenSpec.upto (s : _root_.Go.ChangeSpec) : _root_.Go.OpenSpec := { _root_.Go.OpenSpec.ofChange s with cond := some uptoSmall }

/-- 'flotillalaw05.ShelfLoads', WHERE WHAT IT READS IS OF BULK AT MOST 1048576: true; the input reads as it did. -/
def shelfLoadsUptoRow : OpenClaim := { program := "ytkcepkehgkkkbabgreatdoor", sum := "a8136697cc744497c893bc4268445d3df603dbba384d5fad9edebebcfac5da96", func := "flotilla/flotillalaw05.ShelfLoads", spec := "shelfLoads", unfollowed := true, recurses := true, named := ["flotilla/shelf.forms"], apart := false, laid := [("flotilla/shelf.forms", laid_flotilla_shelf_forms)], narrowed := true }
def ShelfLoadsUptoSaid : Prop := shelfLoadsUptoRow.holds Tryz.pinned (OpenSpec.upto shelfLoadsSpec)

/-- 'flotillalaw05.ShelfSame', WHERE WHAT IT READS IS OF BULK AT MOST 1048576: true; the input reads as it did. -/
def shelfSameUptoRow : OpenClaim := { program := "ytkcepkehgkkkbabgreatdoor", sum := "a8136697cc744497c893bc4268445d3df603dbba384d5fad9edebebcfac5da96", func := "flotilla/flotillalaw05.ShelfSame", spec := "shelfSame", unfollowed := true, recurses := true, named := ["flotilla/shelf.forms"], apart := false, laid := [("flotilla/shelf.forms", laid_flotilla_shelf_forms)], narrowed := true }
def ShelfSameUptoSaid : Prop := shelfSameUptoRow.holds Tryz.pinned (OpenSpec.upto shelfSameSpec)

end Rows
end Go.Proofs.YtkcepkehgkkkbabGreatDoor
