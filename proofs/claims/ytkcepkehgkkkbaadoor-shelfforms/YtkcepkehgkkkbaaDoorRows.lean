/-
  NARROWER THAN 'FOR EVERY INPUT', by the rows' own cells (each row's printed sentence says how): ShelfChecks: laid · ShelfWrites: laid · ShelfForms: laid.
  DERIVED. THE GIVEN ROWS OF THIS SEAT. 3 by the template 'for every input the law returns true; each argument reads behind the call as it read before'; 0 by the template 'total and deterministic' (their statements: YtkcepkehgkkkbaaDoorTotals.lean).
  GIVEN WITH THE SEED: the statements are not yours to turn. If you find one false, say at which input.
  Laid BY PROGRAM, IN A SANDBOX (cutbox-rows.mjs): the forced cells as the released guide's own fill.sh prints them over the translation 8c0c250a153b1e86… (all of the seat's roots in one cut). By AI agents, Wed Nov 11 2026. No macro, syntax, notation, axiom, sorry.
-/
import Derived.Test.YtkcepkehgkkkbaaDoorChecked
import GoSem.Claim
import GoSem.ClaimJoined
import GoSem.ClaimMapViews
import Derived.JoinedTies
import Derived.KernelRfl
namespace Go.Proofs.YtkcepkehgkkkbaaDoor
/- THE CELL 'sum', in the pinned program and in every row, IS THE sha256 OF THE DUMP (.gsa) THAT YtkcepkehgkkkbaaDoorProg.lean LOADS. Nothing in Lean hashes anything: it is a label: what it is worth is what the hold of that sum in a sandbox is worth. -/
noncomputable def Tryd.pinned : Pinned := { name := "ytkcepkehgkkkbaadoor", sum := "8c0c250a153b1e868fec116b66d48fd9dc2b02f7e0bdf27032a25d8eef7ba5c7", checked := Tryd.checked }
namespace Rows
def none {H : Type} : Left H := { results := [], args := [] }

/- WHAT THE LISTED PACKAGE-LEVEL VARIABLES READ AS WHEN THE CALL BEGINS. Each datum BY PROGRAM (the guide's laid-datum.mjs) off the statement by which the dump's own 'gosem.cut.vars' lays the variable. In a bare row this is a premise. The card (YtkcepkehgkkkbaaDoorCards.lean) ties it to the program's text. -/
def laid_flotilla_shelf_forms {H : Type} : DataW H := .agg [.agg [.agg [.lit (.int .i64 0), .lit (.int .i64 0)], .agg [.lit (.int .i64 0), .lit (.int .i64 0)], .agg [.lit (.int .i64 0), .lit (.int .i64 0)], .agg [.lit (.int .i64 0), .lit (.int .i64 0)]], .agg [.agg [.lit (.int .i64 1), .lit (.int .i64 16)], .agg [.lit (.int .i64 0), .lit (.int .i64 0)], .agg [.lit (.int .i64 0), .lit (.int .i64 0)], .agg [.lit (.int .i64 0), .lit (.int .i64 0)]], .agg [.agg [.lit (.int .i64 1), .lit (.int .i64 16)], .agg [.lit (.int .i64 0), .lit (.int .i64 0)], .agg [.lit (.int .i64 0), .lit (.int .i64 0)], .agg [.lit (.int .i64 0), .lit (.int .i64 0)]], .agg [.agg [.lit (.int .i64 1), .lit (.int .i64 16)], .agg [.lit (.int .i64 0), .lit (.int .i64 64)], .agg [.lit (.int .i64 0), .lit (.int .i64 0)], .agg [.lit (.int .i64 0), .lit (.int .i64 0)]], .agg [.agg [.lit (.int .i64 1), .lit (.int .i64 16)], .agg [.lit (.int .i64 0), .lit (.int .i64 0)], .agg [.lit (.int .i64 0), .lit (.int .i64 1099511627776)], .agg [.lit (.int .i64 0), .lit (.int .i64 0)]], .agg [.agg [.lit (.int .i64 1), .lit (.int .i64 16)], .agg [.lit (.int .i64 1), .lit (.int .i64 16)], .agg [.lit (.int .i64 0), .lit (.int .i64 0)], .agg [.lit (.int .i64 0), .lit (.int .i64 0)]], .agg [.agg [.lit (.int .i64 1), .lit (.int .i64 16)], .agg [.lit (.int .i64 0), .lit (.int .i64 0)], .agg [.lit (.int .i64 0), .lit (.int .i64 1099511627776)], .agg [.lit (.int .i64 1), .lit (.int .i64 8)]], .agg [.agg [.lit (.int .i64 1), .lit (.int .i64 16)], .agg [.lit (.int .i64 0), .lit (.int .i64 0)], .agg [.lit (.int .i64 0), .lit (.int .i64 0)], .agg [.lit (.int .i64 0), .lit (.int .i64 0)]], .agg [.agg [.lit (.int .i64 0), .lit (.int .i64 0)], .agg [.lit (.int .i64 0), .lit (.int .i64 0)], .agg [.lit (.int .i64 0), .lit (.int .i64 0)], .agg [.lit (.int .i64 0), .lit (.int .i64 0)]]]

/-- 'flotillalaw05.ShelfChecks': WHATEVER THE INPUT: true; the input reads as it did. -/
def shelfChecksSpec : ChangeSpec := { name := "shelfChecks", fn := fun _ => fun
  | [d1, d2, d3] => { results := [.lit (.bool true)], args := [d1, d2, d3] }
  | _ => none }
def shelfChecksRow : OpenClaim := { program := "ytkcepkehgkkkbaadoor", sum := "8c0c250a153b1e868fec116b66d48fd9dc2b02f7e0bdf27032a25d8eef7ba5c7", func := "flotilla/flotillalaw05.ShelfChecks", spec := "shelfChecks", unfollowed := true, recurses := true, named := ["flotilla/shelf.forms"], apart := false, laid := [("flotilla/shelf.forms", laid_flotilla_shelf_forms)] }
def ShelfChecksSaid : Prop := shelfChecksRow.holds Tryd.pinned (OpenSpec.ofChange shelfChecksSpec)

/-- ITS FALSE NEIGHBOUR: 'it returns false'. Refute it at one input. -/
def shelfChecksWrong : ChangeSpec := { name := "shelfChecks", fn := fun _ => fun
  | [d1, d2, d3] => { results := [.lit (.bool false)], args := [d1, d2, d3] }
  | _ => none }
def ShelfChecksWrongFalsely : Prop := shelfChecksRow.holds Tryd.pinned (OpenSpec.ofChange shelfChecksWrong)

/-- 'flotillalaw05.ShelfWrites': WHATEVER THE INPUT: true; the input reads as it did. -/
def shelfWritesSpec : ChangeSpec := { name := "shelfWrites", fn := fun _ => fun
  | [d] => { results := [.lit (.bool true)], args := [d] }
  | _ => none }
def shelfWritesRow : OpenClaim := { program := "ytkcepkehgkkkbaadoor", sum := "8c0c250a153b1e868fec116b66d48fd9dc2b02f7e0bdf27032a25d8eef7ba5c7", func := "flotilla/flotillalaw05.ShelfWrites", spec := "shelfWrites", unfollowed := true, recurses := true, named := ["flotilla/shelf.forms"], apart := false, laid := [("flotilla/shelf.forms", laid_flotilla_shelf_forms)] }
def ShelfWritesSaid : Prop := shelfWritesRow.holds Tryd.pinned (OpenSpec.ofChange shelfWritesSpec)

/-- ITS FALSE NEIGHBOUR: 'it returns false'. Refute it at one input. -/
def shelfWritesWrong : ChangeSpec := { name := "shelfWrites", fn := fun _ => fun
  | [d] => { results := [.lit (.bool false)], args := [d] }
  | _ => none }
def ShelfWritesWrongFalsely : Prop := shelfWritesRow.holds Tryd.pinned (OpenSpec.ofChange shelfWritesWrong)

/-- 'flotillalaw05.ShelfForms': WHATEVER THE INPUT: true; the input reads as it did. -/
def shelfFormsSpec : ChangeSpec := { name := "shelfForms", fn := fun _ => fun
  | [d1, d2] => { results := [.lit (.bool true)], args := [d1, d2] }
  | _ => none }
def shelfFormsRow : OpenClaim := { program := "ytkcepkehgkkkbaadoor", sum := "8c0c250a153b1e868fec116b66d48fd9dc2b02f7e0bdf27032a25d8eef7ba5c7", func := "flotilla/flotillalaw05.ShelfForms", spec := "shelfForms", unfollowed := true, recurses := true, named := ["flotilla/shelf.forms"], apart := false, laid := [("flotilla/shelf.forms", laid_flotilla_shelf_forms)] }
def ShelfFormsSaid : Prop := shelfFormsRow.holds Tryd.pinned (OpenSpec.ofChange shelfFormsSpec)

/-- ITS FALSE NEIGHBOUR: 'it returns false'. Refute it at one input. -/
def shelfFormsWrong : ChangeSpec := { name := "shelfForms", fn := fun _ => fun
  | [d1, d2] => { results := [.lit (.bool false)], args := [d1, d2] }
  | _ => none }
def ShelfFormsWrongFalsely : Prop := shelfFormsRow.holds Tryd.pinned (OpenSpec.ofChange shelfFormsWrong)

/- THE SECOND FORM. 'bulk': how many values and letters a reading holds, each counted each time it is reached (what is shared counts as often as it is met; a slice's spare places count too). A statement '..UptoSaid' is the law's where the arguments, and the package variables that the reading takes, are together of bulk at most 1048576: NARROWER than '..Said'. Prove '..Said' where nothing that the law and all that it calls make is longer than what came in: it says more and counts as full. Else prove '..UptoSaid'. A law counts once. -/
mutual
def uptoBulk {H : Type} : DataW H → Nat
  | .lit (.string bytes) => bytes.length + 1
  | .lit _ => 1
  | .nil => 1
  | .ptr d => uptoBulk d + 1
  | .slice elems spare => uptoBulkAll elems + uptoBulkAll spare + 1
  | .agg parts => uptoBulkAll parts + 1
  | .iface _ d => uptoBulk d + 1
  | .map entries => uptoBulkEntries entries + 1
  | .held _ => 1
def uptoBulkAll {H : Type} : List (DataW H) → Nat
  | [] => 0
  | d :: r => uptoBulk d + uptoBulkAll r
def uptoBulkEntries {H : Type} : List (Lit × DataW H) → Nat
  | [] => 0
  | x :: r => uptoBulkEntry x + uptoBulkEntries r
def uptoBulkEntry {H : Type} : Lit × DataW H → Nat
  | (.string bytes, d) => bytes.length + uptoBulk d + 1
  | (_, d) => uptoBulk d + 1
 end
def uptoSmall : (H : Type) → List (DataW H) → Bool := fun _ ds => decide (uptoBulkAll ds ≤ 1048576)
def OpenSpec.upto (s : _root_.Go.ChangeSpec) : _root_.Go.OpenSpec := { _root_.Go.OpenSpec.ofChange s with cond := some uptoSmall }

/-- 'flotillalaw05.ShelfChecks', WHERE WHAT IT READS IS OF BULK AT MOST 1048576: true; the input reads as it did. -/
def shelfChecksUptoRow : OpenClaim := { program := "ytkcepkehgkkkbaadoor", sum := "8c0c250a153b1e868fec116b66d48fd9dc2b02f7e0bdf27032a25d8eef7ba5c7", func := "flotilla/flotillalaw05.ShelfChecks", spec := "shelfChecks", unfollowed := true, recurses := true, named := ["flotilla/shelf.forms"], apart := false, laid := [("flotilla/shelf.forms", laid_flotilla_shelf_forms)], narrowed := true }
def ShelfChecksUptoSaid : Prop := shelfChecksUptoRow.holds Tryd.pinned (OpenSpec.upto shelfChecksSpec)

/-- 'flotillalaw05.ShelfWrites', WHERE WHAT IT READS IS OF BULK AT MOST 1048576: true; the input reads as it did. -/
def shelfWritesUptoRow : OpenClaim := { program := "ytkcepkehgkkkbaadoor", sum := "8c0c250a153b1e868fec116b66d48fd9dc2b02f7e0bdf27032a25d8eef7ba5c7", func := "flotilla/flotillalaw05.ShelfWrites", spec := "shelfWrites", unfollowed := true, recurses := true, named := ["flotilla/shelf.forms"], apart := false, laid := [("flotilla/shelf.forms", laid_flotilla_shelf_forms)], narrowed := true }
def ShelfWritesUptoSaid : Prop := shelfWritesUptoRow.holds Tryd.pinned (OpenSpec.upto shelfWritesSpec)

/-- 'flotillalaw05.ShelfForms', WHERE WHAT IT READS IS OF BULK AT MOST 1048576: true; the input reads as it did. -/
def shelfFormsUptoRow : OpenClaim := { program := "ytkcepkehgkkkbaadoor", sum := "8c0c250a153b1e868fec116b66d48fd9dc2b02f7e0bdf27032a25d8eef7ba5c7", func := "flotilla/flotillalaw05.ShelfForms", spec := "shelfForms", unfollowed := true, recurses := true, named := ["flotilla/shelf.forms"], apart := false, laid := [("flotilla/shelf.forms", laid_flotilla_shelf_forms)], narrowed := true }
def ShelfFormsUptoSaid : Prop := shelfFormsUptoRow.holds Tryd.pinned (OpenSpec.upto shelfFormsSpec)

end Rows
end Go.Proofs.YtkcepkehgkkkbaaDoor
