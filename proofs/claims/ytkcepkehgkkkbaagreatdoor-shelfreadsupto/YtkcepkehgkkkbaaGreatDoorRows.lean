/-
  NARROWER THAN 'FOR EVERY INPUT', by the rows' own cells (each row's printed sentence says how): ShelfReads: laid · ShelfBack: laid · ShelfScript: laid.
  DERIVED. THE GIVEN ROWS OF THIS SEAT. 3 by the template 'for every input the law returns true; each argument reads behind the call as it read before'; 0 by the template 'total and deterministic' (their statements: YtkcepkehgkkkbaaGreatDoorTotals.lean).
  GIVEN WITH THE SEED: the statements are not yours to turn. If you find one false, say at which input.
  Laid BY PROGRAM, IN A SANDBOX (cutbox-rows.mjs): the forced cells as the released guide's own fill.sh prints them over the translation b4259aa23f2a5893… (all of the seat's roots in one cut). By AI agents, Wed Nov 11 2026. No macro, syntax, notation, axiom, sorry.
-/
import Derived.Test.YtkcepkehgkkkbaaGreatDoorChecked
import GoSem.Claim
import GoSem.ClaimJoined
import GoSem.ClaimMapViews
import Derived.JoinedTies
import Derived.KernelRfl
namespace Go.Proofs.YtkcepkehgkkkbaaGreatDoor
/- THE CELL 'sum', in the pinned program and in every row, IS THE sha256 OF THE DUMP (.gsa) THAT YtkcepkehgkkkbaaGreatDoorProg.lean LOADS. Nothing in Lean hashes anything: it is a label: what it is worth is what the hold of that sum in a sandbox is worth. -/
noncomputable def Tryz.pinned : Pinned := { name := "ytkcepkehgkkkbaagreatdoor", sum := "b4259aa23f2a58932433e97cf9ee8d1dce0dc5045daec1248a0767d8560cc135", checked := Tryz.checked }
namespace Rows
def none {H : Type} : Left H := { results := [], args := [] }

/- WHAT THE LISTED PACKAGE-LEVEL VARIABLES READ AS WHEN THE CALL BEGINS. Each datum BY PROGRAM (the guide's laid-datum.mjs) off the statement by which the dump's own 'gosem.cut.vars' lays the variable. In a bare row this is a premise. The card (YtkcepkehgkkkbaaGreatDoorCards.lean) ties it to the program's text. -/
def laid_flotilla_shelf_forms {H : Type} : DataW H := .agg [.agg [.agg [.lit (.int .i64 0), .lit (.int .i64 0)], .agg [.lit (.int .i64 0), .lit (.int .i64 0)], .agg [.lit (.int .i64 0), .lit (.int .i64 0)], .agg [.lit (.int .i64 0), .lit (.int .i64 0)]], .agg [.agg [.lit (.int .i64 1), .lit (.int .i64 16)], .agg [.lit (.int .i64 0), .lit (.int .i64 0)], .agg [.lit (.int .i64 0), .lit (.int .i64 0)], .agg [.lit (.int .i64 0), .lit (.int .i64 0)]], .agg [.agg [.lit (.int .i64 1), .lit (.int .i64 16)], .agg [.lit (.int .i64 0), .lit (.int .i64 0)], .agg [.lit (.int .i64 0), .lit (.int .i64 0)], .agg [.lit (.int .i64 0), .lit (.int .i64 0)]], .agg [.agg [.lit (.int .i64 1), .lit (.int .i64 16)], .agg [.lit (.int .i64 0), .lit (.int .i64 64)], .agg [.lit (.int .i64 0), .lit (.int .i64 0)], .agg [.lit (.int .i64 0), .lit (.int .i64 0)]], .agg [.agg [.lit (.int .i64 1), .lit (.int .i64 16)], .agg [.lit (.int .i64 0), .lit (.int .i64 0)], .agg [.lit (.int .i64 0), .lit (.int .i64 1099511627776)], .agg [.lit (.int .i64 0), .lit (.int .i64 0)]], .agg [.agg [.lit (.int .i64 1), .lit (.int .i64 16)], .agg [.lit (.int .i64 1), .lit (.int .i64 16)], .agg [.lit (.int .i64 0), .lit (.int .i64 0)], .agg [.lit (.int .i64 0), .lit (.int .i64 0)]], .agg [.agg [.lit (.int .i64 1), .lit (.int .i64 16)], .agg [.lit (.int .i64 0), .lit (.int .i64 0)], .agg [.lit (.int .i64 0), .lit (.int .i64 1099511627776)], .agg [.lit (.int .i64 1), .lit (.int .i64 8)]], .agg [.agg [.lit (.int .i64 1), .lit (.int .i64 16)], .agg [.lit (.int .i64 0), .lit (.int .i64 0)], .agg [.lit (.int .i64 0), .lit (.int .i64 0)], .agg [.lit (.int .i64 0), .lit (.int .i64 0)]], .agg [.agg [.lit (.int .i64 0), .lit (.int .i64 0)], .agg [.lit (.int .i64 0), .lit (.int .i64 0)], .agg [.lit (.int .i64 0), .lit (.int .i64 0)], .agg [.lit (.int .i64 0), .lit (.int .i64 0)]]]

/-- 'flotillalaw05.ShelfReads': WHATEVER THE INPUT: true; the input reads as it did. -/
def shelfReadsSpec : ChangeSpec := { name := "shelfReads", fn := fun _ => fun
  | [d1, d2] => { results := [.lit (.bool true)], args := [d1, d2] }
  | _ => none }
def shelfReadsRow : OpenClaim := { program := "ytkcepkehgkkkbaagreatdoor", sum := "b4259aa23f2a58932433e97cf9ee8d1dce0dc5045daec1248a0767d8560cc135", func := "flotilla/flotillalaw05.ShelfReads", spec := "shelfReads", unfollowed := true, recurses := true, named := ["flotilla/shelf.forms"], apart := false, laid := [("flotilla/shelf.forms", laid_flotilla_shelf_forms)] }
def ShelfReadsSaid : Prop := shelfReadsRow.holds Tryz.pinned (OpenSpec.ofChange shelfReadsSpec)

/-- ITS FALSE NEIGHBOUR: 'it returns false'. Refute it at one input. -/
def shelfReadsWrong : ChangeSpec := { name := "shelfReads", fn := fun _ => fun
  | [d1, d2] => { results := [.lit (.bool false)], args := [d1, d2] }
  | _ => none }
def ShelfReadsWrongFalsely : Prop := shelfReadsRow.holds Tryz.pinned (OpenSpec.ofChange shelfReadsWrong)

/-- 'flotillalaw05.ShelfBack': WHATEVER THE INPUT: true; the input reads as it did. -/
def shelfBackSpec : ChangeSpec := { name := "shelfBack", fn := fun _ => fun
  | [d1, d2] => { results := [.lit (.bool true)], args := [d1, d2] }
  | _ => none }
def shelfBackRow : OpenClaim := { program := "ytkcepkehgkkkbaagreatdoor", sum := "b4259aa23f2a58932433e97cf9ee8d1dce0dc5045daec1248a0767d8560cc135", func := "flotilla/flotillalaw05.ShelfBack", spec := "shelfBack", unfollowed := true, recurses := true, named := ["flotilla/shelf.forms"], apart := false, laid := [("flotilla/shelf.forms", laid_flotilla_shelf_forms)] }
def ShelfBackSaid : Prop := shelfBackRow.holds Tryz.pinned (OpenSpec.ofChange shelfBackSpec)

/-- ITS FALSE NEIGHBOUR: 'it returns false'. Refute it at one input. -/
def shelfBackWrong : ChangeSpec := { name := "shelfBack", fn := fun _ => fun
  | [d1, d2] => { results := [.lit (.bool false)], args := [d1, d2] }
  | _ => none }
def ShelfBackWrongFalsely : Prop := shelfBackRow.holds Tryz.pinned (OpenSpec.ofChange shelfBackWrong)

/-- 'flotillalaw05.ShelfScript': WHATEVER THE INPUT: true; the input reads as it did. -/
def shelfScriptSpec : ChangeSpec := { name := "shelfScript", fn := fun _ => fun
  | [d] => { results := [.lit (.bool true)], args := [d] }
  | _ => none }
def shelfScriptRow : OpenClaim := { program := "ytkcepkehgkkkbaagreatdoor", sum := "b4259aa23f2a58932433e97cf9ee8d1dce0dc5045daec1248a0767d8560cc135", func := "flotilla/flotillalaw05.ShelfScript", spec := "shelfScript", inPlace := ["maps.clone"], unfollowed := true, recurses := true, named := ["flotilla/shelf.forms"], apart := false, laid := [("flotilla/shelf.forms", laid_flotilla_shelf_forms)] }
def ShelfScriptSaid : Prop := shelfScriptRow.holds Tryz.pinned (OpenSpec.ofChange shelfScriptSpec)

/-- ITS FALSE NEIGHBOUR: 'it returns false'. Refute it at one input. -/
def shelfScriptWrong : ChangeSpec := { name := "shelfScript", fn := fun _ => fun
  | [d] => { results := [.lit (.bool false)], args := [d] }
  | _ => none }
def ShelfScriptWrongFalsely : Prop := shelfScriptRow.holds Tryz.pinned (OpenSpec.ofChange shelfScriptWrong)

/- THE SECOND FORM. 'bulk': how many values and letters a reading holds, each counted each time it is reached (what is shared counts as often as it is met; a slice's spare places count too). A statement '..UptoSaid' is the law's where the arguments, and the package variables that the reading takes, are together of bulk at most 1048576: NARROWER than '..Said'. Prove '..Said' where nothing that the law and all that it calls make is longer than what came in: it says more and counts as full. Else prove '..UptoSaid'. A law counts once. -/
mutual
def uptoBulk {H : Type} : DataW H → Nat
  | .lit (.string bytes) => bytes.length + 1
  | .lit _ => 1
  | .nil => 1
  | .ptr d => uptoBulk d + 1
  | .slice elems spare => uptoBulkAll elems + uptoBulkAll spare + 1
  | .agg parts => uptoBulkAll parts + 1
  | .iface _ d => uptoBulk d + 1
  | .map entries => uptoBulkEntries entries + 1
  | .held _ => 1
def uptoBulkAll {H : Type} : List (DataW H) → Nat
  | [] => 0
  | d :: r => uptoBulk d + uptoBulkAll r
def uptoBulkEntries {H : Type} : List (Lit × DataW H) → Nat
  | [] => 0
  | x :: r => uptoBulkEntry x + uptoBulkEntries r
def uptoBulkEntry {H : Type} : Lit × DataW H → Nat
  | (.string bytes, d) => bytes.length + uptoBulk d + 1
  | (_, d) => uptoBulk d + 1
 end
def uptoSmall : (H : Type) → List (DataW H) → Bool := fun _ ds => decide (uptoBulkAll ds ≤ 1048576)
def OpenSpec.upto (s : _root_.Go.ChangeSpec) : _root_.Go.OpenSpec := { _root_.Go.OpenSpec.ofChange s with cond := some uptoSmall }

/-- 'flotillalaw05.ShelfReads', WHERE WHAT IT READS IS OF BULK AT MOST 1048576: true; the input reads as it did. -/
def shelfReadsUptoRow : OpenClaim := { program := "ytkcepkehgkkkbaagreatdoor", sum := "b4259aa23f2a58932433e97cf9ee8d1dce0dc5045daec1248a0767d8560cc135", func := "flotilla/flotillalaw05.ShelfReads", spec := "shelfReads", unfollowed := true, recurses := true, named := ["flotilla/shelf.forms"], apart := false, laid := [("flotilla/shelf.forms", laid_flotilla_shelf_forms)], narrowed := true }
def ShelfReadsUptoSaid : Prop := shelfReadsUptoRow.holds Tryz.pinned (OpenSpec.upto shelfReadsSpec)

/-- 'flotillalaw05.ShelfBack', WHERE WHAT IT READS IS OF BULK AT MOST 1048576: true; the input reads as it did. -/
def shelfBackUptoRow : OpenClaim := { program := "ytkcepkehgkkkbaagreatdoor", sum := "b4259aa23f2a58932433e97cf9ee8d1dce0dc5045daec1248a0767d8560cc135", func := "flotilla/flotillalaw05.ShelfBack", spec := "shelfBack", unfollowed := true, recurses := true, named := ["flotilla/shelf.forms"], apart := false, laid := [("flotilla/shelf.forms", laid_flotilla_shelf_forms)], narrowed := true }
def ShelfBackUptoSaid : Prop := shelfBackUptoRow.holds Tryz.pinned (OpenSpec.upto shelfBackSpec)

/-- 'flotillalaw05.ShelfScript', WHERE WHAT IT READS IS OF BULK AT MOST 1048576: true; the input reads as it did. -/
def shelfScriptUptoRow : OpenClaim := { program := "ytkcepkehgkkkbaagreatdoor", sum := "b4259aa23f2a58932433e97cf9ee8d1dce0dc5045daec1248a0767d8560cc135", func := "flotilla/flotillalaw05.ShelfScript", spec := "shelfScript", inPlace := ["maps.clone"], unfollowed := true, recurses := true, named := ["flotilla/shelf.forms"], apart := false, laid := [("flotilla/shelf.forms", laid_flotilla_shelf_forms)], narrowed := true }
def ShelfScriptUptoSaid : Prop := shelfScriptUptoRow.holds Tryz.pinned (OpenSpec.upto shelfScriptSpec)

end Rows
end Go.Proofs.YtkcepkehgkkkbaaGreatDoor
