/-
  NARROWER THAN 'FOR EVERY INPUT', by the rows' own cells (each row's printed sentence says how): ProxyOnce: laid · ProxyAgain: laid · ProxyNames: laid.
  DERIVED. THE GIVEN ROWS OF THIS SEAT. 3 by the template 'for every input the law returns true; each argument reads behind the call as it read before'; 0 by the template 'total and deterministic' (their statements: YteloaggebkbeeaaDoorTotals.lean).
  GIVEN WITH THE SEED: the statements are not yours to turn. If you find one false, say at which input.
  Laid BY PROGRAM, IN A SANDBOX (cutbox-rows.mjs): the forced cells as the released guide's own fill.sh prints them over the translation 49fba194464b5700… (all of the seat's roots in one cut). By AI agents, Wed Nov 11 2026. No macro, syntax, notation, axiom, sorry.
-/
import Derived.Test.YteloaggebkbeeaaDoorChecked
import GoSem.Claim
import GoSem.ClaimJoined
import GoSem.ClaimMapViews
import Derived.JoinedTies
import Derived.KernelRfl
namespace Go.Proofs.YteloaggebkbeeaaDoor
/- THE CELL 'sum', in the pinned program and in every row, IS THE sha256 OF THE DUMP (.gsa) THAT YteloaggebkbeeaaDoorProg.lean LOADS. Nothing in Lean hashes anything: it is a label: what it is worth is what the hold of that sum in a sandbox is worth. -/
noncomputable def Tryd.pinned : Pinned := { name := "yteloaggebkbeeaadoor", sum := "49fba194464b570011c68d17571ff9a749083644ad56a2a1daa7850dbf09988c", checked := Tryd.checked }
namespace Rows
def none {H : Type} : Left H := { results := [], args := [] }

/- WHAT THE LISTED PACKAGE-LEVEL VARIABLES READ AS WHEN THE CALL BEGINS. Each datum BY PROGRAM (the guide's laid-datum.mjs) off the statement by which the dump's own 'gosem.cut.vars' lays the variable. In a bare row this is a premise. The card (YteloaggebkbeeaaDoorCards.lean) ties it to the program's text. -/
def laid_flotilla_shelf_forms {H : Type} : DataW H := .agg [.agg [.agg [.lit (.int .i64 0), .lit (.int .i64 0)], .agg [.lit (.int .i64 0), .lit (.int .i64 0)], .agg [.lit (.int .i64 0), .lit (.int .i64 0)], .agg [.lit (.int .i64 0), .lit (.int .i64 0)]], .agg [.agg [.lit (.int .i64 1), .lit (.int .i64 16)], .agg [.lit (.int .i64 0), .lit (.int .i64 0)], .agg [.lit (.int .i64 0), .lit (.int .i64 0)], .agg [.lit (.int .i64 0), .lit (.int .i64 0)]], .agg [.agg [.lit (.int .i64 1), .lit (.int .i64 16)], .agg [.lit (.int .i64 0), .lit (.int .i64 0)], .agg [.lit (.int .i64 0), .lit (.int .i64 0)], .agg [.lit (.int .i64 0), .lit (.int .i64 0)]], .agg [.agg [.lit (.int .i64 1), .lit (.int .i64 16)], .agg [.lit (.int .i64 0), .lit (.int .i64 64)], .agg [.lit (.int .i64 0), .lit (.int .i64 0)], .agg [.lit (.int .i64 0), .lit (.int .i64 0)]], .agg [.agg [.lit (.int .i64 1), .lit (.int .i64 16)], .agg [.lit (.int .i64 0), .lit (.int .i64 0)], .agg [.lit (.int .i64 0), .lit (.int .i64 1099511627776)], .agg [.lit (.int .i64 0), .lit (.int .i64 0)]], .agg [.agg [.lit (.int .i64 1), .lit (.int .i64 16)], .agg [.lit (.int .i64 1), .lit (.int .i64 16)], .agg [.lit (.int .i64 0), .lit (.int .i64 0)], .agg [.lit (.int .i64 0), .lit (.int .i64 0)]], .agg [.agg [.lit (.int .i64 1), .lit (.int .i64 16)], .agg [.lit (.int .i64 0), .lit (.int .i64 0)], .agg [.lit (.int .i64 0), .lit (.int .i64 1099511627776)], .agg [.lit (.int .i64 1), .lit (.int .i64 8)]], .agg [.agg [.lit (.int .i64 1), .lit (.int .i64 16)], .agg [.lit (.int .i64 0), .lit (.int .i64 0)], .agg [.lit (.int .i64 0), .lit (.int .i64 0)], .agg [.lit (.int .i64 0), .lit (.int .i64 0)]], .agg [.agg [.lit (.int .i64 0), .lit (.int .i64 0)], .agg [.lit (.int .i64 0), .lit (.int .i64 0)], .agg [.lit (.int .i64 0), .lit (.int .i64 0)], .agg [.lit (.int .i64 0), .lit (.int .i64 0)]]]
def laid_flotilla_mail_fields {H : Type} : DataW H := .agg [.lit (.string []), .lit (.string [81, 79]), .lit (.string [86, 75, 81, 82]), .lit (.string [86, 81]), .lit (.string [86, 75, 67, 69]), .lit (.string [86, 75]), .lit (.string [86, 75, 67]), .lit (.string [86]), .lit (.string [86, 67, 78, 71]), .lit (.string [86, 67, 71]), .lit (.string [86, 76]), .lit (.string [86, 67, 76, 72, 71]), .lit (.string [86, 75, 67]), .lit (.string [86, 67, 71]), .lit (.string [75, 81, 79]), .lit (.string [75, 81, 82])]

/-- 'flotillalaw14.ProxyOnce': WHATEVER THE INPUT: true; the input reads as it did. -/
def proxyOnceSpec : ChangeSpec := { name := "proxyOnce", fn := fun _ => fun
  | [d1, d2] => { results := [.lit (.bool true)], args := [d1, d2] }
  | _ => none }
def proxyOnceRow : OpenClaim := { program := "yteloaggebkbeeaadoor", sum := "49fba194464b570011c68d17571ff9a749083644ad56a2a1daa7850dbf09988c", func := "flotilla/flotillalaw14.ProxyOnce", spec := "proxyOnce", inPlace := ["internal/bytealg.IndexByteString", "internal/bytealg.IndexString"], named := ["flotilla/shelf.forms", "flotilla/mail.fields", "internal/bytealg.MaxLen"], apart := false, laid := [("flotilla/shelf.forms", laid_flotilla_shelf_forms), ("flotilla/mail.fields", laid_flotilla_mail_fields)] }
def ProxyOnceSaid : Prop := proxyOnceRow.holds Tryd.pinned (OpenSpec.ofChange proxyOnceSpec)

/-- ITS FALSE NEIGHBOUR: 'it returns false'. Refute it at one input. -/
def proxyOnceWrong : ChangeSpec := { name := "proxyOnce", fn := fun _ => fun
  | [d1, d2] => { results := [.lit (.bool false)], args := [d1, d2] }
  | _ => none }
def ProxyOnceWrongFalsely : Prop := proxyOnceRow.holds Tryd.pinned (OpenSpec.ofChange proxyOnceWrong)

/-- 'flotillalaw14.ProxyAgain': WHATEVER THE INPUT: true; the input reads as it did. -/
def proxyAgainSpec : ChangeSpec := { name := "proxyAgain", fn := fun _ => fun
  | [d1, d2, d3, d4] => { results := [.lit (.bool true)], args := [d1, d2, d3, d4] }
  | _ => none }
def proxyAgainRow : OpenClaim := { program := "yteloaggebkbeeaadoor", sum := "49fba194464b570011c68d17571ff9a749083644ad56a2a1daa7850dbf09988c", func := "flotilla/flotillalaw14.ProxyAgain", spec := "proxyAgain", inPlace := ["internal/bytealg.IndexByteString", "internal/bytealg.IndexString"], named := ["flotilla/shelf.forms", "flotilla/mail.fields", "internal/bytealg.MaxLen"], apart := false, laid := [("flotilla/shelf.forms", laid_flotilla_shelf_forms), ("flotilla/mail.fields", laid_flotilla_mail_fields)] }
def ProxyAgainSaid : Prop := proxyAgainRow.holds Tryd.pinned (OpenSpec.ofChange proxyAgainSpec)

/-- ITS FALSE NEIGHBOUR: 'it returns false'. Refute it at one input. -/
def proxyAgainWrong : ChangeSpec := { name := "proxyAgain", fn := fun _ => fun
  | [d1, d2, d3, d4] => { results := [.lit (.bool false)], args := [d1, d2, d3, d4] }
  | _ => none }
def ProxyAgainWrongFalsely : Prop := proxyAgainRow.holds Tryd.pinned (OpenSpec.ofChange proxyAgainWrong)

/-- 'flotillalaw14.ProxyNames': WHATEVER THE INPUT: true; the input reads as it did. -/
def proxyNamesSpec : ChangeSpec := { name := "proxyNames", fn := fun _ => fun
  | [] => { results := [.lit (.bool true)], args := [] }
  | _ => none }
def proxyNamesRow : OpenClaim := { program := "yteloaggebkbeeaadoor", sum := "49fba194464b570011c68d17571ff9a749083644ad56a2a1daa7850dbf09988c", func := "flotilla/flotillalaw14.ProxyNames", spec := "proxyNames", inPlace := ["internal/bytealg.IndexByteString", "internal/bytealg.IndexString"], named := ["flotilla/shelf.forms", "flotilla/mail.fields", "internal/bytealg.MaxLen"], apart := false, laid := [("flotilla/shelf.forms", laid_flotilla_shelf_forms), ("flotilla/mail.fields", laid_flotilla_mail_fields)] }
def ProxyNamesSaid : Prop := proxyNamesRow.holds Tryd.pinned (OpenSpec.ofChange proxyNamesSpec)

/-- ITS FALSE NEIGHBOUR: 'it returns false'. Refute it at one input. -/
def proxyNamesWrong : ChangeSpec := { name := "proxyNames", fn := fun _ => fun
  | [] => { results := [.lit (.bool false)], args := [] }
  | _ => none }
def ProxyNamesWrongFalsely : Prop := proxyNamesRow.holds Tryd.pinned (OpenSpec.ofChange proxyNamesWrong)

/- THE SECOND FORM. 'bulk': how many values and letters a reading holds, each counted each time it is reached (what is shared counts as often as it is met; a slice's spare places count too). A statement '..UptoSaid' is the law's where the arguments, and the package variables that the reading takes, are together of bulk at most 1048576: NARROWER than '..Said'. Prove '..Said' where nothing that the law and all that it calls make is longer than what came in: it says more and counts as full. Else prove '..UptoSaid'. A law counts once. -/
mutual
def uptoBulk {H : Type} : DataW H → Nat
  | .lit (.string bytes) => bytes.length + 1
  | .lit _ => 1
  | .nil => 1
  | .ptr d => uptoBulk d + 1
  | .slice elems spare => uptoBulkAll elems + uptoBulkAll spare + 1
  | .agg parts => uptoBulkAll parts + 1
  | .iface _ d => uptoBulk d + 1
  | .map entries => uptoBulkEntries entries + 1
  | .held _ => 1
def uptoBulkAll {H : Type} : List (DataW H) → Nat
  | [] => 0
  | d :: r => uptoBulk d + uptoBulkAll r
def uptoBulkEntries {H : Type} : List (Lit × DataW H) → Nat
  | [] => 0
  | x :: r => uptoBulkEntry x + uptoBulkEntries r
def uptoBulkEntry {H : Type} : Lit × DataW H → Nat
  | (.string bytes, d) => bytes.length + uptoBulk d + 1
  | (_, d) => uptoBulk d + 1
 end
def uptoSmall : (H : Type) → List (DataW H) → Bool := fun _ ds => decide (uptoBulkAll ds ≤ 1048576)
def OpenSpec.upto (s : _root_.Go.ChangeSpec) : _root_.Go.OpenSpec := { _root_.Go.OpenSpec.ofChange s with cond := some uptoSmall }

/-- 'flotillalaw14.ProxyOnce', WHERE WHAT IT READS IS OF BULK AT MOST 1048576: true; the input reads as it did. -/
def proxyOnceUptoRow : OpenClaim := { program := "yteloaggebkbeeaadoor", sum := "49fba194464b570011c68d17571ff9a749083644ad56a2a1daa7850dbf09988c", func := "flotilla/flotillalaw14.ProxyOnce", spec := "proxyOnce", inPlace := ["internal/bytealg.IndexByteString", "internal/bytealg.IndexString"], named := ["flotilla/shelf.forms", "flotilla/mail.fields", "internal/bytealg.MaxLen"], apart := false, laid := [("flotilla/shelf.forms", laid_flotilla_shelf_forms), ("flotilla/mail.fields", laid_flotilla_mail_fields)], narrowed := true }
def ProxyOnceUptoSaid : Prop := proxyOnceUptoRow.holds Tryd.pinned (OpenSpec.upto proxyOnceSpec)

/-- 'flotillalaw14.ProxyAgain', WHERE WHAT IT READS IS OF BULK AT MOST 1048576: true; the input reads as it did. -/
def proxyAgainUptoRow : OpenClaim := { program := "yteloaggebkbeeaadoor", sum := "49fba194464b570011c68d17571ff9a749083644ad56a2a1daa7850dbf09988c", func := "flotilla/flotillalaw14.ProxyAgain", spec := "proxyAgain", inPlace := ["internal/bytealg.IndexByteString", "internal/bytealg.IndexString"], named := ["flotilla/shelf.forms", "flotilla/mail.fields", "internal/bytealg.MaxLen"], apart := false, laid := [("flotilla/shelf.forms", laid_flotilla_shelf_forms), ("flotilla/mail.fields", laid_flotilla_mail_fields)], narrowed := true }
def ProxyAgainUptoSaid : Prop := proxyAgainUptoRow.holds Tryd.pinned (OpenSpec.upto proxyAgainSpec)

/-- 'flotillalaw14.ProxyNames', WHERE WHAT IT READS IS OF BULK AT MOST 1048576: true; the input reads as it did. -/
def proxyNamesUptoRow : OpenClaim := { program := "yteloaggebkbeeaadoor", sum := "49fba194464b570011c68d17571ff9a749083644ad56a2a1daa7850dbf09988c", func := "flotilla/flotillalaw14.ProxyNames", spec := "proxyNames", inPlace := ["internal/bytealg.IndexByteString", "internal/bytealg.IndexString"], named := ["flotilla/shelf.forms", "flotilla/mail.fields", "internal/bytealg.MaxLen"], apart := false, laid := [("flotilla/shelf.forms", laid_flotilla_shelf_forms), ("flotilla/mail.fields", laid_flotilla_mail_fields)], narrowed := true }
def ProxyNamesUptoSaid : Prop := proxyNamesUptoRow.holds Tryd.pinned (OpenSpec.upto proxyNamesSpec)

end Rows
end Go.Proofs.YteloaggebkbeeaaDoor
