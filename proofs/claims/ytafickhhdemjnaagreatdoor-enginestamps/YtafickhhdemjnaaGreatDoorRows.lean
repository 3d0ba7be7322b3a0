/-
  NARROWER THAN 'FOR EVERY INPUT', by the rows' own cells (each row's printed sentence says how): EngineScript: laid · EngineSame: laid · EngineOnce: laid · EngineTakes: laid · EngineStamps: laid.
  DERIVED. THE GIVEN ROWS OF THIS SEAT. 5 by the template 'for every input the law returns true; each argument reads behind the call as it read before'; 0 by the template 'total and deterministic' (their statements: YtafickhhdemjnaaGreatDoorTotals.lean).
  GIVEN WITH THE SEED: the statements are not yours to turn. If you find one false, say at which input.
  Laid BY PROGRAM, IN A SANDBOX (cutbox-rows.mjs): the forced cells as the released guide's own fill.sh prints them over the translation 0d4d8001f898ae12… (all of the seat's roots in one cut). By AI agents, Wed Nov 11 2026. No macro, syntax, notation, axiom, sorry.
-/
import Derived.Test.YtafickhhdemjnaaGreatDoorChecked
import GoSem.Claim
import GoSem.ClaimJoined
import GoSem.ClaimMapViews
import Derived.JoinedTies
import Derived.KernelRfl
namespace Go.Proofs.YtafickhhdemjnaaGreatDoor
/- THE CELL 'sum', in the pinned program and in every row, IS THE sha256 OF THE DUMP (.gsa) THAT YtafickhhdemjnaaGreatDoorProg.lean LOADS. Nothing in Lean hashes anything: it is a label: what it is worth is what the hold of that sum in a sandbox is worth. -/
noncomputable def Tryz.pinned : Pinned := { name := "ytafickhhdemjnaagreatdoor", sum := "0d4d8001f898ae127891d8e2d1d87eca092f5557d284ad891a374d90b8e5f6aa", checked := Tryz.checked }
namespace Rows
def none {H : Type} : Left H := { results := [], args := [] }

/- WHAT THE LISTED PACKAGE-LEVEL VARIABLES READ AS WHEN THE CALL BEGINS. Each datum BY PROGRAM (the guide's laid-datum.mjs) off the statement by which the dump's own 'gosem.cut.vars' lays the variable. In a bare row this is a premise. The card (YtafickhhdemjnaaGreatDoorCards.lean) ties it to the program's text. -/
def laid_flotilla_shelf_forms {H : Type} : DataW H := .agg [.agg [.agg [.lit (.int .i64 0), .lit (.int .i64 0)], .agg [.lit (.int .i64 0), .lit (.int .i64 0)], .agg [.lit (.int .i64 0), .lit (.int .i64 0)], .agg [.lit (.int .i64 0), .lit (.int .i64 0)]], .agg [.agg [.lit (.int .i64 1), .lit (.int .i64 16)], .agg [.lit (.int .i64 0), .lit (.int .i64 0)], .agg [.lit (.int .i64 0), .lit (.int .i64 0)], .agg [.lit (.int .i64 0), .lit (.int .i64 0)]], .agg [.agg [.lit (.int .i64 1), .lit (.int .i64 16)], .agg [.lit (.int .i64 0), .lit (.int .i64 0)], .agg [.lit (.int .i64 0), .lit (.int .i64 0)], .agg [.lit (.int .i64 0), .lit (.int .i64 0)]], .agg [.agg [.lit (.int .i64 1), .lit (.int .i64 16)], .agg [.lit (.int .i64 0), .lit (.int .i64 64)], .agg [.lit (.int .i64 0), .lit (.int .i64 0)], .agg [.lit (.int .i64 0), .lit (.int .i64 0)]], .agg [.agg [.lit (.int .i64 1), .lit (.int .i64 16)], .agg [.lit (.int .i64 0), .lit (.int .i64 0)], .agg [.lit (.int .i64 0), .lit (.int .i64 1099511627776)], .agg [.lit (.int .i64 0), .lit (.int .i64 0)]], .agg [.agg [.lit (.int .i64 1), .lit (.int .i64 16)], .agg [.lit (.int .i64 1), .lit (.int .i64 16)], .agg [.lit (.int .i64 0), .lit (.int .i64 0)], .agg [.lit (.int .i64 0), .lit (.int .i64 0)]], .agg [.agg [.lit (.int .i64 1), .lit (.int .i64 16)], .agg [.lit (.int .i64 0), .lit (.int .i64 0)], .agg [.lit (.int .i64 0), .lit (.int .i64 1099511627776)], .agg [.lit (.int .i64 1), .lit (.int .i64 8)]], .agg [.agg [.lit (.int .i64 1), .lit (.int .i64 16)], .agg [.lit (.int .i64 0), .lit (.int .i64 0)], .agg [.lit (.int .i64 0), .lit (.int .i64 0)], .agg [.lit (.int .i64 0), .lit (.int .i64 0)]], .agg [.agg [.lit (.int .i64 0), .lit (.int .i64 0)], .agg [.lit (.int .i64 0), .lit (.int .i64 0)], .agg [.lit (.int .i64 0), .lit (.int .i64 0)], .agg [.lit (.int .i64 0), .lit (.int .i64 0)]]]

/-- 'flotillalaw08.EngineScript': WHATEVER THE INPUT: true; the input reads as it did. -/
def engineScriptSpec : ChangeSpec := { name := "engineScript", fn := fun _ => fun
  | [d1, d2, d3] => { results := [.lit (.bool true)], args := [d1, d2, d3] }
  | _ => none }
def engineScriptRow : OpenClaim := { program := "ytafickhhdemjnaagreatdoor", sum := "0d4d8001f898ae127891d8e2d1d87eca092f5557d284ad891a374d90b8e5f6aa", func := "flotilla/flotillalaw08.EngineScript", spec := "engineScript", inPlace := ["maps.clone"], unfollowed := true, recurses := true, named := ["flotilla/shelf.forms"], apart := false, laid := [("flotilla/shelf.forms", laid_flotilla_shelf_forms)] }
def EngineScriptSaid : Prop := engineScriptRow.holds Tryz.pinned (OpenSpec.ofChange engineScriptSpec)

/-- ITS FALSE NEIGHBOUR: 'it returns false'. Refute it at one input. -/
def engineScriptWrong : ChangeSpec := { name := "engineScript", fn := fun _ => fun
  | [d1, d2, d3] => { results := [.lit (.bool false)], args := [d1, d2, d3] }
  | _ => none }
def EngineScriptWrongFalsely : Prop := engineScriptRow.holds Tryz.pinned (OpenSpec.ofChange engineScriptWrong)

/-- 'flotillalaw08.EngineSame': WHATEVER THE INPUT: true; the input reads as it did. -/
def engineSameSpec : ChangeSpec := { name := "engineSame", fn := fun _ => fun
  | [d1, d2, d3] => { results := [.lit (.bool true)], args := [d1, d2, d3] }
  | _ => none }
def engineSameRow : OpenClaim := { program := "ytafickhhdemjnaagreatdoor", sum := "0d4d8001f898ae127891d8e2d1d87eca092f5557d284ad891a374d90b8e5f6aa", func := "flotilla/flotillalaw08.EngineSame", spec := "engineSame", unfollowed := true, recurses := true, named := ["flotilla/shelf.forms"], apart := false, laid := [("flotilla/shelf.forms", laid_flotilla_shelf_forms)] }
def EngineSameSaid : Prop := engineSameRow.holds Tryz.pinned (OpenSpec.ofChange engineSameSpec)

/-- ITS FALSE NEIGHBOUR: 'it returns false'. Refute it at one input. -/
def engineSameWrong : ChangeSpec := { name := "engineSame", fn := fun _ => fun
  | [d1, d2, d3] => { results := [.lit (.bool false)], args := [d1, d2, d3] }
  | _ => none }
def EngineSameWrongFalsely : Prop := engineSameRow.holds Tryz.pinned (OpenSpec.ofChange engineSameWrong)

/-- 'flotillalaw08.EngineOnce': WHATEVER THE INPUT: true; the input reads as it did. -/
def engineOnceSpec : ChangeSpec := { name := "engineOnce", fn := fun _ => fun
  | [d1, d2] => { results := [.lit (.bool true)], args := [d1, d2] }
  | _ => none }
def engineOnceRow : OpenClaim := { program := "ytafickhhdemjnaagreatdoor", sum := "0d4d8001f898ae127891d8e2d1d87eca092f5557d284ad891a374d90b8e5f6aa", func := "flotilla/flotillalaw08.EngineOnce", spec := "engineOnce", unfollowed := true, recurses := true, named := ["flotilla/shelf.forms"], apart := false, laid := [("flotilla/shelf.forms", laid_flotilla_shelf_forms)] }
def EngineOnceSaid : Prop := engineOnceRow.holds Tryz.pinned (OpenSpec.ofChange engineOnceSpec)

/-- ITS FALSE NEIGHBOUR: 'it returns false'. Refute it at one input. -/
def engineOnceWrong : ChangeSpec := { name := "engineOnce", fn := fun _ => fun
  | [d1, d2] => { results := [.lit (.bool false)], args := [d1, d2] }
  | _ => none }
def EngineOnceWrongFalsely : Prop := engineOnceRow.holds Tryz.pinned (OpenSpec.ofChange engineOnceWrong)

/-- 'flotillalaw08.EngineTakes': WHATEVER THE INPUT: true; the input reads as it did. -/
def engineTakesSpec : ChangeSpec := { name := "engineTakes", fn := fun _ => fun
  | [d] => { results := [.lit (.bool true)], args := [d] }
  | _ => none }
def engineTakesRow : OpenClaim := { program := "ytafickhhdemjnaagreatdoor", sum := "0d4d8001f898ae127891d8e2d1d87eca092f5557d284ad891a374d90b8e5f6aa", func := "flotilla/flotillalaw08.EngineTakes", spec := "engineTakes", unfollowed := true, recurses := true, named := ["flotilla/shelf.forms"], apart := false, laid := [("flotilla/shelf.forms", laid_flotilla_shelf_forms)] }
def EngineTakesSaid : Prop := engineTakesRow.holds Tryz.pinned (OpenSpec.ofChange engineTakesSpec)

/-- ITS FALSE NEIGHBOUR: 'it returns false'. Refute it at one input. -/
def engineTakesWrong : ChangeSpec := { name := "engineTakes", fn := fun _ => fun
  | [d] => { results := [.lit (.bool false)], args := [d] }
  | _ => none }
def EngineTakesWrongFalsely : Prop := engineTakesRow.holds Tryz.pinned (OpenSpec.ofChange engineTakesWrong)

/-- 'flotillalaw08.EngineStamps': WHATEVER THE INPUT: true; the input reads as it did. -/
def engineStampsSpec : ChangeSpec := { name := "engineStamps", fn := fun _ => fun
  | [d1, d2] => { results := [.lit (.bool true)], args := [d1, d2] }
  | _ => none }
def engineStampsRow : OpenClaim := { program := "ytafickhhdemjnaagreatdoor", sum := "0d4d8001f898ae127891d8e2d1d87eca092f5557d284ad891a374d90b8e5f6aa", func := "flotilla/flotillalaw08.EngineStamps", spec := "engineStamps", unfollowed := true, recurses := true, named := ["flotilla/shelf.forms"], apart := false, laid := [("flotilla/shelf.forms", laid_flotilla_shelf_forms)] }
def EngineStampsSaid : Prop := engineStampsRow.holds Tryz.pinned (OpenSpec.ofChange engineStampsSpec)

/-- ITS FALSE NEIGHBOUR: 'it returns false'. Refute it at one input. -/
def engineStampsWrong : ChangeSpec := { name := "engineStamps", fn := fun _ => fun
  | [d1, d2] => { results := [.lit (.bool false)], args := [d1, d2] }
  | _ => none }
def EngineStampsWrongFalsely : Prop := engineStampsRow.holds Tryz.pinned (OpenSpec.ofChange engineStampsWrong)

/- THE SECOND FORM. 'bulk': how many values and letters a reading holds, each counted each time it is reached (what is shared counts as often as it is met; a slice's spare places count too). A statement '..UptoSaid' is the law's where the arguments, and the package variables that the reading takes, are together of bulk at most 1048576: NARROWER than '..Said'. Prove '..Said' where nothing that the law and all that it calls make is longer than what came in: it says more and counts as full. Else prove '..UptoSaid'. A law counts once. -/
mutual
def uptoBulk {H : Type} : DataW H → Nat
  | .lit (.string bytes) => bytes.length + 1
  | .lit _ => 1
  | .nil => 1
  | .ptr d => uptoBulk d + 1
  | .slice elems spare => uptoBulkAll elems + uptoBulkAll spare + 1
  | .agg parts => uptoBulkAll parts + 1
  | .iface _ d => uptoBulk d + 1
  | .map entries => uptoBulkEntries entries + 1
  | .held _ => 1
def uptoBulkAll {H : Type} : List (DataW H) → Nat
  | [] => 0
  | d :: r => uptoBulk d + uptoBulkAll r
def uptoBulkEntries {H : Type} : List (Lit × DataW H) → Nat
  | [] => 0
  | x :: r => uptoBulkEntry x + uptoBulkEntries r
def uptoBulkEntry {H : Type} : Lit × DataW H → Nat
  | (.string bytes, d) => bytes.length + uptoBulk d + 1
  | (_, d) => uptoBulk d + 1
 end
def uptoSmall : (H : Type) → List (DataW H) → Bool := fun _ ds => decide (uptoBulkAll ds ≤ 1048576)
def OpenSpec.upto (s : _root_.Go.ChangeSpec) : _root_.Go.OpenSpec := { _root_.Go.OpenSpec.ofChange s with cond := some uptoSmall }

/-- 'flotillalaw08.EngineScript', WHERE WHAT IT READS IS OF BULK AT MOST 1048576: true; the input reads as it did. -/
def engineScriptUptoRow : OpenClaim := { program := "ytafickhhdemjnaagreatdoor", sum := "0d4d8001f898ae127891d8e2d1d87eca092f5557d284ad891a374d90b8e5f6aa", func := "flotilla/flotillalaw08.EngineScript", spec := "engineScript", inPlace := ["maps.clone"], unfollowed := true, recurses := true, named := ["flotilla/shelf.forms"], apart := false, laid := [("flotilla/shelf.forms", laid_flotilla_shelf_forms)], narrowed := true }
def EngineScriptUptoSaid : Prop := engineScriptUptoRow.holds Tryz.pinned (OpenSpec.upto engineScriptSpec)

/-- 'flotillalaw08.EngineSame', WHERE WHAT IT READS IS OF BULK AT MOST 1048576: true; the input reads as it did. -/
def engineSameUptoRow : OpenClaim := { program := "ytafickhhdemjnaagreatdoor", sum := "0d4d8001f898ae127891d8e2d1d87eca092f5557d284ad891a374d90b8e5f6aa", func := "flotilla/flotillalaw08.EngineSame", spec := "engineSame", unfollowed := true, recurses := true, named := ["flotilla/shelf.forms"], apart := false, laid := [("flotilla/shelf.forms", laid_flotilla_shelf_forms)], narrowed := true }
def EngineSameUptoSaid : Prop := engineSameUptoRow.holds Tryz.pinned (OpenSpec.upto engineSameSpec)

/-- 'flotillalaw08.EngineOnce', WHERE WHAT IT READS IS OF BULK AT MOST 1048576: true; the input reads as it did. -/
def engineOnceUptoRow : OpenClaim := { program := "ytafickhhdemjnaagreatdoor", sum := "0d4d8001f898ae127891d8e2d1d87eca092f5557d284ad891a374d90b8e5f6aa", func := "flotilla/flotillalaw08.EngineOnce", spec := "engineOnce", unfollowed := true, recurses := true, named := ["flotilla/shelf.forms"], apart := false, laid := [("flotilla/shelf.forms", laid_flotilla_shelf_forms)], narrowed := true }
def EngineOnceUptoSaid : Prop := engineOnceUptoRow.holds Tryz.pinned (OpenSpec.upto engineOnceSpec)

/-- 'flotillalaw08.EngineTakes', WHERE WHAT IT READS IS OF BULK AT MOST 1048576: true; the input reads as it did. -/
def engineTakesUptoRow : OpenClaim := { program := "ytafickhhdemjnaagreatdoor", sum := "0d4d8001f898ae127891d8e2d1d87eca092f5557d284ad891a374d90b8e5f6aa", func := "flotilla/flotillalaw08.EngineTakes", spec := "engineTakes", unfollowed := true, recurses := true, named := ["flotilla/shelf.forms"], apart := false, laid := [("flotilla/shelf.forms", laid_flotilla_shelf_forms)], narrowed := true }
def EngineTakesUptoSaid : Prop := engineTakesUptoRow.holds Tryz.pinned (OpenSpec.upto engineTakesSpec)

/-- 'flotillalaw08.EngineStamps', WHERE WHAT IT READS IS OF BULK AT MOST 1048576: true; the input reads as it did. -/
def engineStampsUptoRow : OpenClaim := { program := "ytafickhhdemjnaagreatdoor", sum := "0d4d8001f898ae127891d8e2d1d87eca092f5557d284ad891a374d90b8e5f6aa", func := "flotilla/flotillalaw08.EngineStamps", spec := "engineStamps", unfollowed := true, recurses := true, named := ["flotilla/shelf.forms"], apart := false, laid := [("flotilla/shelf.forms", laid_flotilla_shelf_forms)], narrowed := true }
def EngineStampsUptoSaid : Prop := engineStampsUptoRow.holds Tryz.pinned (OpenSpec.upto engineStampsSpec)

end Rows
end Go.Proofs.YtafickhhdemjnaaGreatDoor
