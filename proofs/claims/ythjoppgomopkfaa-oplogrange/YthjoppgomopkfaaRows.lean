/-
  No cell of these rows narrows 'for every input' (looked for: loops, veiled, ifaces, maps, wideKeys, modest, calm, conditions, laid).
  DERIVED. THE GIVEN ROWS OF THIS SEAT. 3 by the template 'for every input the law returns true; each argument reads behind the call as it read before'; 0 by the template 'total and deterministic' (their statements: YthjoppgomopkfaaTotals.lean).
  GIVEN WITH THE SEED: the statements are not yours to turn. If you find one false, say at which input.
  Laid BY PROGRAM, IN A SANDBOX (cutbox-rows.mjs): the forced cells as the released guide's own fill.sh prints them over the translation 67d06811ab24cac8… (all of the seat's roots in one cut). By AI agents, Wed Nov 11 2026. No macro, syntax, notation, axiom, sorry.
-/
import Derived.Test.YthjoppgomopkfaaChecked
import GoSem.Claim
import GoSem.ClaimJoined
import GoSem.ClaimMapViews
import Derived.JoinedTies
import Derived.KernelRfl
namespace Go.Proofs.Ythjoppgomopkfaa
/- THE CELL 'sum', in the pinned program and in every row, IS THE sha256 OF THE DUMP (.gsa) THAT YthjoppgomopkfaaProg.lean LOADS. Nothing in Lean hashes anything: it is a label: what it is worth is what the hold of that sum in a sandbox is worth. -/
noncomputable def Try.pinned : Pinned := { name := "ythjoppgomopkfaa", sum := "67d06811ab24cac804de5211a39b4132ba19b3754c0073d3a03d4218fdacde8e", checked := Try.checked }
namespace Rows
def none {H : Type} : Left H := { results := [], args := [] }

/-- 'flotillalaw09.OplogScript': WHATEVER THE INPUT: true; the input reads as it did. -/
def oplogScriptSpec : ChangeSpec := { name := "oplogScript", fn := fun _ => fun
  | [d1, d2] => { results := [.lit (.bool true)], args := [d1, d2] }
  | _ => none }
def oplogScriptRow : OpenClaim := { program := "ythjoppgomopkfaa", sum := "67d06811ab24cac804de5211a39b4132ba19b3754c0073d3a03d4218fdacde8e", func := "flotilla/flotillalaw09.OplogScript", spec := "oplogScript", unfollowed := true, recurses := true, apart := false }
def OplogScriptSaid : Prop := oplogScriptRow.holds Try.pinned (OpenSpec.ofChange oplogScriptSpec)

/-- ITS FALSE NEIGHBOUR: 'it returns false'. Refute it at one input. -/
def oplogScriptWrong : ChangeSpec := { name := "oplogScript", fn := fun _ => fun
  | [d1, d2] => { results := [.lit (.bool false)], args := [d1, d2] }
  | _ => none }
def OplogScriptWrongFalsely : Prop := oplogScriptRow.holds Try.pinned (OpenSpec.ofChange oplogScriptWrong)

/-- 'flotillalaw09.OplogRange': WHATEVER THE INPUT: true; the input reads as it did. -/
def oplogRangeSpec : ChangeSpec := { name := "oplogRange", fn := fun _ => fun
  | [d1, d2, d3] => { results := [.lit (.bool true)], args := [d1, d2, d3] }
  | _ => none }
def oplogRangeRow : OpenClaim := { program := "ythjoppgomopkfaa", sum := "67d06811ab24cac804de5211a39b4132ba19b3754c0073d3a03d4218fdacde8e", func := "flotilla/flotillalaw09.OplogRange", spec := "oplogRange", unfollowed := true, recurses := true, apart := false }
def OplogRangeSaid : Prop := oplogRangeRow.holds Try.pinned (OpenSpec.ofChange oplogRangeSpec)

/-- ITS FALSE NEIGHBOUR: 'it returns false'. Refute it at one input. -/
def oplogRangeWrong : ChangeSpec := { name := "oplogRange", fn := fun _ => fun
  | [d1, d2, d3] => { results := [.lit (.bool false)], args := [d1, d2, d3] }
  | _ => none }
def OplogRangeWrongFalsely : Prop := oplogRangeRow.holds Try.pinned (OpenSpec.ofChange oplogRangeWrong)

/-- 'flotillalaw09.OplogStays': WHATEVER THE INPUT: true; the input reads as it did. -/
def oplogStaysSpec : ChangeSpec := { name := "oplogStays", fn := fun _ => fun
  | [d1, d2] => { results := [.lit (.bool true)], args := [d1, d2] }
  | _ => none }
def oplogStaysRow : OpenClaim := { program := "ythjoppgomopkfaa", sum := "67d06811ab24cac804de5211a39b4132ba19b3754c0073d3a03d4218fdacde8e", func := "flotilla/flotillalaw09.OplogStays", spec := "oplogStays", apart := false }
def OplogStaysSaid : Prop := oplogStaysRow.holds Try.pinned (OpenSpec.ofChange oplogStaysSpec)

/-- ITS FALSE NEIGHBOUR: 'it returns false'. Refute it at one input. -/
def oplogStaysWrong : ChangeSpec := { name := "oplogStays", fn := fun _ => fun
  | [d1, d2] => { results := [.lit (.bool false)], args := [d1, d2] }
  | _ => none }
def OplogStaysWrongFalsely : Prop := oplogStaysRow.holds Try.pinned (OpenSpec.ofChange oplogStaysWrong)

/- THE SECOND FORM. 'bulk': how many values and letters a reading holds, each counted each time it is reached (what is shared counts as often as it is met; a slice's spare places count too). A statement '..UptoSaid' is the law's where the arguments, and the package variables that the reading takes, are together of bulk at most 1048576: NARROWER than '..Said'. Prove '..Said' where nothing that the law and all that it calls make is longer than what came in: it says more and counts as full. Else prove '..UptoSaid'. A law counts once. -/
mutual
def uptoBulk {H : Type} : DataW H → Nat
  | .lit (.string bytes) => bytes.length + 1
  | .lit _ => 1
  | .nil => 1
  | .ptr d => uptoBulk d + 1
  | .slice elems spare => uptoBulkAll elems + uptoBulkAll spare + 1
  | .agg parts => uptoBulkAll parts + 1
  | .iface _ d => uptoBulk d + 1
  | .map entries => uptoBulkEntries entries + 1
  | .held _ => 1
def uptoBulkAll {H : Type} : List (DataW H) → Nat
  | [] => 0
  | d :: r => uptoBulk d + uptoBulkAll r
def uptoBulkEntries {H : Type} : List (Lit × DataW H) → Nat
  | [] => 0
  | x :: r => uptoBulkEntry x + uptoBulkEntries r
def uptoBulkEntry {H : Type} : Lit × DataW H → Nat
  | (.string bytes, d) => bytes.length + uptoBulk d + 1
  | (_, d) => uptoBulk d + 1
 end
def uptoSmall : (H : Type) → List (DataW H) → Bool := fun _ ds => decide (uptoBulkAll ds ≤ 1048576)
def OpenSpec.upto (s : _root_.Go.ChangeSpec) : _root_.Go.OpenSpec := { _root_.Go.OpenSpec.ofChange s with cond := some uptoSmall }

/-- 'flotillalaw09.OplogScript', WHERE WHAT IT READS IS OF BULK AT MOST 1048576: true; the input reads as it did. -/
def oplogScriptUptoRow : OpenClaim := { program := "ythjoppgomopkfaa", sum := "67d06811ab24cac804de5211a39b4132ba19b3754c0073d3a03d4218fdacde8e", func := "flotilla/flotillalaw09.OplogScript", spec := "oplogScript", unfollowed := true, recurses := true, apart := false, narrowed := true }
def OplogScriptUptoSaid : Prop := oplogScriptUptoRow.holds Try.pinned (OpenSpec.upto oplogScriptSpec)

/-- 'flotillalaw09.OplogRange', WHERE WHAT IT READS IS OF BULK AT MOST 1048576: true; the input reads as it did. -/
def oplogRangeUptoRow : OpenClaim := { program := "ythjoppgomopkfaa", sum := "67d06811ab24cac804de5211a39b4132ba19b3754c0073d3a03d4218fdacde8e", func := "flotilla/flotillalaw09.OplogRange", spec := "oplogRange", unfollowed := true, recurses := true, apart := false, narrowed := true }
def OplogRangeUptoSaid : Prop := oplogRangeUptoRow.holds Try.pinned (OpenSpec.upto oplogRangeSpec)

/-- 'flotillalaw09.OplogStays', WHERE WHAT IT READS IS OF BULK AT MOST 1048576: true; the input reads as it did. -/
def oplogStaysUptoRow : OpenClaim := { program := "ythjoppgomopkfaa", sum := "67d06811ab24cac804de5211a39b4132ba19b3754c0073d3a03d4218fdacde8e", func := "flotilla/flotillalaw09.OplogStays", spec := "oplogStays", apart := false, narrowed := true }
def OplogStaysUptoSaid : Prop := oplogStaysUptoRow.holds Try.pinned (OpenSpec.upto oplogStaysSpec)

end Rows
end Go.Proofs.Ythjoppgomopkfaa
