/-
  No cell of these rows narrows 'for every input' (looked for: loops, veiled, ifaces, maps, wideKeys, modest, calm, conditions, laid).
  DERIVED. THE GIVEN ROWS OF THIS SEAT. 3 by the template 'for every input the law returns true; each argument reads behind the call as it read before'; 0 by the template 'total and deterministic' (their statements: YtgmjjopfpenceaaTotals.lean).
  GIVEN WITH THE SEED: the statements are not yours to turn. If you find one false, say at which input.
  Laid BY PROGRAM, IN A SANDBOX (cutbox-rows.mjs): the forced cells as the released guide's own fill.sh prints them over the translation 8b83e50138e2e8d9… (all of the seat's roots in one cut). By AI agents, Wed Nov 11 2026. No macro, syntax, notation, axiom, sorry.
-/
import Derived.Test.YtgmjjopfpenceaaChecked
import GoSem.Claim
import GoSem.ClaimJoined
import GoSem.ClaimMapViews
import Derived.JoinedTies
import Derived.KernelRfl
namespace Go.Proofs.Ytgmjjopfpenceaa
/- THE CELL 'sum', in the pinned program and in every row, IS THE sha256 OF THE DUMP (.gsa) THAT YtgmjjopfpenceaaProg.lean LOADS. Nothing in Lean hashes anything: it is a label: what it is worth is what the hold of that sum in a sandbox is worth. -/
noncomputable def Try.pinned : Pinned := { name := "ytgmjjopfpenceaa", sum := "8b83e50138e2e8d9fd7fbd2d2e275da44cb5916f2a4096e98df4cb000f8aeca2", checked := Try.checked }
namespace Rows
def none {H : Type} : Left H := { results := [], args := [] }

/-- 'flotillalaw16.WordsSplit': WHATEVER THE INPUT: true; the input reads as it did. -/
def wordsSplitSpec : ChangeSpec := { name := "wordsSplit", fn := fun _ => fun
  | [d1, d2] => { results := [.lit (.bool true)], args := [d1, d2] }
  | _ => none }
def wordsSplitRow : OpenClaim := { program := "ytgmjjopfpenceaa", sum := "8b83e50138e2e8d9fd7fbd2d2e275da44cb5916f2a4096e98df4cb000f8aeca2", func := "flotilla/flotillalaw16.WordsSplit", spec := "wordsSplit", inPlace := ["internal/bytealg.IndexByteString"], apart := false }
def WordsSplitSaid : Prop := wordsSplitRow.holds Try.pinned (OpenSpec.ofChange wordsSplitSpec)

/-- ITS FALSE NEIGHBOUR: 'it returns false'. Refute it at one input. -/
def wordsSplitWrong : ChangeSpec := { name := "wordsSplit", fn := fun _ => fun
  | [d1, d2] => { results := [.lit (.bool false)], args := [d1, d2] }
  | _ => none }
def WordsSplitWrongFalsely : Prop := wordsSplitRow.holds Try.pinned (OpenSpec.ofChange wordsSplitWrong)

/-- 'flotillalaw16.WordsJoin': WHATEVER THE INPUT: true; the input reads as it did. -/
def wordsJoinSpec : ChangeSpec := { name := "wordsJoin", fn := fun _ => fun
  | [d] => { results := [.lit (.bool true)], args := [d] }
  | _ => none }
def wordsJoinRow : OpenClaim := { program := "ytgmjjopfpenceaa", sum := "8b83e50138e2e8d9fd7fbd2d2e275da44cb5916f2a4096e98df4cb000f8aeca2", func := "flotilla/flotillalaw16.WordsJoin", spec := "wordsJoin", inPlace := ["internal/abi.NoEscape", "internal/bytealg.IndexByteString"], apart := false }
def WordsJoinSaid : Prop := wordsJoinRow.holds Try.pinned (OpenSpec.ofChange wordsJoinSpec)

/-- ITS FALSE NEIGHBOUR: 'it returns false'. Refute it at one input. -/
def wordsJoinWrong : ChangeSpec := { name := "wordsJoin", fn := fun _ => fun
  | [d] => { results := [.lit (.bool false)], args := [d] }
  | _ => none }
def WordsJoinWrongFalsely : Prop := wordsJoinRow.holds Try.pinned (OpenSpec.ofChange wordsJoinWrong)

/-- 'flotillalaw16.WordsOneForm': WHATEVER THE INPUT: true; the input reads as it did. -/
def wordsOneFormSpec : ChangeSpec := { name := "wordsOneForm", fn := fun _ => fun
  | [d] => { results := [.lit (.bool true)], args := [d] }
  | _ => none }
def wordsOneFormRow : OpenClaim := { program := "ytgmjjopfpenceaa", sum := "8b83e50138e2e8d9fd7fbd2d2e275da44cb5916f2a4096e98df4cb000f8aeca2", func := "flotilla/flotillalaw16.WordsOneForm", spec := "wordsOneForm", inPlace := ["internal/abi.NoEscape", "internal/bytealg.IndexByteString"], apart := false }
def WordsOneFormSaid : Prop := wordsOneFormRow.holds Try.pinned (OpenSpec.ofChange wordsOneFormSpec)

/-- ITS FALSE NEIGHBOUR: 'it returns false'. Refute it at one input. -/
def wordsOneFormWrong : ChangeSpec := { name := "wordsOneForm", fn := fun _ => fun
  | [d] => { results := [.lit (.bool false)], args := [d] }
  | _ => none }
def WordsOneFormWrongFalsely : Prop := wordsOneFormRow.holds Try.pinned (OpenSpec.ofChange wordsOneFormWrong)

/- THE SECOND FORM. 'bulk': how many values and letters a reading holds, each counted each time it is reached (what is shared counts as often as it is met; a slice's spare places count too). A statement '..UptoSaid' is the law's where the arguments, and the package variables that the reading takes, are together of bulk at most 1048576: NARROWER than '..Said'. Prove '..Said' where nothing that the law and all that it calls make is longer than what came in: it says more and counts as full. Else prove '..UptoSaid'. A law counts once. -/
mutual
def uptoBulk {H : Type} : DataW H → Nat
  | .lit (.string bytes) => bytes.length + 1
  | .lit _ => 1
  | .nil => 1
  | .ptr d => uptoBulk d + 1
  | .slice elems spare => uptoBulkAll elems + uptoBulkAll spare + 1
  | .agg parts => uptoBulkAll parts + 1
  | .iface _ d => uptoBulk d + 1
  | .map entries => uptoBulkEntries entries + 1
  | .held _ => 1
def uptoBulkAll {H : Type} : List (DataW H) → Nat
  | [] => 0
  | d :: r => uptoBulk d + uptoBulkAll r
def uptoBulkEntries {H : Type} : List (Lit × DataW H) → Nat
  | [] => 0
  | x :: r => uptoBulkEntry x + uptoBulkEntries r
def uptoBulkEntry {H : Type} : Lit × DataW H → Nat
  | (.string bytes, d) => bytes.length + uptoBulk d + 1
  | (_, d) => uptoBulk d + 1
 end
def uptoSmall : (H : Type) → List (DataW H) → Bool := fun _ ds => decide (uptoBulkAll ds ≤ 1048576)
def OpenSpec.upto (s : _root_.Go.ChangeSpec) : _root_.Go.OpenSpec := { _root_.Go.OpenSpec.ofChange s with cond := some uptoSmall }

/-- 'flotillalaw16.WordsSplit', WHERE WHAT IT READS IS OF BULK AT MOST 1048576: true; the input reads as it did. -/
def wordsSplitUptoRow : OpenClaim := { program := "ytgmjjopfpenceaa", sum := "8b83e50138e2e8d9fd7fbd2d2e275da44cb5916f2a4096e98df4cb000f8aeca2", func := "flotilla/flotillalaw16.WordsSplit", spec := "wordsSplit", inPlace := ["internal/bytealg.IndexByteString"], apart := false, narrowed := true }
def WordsSplitUptoSaid : Prop := wordsSplitUptoRow.holds Try.pinned (OpenSpec.upto wordsSplitSpec)

/-- 'flotillalaw16.WordsJoin', WHERE WHAT IT READS IS OF BULK AT MOST 1048576: true; the input reads as it did. -/
def wordsJoinUptoRow : OpenClaim := { program := "ytgmjjopfpenceaa", sum := "8b83e50138e2e8d9fd7fbd2d2e275da44cb5916f2a4096e98df4cb000f8aeca2", func := "flotilla/flotillalaw16.WordsJoin", spec := "wordsJoin", inPlace := ["internal/abi.NoEscape", "internal/bytealg.IndexByteString"], apart := false, narrowed := true }
def WordsJoinUptoSaid : Prop := wordsJoinUptoRow.holds Try.pinned (OpenSpec.upto wordsJoinSpec)

/-- 'flotillalaw16.WordsOneForm', WHERE WHAT IT READS IS OF BULK AT MOST 1048576: true; the input reads as it did. -/
def wordsOneFormUptoRow : OpenClaim := { program := "ytgmjjopfpenceaa", sum := "8b83e50138e2e8d9fd7fbd2d2e275da44cb5916f2a4096e98df4cb000f8aeca2", func := "flotilla/flotillalaw16.WordsOneForm", spec := "wordsOneForm", inPlace := ["internal/abi.NoEscape", "internal/bytealg.IndexByteString"], apart := false, narrowed := true }
def WordsOneFormUptoSaid : Prop := wordsOneFormUptoRow.holds Try.pinned (OpenSpec.upto wordsOneFormSpec)

end Rows
end Go.Proofs.Ytgmjjopfpenceaa
