/-
  No cell of these rows narrows 'for every input' (looked for: loops, veiled, ifaces, maps, wideKeys, modest, calm, conditions, laid).
  DERIVED. THE GIVEN ROWS OF THIS SEAT. 6 by the template 'for every input the law returns true; each argument reads behind the call as it read before'; 0 by the template 'total and deterministic' (their statements: YtphcfkfdkaphbaaTotals.lean).
  GIVEN WITH THE SEED: the statements are not yours to turn. If you find one false, say at which input.
  Laid BY PROGRAM, IN A SANDBOX (cutbox-rows.mjs): the forced cells as the released guide's own fill.sh prints them over the translation 09d7bff7b204ea75… (all of the seat's roots in one cut). By AI agents, Wed Nov 11 2026. No macro, syntax, notation, axiom, sorry.
-/
import Derived.Test.YtphcfkfdkaphbaaChecked
import GoSem.Claim
import GoSem.ClaimJoined
import GoSem.ClaimMapViews
import Derived.JoinedTies
import Derived.KernelRfl
namespace Go.Proofs.Ytphcfkfdkaphbaa
/- THE CELL 'sum', in the pinned program and in every row, IS THE sha256 OF THE DUMP (.gsa) THAT YtphcfkfdkaphbaaProg.lean LOADS. Nothing in Lean hashes anything: it is a label: what it is worth is what the hold of that sum in a sandbox is worth. -/
noncomputable def Try.pinned : Pinned := { name := "ytphcfkfdkaphbaa", sum := "09d7bff7b204ea75983f5ed3b7bc304d6487b0631722da01bb735a03e3b23ce9", checked := Try.checked }
namespace Rows
def none {H : Type} : Left H := { results := [], args := [] }

/-- 'flotillalaw03.TimersScript': WHATEVER THE INPUT: true; the input reads as it did. -/
def timersScriptSpec : ChangeSpec := { name := "timersScript", fn := fun _ => fun
  | [d] => { results := [.lit (.bool true)], args := [d] }
  | _ => none }
def timersScriptRow : OpenClaim := { program := "ytphcfkfdkaphbaa", sum := "09d7bff7b204ea75983f5ed3b7bc304d6487b0631722da01bb735a03e3b23ce9", func := "flotilla/flotillalaw03.TimersScript", spec := "timersScript", inPlace := ["maps.clone"], unfollowed := true, recurses := true, apart := false }
def TimersScriptSaid : Prop := timersScriptRow.holds Try.pinned (OpenSpec.ofChange timersScriptSpec)

/-- ITS FALSE NEIGHBOUR: 'it returns false'. Refute it at one input. -/
def timersScriptWrong : ChangeSpec := { name := "timersScript", fn := fun _ => fun
  | [d] => { results := [.lit (.bool false)], args := [d] }
  | _ => none }
def TimersScriptWrongFalsely : Prop := timersScriptRow.holds Try.pinned (OpenSpec.ofChange timersScriptWrong)

/-- 'flotillalaw03.TimersNumbers': WHATEVER THE INPUT: true; the input reads as it did. -/
def timersNumbersSpec : ChangeSpec := { name := "timersNumbers", fn := fun _ => fun
  | [d1, d2] => { results := [.lit (.bool true)], args := [d1, d2] }
  | _ => none }
def timersNumbersRow : OpenClaim := { program := "ytphcfkfdkaphbaa", sum := "09d7bff7b204ea75983f5ed3b7bc304d6487b0631722da01bb735a03e3b23ce9", func := "flotilla/flotillalaw03.TimersNumbers", spec := "timersNumbers", unfollowed := true, recurses := true, apart := false }
def TimersNumbersSaid : Prop := timersNumbersRow.holds Try.pinned (OpenSpec.ofChange timersNumbersSpec)

/-- ITS FALSE NEIGHBOUR: 'it returns false'. Refute it at one input. -/
def timersNumbersWrong : ChangeSpec := { name := "timersNumbers", fn := fun _ => fun
  | [d1, d2] => { results := [.lit (.bool false)], args := [d1, d2] }
  | _ => none }
def TimersNumbersWrongFalsely : Prop := timersNumbersRow.holds Try.pinned (OpenSpec.ofChange timersNumbersWrong)

/-- 'flotillalaw03.TimersRuns': WHATEVER THE INPUT: true; the input reads as it did. -/
def timersRunsSpec : ChangeSpec := { name := "timersRuns", fn := fun _ => fun
  | [d1, d2, d3] => { results := [.lit (.bool true)], args := [d1, d2, d3] }
  | _ => none }
def timersRunsRow : OpenClaim := { program := "ytphcfkfdkaphbaa", sum := "09d7bff7b204ea75983f5ed3b7bc304d6487b0631722da01bb735a03e3b23ce9", func := "flotilla/flotillalaw03.TimersRuns", spec := "timersRuns", recurses := true, apart := false }
def TimersRunsSaid : Prop := timersRunsRow.holds Try.pinned (OpenSpec.ofChange timersRunsSpec)

/-- ITS FALSE NEIGHBOUR: 'it returns false'. Refute it at one input. -/
def timersRunsWrong : ChangeSpec := { name := "timersRuns", fn := fun _ => fun
  | [d1, d2, d3] => { results := [.lit (.bool false)], args := [d1, d2, d3] }
  | _ => none }
def TimersRunsWrongFalsely : Prop := timersRunsRow.holds Try.pinned (OpenSpec.ofChange timersRunsWrong)

/-- 'flotillalaw03.TimersNoName': WHATEVER THE INPUT: true; the input reads as it did. -/
def timersNoNameSpec : ChangeSpec := { name := "timersNoName", fn := fun _ => fun
  | [d1, d2] => { results := [.lit (.bool true)], args := [d1, d2] }
  | _ => none }
def timersNoNameRow : OpenClaim := { program := "ytphcfkfdkaphbaa", sum := "09d7bff7b204ea75983f5ed3b7bc304d6487b0631722da01bb735a03e3b23ce9", func := "flotilla/flotillalaw03.TimersNoName", spec := "timersNoName", inPlace := ["math.Float64frombits"], unfollowed := true, recurses := true, apart := false }
def TimersNoNameSaid : Prop := timersNoNameRow.holds Try.pinned (OpenSpec.ofChange timersNoNameSpec)

/-- ITS FALSE NEIGHBOUR: 'it returns false'. Refute it at one input. -/
def timersNoNameWrong : ChangeSpec := { name := "timersNoName", fn := fun _ => fun
  | [d1, d2] => { results := [.lit (.bool false)], args := [d1, d2] }
  | _ => none }
def TimersNoNameWrongFalsely : Prop := timersNoNameRow.holds Try.pinned (OpenSpec.ofChange timersNoNameWrong)

/-- 'flotillalaw03.TimersPatience': WHATEVER THE INPUT: true; the input reads as it did. -/
def timersPatienceSpec : ChangeSpec := { name := "timersPatience", fn := fun _ => fun
  | [d1, d2, d3] => { results := [.lit (.bool true)], args := [d1, d2, d3] }
  | _ => none }
def timersPatienceRow : OpenClaim := { program := "ytphcfkfdkaphbaa", sum := "09d7bff7b204ea75983f5ed3b7bc304d6487b0631722da01bb735a03e3b23ce9", func := "flotilla/flotillalaw03.TimersPatience", spec := "timersPatience", apart := false }
def TimersPatienceSaid : Prop := timersPatienceRow.holds Try.pinned (OpenSpec.ofChange timersPatienceSpec)

/-- ITS FALSE NEIGHBOUR: 'it returns false'. Refute it at one input. -/
def timersPatienceWrong : ChangeSpec := { name := "timersPatience", fn := fun _ => fun
  | [d1, d2, d3] => { results := [.lit (.bool false)], args := [d1, d2, d3] }
  | _ => none }
def TimersPatienceWrongFalsely : Prop := timersPatienceRow.holds Try.pinned (OpenSpec.ofChange timersPatienceWrong)

/-- 'flotillalaw03.TimersGrows': WHATEVER THE INPUT: true; the input reads as it did. -/
def timersGrowsSpec : ChangeSpec := { name := "timersGrows", fn := fun _ => fun
  | [d1, d2] => { results := [.lit (.bool true)], args := [d1, d2] }
  | _ => none }
def timersGrowsRow : OpenClaim := { program := "ytphcfkfdkaphbaa", sum := "09d7bff7b204ea75983f5ed3b7bc304d6487b0631722da01bb735a03e3b23ce9", func := "flotilla/flotillalaw03.TimersGrows", spec := "timersGrows", apart := false }
def TimersGrowsSaid : Prop := timersGrowsRow.holds Try.pinned (OpenSpec.ofChange timersGrowsSpec)

/-- ITS FALSE NEIGHBOUR: 'it returns false'. Refute it at one input. -/
def timersGrowsWrong : ChangeSpec := { name := "timersGrows", fn := fun _ => fun
  | [d1, d2] => { results := [.lit (.bool false)], args := [d1, d2] }
  | _ => none }
def TimersGrowsWrongFalsely : Prop := timersGrowsRow.holds Try.pinned (OpenSpec.ofChange timersGrowsWrong)

/- THE SECOND FORM. 'bulk': how many values and letters a reading holds, each counted each time it is reached (what is shared counts as often as it is met; a slice's spare places count too). A statement '..UptoSaid' is the law's where the arguments, and the package variables that the reading takes, are together of bulk at most 1048576: NARROWER than '..Said'. Prove '..Said' where nothing that the law and all that it calls make is longer than what came in: it says more and counts as full. Else prove '..UptoSaid'. A law counts once. -/
mutual
def uptoBulk {H : Type} : DataW H → Nat
  | .lit (.string bytes) => bytes.length + 1
  | .lit _ => 1
  | .nil => 1
  | .ptr d => uptoBulk d + 1
  | .slice elems spare => uptoBulkAll elems + uptoBulkAll spare + 1
  | .agg parts => uptoBulkAll parts + 1
  | .iface _ d => uptoBulk d + 1
  | .map entries => uptoBulkEntries entries + 1
  | .held _ => 1
def uptoBulkAll {H : Type} : List (DataW H) → Nat
  | [] => 0
  | d :: r => uptoBulk d + uptoBulkAll r
def uptoBulkEntries {H : Type} : List (Lit × DataW H) → Nat
  | [] => 0
  | x :: r => uptoBulkEntry x + uptoBulkEntries r
def uptoBulkEntry {H : Type} : Lit × DataW H → Nat
  | (.string bytes, d) => bytes.length + uptoBulk d + 1
  | (_, d) => uptoBulk d + 1
 end
def uptoSmall : (H : Type) → List (DataW H) → Bool := fun _ ds => decide (uptoBulkAll ds ≤ 1048576)
def OpenSpec.upto (s : _root_.Go.ChangeSpec) : _root_.Go.OpenSpec := { _root_.Go.OpenSpec.ofChange s with cond := some uptoSmall }

/-- 'flotillalaw03.TimersScript', WHERE WHAT IT READS IS OF BULK AT MOST 1048576: true; the input reads as it did. -/
def timersScriptUptoRow : OpenClaim := { program := "ytphcfkfdkaphbaa", sum := "09d7bff7b204ea75983f5ed3b7bc304d6487b0631722da01bb735a03e3b23ce9", func := "flotilla/flotillalaw03.TimersScript", spec := "timersScript", inPlace := ["maps.clone"], unfollowed := true, recurses := true, apart := false, narrowed := true }
def TimersScriptUptoSaid : Prop := timersScriptUptoRow.holds Try.pinned (OpenSpec.upto timersScriptSpec)

/-- 'flotillalaw03.TimersNumbers', WHERE WHAT IT READS IS OF BULK AT MOST 1048576: true; the input reads as it did. -/
def timersNumbersUptoRow : OpenClaim := { program := "ytphcfkfdkaphbaa", sum := "09d7bff7b204ea75983f5ed3b7bc304d6487b0631722da01bb735a03e3b23ce9", func := "flotilla/flotillalaw03.TimersNumbers", spec := "timersNumbers", unfollowed := true, recurses := true, apart := false, narrowed := true }
def TimersNumbersUptoSaid : Prop := timersNumbersUptoRow.holds Try.pinned (OpenSpec.upto timersNumbersSpec)

/-- 'flotillalaw03.TimersRuns', WHERE WHAT IT READS IS OF BULK AT MOST 1048576: true; the input reads as it did. -/
def timersRunsUptoRow : OpenClaim := { program := "ytphcfkfdkaphbaa", sum := "09d7bff7b204ea75983f5ed3b7bc304d6487b0631722da01bb735a03e3b23ce9", func := "flotilla/flotillalaw03.TimersRuns", spec := "timersRuns", recurses := true, apart := false, narrowed := true }
def TimersRunsUptoSaid : Prop := timersRunsUptoRow.holds Try.pinned (OpenSpec.upto timersRunsSpec)

/-- 'flotillalaw03.TimersNoName', WHERE WHAT IT READS IS OF BULK AT MOST 1048576: true; the input reads as it did. -/
def timersNoNameUptoRow : OpenClaim := { program := "ytphcfkfdkaphbaa", sum := "09d7bff7b204ea75983f5ed3b7bc304d6487b0631722da01bb735a03e3b23ce9", func := "flotilla/flotillalaw03.TimersNoName", spec := "timersNoName", inPlace := ["math.Float64frombits"], unfollowed := true, recurses := true, apart := false, narrowed := true }
def TimersNoNameUptoSaid : Prop := timersNoNameUptoRow.holds Try.pinned (OpenSpec.upto timersNoNameSpec)

/-- 'flotillalaw03.TimersPatience', WHERE WHAT IT READS IS OF BULK AT MOST 1048576: true; the input reads as it did. -/
def timersPatienceUptoRow : OpenClaim := { program := "ytphcfkfdkaphbaa", sum := "09d7bff7b204ea75983f5ed3b7bc304d6487b0631722da01bb735a03e3b23ce9", func := "flotilla/flotillalaw03.TimersPatience", spec := "timersPatience", apart := false, narrowed := true }
def TimersPatienceUptoSaid : Prop := timersPatienceUptoRow.holds Try.pinned (OpenSpec.upto timersPatienceSpec)

/-- 'flotillalaw03.TimersGrows', WHERE WHAT IT READS IS OF BULK AT MOST 1048576: true; the input reads as it did. -/
def timersGrowsUptoRow : OpenClaim := { program := "ytphcfkfdkaphbaa", sum := "09d7bff7b204ea75983f5ed3b7bc304d6487b0631722da01bb735a03e3b23ce9", func := "flotilla/flotillalaw03.TimersGrows", spec := "timersGrows", apart := false, narrowed := true }
def TimersGrowsUptoSaid : Prop := timersGrowsUptoRow.holds Try.pinned (OpenSpec.upto timersGrowsSpec)

end Rows
end Go.Proofs.Ytphcfkfdkaphbaa
