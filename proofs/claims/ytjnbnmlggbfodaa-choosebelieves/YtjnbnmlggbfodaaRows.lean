/-
  No cell of these rows narrows 'for every input' (looked for: loops, veiled, ifaces, maps, wideKeys, modest, calm, conditions, laid).
  DERIVED. THE GIVEN ROWS OF THIS SEAT. 5 by the template 'for every input the law returns true; each argument reads behind the call as it read before'; 0 by the template 'total and deterministic' (their statements: YtjnbnmlggbfodaaTotals.lean).
  GIVEN WITH THE SEED: the statements are not yours to turn. If you find one false, say at which input.
  Laid BY PROGRAM, IN A SANDBOX (cutbox-rows.mjs): the forced cells as the released guide's own fill.sh prints them over the translation f0f63cc198898a57… (all of the seat's roots in one cut). By AI agents, Wed Nov 11 2026. No macro, syntax, notation, axiom, sorry.
-/
import Derived.Test.YtjnbnmlggbfodaaChecked
import GoSem.Claim
import GoSem.ClaimJoined
import GoSem.ClaimMapViews
import Derived.JoinedTies
import Derived.KernelRfl
namespace Go.Proofs.Ytjnbnmlggbfodaa
/- THE CELL 'sum', in the pinned program and in every row, IS THE sha256 OF THE DUMP (.gsa) THAT YtjnbnmlggbfodaaProg.lean LOADS. Nothing in Lean hashes anything: it is a label: what it is worth is what the hold of that sum in a sandbox is worth. -/
noncomputable def Try.pinned : Pinned := { name := "ytjnbnmlggbfodaa", sum := "f0f63cc198898a57332cc5cc6c72cad630824a8235aec1eefd0732c0938f464b", checked := Try.checked }
namespace Rows
def none {H : Type} : Left H := { results := [], args := [] }

/-- 'flotillalaw12.ChooseBest': WHATEVER THE INPUT: true; the input reads as it did. -/
def chooseBestSpec : ChangeSpec := { name := "chooseBest", fn := fun _ => fun
  | [d1, d2] => { results := [.lit (.bool true)], args := [d1, d2] }
  | _ => none }
def chooseBestRow : OpenClaim := { program := "ytjnbnmlggbfodaa", sum := "f0f63cc198898a57332cc5cc6c72cad630824a8235aec1eefd0732c0938f464b", func := "flotilla/flotillalaw12.ChooseBest", spec := "chooseBest", unfollowed := true, recurses := true, apart := false }
def ChooseBestSaid : Prop := chooseBestRow.holds Try.pinned (OpenSpec.ofChange chooseBestSpec)

/-- ITS FALSE NEIGHBOUR: 'it returns false'. Refute it at one input. -/
def chooseBestWrong : ChangeSpec := { name := "chooseBest", fn := fun _ => fun
  | [d1, d2] => { results := [.lit (.bool false)], args := [d1, d2] }
  | _ => none }
def ChooseBestWrongFalsely : Prop := chooseBestRow.holds Try.pinned (OpenSpec.ofChange chooseBestWrong)

/-- 'flotillalaw12.ChooseReady': WHATEVER THE INPUT: true; the input reads as it did. -/
def chooseReadySpec : ChangeSpec := { name := "chooseReady", fn := fun _ => fun
  | [d1, d2, d3, d4] => { results := [.lit (.bool true)], args := [d1, d2, d3, d4] }
  | _ => none }
def chooseReadyRow : OpenClaim := { program := "ytjnbnmlggbfodaa", sum := "f0f63cc198898a57332cc5cc6c72cad630824a8235aec1eefd0732c0938f464b", func := "flotilla/flotillalaw12.ChooseReady", spec := "chooseReady", unfollowed := true, recurses := true, apart := false }
def ChooseReadySaid : Prop := chooseReadyRow.holds Try.pinned (OpenSpec.ofChange chooseReadySpec)

/-- ITS FALSE NEIGHBOUR: 'it returns false'. Refute it at one input. -/
def chooseReadyWrong : ChangeSpec := { name := "chooseReady", fn := fun _ => fun
  | [d1, d2, d3, d4] => { results := [.lit (.bool false)], args := [d1, d2, d3, d4] }
  | _ => none }
def ChooseReadyWrongFalsely : Prop := chooseReadyRow.holds Try.pinned (OpenSpec.ofChange chooseReadyWrong)

/-- 'flotillalaw12.ChooseKeeps': WHATEVER THE INPUT: true; the input reads as it did. -/
def chooseKeepsSpec : ChangeSpec := { name := "chooseKeeps", fn := fun _ => fun
  | [d1, d2, d3, d4, d5] => { results := [.lit (.bool true)], args := [d1, d2, d3, d4, d5] }
  | _ => none }
def chooseKeepsRow : OpenClaim := { program := "ytjnbnmlggbfodaa", sum := "f0f63cc198898a57332cc5cc6c72cad630824a8235aec1eefd0732c0938f464b", func := "flotilla/flotillalaw12.ChooseKeeps", spec := "chooseKeeps", unfollowed := true, recurses := true, apart := false }
def ChooseKeepsSaid : Prop := chooseKeepsRow.holds Try.pinned (OpenSpec.ofChange chooseKeepsSpec)

/-- ITS FALSE NEIGHBOUR: 'it returns false'. Refute it at one input. -/
def chooseKeepsWrong : ChangeSpec := { name := "chooseKeeps", fn := fun _ => fun
  | [d1, d2, d3, d4, d5] => { results := [.lit (.bool false)], args := [d1, d2, d3, d4, d5] }
  | _ => none }
def ChooseKeepsWrongFalsely : Prop := chooseKeepsRow.holds Try.pinned (OpenSpec.ofChange chooseKeepsWrong)

/-- 'flotillalaw12.ChooseTurned': WHATEVER THE INPUT: true; the input reads as it did. -/
def chooseTurnedSpec : ChangeSpec := { name := "chooseTurned", fn := fun _ => fun
  | [d1, d2, d3, d4, d5, d6] => { results := [.lit (.bool true)], args := [d1, d2, d3, d4, d5, d6] }
  | _ => none }
def chooseTurnedRow : OpenClaim := { program := "ytjnbnmlggbfodaa", sum := "f0f63cc198898a57332cc5cc6c72cad630824a8235aec1eefd0732c0938f464b", func := "flotilla/flotillalaw12.ChooseTurned", spec := "chooseTurned", unfollowed := true, recurses := true, apart := false }
def ChooseTurnedSaid : Prop := chooseTurnedRow.holds Try.pinned (OpenSpec.ofChange chooseTurnedSpec)

/-- ITS FALSE NEIGHBOUR: 'it returns false'. Refute it at one input. -/
def chooseTurnedWrong : ChangeSpec := { name := "chooseTurned", fn := fun _ => fun
  | [d1, d2, d3, d4, d5, d6] => { results := [.lit (.bool false)], args := [d1, d2, d3, d4, d5, d6] }
  | _ => none }
def ChooseTurnedWrongFalsely : Prop := chooseTurnedRow.holds Try.pinned (OpenSpec.ofChange chooseTurnedWrong)

/-- 'flotillalaw12.ChooseBelieves': WHATEVER THE INPUT: true; the input reads as it did. -/
def chooseBelievesSpec : ChangeSpec := { name := "chooseBelieves", fn := fun _ => fun
  | [d1, d2, d3, d4] => { results := [.lit (.bool true)], args := [d1, d2, d3, d4] }
  | _ => none }
def chooseBelievesRow : OpenClaim := { program := "ytjnbnmlggbfodaa", sum := "f0f63cc198898a57332cc5cc6c72cad630824a8235aec1eefd0732c0938f464b", func := "flotilla/flotillalaw12.ChooseBelieves", spec := "chooseBelieves", unfollowed := true, recurses := true, apart := false }
def ChooseBelievesSaid : Prop := chooseBelievesRow.holds Try.pinned (OpenSpec.ofChange chooseBelievesSpec)

/-- ITS FALSE NEIGHBOUR: 'it returns false'. Refute it at one input. -/
def chooseBelievesWrong : ChangeSpec := { name := "chooseBelieves", fn := fun _ => fun
  | [d1, d2, d3, d4] => { results := [.lit (.bool false)], args := [d1, d2, d3, d4] }
  | _ => none }
def ChooseBelievesWrongFalsely : Prop := chooseBelievesRow.holds Try.pinned (OpenSpec.ofChange chooseBelievesWrong)

/- THE SECOND FORM. 'bulk': how many values and letters a reading holds, each counted each time it is reached (what is shared counts as often as it is met; a slice's spare places count too). A statement '..UptoSaid' is the law's where the arguments, and the package variables that the reading takes, are together of bulk at most 1048576: NARROWER than '..Said'. Prove '..Said' where nothing that the law and all that it calls make is longer than what came in: it says more and counts as full. Else prove '..UptoSaid'. A law counts once. -/
mutual
def uptoBulk {H : Type} : DataW H → Nat
  | .lit (.string bytes) => bytes.length + 1
  | .lit _ => 1
  | .nil => 1
  | .ptr d => uptoBulk d + 1
  | .slice elems spare => uptoBulkAll elems + uptoBulkAll spare + 1
  | .agg parts => uptoBulkAll parts + 1
  | .iface _ d => uptoBulk d + 1
  | .map entries => uptoBulkEntries entries + 1
  | .held _ => 1
def uptoBulkAll {H : Type} : List (DataW H) → Nat
  | [] => 0
  | d :: r => uptoBulk d + uptoBulkAll r
def uptoBulkEntries {H : Type} : List (Lit × DataW H) → Nat
  | [] => 0
  | x :: r => uptoBulkEntry x + uptoBulkEntries r
def uptoBulkEntry {H : Type} : Lit × DataW H → Nat
  | (.string bytes, d) => bytes.length + uptoBulk d + 1
  | (_, d) => uptoBulk d + 1
 end
def uptoSmall : (H : Type) → List (DataW H) → Bool := fun _ ds => decide (uptoBulkAll ds ≤ 1048576)
def OpenSpec.upto (s : _root_.Go.ChangeSpec) : _root_.Go.OpenSpec := { _root_.Go.OpenSpec.ofChange s with cond := some uptoSmall }

/-- 'flotillalaw12.ChooseBest', WHERE WHAT IT READS IS OF BULK AT MOST 1048576: true; the input reads as it did. -/
def chooseBestUptoRow : OpenClaim := { program := "ytjnbnmlggbfodaa", sum := "f0f63cc198898a57332cc5cc6c72cad630824a8235aec1eefd0732c0938f464b", func := "flotilla/flotillalaw12.ChooseBest", spec := "chooseBest", unfollowed := true, recurses := true, apart := false, narrowed := true }
def ChooseBestUptoSaid : Prop := chooseBestUptoRow.holds Try.pinned (OpenSpec.upto chooseBestSpec)

/-- 'flotillalaw12.ChooseReady', WHERE WHAT IT READS IS OF BULK AT MOST 1048576: true; the input reads as it did. -/
def chooseReadyUptoRow : OpenClaim := { program := "ytjnbnmlggbfodaa", sum := "f0f63cc198898a57332cc5cc6c72cad630824a8235aec1eefd0732c0938f464b", func := "flotilla/flotillalaw12.ChooseReady", spec := "chooseReady", unfollowed := true, recurses := true, apart := false, narrowed := true }
def ChooseReadyUptoSaid : Prop := chooseReadyUptoRow.holds Try.pinned (OpenSpec.upto chooseReadySpec)

/-- 'flotillalaw12.ChooseKeeps', WHERE WHAT IT READS IS OF BULK AT MOST 1048576: true; the input reads as it did. -/
def chooseKeepsUptoRow : OpenClaim := { program := "ytjnbnmlggbfodaa", sum := "f0f63cc198898a57332cc5cc6c72cad630824a8235aec1eefd0732c0938f464b", func := "flotilla/flotillalaw12.ChooseKeeps", spec := "chooseKeeps", unfollowed := true, recurses := true, apart := false, narrowed := true }
def ChooseKeepsUptoSaid : Prop := chooseKeepsUptoRow.holds Try.pinned (OpenSpec.upto chooseKeepsSpec)

/-- 'flotillalaw12.ChooseTurned', WHERE WHAT IT READS IS OF BULK AT MOST 1048576: true; the input reads as it did. -/
def chooseTurnedUptoRow : OpenClaim := { program := "ytjnbnmlggbfodaa", sum := "f0f63cc198898a57332cc5cc6c72cad630824a8235aec1eefd0732c0938f464b", func := "flotilla/flotillalaw12.ChooseTurned", spec := "chooseTurned", unfollowed := true, recurses := true, apart := false, narrowed := true }
def ChooseTurnedUptoSaid : Prop := chooseTurnedUptoRow.holds Try.pinned (OpenSpec.upto chooseTurnedSpec)

/-- 'flotillalaw12.ChooseBelieves', WHERE WHAT IT READS IS OF BULK AT MOST 1048576: true; the input reads as it did. -/
def chooseBelievesUptoRow : OpenClaim := { program := "ytjnbnmlggbfodaa", sum := "f0f63cc198898a57332cc5cc6c72cad630824a8235aec1eefd0732c0938f464b", func := "flotilla/flotillalaw12.ChooseBelieves", spec := "chooseBelieves", unfollowed := true, recurses := true, apart := false, narrowed := true }
def ChooseBelievesUptoSaid : Prop := chooseBelievesUptoRow.holds Try.pinned (OpenSpec.upto chooseBelievesSpec)

end Rows
end Go.Proofs.Ytjnbnmlggbfodaa
