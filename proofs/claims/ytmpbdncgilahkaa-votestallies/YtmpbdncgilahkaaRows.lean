/-
  No cell of these rows narrows 'for every input' (looked for: loops, veiled, ifaces, maps, wideKeys, modest, calm, conditions, laid).
  DERIVED. THE GIVEN ROWS OF THIS SEAT. 6 by the template 'for every input the law returns true; each argument reads behind the call as it read before'; 0 by the template 'total and deterministic' (their statements: YtmpbdncgilahkaaTotals.lean).
  GIVEN WITH THE SEED: the statements are not yours to turn. If you find one false, say at which input.
  Laid BY PROGRAM, IN A SANDBOX (cutbox-rows.mjs): the forced cells as the released guide's own fill.sh prints them over the translation ed736dbfa9095043… (all of the seat's roots in one cut). By AI agents, Wed Nov 11 2026. No macro, syntax, notation, axiom, sorry.
-/
import Derived.Test.YtmpbdncgilahkaaChecked
import GoSem.Claim
import GoSem.ClaimJoined
import GoSem.ClaimMapViews
import Derived.JoinedTies
import Derived.KernelRfl
namespace Go.Proofs.Ytmpbdncgilahkaa
/- THE CELL 'sum', in the pinned program and in every row, IS THE sha256 OF THE DUMP (.gsa) THAT YtmpbdncgilahkaaProg.lean LOADS. Nothing in Lean hashes anything: it is a label: what it is worth is what the hold of that sum in a sandbox is worth. -/
noncomputable def Try.pinned : Pinned := { name := "ytmpbdncgilahkaa", sum := "ed736dbfa9095043b92f965b89e761c703cc5685551fc5fe21bd250b48d4a0fa", checked := Try.checked }
namespace Rows
def none {H : Type} : Left H := { results := [], args := [] }

/-- 'flotillalaw04.VotesConfigs': WHATEVER THE INPUT: true; the input reads as it did. -/
def votesConfigsSpec : ChangeSpec := { name := "votesConfigs", fn := fun _ => fun
  | [d] => { results := [.lit (.bool true)], args := [d] }
  | _ => none }
def votesConfigsRow : OpenClaim := { program := "ytmpbdncgilahkaa", sum := "ed736dbfa9095043b92f965b89e761c703cc5685551fc5fe21bd250b48d4a0fa", func := "flotilla/flotillalaw04.VotesConfigs", spec := "votesConfigs", unfollowed := true, recurses := true, apart := false }
def VotesConfigsSaid : Prop := votesConfigsRow.holds Try.pinned (OpenSpec.ofChange votesConfigsSpec)

/-- ITS FALSE NEIGHBOUR: 'it returns false'. Refute it at one input. -/
def votesConfigsWrong : ChangeSpec := { name := "votesConfigs", fn := fun _ => fun
  | [d] => { results := [.lit (.bool false)], args := [d] }
  | _ => none }
def VotesConfigsWrongFalsely : Prop := votesConfigsRow.holds Try.pinned (OpenSpec.ofChange votesConfigsWrong)

/-- 'flotillalaw04.VotesNumbers': WHATEVER THE INPUT: true; the input reads as it did. -/
def votesNumbersSpec : ChangeSpec := { name := "votesNumbers", fn := fun _ => fun
  | [d1, d2, d3] => { results := [.lit (.bool true)], args := [d1, d2, d3] }
  | _ => none }
def votesNumbersRow : OpenClaim := { program := "ytmpbdncgilahkaa", sum := "ed736dbfa9095043b92f965b89e761c703cc5685551fc5fe21bd250b48d4a0fa", func := "flotilla/flotillalaw04.VotesNumbers", spec := "votesNumbers", unfollowed := true, recurses := true, apart := false }
def VotesNumbersSaid : Prop := votesNumbersRow.holds Try.pinned (OpenSpec.ofChange votesNumbersSpec)

/-- ITS FALSE NEIGHBOUR: 'it returns false'. Refute it at one input. -/
def votesNumbersWrong : ChangeSpec := { name := "votesNumbers", fn := fun _ => fun
  | [d1, d2, d3] => { results := [.lit (.bool false)], args := [d1, d2, d3] }
  | _ => none }
def VotesNumbersWrongFalsely : Prop := votesNumbersRow.holds Try.pinned (OpenSpec.ofChange votesNumbersWrong)

/-- 'flotillalaw04.VotesMeet': WHATEVER THE INPUT: true; the input reads as it did. -/
def votesMeetSpec : ChangeSpec := { name := "votesMeet", fn := fun _ => fun
  | [d1, d2, d3, d4] => { results := [.lit (.bool true)], args := [d1, d2, d3, d4] }
  | _ => none }
def votesMeetRow : OpenClaim := { program := "ytmpbdncgilahkaa", sum := "ed736dbfa9095043b92f965b89e761c703cc5685551fc5fe21bd250b48d4a0fa", func := "flotilla/flotillalaw04.VotesMeet", spec := "votesMeet", unfollowed := true, recurses := true, apart := false }
def VotesMeetSaid : Prop := votesMeetRow.holds Try.pinned (OpenSpec.ofChange votesMeetSpec)

/-- ITS FALSE NEIGHBOUR: 'it returns false'. Refute it at one input. -/
def votesMeetWrong : ChangeSpec := { name := "votesMeet", fn := fun _ => fun
  | [d1, d2, d3, d4] => { results := [.lit (.bool false)], args := [d1, d2, d3, d4] }
  | _ => none }
def VotesMeetWrongFalsely : Prop := votesMeetRow.holds Try.pinned (OpenSpec.ofChange votesMeetWrong)

/-- 'flotillalaw04.VotesReach': WHATEVER THE INPUT: true; the input reads as it did. -/
def votesReachSpec : ChangeSpec := { name := "votesReach", fn := fun _ => fun
  | [d1, d2, d3, d4] => { results := [.lit (.bool true)], args := [d1, d2, d3, d4] }
  | _ => none }
def votesReachRow : OpenClaim := { program := "ytmpbdncgilahkaa", sum := "ed736dbfa9095043b92f965b89e761c703cc5685551fc5fe21bd250b48d4a0fa", func := "flotilla/flotillalaw04.VotesReach", spec := "votesReach", unfollowed := true, recurses := true, apart := false }
def VotesReachSaid : Prop := votesReachRow.holds Try.pinned (OpenSpec.ofChange votesReachSpec)

/-- ITS FALSE NEIGHBOUR: 'it returns false'. Refute it at one input. -/
def votesReachWrong : ChangeSpec := { name := "votesReach", fn := fun _ => fun
  | [d1, d2, d3, d4] => { results := [.lit (.bool false)], args := [d1, d2, d3, d4] }
  | _ => none }
def VotesReachWrongFalsely : Prop := votesReachRow.holds Try.pinned (OpenSpec.ofChange votesReachWrong)

/-- 'flotillalaw04.VotesTallies': WHATEVER THE INPUT: true; the input reads as it did. -/
def votesTalliesSpec : ChangeSpec := { name := "votesTallies", fn := fun _ => fun
  | [d1, d2] => { results := [.lit (.bool true)], args := [d1, d2] }
  | _ => none }
def votesTalliesRow : OpenClaim := { program := "ytmpbdncgilahkaa", sum := "ed736dbfa9095043b92f965b89e761c703cc5685551fc5fe21bd250b48d4a0fa", func := "flotilla/flotillalaw04.VotesTallies", spec := "votesTallies", unfollowed := true, recurses := true, apart := false }
def VotesTalliesSaid : Prop := votesTalliesRow.holds Try.pinned (OpenSpec.ofChange votesTalliesSpec)

/-- ITS FALSE NEIGHBOUR: 'it returns false'. Refute it at one input. -/
def votesTalliesWrong : ChangeSpec := { name := "votesTallies", fn := fun _ => fun
  | [d1, d2] => { results := [.lit (.bool false)], args := [d1, d2] }
  | _ => none }
def VotesTalliesWrongFalsely : Prop := votesTalliesRow.holds Try.pinned (OpenSpec.ofChange votesTalliesWrong)

/-- 'flotillalaw04.VotesNames': WHATEVER THE INPUT: true; the input reads as it did. -/
def votesNamesSpec : ChangeSpec := { name := "votesNames", fn := fun _ => fun
  | [] => { results := [.lit (.bool true)], args := [] }
  | _ => none }
def votesNamesRow : OpenClaim := { program := "ytmpbdncgilahkaa", sum := "ed736dbfa9095043b92f965b89e761c703cc5685551fc5fe21bd250b48d4a0fa", func := "flotilla/flotillalaw04.VotesNames", spec := "votesNames", unfollowed := true, recurses := true, apart := false }
def VotesNamesSaid : Prop := votesNamesRow.holds Try.pinned (OpenSpec.ofChange votesNamesSpec)

/-- ITS FALSE NEIGHBOUR: 'it returns false'. Refute it at one input. -/
def votesNamesWrong : ChangeSpec := { name := "votesNames", fn := fun _ => fun
  | [] => { results := [.lit (.bool false)], args := [] }
  | _ => none }
def VotesNamesWrongFalsely : Prop := votesNamesRow.holds Try.pinned (OpenSpec.ofChange votesNamesWrong)

/- THE SECOND FORM. 'bulk': how many values and letters a reading holds, each counted each time it is reached (what is shared counts as often as it is met; a slice's spare places count too). A statement '..UptoSaid' is the law's where the arguments, and the package variables that the reading takes, are together of bulk at most 1048576: NARROWER than '..Said'. Prove '..Said' where nothing that the law and all that it calls make is longer than what came in: it says more and counts as full. Else prove '..UptoSaid'. A law counts once. -/
mutual
def uptoBulk {H : Type} : DataW H → Nat
  | .lit (.string bytes) => bytes.length + 1
  | .lit _ => 1
  | .nil => 1
  | .ptr d => uptoBulk d + 1
  | .slice elems spare => uptoBulkAll elems + uptoBulkAll spare + 1
  | .agg parts => uptoBulkAll parts + 1
  | .iface _ d => uptoBulk d + 1
  | .map entries => uptoBulkEntries entries + 1
  | .held _ => 1
def uptoBulkAll {H : Type} : List (DataW H) → Nat
  | [] => 0
  | d :: r => uptoBulk d + uptoBulkAll r
def uptoBulkEntries {H : Type} : List (Lit × DataW H) → Nat
  | [] => 0
  | x :: r => uptoBulkEntry x + uptoBulkEntries r
def uptoBulkEntry {H : Type} : Lit × DataW H → Nat
  | (.string bytes, d) => bytes.length + uptoBulk d + 1
  | (_, d) => uptoBulk d + 1
 end
def uptoSmall : (H : Type) → List (DataW H) → Bool := fun _ ds => decide (uptoBulkAll ds ≤ 1048576)
def OpenSpec.upto (s : _root_.Go.ChangeSpec) : _root_.Go.OpenSpec := { _root_.Go.OpenSpec.ofChange s with cond := some uptoSmall }

/-- 'flotillalaw04.VotesConfigs', WHERE WHAT IT READS IS OF BULK AT MOST 1048576: true; the input reads as it did. -/
def votesConfigsUptoRow : OpenClaim := { program := "ytmpbdncgilahkaa", sum := "ed736dbfa9095043b92f965b89e761c703cc5685551fc5fe21bd250b48d4a0fa", func := "flotilla/flotillalaw04.VotesConfigs", spec := "votesConfigs", unfollowed := true, recurses := true, apart := false, narrowed := true }
def VotesConfigsUptoSaid : Prop := votesConfigsUptoRow.holds Try.pinned (OpenSpec.upto votesConfigsSpec)

/-- 'flotillalaw04.VotesNumbers', WHERE WHAT IT READS IS OF BULK AT MOST 1048576: true; the input reads as it did. -/
def votesNumbersUptoRow : OpenClaim := { program := "ytmpbdncgilahkaa", sum := "ed736dbfa9095043b92f965b89e761c703cc5685551fc5fe21bd250b48d4a0fa", func := "flotilla/flotillalaw04.VotesNumbers", spec := "votesNumbers", unfollowed := true, recurses := true, apart := false, narrowed := true }
def VotesNumbersUptoSaid : Prop := votesNumbersUptoRow.holds Try.pinned (OpenSpec.upto votesNumbersSpec)

/-- 'flotillalaw04.VotesMeet', WHERE WHAT IT READS IS OF BULK AT MOST 1048576: true; the input reads as it did. -/
def votesMeetUptoRow : OpenClaim := { program := "ytmpbdncgilahkaa", sum := "ed736dbfa9095043b92f965b89e761c703cc5685551fc5fe21bd250b48d4a0fa", func := "flotilla/flotillalaw04.VotesMeet", spec := "votesMeet", unfollowed := true, recurses := true, apart := false, narrowed := true }
def VotesMeetUptoSaid : Prop := votesMeetUptoRow.holds Try.pinned (OpenSpec.upto votesMeetSpec)

/-- 'flotillalaw04.VotesReach', WHERE WHAT IT READS IS OF BULK AT MOST 1048576: true; the input reads as it did. -/
def votesReachUptoRow : OpenClaim := { program := "ytmpbdncgilahkaa", sum := "ed736dbfa9095043b92f965b89e761c703cc5685551fc5fe21bd250b48d4a0fa", func := "flotilla/flotillalaw04.VotesReach", spec := "votesReach", unfollowed := true, recurses := true, apart := false, narrowed := true }
def VotesReachUptoSaid : Prop := votesReachUptoRow.holds Try.pinned (OpenSpec.upto votesReachSpec)

/-- 'flotillalaw04.VotesTallies', WHERE WHAT IT READS IS OF BULK AT MOST 1048576: true; the input reads as it did. -/
def votesTalliesUptoRow : OpenClaim := { program := "ytmpbdncgilahkaa", sum := "ed736dbfa9095043b92f965b89e761c703cc5685551fc5fe21bd250b48d4a0fa", func := "flotilla/flotillalaw04.VotesTallies", spec := "votesTallies", unfollowed := true, recurses := true, apart := false, narrowed := true }
def VotesTalliesUptoSaid : Prop := votesTalliesUptoRow.holds Try.pinned (OpenSpec.upto votesTalliesSpec)

/-- 'flotillalaw04.VotesNames', WHERE WHAT IT READS IS OF BULK AT MOST 1048576: true; the input reads as it did. -/
def votesNamesUptoRow : OpenClaim := { program := "ytmpbdncgilahkaa", sum := "ed736dbfa9095043b92f965b89e761c703cc5685551fc5fe21bd250b48d4a0fa", func := "flotilla/flotillalaw04.VotesNames", spec := "votesNames", unfollowed := true, recurses := true, apart := false, narrowed := true }
def VotesNamesUptoSaid : Prop := votesNamesUptoRow.holds Try.pinned (OpenSpec.upto votesNamesSpec)

end Rows
end Go.Proofs.Ytmpbdncgilahkaa
