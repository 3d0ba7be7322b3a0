/-
  No cell of these rows narrows 'for every input' (looked for: loops, veiled, ifaces, maps, wideKeys, modest, calm, conditions, laid).
  DERIVED. THE GIVEN ROWS OF THIS SEAT. 4 by the template 'for every input the law returns true; each argument reads behind the call as it read before'; 0 by the template 'total and deterministic' (their statements: YtagdpfghooogfaaTotals.lean).
  GIVEN WITH THE SEED: the statements are not yours to turn. If you find one false, say at which input.
  Laid BY PROGRAM, IN A SANDBOX (cutbox-rows.mjs): the forced cells as the released guide's own fill.sh prints them over the translation c6d3d788deda207e… (all of the seat's roots in one cut). By AI agents, Wed Nov 11 2026. No macro, syntax, notation, axiom, sorry.
-/
import Derived.Test.YtagdpfghooogfaaChecked
import GoSem.Claim
import GoSem.ClaimJoined
import GoSem.ClaimMapViews
import Derived.JoinedTies
import Derived.KernelRfl
namespace Go.Proofs.Ytagdpfghooogfaa
/- THE CELL 'sum', in the pinned program and in every row, IS THE sha256 OF THE DUMP (.gsa) THAT YtagdpfghooogfaaProg.lean LOADS. Nothing in Lean hashes anything: it is a label: what it is worth is what the hold of that sum in a sandbox is worth. -/
noncomputable def Try.pinned : Pinned := { name := "ytagdpfghooogfaa", sum := "c6d3d788deda207e868af8057155cfe4ec36a9657212ed8f913b57f0feb7deab", checked := Try.checked }
namespace Rows
def none {H : Type} : Left H := { results := [], args := [] }

/-- 'flotillalaw07.RollPlays': WHATEVER THE INPUT: true; the input reads as it did. -/
def rollPlaysSpec : ChangeSpec := { name := "rollPlays", fn := fun _ => fun
  | [d] => { results := [.lit (.bool true)], args := [d] }
  | _ => none }
def rollPlaysRow : OpenClaim := { program := "ytagdpfghooogfaa", sum := "c6d3d788deda207e868af8057155cfe4ec36a9657212ed8f913b57f0feb7deab", func := "flotilla/flotillalaw07.RollPlays", spec := "rollPlays", apart := false }
def RollPlaysSaid : Prop := rollPlaysRow.holds Try.pinned (OpenSpec.ofChange rollPlaysSpec)

/-- ITS FALSE NEIGHBOUR: 'it returns false'. Refute it at one input. -/
def rollPlaysWrong : ChangeSpec := { name := "rollPlays", fn := fun _ => fun
  | [d] => { results := [.lit (.bool false)], args := [d] }
  | _ => none }
def RollPlaysWrongFalsely : Prop := rollPlaysRow.holds Try.pinned (OpenSpec.ofChange rollPlaysWrong)

/-- 'flotillalaw07.RollLoads': WHATEVER THE INPUT: true; the input reads as it did. -/
def rollLoadsSpec : ChangeSpec := { name := "rollLoads", fn := fun _ => fun
  | [d] => { results := [.lit (.bool true)], args := [d] }
  | _ => none }
def rollLoadsRow : OpenClaim := { program := "ytagdpfghooogfaa", sum := "c6d3d788deda207e868af8057155cfe4ec36a9657212ed8f913b57f0feb7deab", func := "flotilla/flotillalaw07.RollLoads", spec := "rollLoads", apart := false }
def RollLoadsSaid : Prop := rollLoadsRow.holds Try.pinned (OpenSpec.ofChange rollLoadsSpec)

/-- ITS FALSE NEIGHBOUR: 'it returns false'. Refute it at one input. -/
def rollLoadsWrong : ChangeSpec := { name := "rollLoads", fn := fun _ => fun
  | [d] => { results := [.lit (.bool false)], args := [d] }
  | _ => none }
def RollLoadsWrongFalsely : Prop := rollLoadsRow.holds Try.pinned (OpenSpec.ofChange rollLoadsWrong)

/-- 'flotillalaw07.RollRises': WHATEVER THE INPUT: true; the input reads as it did. -/
def rollRisesSpec : ChangeSpec := { name := "rollRises", fn := fun _ => fun
  | [d1, d2] => { results := [.lit (.bool true)], args := [d1, d2] }
  | _ => none }
def rollRisesRow : OpenClaim := { program := "ytagdpfghooogfaa", sum := "c6d3d788deda207e868af8057155cfe4ec36a9657212ed8f913b57f0feb7deab", func := "flotilla/flotillalaw07.RollRises", spec := "rollRises", apart := false }
def RollRisesSaid : Prop := rollRisesRow.holds Try.pinned (OpenSpec.ofChange rollRisesSpec)

/-- ITS FALSE NEIGHBOUR: 'it returns false'. Refute it at one input. -/
def rollRisesWrong : ChangeSpec := { name := "rollRises", fn := fun _ => fun
  | [d1, d2] => { results := [.lit (.bool false)], args := [d1, d2] }
  | _ => none }
def RollRisesWrongFalsely : Prop := rollRisesRow.holds Try.pinned (OpenSpec.ofChange rollRisesWrong)

/-- 'flotillalaw07.RollNames': WHATEVER THE INPUT: true; the input reads as it did. -/
def rollNamesSpec : ChangeSpec := { name := "rollNames", fn := fun _ => fun
  | [] => { results := [.lit (.bool true)], args := [] }
  | _ => none }
def rollNamesRow : OpenClaim := { program := "ytagdpfghooogfaa", sum := "c6d3d788deda207e868af8057155cfe4ec36a9657212ed8f913b57f0feb7deab", func := "flotilla/flotillalaw07.RollNames", spec := "rollNames", apart := false }
def RollNamesSaid : Prop := rollNamesRow.holds Try.pinned (OpenSpec.ofChange rollNamesSpec)

/-- ITS FALSE NEIGHBOUR: 'it returns false'. Refute it at one input. -/
def rollNamesWrong : ChangeSpec := { name := "rollNames", fn := fun _ => fun
  | [] => { results := [.lit (.bool false)], args := [] }
  | _ => none }
def RollNamesWrongFalsely : Prop := rollNamesRow.holds Try.pinned (OpenSpec.ofChange rollNamesWrong)

/- THE SECOND FORM. 'bulk': how many values and letters a reading holds, each counted each time it is reached (what is shared counts as often as it is met; a slice's spare places count too). A statement '..UptoSaid' is the law's where the arguments, and the package variables that the reading takes, are together of bulk at most 1048576: NARROWER than '..Said'. Prove '..Said' where nothing that the law and all that it calls make is longer than what came in: it says more and counts as full. Else prove '..UptoSaid'. A law counts once. -/
mutual
def uptoBulk {H : Type} : DataW H → Nat
  | .lit (.string bytes) => bytes.length + 1
  | .lit _ => 1
  | .nil => 1
  | .ptr d => uptoBulk d + 1
  | .slice elems spare => uptoBulkAll elems + uptoBulkAll spare + 1
  | .agg parts => uptoBulkAll parts + 1
  | .iface _ d => uptoBulk d + 1
  | .map entries => uptoBulkEntries entries + 1
  | .held _ => 1
def uptoBulkAll {H : Type} : List (DataW H) → Nat
  | [] => 0
  | d :: r => uptoBulk d + uptoBulkAll r
def uptoBulkEntries {H : Type} : List (Lit × DataW H) → Nat
  | [] => 0
  | x :: r => uptoBulkEntry x + uptoBulkEntries r
def uptoBulkEntry {H : Type} : Lit × DataW H → Nat
  | (.string bytes, d) => bytes.length + uptoBulk d + 1
  | (_, d) => uptoBulk d + 1
 end
def uptoSmall : (H : Type) → List (DataW H) → Bool := fun _ ds => decide (uptoBulkAll ds ≤ 1048576)
def OpenSpec.upto (s : _root_.Go.ChangeSpec) : _root_.Go.OpenSpec := { _root_.Go.OpenSpec.ofChange s with cond := some uptoSmall }

/-- 'flotillalaw07.RollPlays', WHERE WHAT IT READS IS OF BULK AT MOST 1048576: true; the input reads as it did. -/
def rollPlaysUptoRow : OpenClaim := { program := "ytagdpfghooogfaa", sum := "c6d3d788deda207e868af8057155cfe4ec36a9657212ed8f913b57f0feb7deab", func := "flotilla/flotillalaw07.RollPlays", spec := "rollPlays", apart := false, narrowed := true }
def RollPlaysUptoSaid : Prop := rollPlaysUptoRow.holds Try.pinned (OpenSpec.upto rollPlaysSpec)

/-- 'flotillalaw07.RollLoads', WHERE WHAT IT READS IS OF BULK AT MOST 1048576: true; the input reads as it did. -/
def rollLoadsUptoRow : OpenClaim := { program := "ytagdpfghooogfaa", sum := "c6d3d788deda207e868af8057155cfe4ec36a9657212ed8f913b57f0feb7deab", func := "flotilla/flotillalaw07.RollLoads", spec := "rollLoads", apart := false, narrowed := true }
def RollLoadsUptoSaid : Prop := rollLoadsUptoRow.holds Try.pinned (OpenSpec.upto rollLoadsSpec)

/-- 'flotillalaw07.RollRises', WHERE WHAT IT READS IS OF BULK AT MOST 1048576: true; the input reads as it did. -/
def rollRisesUptoRow : OpenClaim := { program := "ytagdpfghooogfaa", sum := "c6d3d788deda207e868af8057155cfe4ec36a9657212ed8f913b57f0feb7deab", func := "flotilla/flotillalaw07.RollRises", spec := "rollRises", apart := false, narrowed := true }
def RollRisesUptoSaid : Prop := rollRisesUptoRow.holds Try.pinned (OpenSpec.upto rollRisesSpec)

/-- 'flotillalaw07.RollNames', WHERE WHAT IT READS IS OF BULK AT MOST 1048576: true; the input reads as it did. -/
def rollNamesUptoRow : OpenClaim := { program := "ytagdpfghooogfaa", sum := "c6d3d788deda207e868af8057155cfe4ec36a9657212ed8f913b57f0feb7deab", func := "flotilla/flotillalaw07.RollNames", spec := "rollNames", apart := false, narrowed := true }
def RollNamesUptoSaid : Prop := rollNamesUptoRow.holds Try.pinned (OpenSpec.upto rollNamesSpec)

end Rows
end Go.Proofs.Ytagdpfghooogfaa
