import Derived.Test.YtdhkdniddjnigaaGreatDoorPx11
namespace Go.Proofs.YtdhkdniddjnigaaGreatDoor
open Go.RowKit
set_option linter.unusedVariables false

theorem res15 {tmps : Array Value} {w : World} {b : Nat} {C : Array Value} {e : Value} (ht : tmps.getD 4 undef = .pointer (some ⟨b, 0, none⟩)) (h5 : tmps.getD 5 undef = e) (h : w.heap[b]? = some (.cells C 97 (0, 0))) (hi : (Tryz.prog.info? 97).map (·.size) = some C.size) : (results Tryz.f36 tmps).run Tryz.prog w = .ok (.tuple #[.agg C, e]) w := by
  have hp' : tmps[4]?.getD undef = .pointer (some ⟨b, 0, none⟩) := by simpa using ht
  have hp5 : tmps[5]?.getD undef = e := by simpa using h5
  have hres : Tryz.f36.results = #[.cell 4 97, .tmp 5] := rfl
  simp [results, hp', hp5, asAddr, run_loadVar_row w b 97 97 C (0, 0) _ h Tryz.underlying97 rfl hi]
end Go.Proofs.YtdhkdniddjnigaaGreatDoor
