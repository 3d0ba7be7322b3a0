import Derived.Test.YtblojlaifnmimaaGreatDoorSx
namespace Go.Proofs.YtblojlaifnmimaaGreatDoor
open Go.RowKit
set_option linter.unusedVariables false

set_option maxRecDepth 1000000 in
theorem names_law {w : World} (E : En w) : Calls Tryz.prog 7 #[] w fun e w' => e = .returned (.bool true) ∧ Below w.heap.size w w' := by
  have Q := hid (shown_any (All.came w) (fun W h => E.later (h.into (by simp))))
  clear E
  go_enter Tryz.func7, Tryz.ntmps7
  go_wp2_with (go_at_call 8; refine Q.out.mono ?_; rintro e w1 ⟨rfl, A1⟩; have fin := hid (A1.into (w0 := w) (by simp)); clear A1)
  go_ret
  exact ⟨rfl, fin.out⟩
end Go.Proofs.YtblojlaifnmimaaGreatDoor
