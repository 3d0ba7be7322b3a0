import Derived.Test.YtdhkdniddjnigaaGreatDoorPx12
import Derived.Test.YtdhkdniddjnigaaGreatDoorPx9nn
import Derived.Test.YtdhkdniddjnigaaGreatDoorPx9rn
namespace Go.Proofs.YtdhkdniddjnigaaGreatDoor
open Go.RowKit
set_option linter.unusedVariables false

/-- The example's reply. -/
def rpM : Ms := ⟨2, 2, 1, 5, 7, 0, 0, 0, 1, false, 0, ⟨#[]⟩, ⟨#[]⟩, 0, 0, 0, 0, none, 0, 0, none, 0, 0, 0, 0, none, 0, 0, none, 0, 0⟩
theorem rp_ml (W : World) : Ml W rpM [] [] [] [] :=
  ⟨⟨none, 0, rfl, Nat.le_refl _, Or.inl rfl⟩, fun i x hx => by simp at hx, fun i x hx => by simp at hx, fun i x hx => by simp at hx, rfl, rfl, rfl, rfl, by decide, by decide, by decide, by decide⟩
set_option maxRecDepth 100000 in
theorem rp_chk : chkM 3 rpM (fldE rpM.k.toNat rpM.h (rpM.may [] [] [] []) rpM.nil) = 0 := by decide +kernel
theorem rp_check {W : World} (hT : Tab W) (hF : Fld W) : Calls Tryz.prog 56 #[.int .i64 3, .agg rpM.cells.toArray] W fun e w' => e = .returned (.int .i64 0) ∧ Below W.heap.size W w' := by
  have := checkM_any (w := W) 3 (by decide) (by decide) rpM _ (fun hk W' b hW hM => fields34 (hT.below hW) (hF.below hW) hM (rp_ml W') (k := rpM.k.toNat) (by decide) (by decide))
  rw [rp_chk] at this
  exact this
theorem ms_form {v : Value} {l : List Ms} {cs : List Comp} {w : World} (h : All (msC v l :: cs) w) : ∃ ao cap, v = .slice ao l.length cap := owns_form h.1.2.1
end Go.Proofs.YtdhkdniddjnigaaGreatDoor
