import Derived.Test.YtkcepkehgkkkbabDoorJ5
namespace Go.Proofs.YtkcepkehgkkkbabDoor
open Go.RowKit
set_option linter.unusedVariables false

theorem unfold_odd (n : Nat) (hn : n < 18446744073709551616) (h0 : n % 2 = 1) : wrap64 (bits BinOp.xor IntKind.u64 IntKind.u64.max ((n : Int) / 2)) = unfoldN n := by
  have e0 : IntKind.u64.max = 18446744073709551615 := by decide
  rw [e0, u64_xor _ _ (by omega) (by omega) (by omega) (by omega)]
  have e1 : (18446744073709551615 : Int).toNat = 2 ^ 64 - 1 := by decide
  have e2 : ((n : Int) / 2).toNat < 2 ^ 64 := by omega
  rw [e1, xor_ones _ e2]
  unfold unfoldN wrap64
  rw [if_pos h0]
  omega

/-- What Signed reads. -/
def signedR (rs : List UInt8) : Int × Nat × Int := (unfoldN (look 10 1 0 rs 0).1, (look 10 1 0 rs 0).2.1, (look 10 1 0 rs 0).2.2)

theorem signedR_size (rs : List UInt8) : (signedR rs).2.1 ≤ rs.length := by
  have h := (look_bound 10 1 (by omega) (by omega) (by omega) rs 0 0 (by omega) (by simp)).2.2.1
  unfold signedR
  simp only
  omega

set_option maxHeartbeats 800000 in
set_option maxRecDepth 1000000 in
theorem NewWriter_any (w : World) :
    Calls Tryd.prog 29 #[] w fun e w' => e = .returned (.pointer (some ⟨w.heap.size, 0, none⟩)) ∧ Wst w' w.heap.size (.slice none 0 0) (some []) ∧ Below w.heap.size w w' := by
  go_enter Tryd.func29, Tryd.ntmps29
  go_wp2
  go_ret
  exact ⟨rfl, ⟨alloc_new_at _ _, World.ownsRow_nil _ _ _ _⟩, (Below.refl _ _).alloc (Nat.le_refl _) _⟩

end Go.Proofs.YtkcepkehgkkkbabDoor
