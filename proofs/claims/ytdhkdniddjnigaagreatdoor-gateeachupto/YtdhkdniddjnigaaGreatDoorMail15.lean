import Derived.Test.YtdhkdniddjnigaaGreatDoorMail6
namespace Go.Proofs.YtdhkdniddjnigaaGreatDoor
open Go.RowKit
set_option linter.unusedVariables false

/-- What opsMayBe tells. -/
def opsB (f b : Int) (xl : Nat) : Bool := decide (0 ≤ f ∧ f ≤ b ∧ (xl : Int) ≤ 64 ∧ b ≤ 1099511627776 - (xl : Int))
/-- A cargo as a value. -/
abbrev cgV (f b : Int) (sa : Option Addr) (sl sp : Nat) (xa : Option Addr) (xl xp : Nat) : Value := .agg #[.int .i64 f, .int .i64 b, .slice sa sl sp, .slice xa xl xp]
set_option maxRecDepth 1000000 in
theorem ops_any {w : World} (f b : Int) (sa : Option Addr) (sl sp : Nat) (xa : Option Addr) (xl xp : Nat) : Calls Tryz.prog 197 #[cgV f b sa sl sp xa xl xp] w fun e w' => e = .returned (.bool (opsB f b xl)) ∧ Below w.heap.size w w' := by
  by_cases c0 : 0 ≤ f
  rotate_left
  · have F : Hid (opsB f b xl = false) := hid (by simp only [opsB, decide_eq_false_iff_not]; omega)
    have e0 : decide (0 ≤ f) = false := by simpa using c0
    clear c0
    go_enter Tryz.func197, Tryz.ntmps197
    go_wp2
    go_ret
    exact ⟨by rw [F.out]; rfl, ba _ _⟩
  have e0 : decide (0 ≤ f) = true := by simpa using c0
  by_cases c1 : f ≤ b
  rotate_left
  · have F : Hid (opsB f b xl = false) := hid (by simp only [opsB, decide_eq_false_iff_not]; omega)
    have e1 : decide (f ≤ b) = false := by simpa using c1
    clear c1
    go_enter Tryz.func197, Tryz.ntmps197
    go_wp2
    go_ret
    exact ⟨by rw [F.out]; rfl, ba _ _⟩
  have e1 : decide (f ≤ b) = true := by simpa using c1
  by_cases c2 : (xl : Int) ≤ 64
  rotate_left
  · have F : Hid (opsB f b xl = false) := hid (by simp only [opsB, decide_eq_false_iff_not]; omega)
    have e2 : decide ((xl : Int) ≤ 64) = false := by simpa using c2
    clear c2
    go_enter Tryz.func197, Tryz.ntmps197
    go_wp2
    go_ret
    exact ⟨by rw [F.out]; rfl, ba _ _⟩
  have e2 : decide ((xl : Int) ≤ 64) = true := by simpa using c2
  have hs : IntKind.i64.wrap (1099511627776 - (xl : Int)) = 1099511627776 - (xl : Int) := by rw [IntKind.wrap_i64]; omega
  by_cases c3 : b ≤ 1099511627776 - (xl : Int)
  rotate_left
  · have F : Hid (opsB f b xl = false) := hid (by simp only [opsB, decide_eq_false_iff_not]; omega)
    have e3 : decide (b ≤ 1099511627776 - (xl : Int)) = false := by simpa using c3
    clear c0 c1 c2 c3
    go_enter Tryz.func197, Tryz.ntmps197
    go_wp2
    go_ret
    exact ⟨by rw [F.out]; rfl, ba _ _⟩
  have e3 : decide (b ≤ 1099511627776 - (xl : Int)) = true := by simpa using c3
  have F : Hid (opsB f b xl = true) := hid (by simp only [opsB, decide_eq_true_eq]; omega)
  clear c0 c1 c2 c3
  go_enter Tryz.func197, Tryz.ntmps197
  go_wp2
  go_ret
  exact ⟨by rw [F.out]; rfl, ba _ _⟩
end Go.Proofs.YtdhkdniddjnigaaGreatDoor
