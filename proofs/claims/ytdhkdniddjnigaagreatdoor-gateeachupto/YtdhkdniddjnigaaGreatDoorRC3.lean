import Derived.Test.YtdhkdniddjnigaaGreatDoorRC2
namespace Go.Proofs.YtdhkdniddjnigaaGreatDoor
open Go.RowKit
set_option linter.unusedVariables false

set_option maxRecDepth 1000000 in
theorem rcheck_out {w : World} {k : Int} (h : k < 1 ∨ 8 < k) (nm tx : ByteArray) (n m : Int) : Calls Tryz.prog 114 #[opV k nm tx n m] w fun e w' => e = .returned (.int .i64 50) ∧ Below w.heap.size w w' := by
  by_cases h1 : k < 1
  · have e1 : decide (k < 1) = true := by simpa using h1
    clear h
    go_enter Tryz.func114, Tryz.ntmps114
    go_wp2
    go_ret
    exact ⟨rfl, ba _ _⟩
  · have e1 : decide (k < 1) = false := by simpa using h1
    have e2 : decide (8 < k) = true := by simp; omega
    clear h
    go_enter Tryz.func114, Tryz.ntmps114
    go_wp2
    go_ret
    exact ⟨rfl, ba _ _⟩

theorem rcheck_any {w : World} (k : Int) (nm tx : ByteArray) (n m : Int) : Calls Tryz.prog 114 #[opV k nm tx n m] w fun e w' => e = .returned (.int .i64 (chkA k nm.size tx.size n m)) ∧ Below w.heap.size w w' := by
  by_cases h : k < 1 ∨ 8 < k
  · rw [chkA_out h]
    exact rcheck_out h nm tx n m
  · rw [chkA_in (by omega) (by omega)]
    obtain rfl | rfl | rfl | rfl | rfl | rfl | rfl | rfl : k = 1 ∨ k = 2 ∨ k = 3 ∨ k = 4 ∨ k = 5 ∨ k = 6 ∨ k = 7 ∨ k = 8 := by omega
    · exact rc1 nm tx n m
    · exact rc2 nm tx n m
    · exact rc3 nm tx n m
    · exact rc4 nm tx n m
    · exact rc5 nm tx n m
    · exact rc6 nm tx n m
    · exact rc7 nm tx n m
    · exact rc8 nm tx n m

end Go.Proofs.YtdhkdniddjnigaaGreatDoor
