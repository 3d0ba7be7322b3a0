import Derived.Test.YtdhkdniddjnigaaGreatDoorSt14
namespace Go.Proofs.YtdhkdniddjnigaaGreatDoor
open Go.RowKit
set_option linter.unusedVariables false

theorem query_any {w : World} (k : Int) : Calls Tryz.prog 170 #[.int .i64 k] w fun e w' => e = .returned (.bool (decide (6 ≤ k ∧ k ≤ 8))) ∧ w' = w := by
  by_cases h6 : k = 6
  · subst h6
    go_enter Tryz.func170, Tryz.ntmps170
    go_wp2
    go_ret
    exact ⟨by simp, rfl⟩
  · have e6 : (k == 6) = false := by simpa using h6
    by_cases h7 : k = 7
    · subst h7
      go_enter Tryz.func170, Tryz.ntmps170
      go_wp2
      go_ret
      exact ⟨by simp, rfl⟩
    · have e7 : (k == 7) = false := by simpa using h7
      have e : decide (6 ≤ k ∧ k ≤ 8) = (k == 8) := by rw [Bool.eq_iff_iff]; simp; omega
      rw [e]
      clear h6 h7 e
      go_enter Tryz.func170, Tryz.ntmps170
      go_wp2
      go_ret
      exact ⟨rfl, rfl⟩

end Go.Proofs.YtdhkdniddjnigaaGreatDoor
