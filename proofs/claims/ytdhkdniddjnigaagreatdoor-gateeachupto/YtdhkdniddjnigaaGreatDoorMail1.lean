import Derived.Test.YtdhkdniddjnigaaGreatDoorRes14
import Derived.Test.YtdhkdniddjnigaaGreatDoorHas
namespace Go.Proofs.YtdhkdniddjnigaaGreatDoor
open Go.RowKit
set_option linter.unusedVariables false

theorem fleet_any {w : World} (n : Int) : Calls Tryz.prog 89 #[.int .i64 n] w fun e w' => e = .returned (.bool (decide (n = 3 ∨ n = 5 ∨ n = 7))) ∧ w' = w := by
  by_cases h3 : n = 3
  · subst h3
    go_enter Tryz.func89, Tryz.ntmps89
    go_wp2
    go_ret
    exact ⟨by simp, rfl⟩
  by_cases h5 : n = 5
  · subst h5
    go_enter Tryz.func89, Tryz.ntmps89
    go_wp2
    go_ret
    exact ⟨by simp, rfl⟩
  by_cases h7 : n = 7
  · subst h7
    go_enter Tryz.func89, Tryz.ntmps89
    go_wp2
    go_ret
    exact ⟨by simp, rfl⟩
  have e3 : (n == 3) = false := by simpa using h3
  have e5 : (n == 5) = false := by simpa using h5
  have e7 : (n == 7) = false := by simpa using h7
  go_enter Tryz.func89, Tryz.ntmps89
  go_wp2
  go_ret
  exact ⟨by simp [h3, h5, h7], rfl⟩
theorem within_any {w : World} (n a b : Int) : Calls Tryz.prog 124 #[.int .i64 n, .int .i64 a, .int .i64 b] w fun e w' => e = .returned (.bool (decide (a ≤ n ∧ n ≤ b))) ∧ w' = w := by
  by_cases h : a ≤ n
  · have e1 : decide (a ≤ n) = true := by simpa using h
    go_enter Tryz.func124, Tryz.ntmps124
    go_wp2
    go_ret
    exact ⟨by simp [h], rfl⟩
  · have e1 : decide (a ≤ n) = false := by simpa using h
    go_enter Tryz.func124, Tryz.ntmps124
    go_wp2
    go_ret
    exact ⟨by simp, rfl⟩
theorem from_any {w : World} (k : Int) : Calls Tryz.prog 91 #[.int .i64 k] w fun e w' => e = .returned (.bool (decide (k = 1 ∨ k = 14))) ∧ w' = w := by
  by_cases h1 : k = 1
  · subst h1
    go_enter Tryz.func91, Tryz.ntmps91
    go_wp2
    go_ret
    exact ⟨by simp, rfl⟩
  have e1 : (k == 1) = false := by simpa using h1
  go_enter Tryz.func91, Tryz.ntmps91
  go_wp2
  go_ret
  exact ⟨by simp [h1]; rfl, rfl⟩
theorem to_any {w : World} (k : Int) : Calls Tryz.prog 92 #[.int .i64 k] w fun e w' => e = .returned (.bool (decide (k = 2 ∨ k = 3 ∨ k = 15))) ∧ w' = w := by
  by_cases h1 : k = 2
  · subst h1
    go_enter Tryz.func92, Tryz.ntmps92
    go_wp2
    go_ret
    exact ⟨by simp, rfl⟩
  have e1 : (k == 2) = false := by simpa using h1
  by_cases h2 : k = 3
  · subst h2
    go_enter Tryz.func92, Tryz.ntmps92
    go_wp2
    go_ret
    exact ⟨by simp, rfl⟩
  have e2 : (k == 3) = false := by simpa using h2
  go_enter Tryz.func92, Tryz.ntmps92
  go_wp2
  go_ret
  exact ⟨by simp [h1, h2]; rfl, rfl⟩
theorem isEnd_any {w : World} (n who : Int) (c : Bool) (hn : -9223372036854775808 < n) (hn2 : n ≤ 9223372036854775807) : Calls Tryz.prog 90 #[.int .i64 n, .int .i64 who, .bool c] w fun e w' => e = .returned (.bool (if c then decide (0 ≤ who ∧ who ≤ 7) else decide (0 ≤ who ∧ who ≤ n - 1))) ∧ w' = w := by
  cases c
  · go_enter Tryz.func90, Tryz.ntmps90
    go_wp2_with (go_at_call 124; refine (within_any _ _ _).mono ?_; rintro e w' ⟨rfl, rfl⟩)
    go_ret
    exact ⟨rfl, rfl⟩
  · go_enter Tryz.func90, Tryz.ntmps90
    go_wp2_with (go_at_call 124; refine (within_any _ _ _).mono ?_; rintro e w' ⟨rfl, rfl⟩)
    go_ret
    exact ⟨rfl, rfl⟩
end Go.Proofs.YtdhkdniddjnigaaGreatDoor
