import Derived.Test.YteloaggebkbeeaaDoorChkA
import Derived.Test.YteloaggebkbeeaaDoorHas
namespace Go.Proofs.YteloaggebkbeeaaDoor
open Go.RowKit
set_option linter.unusedVariables false

theorem fleet_any {w : World} (n : Int) : Calls Tryd.prog 54 #[.int .i64 n] w fun e w' => e = .returned (.bool (decide (n = 3 ∨ n = 5 ∨ n = 7))) ∧ w' = w := by
  by_cases h3 : n = 3
  · subst h3
    go_enter Tryd.func54, Tryd.ntmps54
    go_wp2
    go_ret
    exact ⟨by simp, rfl⟩
  by_cases h5 : n = 5
  · subst h5
    go_enter Tryd.func54, Tryd.ntmps54
    go_wp2
    go_ret
    exact ⟨by simp, rfl⟩
  by_cases h7 : n = 7
  · subst h7
    go_enter Tryd.func54, Tryd.ntmps54
    go_wp2
    go_ret
    exact ⟨by simp, rfl⟩
  have e3 : (n == 3) = false := by simpa using h3
  have e5 : (n == 5) = false := by simpa using h5
  have e7 : (n == 7) = false := by simpa using h7
  go_enter Tryd.func54, Tryd.ntmps54
  go_wp2
  go_ret
  exact ⟨by simp [h3, h5, h7], rfl⟩
theorem within_any {w : World} (n a b : Int) : Calls Tryd.prog 79 #[.int .i64 n, .int .i64 a, .int .i64 b] w fun e w' => e = .returned (.bool (decide (a ≤ n ∧ n ≤ b))) ∧ w' = w := by
  by_cases h : a ≤ n
  · have e1 : decide (a ≤ n) = true := by simpa using h
    go_enter Tryd.func79, Tryd.ntmps79
    go_wp2
    go_ret
    exact ⟨by simp [h], rfl⟩
  · have e1 : decide (a ≤ n) = false := by simpa using h
    go_enter Tryd.func79, Tryd.ntmps79
    go_wp2
    go_ret
    exact ⟨by simp, rfl⟩
theorem from_any {w : World} (k : Int) : Calls Tryd.prog 56 #[.int .i64 k] w fun e w' => e = .returned (.bool (decide (k = 1 ∨ k = 14))) ∧ w' = w := by
  by_cases h1 : k = 1
  · subst h1
    go_enter Tryd.func56, Tryd.ntmps56
    go_wp2
    go_ret
    exact ⟨by simp, rfl⟩
  have e1 : (k == 1) = false := by simpa using h1
  go_enter Tryd.func56, Tryd.ntmps56
  go_wp2
  go_ret
  exact ⟨by simp [h1]; rfl, rfl⟩
theorem to_any {w : World} (k : Int) : Calls Tryd.prog 57 #[.int .i64 k] w fun e w' => e = .returned (.bool (decide (k = 2 ∨ k = 3 ∨ k = 15))) ∧ w' = w := by
  by_cases h1 : k = 2
  · subst h1
    go_enter Tryd.func57, Tryd.ntmps57
    go_wp2
    go_ret
    exact ⟨by simp, rfl⟩
  have e1 : (k == 2) = false := by simpa using h1
  by_cases h2 : k = 3
  · subst h2
    go_enter Tryd.func57, Tryd.ntmps57
    go_wp2
    go_ret
    exact ⟨by simp, rfl⟩
  have e2 : (k == 3) = false := by simpa using h2
  go_enter Tryd.func57, Tryd.ntmps57
  go_wp2
  go_ret
  exact ⟨by simp [h1, h2]; rfl, rfl⟩
theorem rfrom_any {w : World} (k : Int) : Calls Tryd.prog 41 #[.int .i64 k] w fun e w' => e = .returned (.bool (decide (k = 1 ∨ k = 14))) ∧ w' = w := by
  by_cases h1 : k = 1
  · subst h1
    go_enter Tryd.func41, Tryd.ntmps41
    go_wp2
    go_ret
    exact ⟨by simp, rfl⟩
  have e1 : (k == 1) = false := by simpa using h1
  go_enter Tryd.func41, Tryd.ntmps41
  go_wp2
  go_ret
  exact ⟨by simp [h1]; rfl, rfl⟩
theorem rto_any {w : World} (k : Int) : Calls Tryd.prog 42 #[.int .i64 k] w fun e w' => e = .returned (.bool (decide (k = 2 ∨ k = 3 ∨ k = 15))) ∧ w' = w := by
  by_cases h1 : k = 2
  · subst h1
    go_enter Tryd.func42, Tryd.ntmps42
    go_wp2
    go_ret
    exact ⟨by simp, rfl⟩
  have e1 : (k == 2) = false := by simpa using h1
  by_cases h2 : k = 3
  · subst h2
    go_enter Tryd.func42, Tryd.ntmps42
    go_wp2
    go_ret
    exact ⟨by simp, rfl⟩
  have e2 : (k == 3) = false := by simpa using h2
  go_enter Tryd.func42, Tryd.ntmps42
  go_wp2
  go_ret
  exact ⟨by simp [h1, h2]; rfl, rfl⟩
theorem isEnd_any {w : World} (n who : Int) (c : Bool) (hn : -9223372036854775808 < n) (hn2 : n ≤ 9223372036854775807) : Calls Tryd.prog 55 #[.int .i64 n, .int .i64 who, .bool c] w fun e w' => e = .returned (.bool (if c then decide (0 ≤ who ∧ who ≤ 7) else decide (0 ≤ who ∧ who ≤ n - 1))) ∧ w' = w := by
  cases c
  · go_enter Tryd.func55, Tryd.ntmps55
    go_wp2_with (go_at_call 79; refine (within_any _ _ _).mono ?_; rintro e w' ⟨rfl, rfl⟩)
    go_ret
    exact ⟨rfl, rfl⟩
  · go_enter Tryd.func55, Tryd.ntmps55
    go_wp2_with (go_at_call 79; refine (within_any _ _ _).mono ?_; rintro e w' ⟨rfl, rfl⟩)
    go_ret
    exact ⟨rfl, rfl⟩
end Go.Proofs.YteloaggebkbeeaaDoor
