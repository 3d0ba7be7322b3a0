import Derived.Test.YteloaggebkbeeaaDoorMail24
namespace Go.Proofs.YteloaggebkbeeaaDoor
open Go.RowKit
set_option linter.unusedVariables false

theorem rfleet_any {w : World} (n : Int) : Calls Tryd.prog 39 #[.int .i64 n] w fun e w' => e = .returned (.bool (decide (n = 3 ∨ n = 5 ∨ n = 7))) ∧ w' = w := by
  by_cases h3 : n = 3
  · subst h3
    go_enter Tryd.func39, Tryd.ntmps39
    go_wp2
    go_ret
    exact ⟨by simp, rfl⟩
  by_cases h5 : n = 5
  · subst h5
    go_enter Tryd.func39, Tryd.ntmps39
    go_wp2
    go_ret
    exact ⟨by simp, rfl⟩
  by_cases h7 : n = 7
  · subst h7
    go_enter Tryd.func39, Tryd.ntmps39
    go_wp2
    go_ret
    exact ⟨by simp, rfl⟩
  have e3 : (n == 3) = false := by simpa using h3
  have e5 : (n == 5) = false := by simpa using h5
  have e7 : (n == 7) = false := by simpa using h7
  go_enter Tryd.func39, Tryd.ntmps39
  go_wp2
  go_ret
  exact ⟨by simp [h3, h5, h7], rfl⟩
theorem rwithin_b {w : World} (n a b : Int) : Calls Tryd.prog 40 #[.int .i64 n, .int .i64 a, .int .i64 b] w fun e w' => e = .returned (.bool (inR n a b)) ∧ w' = w := by
  by_cases h1 : a ≤ n
  rotate_left
  · have e1 : decide (a ≤ n) = false := by simpa using h1
    have F : inR n a b = false := decide_eq_false (fun h => h1 h.1)
    rw [F]
    clear F h1
    go_enter Tryd.func40, Tryd.ntmps40
    go_wp2
    go_ret
    exact ⟨rfl, rfl⟩
  · have e1 : decide (a ≤ n) = true := by simpa using h1
    have F : inR n a b = decide (n ≤ b) := by simp [inR, h1]
    rw [F]
    clear F h1
    go_enter Tryd.func40, Tryd.ntmps40
    go_wp2
    go_ret
    exact ⟨rfl, rfl⟩
theorem k_cases {k : Nat} (h : 1 ≤ k ∧ k ≤ 15) : k = 1 ∨ k = 2 ∨ k = 3 ∨ k = 4 ∨ k = 5 ∨ k = 6 ∨ k = 7 ∨ k = 8 ∨ k = 9 ∨ k = 10 ∨ k = 11 ∨ k = 12 ∨ k = 13 ∨ k = 14 ∨ k = 15 := by omega
theorem has37 {w : World} {k : Nat} (h : 1 ≤ k ∧ k ≤ 15) : Calls Tryd.prog 43 #[.int .i64 (k : Int)] w fun e w' => e = .returned (.bool (inK k 86)) ∧ w' = w := by
  rcases k_cases h with rfl | rfl | rfl | rfl | rfl | rfl | rfl | rfl | rfl | rfl | rfl | rfl | rfl | rfl | rfl
  all_goals
    go_enter Tryd.func43, Tryd.ntmps43
    go_wp2_with (first | (go_at_call 41; refine (rfrom_any _).mono ?_; rintro e w' ⟨rfl, rfl⟩) | (go_at_call 42; refine (rto_any _).mono ?_; rintro e w' ⟨rfl, rfl⟩))
    go_ret
    exact ⟨rfl, rfl⟩
theorem has46 {w : World} {k : Nat} (h : 1 ≤ k ∧ k ≤ 15) : Calls Tryd.prog 63 #[.int .i64 (k : Int)] w fun e w' => e = .returned (.bool (inK k 75)) ∧ w' = w := by
  rcases k_cases h with rfl | rfl | rfl | rfl | rfl | rfl | rfl | rfl | rfl | rfl | rfl | rfl | rfl | rfl | rfl
  all_goals
    go_enter Tryd.func63, Tryd.ntmps63
    go_wp2_with (first | (go_at_call 41; refine (rfrom_any _).mono ?_; rintro e w' ⟨rfl, rfl⟩) | (go_at_call 42; refine (rto_any _).mono ?_; rintro e w' ⟨rfl, rfl⟩))
    go_ret
    exact ⟨rfl, rfl⟩
theorem has47 {w : World} {k : Nat} (h : 1 ≤ k ∧ k ≤ 15) : Calls Tryd.prog 64 #[.int .i64 (k : Int)] w fun e w' => e = .returned (.bool (inK k 67)) ∧ w' = w := by
  rcases k_cases h with rfl | rfl | rfl | rfl | rfl | rfl | rfl | rfl | rfl | rfl | rfl | rfl | rfl | rfl | rfl
  all_goals
    go_enter Tryd.func64, Tryd.ntmps64
    go_wp2_with (first | (go_at_call 41; refine (rfrom_any _).mono ?_; rintro e w' ⟨rfl, rfl⟩) | (go_at_call 42; refine (rto_any _).mono ?_; rintro e w' ⟨rfl, rfl⟩))
    go_ret
    exact ⟨rfl, rfl⟩
theorem has48 {w : World} {k : Nat} (h : 1 ≤ k ∧ k ≤ 15) : Calls Tryd.prog 65 #[.int .i64 (k : Int)] w fun e w' => e = .returned (.bool (inK k 78)) ∧ w' = w := by
  rcases k_cases h with rfl | rfl | rfl | rfl | rfl | rfl | rfl | rfl | rfl | rfl | rfl | rfl | rfl | rfl | rfl
  all_goals
    go_enter Tryd.func65, Tryd.ntmps65
    go_wp2_with (first | (go_at_call 41; refine (rfrom_any _).mono ?_; rintro e w' ⟨rfl, rfl⟩) | (go_at_call 42; refine (rto_any _).mono ?_; rintro e w' ⟨rfl, rfl⟩))
    go_ret
    exact ⟨rfl, rfl⟩
theorem has49 {w : World} {k : Nat} (h : 1 ≤ k ∧ k ≤ 15) : Calls Tryd.prog 66 #[.int .i64 (k : Int)] w fun e w' => e = .returned (.bool (inK k 76)) ∧ w' = w := by
  rcases k_cases h with rfl | rfl | rfl | rfl | rfl | rfl | rfl | rfl | rfl | rfl | rfl | rfl | rfl | rfl | rfl
  all_goals
    go_enter Tryd.func66, Tryd.ntmps66
    go_wp2_with (first | (go_at_call 41; refine (rfrom_any _).mono ?_; rintro e w' ⟨rfl, rfl⟩) | (go_at_call 42; refine (rto_any _).mono ?_; rintro e w' ⟨rfl, rfl⟩))
    go_ret
    exact ⟨rfl, rfl⟩
theorem has51 {w : World} {k : Nat} (h : 1 ≤ k ∧ k ≤ 15) : Calls Tryd.prog 75 #[.int .i64 (k : Int)] w fun e w' => e = .returned (.bool (inK k 72)) ∧ w' = w := by
  rcases k_cases h with rfl | rfl | rfl | rfl | rfl | rfl | rfl | rfl | rfl | rfl | rfl | rfl | rfl | rfl | rfl
  all_goals
    go_enter Tryd.func75, Tryd.ntmps75
    go_wp2_with (first | (go_at_call 41; refine (rfrom_any _).mono ?_; rintro e w' ⟨rfl, rfl⟩) | (go_at_call 42; refine (rto_any _).mono ?_; rintro e w' ⟨rfl, rfl⟩))
    go_ret
    exact ⟨rfl, rfl⟩
theorem has53 {w : World} {k : Nat} (h : 1 ≤ k ∧ k ≤ 15) : Calls Tryd.prog 68 #[.int .i64 (k : Int)] w fun e w' => e = .returned (.bool (inK k 79)) ∧ w' = w := by
  rcases k_cases h with rfl | rfl | rfl | rfl | rfl | rfl | rfl | rfl | rfl | rfl | rfl | rfl | rfl | rfl | rfl
  all_goals
    go_enter Tryd.func68, Tryd.ntmps68
    go_wp2_with (first | (go_at_call 41; refine (rfrom_any _).mono ?_; rintro e w' ⟨rfl, rfl⟩) | (go_at_call 42; refine (rto_any _).mono ?_; rintro e w' ⟨rfl, rfl⟩))
    go_ret
    exact ⟨rfl, rfl⟩
theorem has55 {w : World} {k : Nat} (h : 1 ≤ k ∧ k ≤ 15) : Calls Tryd.prog 70 #[.int .i64 (k : Int)] w fun e w' => e = .returned (.bool (inK k 82)) ∧ w' = w := by
  rcases k_cases h with rfl | rfl | rfl | rfl | rfl | rfl | rfl | rfl | rfl | rfl | rfl | rfl | rfl | rfl | rfl
  all_goals
    go_enter Tryd.func70, Tryd.ntmps70
    go_wp2_with (first | (go_at_call 41; refine (rfrom_any _).mono ?_; rintro e w' ⟨rfl, rfl⟩) | (go_at_call 42; refine (rto_any _).mono ?_; rintro e w' ⟨rfl, rfl⟩))
    go_ret
    exact ⟨rfl, rfl⟩
theorem has57 {w : World} {k : Nat} (h : 1 ≤ k ∧ k ≤ 15) : Calls Tryd.prog 72 #[.int .i64 (k : Int)] w fun e w' => e = .returned (.bool (inK k 69)) ∧ w' = w := by
  rcases k_cases h with rfl | rfl | rfl | rfl | rfl | rfl | rfl | rfl | rfl | rfl | rfl | rfl | rfl | rfl | rfl
  all_goals
    go_enter Tryd.func72, Tryd.ntmps72
    go_wp2_with (first | (go_at_call 41; refine (rfrom_any _).mono ?_; rintro e w' ⟨rfl, rfl⟩) | (go_at_call 42; refine (rto_any _).mono ?_; rintro e w' ⟨rfl, rfl⟩))
    go_ret
    exact ⟨rfl, rfl⟩
theorem has50 {w : World} {k : Nat} (h : 1 ≤ k ∧ k ≤ 15) : Calls Tryd.prog 67 #[.int .i64 (k : Int)] w fun e w' => e = .returned (.bool (inK k 81)) ∧ w' = w := by
  rcases k_cases h with rfl | rfl | rfl | rfl | rfl | rfl | rfl | rfl | rfl | rfl | rfl | rfl | rfl | rfl | rfl
  all_goals
    go_enter Tryd.func67, Tryd.ntmps67
    go_wp2_with (first | (go_at_call 41; refine (rfrom_any _).mono ?_; rintro e w' ⟨rfl, rfl⟩) | (go_at_call 42; refine (rto_any _).mono ?_; rintro e w' ⟨rfl, rfl⟩))
    go_ret
    exact ⟨rfl, rfl⟩
theorem has58 {w : World} {k : Nat} (b : Bool) (h : 1 ≤ k ∧ k ≤ 15) : Calls Tryd.prog 73 #[.int .i64 (k : Int), .bool b] w fun e w' => e = .returned (.bool (inH k b 71)) ∧ w' = w := by
  rcases k_cases h with rfl | rfl | rfl | rfl | rfl | rfl | rfl | rfl | rfl | rfl | rfl | rfl | rfl | rfl | rfl
  all_goals
    cases b
    all_goals
      go_enter Tryd.func73, Tryd.ntmps73
      go_wp2
      go_ret
      exact ⟨rfl, rfl⟩
end Go.Proofs.YteloaggebkbeeaaDoor
