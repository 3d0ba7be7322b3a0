import Derived.Test.YthoppemjfdnibaaGreatDoorSLay
import Derived.Test.YthoppemjfdnibaaGreatDoorJ9
import Derived.Test.YthoppemjfdnibaaGreatDoorRdr
namespace Go.Proofs.YthoppemjfdnibaaGreatDoor
open Go.RowKit Go.Lib
set_option linter.unusedVariables false

theorem contains_any (s : ByteArray) (r : Int) (w : World) (h0 : 0 ≤ r) (h1 : r < 128) : Calls Tryz.prog 101 #[.string s, .int .i32 r] w fun e w' => e = .returned (.bool (decide (0 ≤ Lib.indexByte s.data.toList r.toNat.toUInt8))) ∧ w' = w :=
  Any.strings_ContainsRune_ascii Tryz.lays151 s r w h0 h1
end Go.Proofs.YthoppemjfdnibaaGreatDoor

namespace Go.Proofs.YthoppemjfdnibaaGreatDoor
open Go.RowKit
set_option linter.unusedVariables false

theorem fleet_any {w : World} (n : Int) : Calls Tryz.prog 31 #[.int .i64 n] w fun e w' => e = .returned (.bool (decide (n = 3 ∨ n = 5 ∨ n = 7))) ∧ w' = w := by
  by_cases h3 : n = 3
  · subst h3
    go_enter Tryz.func31, Tryz.ntmps31
    go_wp2
    go_ret
    exact ⟨by simp, rfl⟩
  by_cases h5 : n = 5
  · subst h5
    go_enter Tryz.func31, Tryz.ntmps31
    go_wp2
    go_ret
    exact ⟨by simp, rfl⟩
  by_cases h7 : n = 7
  · subst h7
    go_enter Tryz.func31, Tryz.ntmps31
    go_wp2
    go_ret
    exact ⟨by simp, rfl⟩
  have e3 : (n == 3) = false := by simpa using h3
  have e5 : (n == 5) = false := by simpa using h5
  have e7 : (n == 7) = false := by simpa using h7
  go_enter Tryz.func31, Tryz.ntmps31
  go_wp2
  go_ret
  exact ⟨by simp [h3, h5, h7], rfl⟩
theorem within_any {w : World} (n a b : Int) : Calls Tryz.prog 73 #[.int .i64 n, .int .i64 a, .int .i64 b] w fun e w' => e = .returned (.bool (decide (a ≤ n ∧ n ≤ b))) ∧ w' = w := by
  by_cases h : a ≤ n
  · have e1 : decide (a ≤ n) = true := by simpa using h
    go_enter Tryz.func73, Tryz.ntmps73
    go_wp2
    go_ret
    exact ⟨by simp [h], rfl⟩
  · have e1 : decide (a ≤ n) = false := by simpa using h
    go_enter Tryz.func73, Tryz.ntmps73
    go_wp2
    go_ret
    exact ⟨by simp, rfl⟩
theorem from_any {w : World} (k : Int) : Calls Tryz.prog 10 #[.int .i64 k] w fun e w' => e = .returned (.bool (decide (k = 1 ∨ k = 14))) ∧ w' = w := by
  by_cases h1 : k = 1
  · subst h1
    go_enter Tryz.func10, Tryz.ntmps10
    go_wp2
    go_ret
    exact ⟨by simp, rfl⟩
  have e1 : (k == 1) = false := by simpa using h1
  go_enter Tryz.func10, Tryz.ntmps10
  go_wp2
  go_ret
  exact ⟨by simp [h1]; rfl, rfl⟩
theorem to_any {w : World} (k : Int) : Calls Tryz.prog 11 #[.int .i64 k] w fun e w' => e = .returned (.bool (decide (k = 2 ∨ k = 3 ∨ k = 15))) ∧ w' = w := by
  by_cases h1 : k = 2
  · subst h1
    go_enter Tryz.func11, Tryz.ntmps11
    go_wp2
    go_ret
    exact ⟨by simp, rfl⟩
  have e1 : (k == 2) = false := by simpa using h1
  by_cases h2 : k = 3
  · subst h2
    go_enter Tryz.func11, Tryz.ntmps11
    go_wp2
    go_ret
    exact ⟨by simp, rfl⟩
  have e2 : (k == 3) = false := by simpa using h2
  go_enter Tryz.func11, Tryz.ntmps11
  go_wp2
  go_ret
  exact ⟨by simp [h1, h2]; rfl, rfl⟩
theorem rfrom_any {w : World} (k : Int) : Calls Tryz.prog 12 #[.int .i64 k] w fun e w' => e = .returned (.bool (decide (k = 1 ∨ k = 14))) ∧ w' = w := by
  by_cases h1 : k = 1
  · subst h1
    go_enter Tryz.func12, Tryz.ntmps12
    go_wp2
    go_ret
    exact ⟨by simp, rfl⟩
  have e1 : (k == 1) = false := by simpa using h1
  go_enter Tryz.func12, Tryz.ntmps12
  go_wp2
  go_ret
  exact ⟨by simp [h1]; rfl, rfl⟩
theorem rto_any {w : World} (k : Int) : Calls Tryz.prog 13 #[.int .i64 k] w fun e w' => e = .returned (.bool (decide (k = 2 ∨ k = 3 ∨ k = 15))) ∧ w' = w := by
  by_cases h1 : k = 2
  · subst h1
    go_enter Tryz.func13, Tryz.ntmps13
    go_wp2
    go_ret
    exact ⟨by simp, rfl⟩
  have e1 : (k == 2) = false := by simpa using h1
  by_cases h2 : k = 3
  · subst h2
    go_enter Tryz.func13, Tryz.ntmps13
    go_wp2
    go_ret
    exact ⟨by simp, rfl⟩
  have e2 : (k == 3) = false := by simpa using h2
  go_enter Tryz.func13, Tryz.ntmps13
  go_wp2
  go_ret
  exact ⟨by simp [h1, h2]; rfl, rfl⟩
theorem isEnd_any {w : World} (n who : Int) (c : Bool) (hn : -9223372036854775808 < n) (hn2 : n ≤ 9223372036854775807) : Calls Tryz.prog 32 #[.int .i64 n, .int .i64 who, .bool c] w fun e w' => e = .returned (.bool (if c then decide (0 ≤ who ∧ who ≤ 7) else decide (0 ≤ who ∧ who ≤ n - 1))) ∧ w' = w := by
  cases c
  · go_enter Tryz.func32, Tryz.ntmps32
    go_wp2_with (go_at_call 73; refine (within_any _ _ _).mono ?_; rintro e w' ⟨rfl, rfl⟩)
    go_ret
    exact ⟨rfl, rfl⟩
  · go_enter Tryz.func32, Tryz.ntmps32
    go_wp2_with (go_at_call 73; refine (within_any _ _ _).mono ?_; rintro e w' ⟨rfl, rfl⟩)
    go_ret
    exact ⟨rfl, rfl⟩
end Go.Proofs.YthoppemjfdnibaaGreatDoor
