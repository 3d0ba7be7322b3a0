import Derived.Test.YtfeppannfcbakaaGreatDoorJ2
import Derived.Test.YtfeppannfcbakaaGreatDoorSLa
import Derived.Test.YtfeppannfcbakaaGreatDoorWd
namespace Go.Proofs.YtfeppannfcbakaaGreatDoor
open Go.RowKit
set_option linter.unusedVariables false

def bareI (k : Int) : Bool := decide ((97 ≤ k ∧ k ≤ 122) ∨ (65 ≤ k ∧ k ≤ 90) ∨ (48 ≤ k ∧ k ≤ 57) ∨ k = 45 ∨ k = 95 ∨ k = 46 ∨ k = 47)
theorem bareI_nat (n : Nat) : bareI (n : Int) = bareN n := by
  unfold bareI bareN
  rw [Bool.eq_iff_iff]
  simp only [decide_eq_true_eq]
  omega
def prnI (k : Int) : Bool := decide (32 ≤ k ∧ k ≤ 126)
theorem prnI_nat (n : Nat) : prnI (n : Int) = prnN n := by
  unfold prnI prnN
  rw [Bool.eq_iff_iff]
  simp only [decide_eq_true_eq]
  omega

set_option maxRecDepth 1000000 in
theorem isBare_int (k : Int) (w : World) : Calls Tryz.prog 67 #[.int .u8 k] w fun e w' => e = .returned (.bool (bareI k)) ∧ w' = w := by
  have key : ∀ b, bareI k = b → Hid (bareI k = b) := fun b h => h
  by_cases e45 : k = 45
  · subst e45
    have H := key true (decide_eq_true (by omega))
    clear key
    go_enter Tryz.func67, Tryz.ntmps67
    go_wp2
    go_ret
    exact ⟨by rw [H.out]; rfl, rfl⟩
  have n45 : (k == 45) = false := by simpa using e45
  by_cases e95 : k = 95
  · subst e95
    have H := key true (decide_eq_true (by omega))
    clear key
    go_enter Tryz.func67, Tryz.ntmps67
    go_wp2
    go_ret
    exact ⟨by rw [H.out]; rfl, rfl⟩
  have n95 : (k == 95) = false := by simpa using e95
  by_cases e46 : k = 46
  · subst e46
    have H := key true (decide_eq_true (by omega))
    clear key
    go_enter Tryz.func67, Tryz.ntmps67
    go_wp2
    go_ret
    exact ⟨by rw [H.out]; rfl, rfl⟩
  have n46 : (k == 46) = false := by simpa using e46
  by_cases e47 : k = 47
  · subst e47
    have H := key true (decide_eq_true (by omega))
    clear key
    go_enter Tryz.func67, Tryz.ntmps67
    go_wp2
    go_ret
    exact ⟨by rw [H.out]; rfl, rfl⟩
  have n47 : (k == 47) = false := by simpa using e47
  by_cases a97 : 97 ≤ k
  · by_cases b122 : k ≤ 122
    · have H := key true (decide_eq_true (by omega))
      clear key
      go_enter Tryz.func67, Tryz.ntmps67
      go_wp2
      go_ret
      exact ⟨by rw [H.out]; rfl, rfl⟩
    · by_cases a65 : 65 ≤ k
      · by_cases b90 : k ≤ 90
        · have H := key true (decide_eq_true (by omega))
          clear key
          go_enter Tryz.func67, Tryz.ntmps67
          go_wp2
          go_ret
          exact ⟨by rw [H.out]; rfl, rfl⟩
        · by_cases a48 : 48 ≤ k
          · by_cases b57 : k ≤ 57
            · have H := key true (decide_eq_true (by omega))
              clear key
              go_enter Tryz.func67, Tryz.ntmps67
              go_wp2
              go_ret
              exact ⟨by rw [H.out]; rfl, rfl⟩
            · have H := key false (decide_eq_false (by omega))
              clear key
              go_enter Tryz.func67, Tryz.ntmps67
              go_wp2
              go_ret
              exact ⟨by rw [H.out]; rfl, rfl⟩
          · have H := key false (decide_eq_false (by omega))
            clear key
            go_enter Tryz.func67, Tryz.ntmps67
            go_wp2
            go_ret
            exact ⟨by rw [H.out]; rfl, rfl⟩
      · by_cases a48 : 48 ≤ k
        · by_cases b57 : k ≤ 57
          · have H := key true (decide_eq_true (by omega))
            clear key
            go_enter Tryz.func67, Tryz.ntmps67
            go_wp2
            go_ret
            exact ⟨by rw [H.out]; rfl, rfl⟩
          · have H := key false (decide_eq_false (by omega))
            clear key
            go_enter Tryz.func67, Tryz.ntmps67
            go_wp2
            go_ret
            exact ⟨by rw [H.out]; rfl, rfl⟩
        · have H := key false (decide_eq_false (by omega))
          clear key
          go_enter Tryz.func67, Tryz.ntmps67
          go_wp2
          go_ret
          exact ⟨by rw [H.out]; rfl, rfl⟩
  · by_cases a65 : 65 ≤ k
    · by_cases b90 : k ≤ 90
      · have H := key true (decide_eq_true (by omega))
        clear key
        go_enter Tryz.func67, Tryz.ntmps67
        go_wp2
        go_ret
        exact ⟨by rw [H.out]; rfl, rfl⟩
      · by_cases a48 : 48 ≤ k
        · by_cases b57 : k ≤ 57
          · have H := key true (decide_eq_true (by omega))
            clear key
            go_enter Tryz.func67, Tryz.ntmps67
            go_wp2
            go_ret
            exact ⟨by rw [H.out]; rfl, rfl⟩
          · have H := key false (decide_eq_false (by omega))
            clear key
            go_enter Tryz.func67, Tryz.ntmps67
            go_wp2
            go_ret
            exact ⟨by rw [H.out]; rfl, rfl⟩
        · have H := key false (decide_eq_false (by omega))
          clear key
          go_enter Tryz.func67, Tryz.ntmps67
          go_wp2
          go_ret
          exact ⟨by rw [H.out]; rfl, rfl⟩
    · by_cases a48 : 48 ≤ k
      · by_cases b57 : k ≤ 57
        · have H := key true (decide_eq_true (by omega))
          clear key
          go_enter Tryz.func67, Tryz.ntmps67
          go_wp2
          go_ret
          exact ⟨by rw [H.out]; rfl, rfl⟩
        · have H := key false (decide_eq_false (by omega))
          clear key
          go_enter Tryz.func67, Tryz.ntmps67
          go_wp2
          go_ret
          exact ⟨by rw [H.out]; rfl, rfl⟩
      · have H := key false (decide_eq_false (by omega))
        clear key
        go_enter Tryz.func67, Tryz.ntmps67
        go_wp2
        go_ret
        exact ⟨by rw [H.out]; rfl, rfl⟩

theorem isBare_any (b : UInt8) (w : World) : Calls Tryz.prog 67 #[.int .u8 (b.toNat : Int)] w fun e w' => e = .returned (.bool (bareN b.toNat)) ∧ w' = w := by
  rw [← bareI_nat]
  exact isBare_int _ _

set_option maxRecDepth 1000000 in
theorem rbare_int (k : Int) (w : World) : Calls Tryz.prog 41 #[.int .u8 k] w fun e w' => e = .returned (.bool (bareI k)) ∧ w' = w := by
  have key : ∀ b, bareI k = b → Hid (bareI k = b) := fun b h => h
  by_cases a97 : 97 ≤ k
  · by_cases b122 : k ≤ 122
    · have H := key true (decide_eq_true (by omega))
      clear key
      go_enter Tryz.func41, Tryz.ntmps41
      go_wp2
      go_ret
      exact ⟨by rw [H.out]; rfl, rfl⟩
    · by_cases a65 : 65 ≤ k
      · by_cases b90 : k ≤ 90
        · have H := key true (decide_eq_true (by omega))
          clear key
          go_enter Tryz.func41, Tryz.ntmps41
          go_wp2
          go_ret
          exact ⟨by rw [H.out]; rfl, rfl⟩
        · by_cases a48 : 48 ≤ k
          · by_cases b57 : k ≤ 57
            · have H := key true (decide_eq_true (by omega))
              clear key
              go_enter Tryz.func41, Tryz.ntmps41
              go_wp2
              go_ret
              exact ⟨by rw [H.out]; rfl, rfl⟩
            · by_cases e45 : k = 45
              · subst e45
                have H := key true (decide_eq_true (by omega))
                clear key
                go_enter Tryz.func41, Tryz.ntmps41
                go_wp2
                go_ret
                exact ⟨by rw [H.out]; rfl, rfl⟩
              have n45 : (k == 45) = false := by simpa using e45
              by_cases e95 : k = 95
              · subst e95
                have H := key true (decide_eq_true (by omega))
                clear key
                go_enter Tryz.func41, Tryz.ntmps41
                go_wp2
                go_ret
                exact ⟨by rw [H.out]; rfl, rfl⟩
              have n95 : (k == 95) = false := by simpa using e95
              by_cases e46 : k = 46
              · subst e46
                have H := key true (decide_eq_true (by omega))
                clear key
                go_enter Tryz.func41, Tryz.ntmps41
                go_wp2
                go_ret
                exact ⟨by rw [H.out]; rfl, rfl⟩
              have n46 : (k == 46) = false := by simpa using e46
              by_cases e47 : k = 47
              · subst e47
                have H := key true (decide_eq_true (by omega))
                clear key
                go_enter Tryz.func41, Tryz.ntmps41
                go_wp2
                go_ret
                exact ⟨by rw [H.out]; rfl, rfl⟩
              have n47 : (k == 47) = false := by simpa using e47
              have H := key false (decide_eq_false (by omega))
              clear key
              go_enter Tryz.func41, Tryz.ntmps41
              go_wp2
              go_ret
              exact ⟨by rw [H.out]; rfl, rfl⟩
          · by_cases e45 : k = 45
            · subst e45
              have H := key true (decide_eq_true (by omega))
              clear key
              go_enter Tryz.func41, Tryz.ntmps41
              go_wp2
              go_ret
              exact ⟨by rw [H.out]; rfl, rfl⟩
            have n45 : (k == 45) = false := by simpa using e45
            by_cases e95 : k = 95
            · subst e95
              have H := key true (decide_eq_true (by omega))
              clear key
              go_enter Tryz.func41, Tryz.ntmps41
              go_wp2
              go_ret
              exact ⟨by rw [H.out]; rfl, rfl⟩
            have n95 : (k == 95) = false := by simpa using e95
            by_cases e46 : k = 46
            · subst e46
              have H := key true (decide_eq_true (by omega))
              clear key
              go_enter Tryz.func41, Tryz.ntmps41
              go_wp2
              go_ret
              exact ⟨by rw [H.out]; rfl, rfl⟩
            have n46 : (k == 46) = false := by simpa using e46
            by_cases e47 : k = 47
            · subst e47
              have H := key true (decide_eq_true (by omega))
              clear key
              go_enter Tryz.func41, Tryz.ntmps41
              go_wp2
              go_ret
              exact ⟨by rw [H.out]; rfl, rfl⟩
            have n47 : (k == 47) = false := by simpa using e47
            have H := key false (decide_eq_false (by omega))
            clear key
            go_enter Tryz.func41, Tryz.ntmps41
            go_wp2
            go_ret
            exact ⟨by rw [H.out]; rfl, rfl⟩
      · by_cases a48 : 48 ≤ k
        · by_cases b57 : k ≤ 57
          · have H := key true (decide_eq_true (by omega))
            clear key
            go_enter Tryz.func41, Tryz.ntmps41
            go_wp2
            go_ret
            exact ⟨by rw [H.out]; rfl, rfl⟩
          · by_cases e45 : k = 45
            · subst e45
              have H := key true (decide_eq_true (by omega))
              clear key
              go_enter Tryz.func41, Tryz.ntmps41
              go_wp2
              go_ret
              exact ⟨by rw [H.out]; rfl, rfl⟩
            have n45 : (k == 45) = false := by simpa using e45
            by_cases e95 : k = 95
            · subst e95
              have H := key true (decide_eq_true (by omega))
              clear key
              go_enter Tryz.func41, Tryz.ntmps41
              go_wp2
              go_ret
              exact ⟨by rw [H.out]; rfl, rfl⟩
            have n95 : (k == 95) = false := by simpa using e95
            by_cases e46 : k = 46
            · subst e46
              have H := key true (decide_eq_true (by omega))
              clear key
              go_enter Tryz.func41, Tryz.ntmps41
              go_wp2
              go_ret
              exact ⟨by rw [H.out]; rfl, rfl⟩
            have n46 : (k == 46) = false := by simpa using e46
            by_cases e47 : k = 47
            · subst e47
              have H := key true (decide_eq_true (by omega))
              clear key
              go_enter Tryz.func41, Tryz.ntmps41
              go_wp2
              go_ret
              exact ⟨by rw [H.out]; rfl, rfl⟩
            have n47 : (k == 47) = false := by simpa using e47
            have H := key false (decide_eq_false (by omega))
            clear key
            go_enter Tryz.func41, Tryz.ntmps41
            go_wp2
            go_ret
            exact ⟨by rw [H.out]; rfl, rfl⟩
        · by_cases e45 : k = 45
          · subst e45
            have H := key true (decide_eq_true (by omega))
            clear key
            go_enter Tryz.func41, Tryz.ntmps41
            go_wp2
            go_ret
            exact ⟨by rw [H.out]; rfl, rfl⟩
          have n45 : (k == 45) = false := by simpa using e45
          by_cases e95 : k = 95
          · subst e95
            have H := key true (decide_eq_true (by omega))
            clear key
            go_enter Tryz.func41, Tryz.ntmps41
            go_wp2
            go_ret
            exact ⟨by rw [H.out]; rfl, rfl⟩
          have n95 : (k == 95) = false := by simpa using e95
          by_cases e46 : k = 46
          · subst e46
            have H := key true (decide_eq_true (by omega))
            clear key
            go_enter Tryz.func41, Tryz.ntmps41
            go_wp2
            go_ret
            exact ⟨by rw [H.out]; rfl, rfl⟩
          have n46 : (k == 46) = false := by simpa using e46
          by_cases e47 : k = 47
          · subst e47
            have H := key true (decide_eq_true (by omega))
            clear key
            go_enter Tryz.func41, Tryz.ntmps41
            go_wp2
            go_ret
            exact ⟨by rw [H.out]; rfl, rfl⟩
          have n47 : (k == 47) = false := by simpa using e47
          have H := key false (decide_eq_false (by omega))
          clear key
          go_enter Tryz.func41, Tryz.ntmps41
          go_wp2
          go_ret
          exact ⟨by rw [H.out]; rfl, rfl⟩
  · by_cases a65 : 65 ≤ k
    · by_cases b90 : k ≤ 90
      · have H := key true (decide_eq_true (by omega))
        clear key
        go_enter Tryz.func41, Tryz.ntmps41
        go_wp2
        go_ret
        exact ⟨by rw [H.out]; rfl, rfl⟩
      · by_cases a48 : 48 ≤ k
        · by_cases b57 : k ≤ 57
          · have H := key true (decide_eq_true (by omega))
            clear key
            go_enter Tryz.func41, Tryz.ntmps41
            go_wp2
            go_ret
            exact ⟨by rw [H.out]; rfl, rfl⟩
          · by_cases e45 : k = 45
            · subst e45
              have H := key true (decide_eq_true (by omega))
              clear key
              go_enter Tryz.func41, Tryz.ntmps41
              go_wp2
              go_ret
              exact ⟨by rw [H.out]; rfl, rfl⟩
            have n45 : (k == 45) = false := by simpa using e45
            by_cases e95 : k = 95
            · subst e95
              have H := key true (decide_eq_true (by omega))
              clear key
              go_enter Tryz.func41, Tryz.ntmps41
              go_wp2
              go_ret
              exact ⟨by rw [H.out]; rfl, rfl⟩
            have n95 : (k == 95) = false := by simpa using e95
            by_cases e46 : k = 46
            · subst e46
              have H := key true (decide_eq_true (by omega))
              clear key
              go_enter Tryz.func41, Tryz.ntmps41
              go_wp2
              go_ret
              exact ⟨by rw [H.out]; rfl, rfl⟩
            have n46 : (k == 46) = false := by simpa using e46
            by_cases e47 : k = 47
            · subst e47
              have H := key true (decide_eq_true (by omega))
              clear key
              go_enter Tryz.func41, Tryz.ntmps41
              go_wp2
              go_ret
              exact ⟨by rw [H.out]; rfl, rfl⟩
            have n47 : (k == 47) = false := by simpa using e47
            have H := key false (decide_eq_false (by omega))
            clear key
            go_enter Tryz.func41, Tryz.ntmps41
            go_wp2
            go_ret
            exact ⟨by rw [H.out]; rfl, rfl⟩
        · by_cases e45 : k = 45
          · subst e45
            have H := key true (decide_eq_true (by omega))
            clear key
            go_enter Tryz.func41, Tryz.ntmps41
            go_wp2
            go_ret
            exact ⟨by rw [H.out]; rfl, rfl⟩
          have n45 : (k == 45) = false := by simpa using e45
          by_cases e95 : k = 95
          · subst e95
            have H := key true (decide_eq_true (by omega))
            clear key
            go_enter Tryz.func41, Tryz.ntmps41
            go_wp2
            go_ret
            exact ⟨by rw [H.out]; rfl, rfl⟩
          have n95 : (k == 95) = false := by simpa using e95
          by_cases e46 : k = 46
          · subst e46
            have H := key true (decide_eq_true (by omega))
            clear key
            go_enter Tryz.func41, Tryz.ntmps41
            go_wp2
            go_ret
            exact ⟨by rw [H.out]; rfl, rfl⟩
          have n46 : (k == 46) = false := by simpa using e46
          by_cases e47 : k = 47
          · subst e47
            have H := key true (decide_eq_true (by omega))
            clear key
            go_enter Tryz.func41, Tryz.ntmps41
            go_wp2
            go_ret
            exact ⟨by rw [H.out]; rfl, rfl⟩
          have n47 : (k == 47) = false := by simpa using e47
          have H := key false (decide_eq_false (by omega))
          clear key
          go_enter Tryz.func41, Tryz.ntmps41
          go_wp2
          go_ret
          exact ⟨by rw [H.out]; rfl, rfl⟩
    · by_cases a48 : 48 ≤ k
      · by_cases b57 : k ≤ 57
        · have H := key true (decide_eq_true (by omega))
          clear key
          go_enter Tryz.func41, Tryz.ntmps41
          go_wp2
          go_ret
          exact ⟨by rw [H.out]; rfl, rfl⟩
        · by_cases e45 : k = 45
          · subst e45
            have H := key true (decide_eq_true (by omega))
            clear key
            go_enter Tryz.func41, Tryz.ntmps41
            go_wp2
            go_ret
            exact ⟨by rw [H.out]; rfl, rfl⟩
          have n45 : (k == 45) = false := by simpa using e45
          by_cases e95 : k = 95
          · subst e95
            have H := key true (decide_eq_true (by omega))
            clear key
            go_enter Tryz.func41, Tryz.ntmps41
            go_wp2
            go_ret
            exact ⟨by rw [H.out]; rfl, rfl⟩
          have n95 : (k == 95) = false := by simpa using e95
          by_cases e46 : k = 46
          · subst e46
            have H := key true (decide_eq_true (by omega))
            clear key
            go_enter Tryz.func41, Tryz.ntmps41
            go_wp2
            go_ret
            exact ⟨by rw [H.out]; rfl, rfl⟩
          have n46 : (k == 46) = false := by simpa using e46
          by_cases e47 : k = 47
          · subst e47
            have H := key true (decide_eq_true (by omega))
            clear key
            go_enter Tryz.func41, Tryz.ntmps41
            go_wp2
            go_ret
            exact ⟨by rw [H.out]; rfl, rfl⟩
          have n47 : (k == 47) = false := by simpa using e47
          have H := key false (decide_eq_false (by omega))
          clear key
          go_enter Tryz.func41, Tryz.ntmps41
          go_wp2
          go_ret
          exact ⟨by rw [H.out]; rfl, rfl⟩
      · by_cases e45 : k = 45
        · subst e45
          have H := key true (decide_eq_true (by omega))
          clear key
          go_enter Tryz.func41, Tryz.ntmps41
          go_wp2
          go_ret
          exact ⟨by rw [H.out]; rfl, rfl⟩
        have n45 : (k == 45) = false := by simpa using e45
        by_cases e95 : k = 95
        · subst e95
          have H := key true (decide_eq_true (by omega))
          clear key
          go_enter Tryz.func41, Tryz.ntmps41
          go_wp2
          go_ret
          exact ⟨by rw [H.out]; rfl, rfl⟩
        have n95 : (k == 95) = false := by simpa using e95
        by_cases e46 : k = 46
        · subst e46
          have H := key true (decide_eq_true (by omega))
          clear key
          go_enter Tryz.func41, Tryz.ntmps41
          go_wp2
          go_ret
          exact ⟨by rw [H.out]; rfl, rfl⟩
        have n46 : (k == 46) = false := by simpa using e46
        by_cases e47 : k = 47
        · subst e47
          have H := key true (decide_eq_true (by omega))
          clear key
          go_enter Tryz.func41, Tryz.ntmps41
          go_wp2
          go_ret
          exact ⟨by rw [H.out]; rfl, rfl⟩
        have n47 : (k == 47) = false := by simpa using e47
        have H := key false (decide_eq_false (by omega))
        clear key
        go_enter Tryz.func41, Tryz.ntmps41
        go_wp2
        go_ret
        exact ⟨by rw [H.out]; rfl, rfl⟩

theorem rbare_any (b : UInt8) (w : World) : Calls Tryz.prog 41 #[.int .u8 (b.toNat : Int)] w fun e w' => e = .returned (.bool (bareN b.toNat)) ∧ w' = w := by
  rw [← bareI_nat]
  exact rbare_int _ _

set_option maxRecDepth 1000000 in
theorem prn_int (k : Int) (w : World) : Calls Tryz.prog 123 #[.int .u8 k] w fun e w' => e = .returned (.bool (prnI k)) ∧ w' = w := by
  have key : ∀ b, prnI k = b → Hid (prnI k = b) := fun b h => h
  by_cases a32 : 32 ≤ k
  · by_cases b126 : k ≤ 126
    · have H := key true (decide_eq_true (by omega))
      clear key
      go_enter Tryz.func123, Tryz.ntmps123
      go_wp2
      go_ret
      exact ⟨by rw [H.out]; rfl, rfl⟩
    · have H := key false (decide_eq_false (by omega))
      clear key
      go_enter Tryz.func123, Tryz.ntmps123
      go_wp2
      go_ret
      exact ⟨by rw [H.out]; rfl, rfl⟩
  · have H := key false (decide_eq_false (by omega))
    clear key
    go_enter Tryz.func123, Tryz.ntmps123
    go_wp2
    go_ret
    exact ⟨by rw [H.out]; rfl, rfl⟩

theorem prn_any (b : UInt8) (w : World) : Calls Tryz.prog 123 #[.int .u8 (b.toNat : Int)] w fun e w' => e = .returned (.bool (prnN b.toNat)) ∧ w' = w := by
  rw [← prnI_nat]
  exact prn_int _ _
end Go.Proofs.YtfeppannfcbakaaGreatDoor

namespace Go.Proofs.YtfeppannfcbakaaGreatDoor
open Go.RowKit
set_option linter.unusedVariables false

theorem isBareW_of {l : List UInt8} (h : ∀ j, j < l.length → bareN (l.getD j 0).toNat = true) : isBareW l = decide (l ≠ []) := by
  unfold isBareW
  rw [Bool.eq_iff_iff]
  simp only [decide_eq_true_eq]
  constructor
  · exact fun h => h.1
  · refine fun h0 => ⟨h0, fun b hb => ?_⟩
    obtain ⟨j, hj, rfl⟩ := List.getElem_of_mem hb
    have := h j hj
    simpa [List.getD, hj] using this
theorem isBareW_no {l : List UInt8} {k : Nat} (hk : k < l.length) (h : bareN (l.getD k 0).toNat = false) : isBareW l = false := by
  unfold isBareW
  refine decide_eq_false (fun h2 => ?_)
  have := h2.2 l[k] (List.getElem_mem hk)
  have e : l.getD k 0 = l[k] := by simp [List.getD, hk]
  rw [e, this] at h
  cases h

set_option maxHeartbeats 800000 in
set_option maxRecDepth 1000000 in
theorem isBareWord_any {l : List UInt8} {w : World} (hl : l.length ≤ 140737488355328) : Calls Tryz.prog 91 #[.string ⟨l.toArray⟩] w fun e w' => e = .returned (.bool (isBareW l)) ∧ w' = w := by
  have hz : (⟨l.toArray⟩ : ByteArray).size = l.length := by simp [ByteArray.size]
  have IX : Hid (∀ k, k < l.length → ∀ W, (Instr.index 9 (.string ⟨l.toArray⟩) (.int .i64 (k : Int))).run Tryz.prog W = .ok (.int .u8 ((l.getD k 0).toNat : Int)) W) := fun k hk W => idx_at hk W
  have EM : Hid ((!(⟨l.toArray⟩ : ByteArray).toList.isEmpty) = decide (l ≠ [])) := hid <| by
    rw [Lib.toList_data]
    cases l <;> simp
  generalize ByteArray.mk l.toArray = S at *
  generalize hn : l.length = n at *
  have HN := hid hn
  clear hn
  go_enter Tryz.func91, Tryz.ntmps91
  go_wp2
  go_loopw [6] (fun iv wr => ∃ k : Nat, k ≤ n ∧ iv = .int .i64 (k : Int) ∧ Hid (∀ j, j < k → bareN (l.getD j 0).toNat = true) ∧ wr = w) (fun iv _ => n - (intOf iv).toNat)
  case atStart => exact ⟨0, by omega, rfl, fun j hj => by omega, rfl⟩
  case round =>
    obtain ⟨k, hk, rfl, hall, rfl⟩ := hrel
    by_cases hlt : k < n
    · have ix := IX.out k hlt
      have hlt' : (k : Int) < (n : Int) := by omega
      generalize hb : l.getD k 0 = b at ix
      have HB := hid hb
      clear hb
      cases hx : bareN b.toNat with
      | true =>
        go_wp2_with (go_at_call 67; refine (isBare_any b _).mono ?_; rintro e w1 ⟨rfl, rfl⟩; rw [hx])
        go_roundw
        case rel => exact ⟨k + 1, by omega, by go_num, fun j hj => by
            by_cases hjk : j < k
            · exact hall.out j hjk
            · have : j = k := by omega
              subst this
              rw [HB.out]; exact hx, trivial⟩
        case measure => simp [intOf]; omega
      | false =>
        have fin : Hid (isBareW l = false) := isBareW_no (k := k) (by rw [HN.out]; exact hlt) (by rw [HB.out]; exact hx)
        go_wp2_with (go_at_call 67; refine (isBare_any b _).mono ?_; rintro e w1 ⟨rfl, rfl⟩; rw [hx])
        go_ret
        exact ⟨by rw [fin.out]; rfl, rfl⟩
    · have fin : Hid (isBareW l = decide (l ≠ [])) := isBareW_of (fun j hj => hall.out j (by have := HN.out; omega))
      have hlt' : ¬ (k : Int) < (n : Int) := by omega
      go_wp2
      go_ret
      exact ⟨by rw [fin.out, ← EM.out]; rfl, rfl⟩
set_option maxHeartbeats 800000 in
set_option maxRecDepth 1000000 in
theorem risBare_any {l : List UInt8} {w : World} (hl : l.length ≤ 140737488355328) : Calls Tryz.prog 77 #[.string ⟨l.toArray⟩] w fun e w' => e = .returned (.bool (isBareW l)) ∧ w' = w := by
  have hz : (⟨l.toArray⟩ : ByteArray).size = l.length := by simp [ByteArray.size]
  have IX : Hid (∀ k, k < l.length → ∀ W, (Instr.index 9 (.string ⟨l.toArray⟩) (.int .i64 (k : Int))).run Tryz.prog W = .ok (.int .u8 ((l.getD k 0).toNat : Int)) W) := fun k hk W => idx_at hk W
  have EM : Hid (decide (0 < l.length) = decide (l ≠ [])) := hid <| by
    cases l <;> simp
  generalize ByteArray.mk l.toArray = S at *
  generalize hn : l.length = n at *
  have HN := hid hn
  clear hn
  go_enter Tryz.func77, Tryz.ntmps77
  go_wp2
  go_loopw [3] (fun iv wr => ∃ k : Nat, k ≤ n ∧ iv = .int .i64 (k : Int) ∧ Hid (∀ j, j < k → bareN (l.getD j 0).toNat = true) ∧ wr = w) (fun iv _ => n - (intOf iv).toNat)
  case atStart => exact ⟨0, by omega, rfl, fun j hj => by omega, rfl⟩
  case round =>
    obtain ⟨k, hk, rfl, hall, rfl⟩ := hrel
    by_cases hlt : k < n
    · have ix := IX.out k hlt
      have hlt' : (k : Int) < (n : Int) := by omega
      generalize hb : l.getD k 0 = b at ix
      have HB := hid hb
      clear hb
      cases hx : bareN b.toNat with
      | true =>
        go_wp2_with (go_at_call 41; refine (rbare_any b _).mono ?_; rintro e w1 ⟨rfl, rfl⟩; rw [hx])
        go_roundw
        case rel => exact ⟨k + 1, by omega, by go_num, fun j hj => by
            by_cases hjk : j < k
            · exact hall.out j hjk
            · have : j = k := by omega
              subst this
              rw [HB.out]; exact hx, trivial⟩
        case measure => simp [intOf]; omega
      | false =>
        have fin : Hid (isBareW l = false) := isBareW_no (k := k) (by rw [HN.out]; exact hlt) (by rw [HB.out]; exact hx)
        go_wp2_with (go_at_call 41; refine (rbare_any b _).mono ?_; rintro e w1 ⟨rfl, rfl⟩; rw [hx])
        go_ret
        exact ⟨by rw [fin.out]; rfl, rfl⟩
    · have fin : Hid (isBareW l = decide (l ≠ [])) := isBareW_of (fun j hj => hall.out j (by have := HN.out; omega))
      have hlt' : ¬ (k : Int) < (n : Int) := by omega
      go_wp2
      go_ret
      exact ⟨by rw [fin.out, ← EM.out]; rfl, rfl⟩
end Go.Proofs.YtfeppannfcbakaaGreatDoor

namespace Go.Proofs.YtfeppannfcbakaaGreatDoor
set_option linter.unusedVariables false

/-- A digit of a byte's two. -/
def hexD (n : Nat) : UInt8 := if n < 10 then UInt8.ofNat (48 + n) else UInt8.ofNat (87 + n)
theorem hexD_nat {n : Nat} (h : n < 16) : (hexD n).toNat = if n < 10 then 48 + n else 87 + n := by
  unfold hexD
  split <;> simp <;> omega
theorem hexN_hexD {n : Nat} (h : n < 16) : hexN (hexD n).toNat = some n := by
  have hh : ∀ a : Fin 16, hexN (hexD a.val).toNat = some a.val := by decide
  exact hh ⟨n, h⟩
theorem hexD_hexN {b : UInt8} {d : Nat} (h : hexN b.toNat = some d) : hexD d = b := by
  apply UInt8.toNat_inj.1
  have hd := hexN_lt h
  rw [hexD_nat hd]
  unfold hexN at h
  split at h
  · simp only [Option.some.injEq] at h; subst h; rw [if_pos (by omega)]; omega
  · split at h
    · simp only [Option.some.injEq] at h; subst h; rw [if_neg (by omega)]; omega
    · simp at h
/-- A byte within quotes, as it is written. -/
def escB (b : UInt8) : List UInt8 := if prnN b.toNat = true then (if b.toNat = 34 ∨ b.toNat = 92 then [92, b] else [b]) else [92, 120, hexD (b.toNat / 16), hexD (b.toNat % 16)]
def escW (x : List UInt8) : List UInt8 := x.flatMap escB
theorem escW_snoc (x : List UInt8) (b : UInt8) : escW (x ++ [b]) = escW x ++ escB b := by simp [escW]
/-- A word as it is written. -/
def wrtW (x : List UInt8) : List UInt8 := if isBareW x = true then x else 34 :: (escW x ++ [34])
def tailW (ws : Ws) : List UInt8 := ws.flatMap fun x => 32 :: wrtW x
/-- A line of words. -/
def joinW : Ws → List UInt8
  | [] => []
  | x :: r => wrtW x ++ tailW r
/-- What stands ahead of the next word. -/
def preW (ws : Ws) : List UInt8 := if ws = [] then [] else joinW ws ++ [32]
theorem joinW_snoc (ws : Ws) (x : List UInt8) : joinW (ws ++ [x]) = preW ws ++ wrtW x := by
  cases ws with
  | nil => simp [joinW, preW, tailW]
  | cons a r => simp [joinW, preW, tailW]

theorem runW_cons {s s' : St} {ws ws' : Ws} {k : Nat} {b : UInt8} {t : List UInt8} (h : stepW s ws k b = .go s' ws') : runW s ws k (b :: t) = runW s' ws' (k + 1) t := by rw [runW, h]

theorem run_bare : ∀ (r a t : List UInt8) (ws : Ws) (k : Nat), (∀ b ∈ r, bareN b.toNat = true) → runW (.bare a) ws k (r ++ t) = runW (.bare (a ++ r)) ws (k + r.length) t
  | [], a, t, ws, k, h => by simp
  | b :: r, a, t, ws, k, h => by
    rw [List.cons_append, runW_cons (s' := .bare (a ++ [b])) (ws' := ws) (by simp only [stepW]; rw [if_pos (h b (by simp))]), run_bare r _ _ _ _ (fun c hc => h c (by simp [hc]))]
    simp only [List.append_assoc, List.singleton_append, List.length_cons]
    congr 1
    omega

theorem n_of (n : Nat) (h : n < 256) : (UInt8.ofNat n).toNat = n := by simp; omega

theorem run_byte (b : UInt8) (o : Nat) (a t : List UInt8) (ws : Ws) (k : Nat) : runW (.quote o a) ws k (escB b ++ t) = runW (.quote o (a ++ [b])) ws (k + (escB b).length) t := by
  unfold escB
  by_cases hp : prnN b.toNat = true
  · rw [if_pos hp]
    by_cases hq : b.toNat = 34 ∨ b.toNat = 92
    · rw [if_pos hq, List.cons_append, runW_cons (s' := .esc o a k) (ws' := ws) (by simp [stepW]), List.cons_append, runW_cons (s' := .quote o (a ++ [b])) (ws' := ws) (by simp only [stepW]; rw [if_neg (by omega), if_pos hq])]
      rfl
    · rw [if_neg hq, List.cons_append, runW_cons (s' := .quote o (a ++ [b])) (ws' := ws) (by simp only [stepW]; rw [if_neg (by omega), if_neg (by omega), if_pos hp])]
      rfl
  · rw [if_neg hp, List.cons_append, runW_cons (s' := .esc o a k) (ws' := ws) (by simp [stepW]), List.cons_append, runW_cons (s' := .high o a k) (ws' := ws) (by simp [stepW])]
    have hb := b.toNat_lt
    rw [List.cons_append, runW_cons (s' := .low o a k (b.toNat / 16)) (ws' := ws) (by simp only [stepW]; rw [hexN_hexD (by omega)]), List.cons_append]
    have e : 16 * (b.toNat / 16) + b.toNat % 16 = b.toNat := by omega
    rw [runW_cons (s' := .quote o (a ++ [b])) (ws' := ws) (by
      simp only [stepW]
      rw [hexN_hexD (by omega)]
      simp only
      rw [e, if_neg hp]
      simp)]
    rfl
theorem run_esc : ∀ (x a t : List UInt8) (o : Nat) (ws : Ws) (k : Nat), runW (.quote o a) ws k (escW x ++ t) = runW (.quote o (a ++ x)) ws (k + (escW x).length) t
  | [], a, t, o, ws, k => by simp [escW]
  | b :: x, a, t, o, ws, k => by
    have e : escW (b :: x) = escB b ++ escW x := by simp [escW]
    rw [e, List.append_assoc, run_byte, run_esc x]
    simp only [List.append_assoc, List.singleton_append, List.length_append]
    congr 1
    omega
theorem bareW_all {x : List UInt8} (h : isBareW x = true) : x ≠ [] ∧ ∀ b ∈ x, bareN b.toNat = true := of_decide_eq_true h
theorem bare_no {b : UInt8} (h : bareN b.toNat = true) : b.toNat ≠ 32 ∧ b.toNat ≠ 34 ∧ b.toNat ≠ 92 := by
  refine ⟨fun e => ?_, fun e => ?_, fun e => ?_⟩ <;> (rw [e] at h; simp [bareN] at h)
/-- A written word is read. -/
theorem run_word (x : List UInt8) (t : List UInt8) (ws : Ws) (k : Nat) (h : t = [] ∨ ∃ t', t = 32 :: t') :
    runW .ahead ws k (wrtW x ++ t) = runW .closed (ws ++ [x]) (k + (wrtW x).length) t := by
  unfold wrtW
  cases hx : isBareW x with
  | true =>
    rw [if_pos rfl]
    obtain ⟨hne, hall⟩ := bareW_all hx
    cases x with
    | nil => exact absurd rfl hne
    | cons b r =>
      have hb := hall b (by simp)
      obtain ⟨n1, n2, n3⟩ := bare_no hb
      rw [List.cons_append, runW_cons (s' := .bare [b]) (ws' := ws) (by simp only [stepW]; rw [if_neg n1, if_neg n2, if_pos hb]), run_bare r _ _ _ _ (fun c hc => hall c (by simp [hc]))]
      have e : k + 1 + r.length = k + (b :: r).length := by simp; omega
      rw [e, List.singleton_append]
      rcases h with rfl | ⟨t', rfl⟩
      · rfl
      · rw [runW_cons (s' := .ahead) (ws' := ws ++ [b :: r]) (by simp [stepW, bareN]), runW_cons (s' := .ahead) (ws' := ws ++ [b :: r]) (by simp [stepW])]
  | false =>
    rw [if_neg (by simp), List.cons_append, runW_cons (s' := .quote k []) (ws' := ws) (by simp [stepW]), List.append_assoc, run_esc, List.nil_append, List.singleton_append, runW_cons (s' := .closed) (ws' := ws ++ [x]) (by simp [stepW, hx])]
    congr 1
    simp
    omega
theorem run_tail : ∀ (r : Ws) (ws : Ws) (k : Nat), runW .closed ws k (tailW r) = .ok (ws ++ r)
  | [], ws, k => by simp [tailW, runW, finW]
  | x :: r, ws, k => by
    have e : tailW (x :: r) = 32 :: (wrtW x ++ tailW r) := by simp [tailW]
    rw [e, runW_cons (s' := .ahead) (ws' := ws) (by simp [stepW]), run_word, run_tail r]
    · simp
    · cases r with
      | nil => exact Or.inl rfl
      | cons y r => exact Or.inr ⟨_, by simp [tailW]; rfl⟩
/-- Split of Join. -/
theorem run_join (ws : Ws) : runW .ahead [] 0 (joinW ws) = .ok ws := by
  cases ws with
  | nil => rfl
  | cons x r =>
    rw [joinW, run_word, run_tail]
    · simp
    · cases r with
      | nil => exact Or.inl rfl
      | cons y r => exact Or.inr ⟨_, by simp [tailW]; rfl⟩
end Go.Proofs.YtfeppannfcbakaaGreatDoor
