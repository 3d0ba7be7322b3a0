import Derived.Test.YtblojlaifnmimaaGreatDoorJ6
import Derived.Test.YtblojlaifnmimaaGreatDoorSLa
namespace Go.Proofs.YtblojlaifnmimaaGreatDoor
open Go.RowKit
set_option linter.unusedVariables false

def bareI (k : Int) : Bool := decide ((97 ≤ k ∧ k ≤ 122) ∨ (65 ≤ k ∧ k ≤ 90) ∨ (48 ≤ k ∧ k ≤ 57) ∨ k = 45 ∨ k = 95 ∨ k = 46 ∨ k = 47)
theorem bareI_nat (n : Nat) : bareI (n : Int) = bareN n := by
  unfold bareI bareN
  rw [Bool.eq_iff_iff]
  simp only [decide_eq_true_eq]
  omega
def prnI (k : Int) : Bool := decide (32 ≤ k ∧ k ≤ 126)
theorem prnI_nat (n : Nat) : prnI (n : Int) = prnN n := by
  unfold prnI prnN
  rw [Bool.eq_iff_iff]
  simp only [decide_eq_true_eq]
  omega

set_option maxRecDepth 1000000 in
theorem isBare_int (k : Int) (w : World) : Calls Tryz.prog 67 #[.int .u8 k] w fun e w' => e = .returned (.bool (bareI k)) ∧ w' = w := by
  have key : ∀ b, bareI k = b → Hid (bareI k = b) := fun b h => h
  by_cases e45 : k = 45
  · subst e45
    have H := key true (decide_eq_true (by omega))
    clear key
    go_enter Tryz.func67, Tryz.ntmps67
    go_wp2
    go_ret
    exact ⟨by rw [H.out]; rfl, rfl⟩
  have n45 : (k == 45) = false := by simpa using e45
  by_cases e95 : k = 95
  · subst e95
    have H := key true (decide_eq_true (by omega))
    clear key
    go_enter Tryz.func67, Tryz.ntmps67
    go_wp2
    go_ret
    exact ⟨by rw [H.out]; rfl, rfl⟩
  have n95 : (k == 95) = false := by simpa using e95
  by_cases e46 : k = 46
  · subst e46
    have H := key true (decide_eq_true (by omega))
    clear key
    go_enter Tryz.func67, Tryz.ntmps67
    go_wp2
    go_ret
    exact ⟨by rw [H.out]; rfl, rfl⟩
  have n46 : (k == 46) = false := by simpa using e46
  by_cases e47 : k = 47
  · subst e47
    have H := key true (decide_eq_true (by omega))
    clear key
    go_enter Tryz.func67, Tryz.ntmps67
    go_wp2
    go_ret
    exact ⟨by rw [H.out]; rfl, rfl⟩
  have n47 : (k == 47) = false := by simpa using e47
  by_cases a97 : 97 ≤ k
  · by_cases b122 : k ≤ 122
    · have H := key true (decide_eq_true (by omega))
      clear key
      go_enter Tryz.func67, Tryz.ntmps67
      go_wp2
      go_ret
      exact ⟨by rw [H.out]; rfl, rfl⟩
    · by_cases a65 : 65 ≤ k
      · by_cases b90 : k ≤ 90
        · have H := key true (decide_eq_true (by omega))
          clear key
          go_enter Tryz.func67, Tryz.ntmps67
          go_wp2
          go_ret
          exact ⟨by rw [H.out]; rfl, rfl⟩
        · by_cases a48 : 48 ≤ k
          · by_cases b57 : k ≤ 57
            · have H := key true (decide_eq_true (by omega))
              clear key
              go_enter Tryz.func67, Tryz.ntmps67
              go_wp2
              go_ret
              exact ⟨by rw [H.out]; rfl, rfl⟩
            · have H := key false (decide_eq_false (by omega))
              clear key
              go_enter Tryz.func67, Tryz.ntmps67
              go_wp2
              go_ret
              exact ⟨by rw [H.out]; rfl, rfl⟩
          · have H := key false (decide_eq_false (by omega))
            clear key
            go_enter Tryz.func67, Tryz.ntmps67
            go_wp2
            go_ret
            exact ⟨by rw [H.out]; rfl, rfl⟩
      · by_cases a48 : 48 ≤ k
        · by_cases b57 : k ≤ 57
          · have H := key true (decide_eq_true (by omega))
            clear key
            go_enter Tryz.func67, Tryz.ntmps67
            go_wp2
            go_ret
            exact ⟨by rw [H.out]; rfl, rfl⟩
          · have H := key false (decide_eq_false (by omega))
            clear key
            go_enter Tryz.func67, Tryz.ntmps67
            go_wp2
            go_ret
            exact ⟨by rw [H.out]; rfl, rfl⟩
        · have H := key false (decide_eq_false (by omega))
          clear key
          go_enter Tryz.func67, Tryz.ntmps67
          go_wp2
          go_ret
          exact ⟨by rw [H.out]; rfl, rfl⟩
  · by_cases a65 : 65 ≤ k
    · by_cases b90 : k ≤ 90
      · have H := key true (decide_eq_true (by omega))
        clear key
        go_enter Tryz.func67, Tryz.ntmps67
        go_wp2
        go_ret
        exact ⟨by rw [H.out]; rfl, rfl⟩
      · by_cases a48 : 48 ≤ k
        · by_cases b57 : k ≤ 57
          · have H := key true (decide_eq_true (by omega))
            clear key
            go_enter Tryz.func67, Tryz.ntmps67
            go_wp2
            go_ret
            exact ⟨by rw [H.out]; rfl, rfl⟩
          · have H := key false (decide_eq_false (by omega))
            clear key
            go_enter Tryz.func67, Tryz.ntmps67
            go_wp2
            go_ret
            exact ⟨by rw [H.out]; rfl, rfl⟩
        · have H := key false (decide_eq_false (by omega))
          clear key
          go_enter Tryz.func67, Tryz.ntmps67
          go_wp2
          go_ret
          exact ⟨by rw [H.out]; rfl, rfl⟩
    · by_cases a48 : 48 ≤ k
      · by_cases b57 : k ≤ 57
        · have H := key true (decide_eq_true (by omega))
          clear key
          go_enter Tryz.func67, Tryz.ntmps67
          go_wp2
          go_ret
          exact ⟨by rw [H.out]; rfl, rfl⟩
        · have H := key false (decide_eq_false (by omega))
          clear key
          go_enter Tryz.func67, Tryz.ntmps67
          go_wp2
          go_ret
          exact ⟨by rw [H.out]; rfl, rfl⟩
      · have H := key false (decide_eq_false (by omega))
        clear key
        go_enter Tryz.func67, Tryz.ntmps67
        go_wp2
        go_ret
        exact ⟨by rw [H.out]; rfl, rfl⟩

theorem isBare_any (b : UInt8) (w : World) : Calls Tryz.prog 67 #[.int .u8 (b.toNat : Int)] w fun e w' => e = .returned (.bool (bareN b.toNat)) ∧ w' = w := by
  rw [← bareI_nat]
  exact isBare_int _ _

set_option maxRecDepth 1000000 in
theorem rbare_int (k : Int) (w : World) : Calls Tryz.prog 39 #[.int .u8 k] w fun e w' => e = .returned (.bool (bareI k)) ∧ w' = w := by
  have key : ∀ b, bareI k = b → Hid (bareI k = b) := fun b h => h
  by_cases a97 : 97 ≤ k
  · by_cases b122 : k ≤ 122
    · have H := key true (decide_eq_true (by omega))
      clear key
      go_enter Tryz.func39, Tryz.ntmps39
      go_wp2
      go_ret
      exact ⟨by rw [H.out]; rfl, rfl⟩
    · by_cases a65 : 65 ≤ k
      · by_cases b90 : k ≤ 90
        · have H := key true (decide_eq_true (by omega))
          clear key
          go_enter Tryz.func39, Tryz.ntmps39
          go_wp2
          go_ret
          exact ⟨by rw [H.out]; rfl, rfl⟩
        · by_cases a48 : 48 ≤ k
          · by_cases b57 : k ≤ 57
            · have H := key true (decide_eq_true (by omega))
              clear key
              go_enter Tryz.func39, Tryz.ntmps39
              go_wp2
              go_ret
              exact ⟨by rw [H.out]; rfl, rfl⟩
            · by_cases e45 : k = 45
              · subst e45
                have H := key true (decide_eq_true (by omega))
                clear key
                go_enter Tryz.func39, Tryz.ntmps39
                go_wp2
                go_ret
                exact ⟨by rw [H.out]; rfl, rfl⟩
              have n45 : (k == 45) = false := by simpa using e45
              by_cases e95 : k = 95
              · subst e95
                have H := key true (decide_eq_true (by omega))
                clear key
                go_enter Tryz.func39, Tryz.ntmps39
                go_wp2
                go_ret
                exact ⟨by rw [H.out]; rfl, rfl⟩
              have n95 : (k == 95) = false := by simpa using e95
              by_cases e46 : k = 46
              · subst e46
                have H := key true (decide_eq_true (by omega))
                clear key
                go_enter Tryz.func39, Tryz.ntmps39
                go_wp2
                go_ret
                exact ⟨by rw [H.out]; rfl, rfl⟩
              have n46 : (k == 46) = false := by simpa using e46
              by_cases e47 : k = 47
              · subst e47
                have H := key true (decide_eq_true (by omega))
                clear key
                go_enter Tryz.func39, Tryz.ntmps39
                go_wp2
                go_ret
                exact ⟨by rw [H.out]; rfl, rfl⟩
              have n47 : (k == 47) = false := by simpa using e47
              have H := key false (decide_eq_false (by omega))
              clear key
              go_enter Tryz.func39, Tryz.ntmps39
              go_wp2
              go_ret
              exact ⟨by rw [H.out]; rfl, rfl⟩
          · by_cases e45 : k = 45
            · subst e45
              have H := key true (decide_eq_true (by omega))
              clear key
              go_enter Tryz.func39, Tryz.ntmps39
              go_wp2
              go_ret
              exact ⟨by rw [H.out]; rfl, rfl⟩
            have n45 : (k == 45) = false := by simpa using e45
            by_cases e95 : k = 95
            · subst e95
              have H := key true (decide_eq_true (by omega))
              clear key
              go_enter Tryz.func39, Tryz.ntmps39
              go_wp2
              go_ret
              exact ⟨by rw [H.out]; rfl, rfl⟩
            have n95 : (k == 95) = false := by simpa using e95
            by_cases e46 : k = 46
            · subst e46
              have H := key true (decide_eq_true (by omega))
              clear key
              go_enter Tryz.func39, Tryz.ntmps39
              go_wp2
              go_ret
              exact ⟨by rw [H.out]; rfl, rfl⟩
            have n46 : (k == 46) = false := by simpa using e46
            by_cases e47 : k = 47
            · subst e47
              have H := key true (decide_eq_true (by omega))
              clear key
              go_enter Tryz.func39, Tryz.ntmps39
              go_wp2
              go_ret
              exact ⟨by rw [H.out]; rfl, rfl⟩
            have n47 : (k == 47) = false := by simpa using e47
            have H := key false (decide_eq_false (by omega))
            clear key
            go_enter Tryz.func39, Tryz.ntmps39
            go_wp2
            go_ret
            exact ⟨by rw [H.out]; rfl, rfl⟩
      · by_cases a48 : 48 ≤ k
        · by_cases b57 : k ≤ 57
          · have H := key true (decide_eq_true (by omega))
            clear key
            go_enter Tryz.func39, Tryz.ntmps39
            go_wp2
            go_ret
            exact ⟨by rw [H.out]; rfl, rfl⟩
          · by_cases e45 : k = 45
            · subst e45
              have H := key true (decide_eq_true (by omega))
              clear key
              go_enter Tryz.func39, Tryz.ntmps39
              go_wp2
              go_ret
              exact ⟨by rw [H.out]; rfl, rfl⟩
            have n45 : (k == 45) = false := by simpa using e45
            by_cases e95 : k = 95
            · subst e95
              have H := key true (decide_eq_true (by omega))
              clear key
              go_enter Tryz.func39, Tryz.ntmps39
              go_wp2
              go_ret
              exact ⟨by rw [H.out]; rfl, rfl⟩
            have n95 : (k == 95) = false := by simpa using e95
            by_cases e46 : k = 46
            · subst e46
              have H := key true (decide_eq_true (by omega))
              clear key
              go_enter Tryz.func39, Tryz.ntmps39
              go_wp2
              go_ret
              exact ⟨by rw [H.out]; rfl, rfl⟩
            have n46 : (k == 46) = false := by simpa using e46
            by_cases e47 : k = 47
            · subst e47
              have H := key true (decide_eq_true (by omega))
              clear key
              go_enter Tryz.func39, Tryz.ntmps39
              go_wp2
              go_ret
              exact ⟨by rw [H.out]; rfl, rfl⟩
            have n47 : (k == 47) = false := by simpa using e47
            have H := key false (decide_eq_false (by omega))
            clear key
            go_enter Tryz.func39, Tryz.ntmps39
            go_wp2
            go_ret
            exact ⟨by rw [H.out]; rfl, rfl⟩
        · by_cases e45 : k = 45
          · subst e45
            have H := key true (decide_eq_true (by omega))
            clear key
            go_enter Tryz.func39, Tryz.ntmps39
            go_wp2
            go_ret
            exact ⟨by rw [H.out]; rfl, rfl⟩
          have n45 : (k == 45) = false := by simpa using e45
          by_cases e95 : k = 95
          · subst e95
            have H := key true (decide_eq_true (by omega))
            clear key
            go_enter Tryz.func39, Tryz.ntmps39
            go_wp2
            go_ret
            exact ⟨by rw [H.out]; rfl, rfl⟩
          have n95 : (k == 95) = false := by simpa using e95
          by_cases e46 : k = 46
          · subst e46
            have H := key true (decide_eq_true (by omega))
            clear key
            go_enter Tryz.func39, Tryz.ntmps39
            go_wp2
            go_ret
            exact ⟨by rw [H.out]; rfl, rfl⟩
          have n46 : (k == 46) = false := by simpa using e46
          by_cases e47 : k = 47
          · subst e47
            have H := key true (decide_eq_true (by omega))
            clear key
            go_enter Tryz.func39, Tryz.ntmps39
            go_wp2
            go_ret
            exact ⟨by rw [H.out]; rfl, rfl⟩
          have n47 : (k == 47) = false := by simpa using e47
          have H := key false (decide_eq_false (by omega))
          clear key
          go_enter Tryz.func39, Tryz.ntmps39
          go_wp2
          go_ret
          exact ⟨by rw [H.out]; rfl, rfl⟩
  · by_cases a65 : 65 ≤ k
    · by_cases b90 : k ≤ 90
      · have H := key true (decide_eq_true (by omega))
        clear key
        go_enter Tryz.func39, Tryz.ntmps39
        go_wp2
        go_ret
        exact ⟨by rw [H.out]; rfl, rfl⟩
      · by_cases a48 : 48 ≤ k
        · by_cases b57 : k ≤ 57
          · have H := key true (decide_eq_true (by omega))
            clear key
            go_enter Tryz.func39, Tryz.ntmps39
            go_wp2
            go_ret
            exact ⟨by rw [H.out]; rfl, rfl⟩
          · by_cases e45 : k = 45
            · subst e45
              have H := key true (decide_eq_true (by omega))
              clear key
              go_enter Tryz.func39, Tryz.ntmps39
              go_wp2
              go_ret
              exact ⟨by rw [H.out]; rfl, rfl⟩
            have n45 : (k == 45) = false := by simpa using e45
            by_cases e95 : k = 95
            · subst e95
              have H := key true (decide_eq_true (by omega))
              clear key
              go_enter Tryz.func39, Tryz.ntmps39
              go_wp2
              go_ret
              exact ⟨by rw [H.out]; rfl, rfl⟩
            have n95 : (k == 95) = false := by simpa using e95
            by_cases e46 : k = 46
            · subst e46
              have H := key true (decide_eq_true (by omega))
              clear key
              go_enter Tryz.func39, Tryz.ntmps39
              go_wp2
              go_ret
              exact ⟨by rw [H.out]; rfl, rfl⟩
            have n46 : (k == 46) = false := by simpa using e46
            by_cases e47 : k = 47
            · subst e47
              have H := key true (decide_eq_true (by omega))
              clear key
              go_enter Tryz.func39, Tryz.ntmps39
              go_wp2
              go_ret
              exact ⟨by rw [H.out]; rfl, rfl⟩
            have n47 : (k == 47) = false := by simpa using e47
            have H := key false (decide_eq_false (by omega))
            clear key
            go_enter Tryz.func39, Tryz.ntmps39
            go_wp2
            go_ret
            exact ⟨by rw [H.out]; rfl, rfl⟩
        · by_cases e45 : k = 45
          · subst e45
            have H := key true (decide_eq_true (by omega))
            clear key
            go_enter Tryz.func39, Tryz.ntmps39
            go_wp2
            go_ret
            exact ⟨by rw [H.out]; rfl, rfl⟩
          have n45 : (k == 45) = false := by simpa using e45
          by_cases e95 : k = 95
          · subst e95
            have H := key true (decide_eq_true (by omega))
            clear key
            go_enter Tryz.func39, Tryz.ntmps39
            go_wp2
            go_ret
            exact ⟨by rw [H.out]; rfl, rfl⟩
          have n95 : (k == 95) = false := by simpa using e95
          by_cases e46 : k = 46
          · subst e46
            have H := key true (decide_eq_true (by omega))
            clear key
            go_enter Tryz.func39, Tryz.ntmps39
            go_wp2
            go_ret
            exact ⟨by rw [H.out]; rfl, rfl⟩
          have n46 : (k == 46) = false := by simpa using e46
          by_cases e47 : k = 47
          · subst e47
            have H := key true (decide_eq_true (by omega))
            clear key
            go_enter Tryz.func39, Tryz.ntmps39
            go_wp2
            go_ret
            exact ⟨by rw [H.out]; rfl, rfl⟩
          have n47 : (k == 47) = false := by simpa using e47
          have H := key false (decide_eq_false (by omega))
          clear key
          go_enter Tryz.func39, Tryz.ntmps39
          go_wp2
          go_ret
          exact ⟨by rw [H.out]; rfl, rfl⟩
    · by_cases a48 : 48 ≤ k
      · by_cases b57 : k ≤ 57
        · have H := key true (decide_eq_true (by omega))
          clear key
          go_enter Tryz.func39, Tryz.ntmps39
          go_wp2
          go_ret
          exact ⟨by rw [H.out]; rfl, rfl⟩
        · by_cases e45 : k = 45
          · subst e45
            have H := key true (decide_eq_true (by omega))
            clear key
            go_enter Tryz.func39, Tryz.ntmps39
            go_wp2
            go_ret
            exact ⟨by rw [H.out]; rfl, rfl⟩
          have n45 : (k == 45) = false := by simpa using e45
          by_cases e95 : k = 95
          · subst e95
            have H := key true (decide_eq_true (by omega))
            clear key
            go_enter Tryz.func39, Tryz.ntmps39
            go_wp2
            go_ret
            exact ⟨by rw [H.out]; rfl, rfl⟩
          have n95 : (k == 95) = false := by simpa using e95
          by_cases e46 : k = 46
          · subst e46
            have H := key true (decide_eq_true (by omega))
            clear key
            go_enter Tryz.func39, Tryz.ntmps39
            go_wp2
            go_ret
            exact ⟨by rw [H.out]; rfl, rfl⟩
          have n46 : (k == 46) = false := by simpa using e46
          by_cases e47 : k = 47
          · subst e47
            have H := key true (decide_eq_true (by omega))
            clear key
            go_enter Tryz.func39, Tryz.ntmps39
            go_wp2
            go_ret
            exact ⟨by rw [H.out]; rfl, rfl⟩
          have n47 : (k == 47) = false := by simpa using e47
          have H := key false (decide_eq_false (by omega))
          clear key
          go_enter Tryz.func39, Tryz.ntmps39
          go_wp2
          go_ret
          exact ⟨by rw [H.out]; rfl, rfl⟩
      · by_cases e45 : k = 45
        · subst e45
          have H := key true (decide_eq_true (by omega))
          clear key
          go_enter Tryz.func39, Tryz.ntmps39
          go_wp2
          go_ret
          exact ⟨by rw [H.out]; rfl, rfl⟩
        have n45 : (k == 45) = false := by simpa using e45
        by_cases e95 : k = 95
        · subst e95
          have H := key true (decide_eq_true (by omega))
          clear key
          go_enter Tryz.func39, Tryz.ntmps39
          go_wp2
          go_ret
          exact ⟨by rw [H.out]; rfl, rfl⟩
        have n95 : (k == 95) = false := by simpa using e95
        by_cases e46 : k = 46
        · subst e46
          have H := key true (decide_eq_true (by omega))
          clear key
          go_enter Tryz.func39, Tryz.ntmps39
          go_wp2
          go_ret
          exact ⟨by rw [H.out]; rfl, rfl⟩
        have n46 : (k == 46) = false := by simpa using e46
        by_cases e47 : k = 47
        · subst e47
          have H := key true (decide_eq_true (by omega))
          clear key
          go_enter Tryz.func39, Tryz.ntmps39
          go_wp2
          go_ret
          exact ⟨by rw [H.out]; rfl, rfl⟩
        have n47 : (k == 47) = false := by simpa using e47
        have H := key false (decide_eq_false (by omega))
        clear key
        go_enter Tryz.func39, Tryz.ntmps39
        go_wp2
        go_ret
        exact ⟨by rw [H.out]; rfl, rfl⟩

theorem rbare_any (b : UInt8) (w : World) : Calls Tryz.prog 39 #[.int .u8 (b.toNat : Int)] w fun e w' => e = .returned (.bool (bareN b.toNat)) ∧ w' = w := by
  rw [← bareI_nat]
  exact rbare_int _ _

set_option maxRecDepth 1000000 in
theorem prn_int (k : Int) (w : World) : Calls Tryz.prog 115 #[.int .u8 k] w fun e w' => e = .returned (.bool (prnI k)) ∧ w' = w := by
  have key : ∀ b, prnI k = b → Hid (prnI k = b) := fun b h => h
  by_cases a32 : 32 ≤ k
  · by_cases b126 : k ≤ 126
    · have H := key true (decide_eq_true (by omega))
      clear key
      go_enter Tryz.func115, Tryz.ntmps115
      go_wp2
      go_ret
      exact ⟨by rw [H.out]; rfl, rfl⟩
    · have H := key false (decide_eq_false (by omega))
      clear key
      go_enter Tryz.func115, Tryz.ntmps115
      go_wp2
      go_ret
      exact ⟨by rw [H.out]; rfl, rfl⟩
  · have H := key false (decide_eq_false (by omega))
    clear key
    go_enter Tryz.func115, Tryz.ntmps115
    go_wp2
    go_ret
    exact ⟨by rw [H.out]; rfl, rfl⟩

theorem prn_any (b : UInt8) (w : World) : Calls Tryz.prog 115 #[.int .u8 (b.toNat : Int)] w fun e w' => e = .returned (.bool (prnN b.toNat)) ∧ w' = w := by
  rw [← prnI_nat]
  exact prn_int _ _
end Go.Proofs.YtblojlaifnmimaaGreatDoor

namespace Go.Proofs.YtblojlaifnmimaaGreatDoor
open Go.RowKit
set_option linter.unusedVariables false

theorem isBareW_of {l : List UInt8} (h : ∀ j, j < l.length → bareN (l.getD j 0).toNat = true) : isBareW l = decide (l ≠ []) := by
  unfold isBareW
  rw [Bool.eq_iff_iff]
  simp only [decide_eq_true_eq]
  constructor
  · exact fun h => h.1
  · refine fun h0 => ⟨h0, fun b hb => ?_⟩
    obtain ⟨j, hj, rfl⟩ := List.getElem_of_mem hb
    have := h j hj
    simpa [List.getD, hj] using this
theorem isBareW_no {l : List UInt8} {k : Nat} (hk : k < l.length) (h : bareN (l.getD k 0).toNat = false) : isBareW l = false := by
  unfold isBareW
  refine decide_eq_false (fun h2 => ?_)
  have := h2.2 l[k] (List.getElem_mem hk)
  have e : l.getD k 0 = l[k] := by simp [List.getD, hk]
  rw [e, this] at h
  cases h

set_option maxHeartbeats 800000 in
set_option maxRecDepth 1000000 in
theorem isBareWord_any {l : List UInt8} {w : World} (hl : l.length ≤ 140737488355328) : Calls Tryz.prog 103 #[.string ⟨l.toArray⟩] w fun e w' => e = .returned (.bool (isBareW l)) ∧ w' = w := by
  have hz : (⟨l.toArray⟩ : ByteArray).size = l.length := by simp [ByteArray.size]
  have IX : Hid (∀ k, k < l.length → ∀ W, (Instr.index 9 (.string ⟨l.toArray⟩) (.int .i64 (k : Int))).run Tryz.prog W = .ok (.int .u8 ((l.getD k 0).toNat : Int)) W) := fun k hk W => idx_at hk W
  have EM : Hid ((!(⟨l.toArray⟩ : ByteArray).toList.isEmpty) = decide (l ≠ [])) := hid <| by
    rw [Lib.toList_data]
    cases l <;> simp
  generalize ByteArray.mk l.toArray = S at *
  generalize hn : l.length = n at *
  have HN := hid hn
  clear hn
  go_enter Tryz.func103, Tryz.ntmps103
  go_wp2
  go_loopw [6] (fun iv wr => ∃ k : Nat, k ≤ n ∧ iv = .int .i64 (k : Int) ∧ Hid (∀ j, j < k → bareN (l.getD j 0).toNat = true) ∧ wr = w) (fun iv _ => n - (intOf iv).toNat)
  case atStart => exact ⟨0, by omega, rfl, fun j hj => by omega, rfl⟩
  case round =>
    obtain ⟨k, hk, rfl, hall, rfl⟩ := hrel
    by_cases hlt : k < n
    · have ix := IX.out k hlt
      have hlt' : (k : Int) < (n : Int) := by omega
      generalize hb : l.getD k 0 = b at ix
      have HB := hid hb
      clear hb
      cases hx : bareN b.toNat with
      | true =>
        go_wp2_with (go_at_call 67; refine (isBare_any b _).mono ?_; rintro e w1 ⟨rfl, rfl⟩; rw [hx])
        go_roundw
        case rel => exact ⟨k + 1, by omega, by go_num, fun j hj => by
            by_cases hjk : j < k
            · exact hall.out j hjk
            · have : j = k := by omega
              subst this
              rw [HB.out]; exact hx, trivial⟩
        case measure => simp [intOf]; omega
      | false =>
        have fin : Hid (isBareW l = false) := isBareW_no (k := k) (by rw [HN.out]; exact hlt) (by rw [HB.out]; exact hx)
        go_wp2_with (go_at_call 67; refine (isBare_any b _).mono ?_; rintro e w1 ⟨rfl, rfl⟩; rw [hx])
        go_ret
        exact ⟨by rw [fin.out]; rfl, rfl⟩
    · have fin : Hid (isBareW l = decide (l ≠ [])) := isBareW_of (fun j hj => hall.out j (by have := HN.out; omega))
      have hlt' : ¬ (k : Int) < (n : Int) := by omega
      go_wp2
      go_ret
      exact ⟨by rw [fin.out, ← EM.out]; rfl, rfl⟩
set_option maxHeartbeats 800000 in
set_option maxRecDepth 1000000 in
theorem risBare_any {l : List UInt8} {w : World} (hl : l.length ≤ 140737488355328) : Calls Tryz.prog 73 #[.string ⟨l.toArray⟩] w fun e w' => e = .returned (.bool (isBareW l)) ∧ w' = w := by
  have hz : (⟨l.toArray⟩ : ByteArray).size = l.length := by simp [ByteArray.size]
  have IX : Hid (∀ k, k < l.length → ∀ W, (Instr.index 9 (.string ⟨l.toArray⟩) (.int .i64 (k : Int))).run Tryz.prog W = .ok (.int .u8 ((l.getD k 0).toNat : Int)) W) := fun k hk W => idx_at hk W
  have EM : Hid (decide (0 < l.length) = decide (l ≠ [])) := hid <| by
    cases l <;> simp
  generalize ByteArray.mk l.toArray = S at *
  generalize hn : l.length = n at *
  have HN := hid hn
  clear hn
  go_enter Tryz.func73, Tryz.ntmps73
  go_wp2
  go_loopw [3] (fun iv wr => ∃ k : Nat, k ≤ n ∧ iv = .int .i64 (k : Int) ∧ Hid (∀ j, j < k → bareN (l.getD j 0).toNat = true) ∧ wr = w) (fun iv _ => n - (intOf iv).toNat)
  case atStart => exact ⟨0, by omega, rfl, fun j hj => by omega, rfl⟩
  case round =>
    obtain ⟨k, hk, rfl, hall, rfl⟩ := hrel
    by_cases hlt : k < n
    · have ix := IX.out k hlt
      have hlt' : (k : Int) < (n : Int) := by omega
      generalize hb : l.getD k 0 = b at ix
      have HB := hid hb
      clear hb
      cases hx : bareN b.toNat with
      | true =>
        go_wp2_with (go_at_call 39; refine (rbare_any b _).mono ?_; rintro e w1 ⟨rfl, rfl⟩; rw [hx])
        go_roundw
        case rel => exact ⟨k + 1, by omega, by go_num, fun j hj => by
            by_cases hjk : j < k
            · exact hall.out j hjk
            · have : j = k := by omega
              subst this
              rw [HB.out]; exact hx, trivial⟩
        case measure => simp [intOf]; omega
      | false =>
        have fin : Hid (isBareW l = false) := isBareW_no (k := k) (by rw [HN.out]; exact hlt) (by rw [HB.out]; exact hx)
        go_wp2_with (go_at_call 39; refine (rbare_any b _).mono ?_; rintro e w1 ⟨rfl, rfl⟩; rw [hx])
        go_ret
        exact ⟨by rw [fin.out]; rfl, rfl⟩
    · have fin : Hid (isBareW l = decide (l ≠ [])) := isBareW_of (fun j hj => hall.out j (by have := HN.out; omega))
      have hlt' : ¬ (k : Int) < (n : Int) := by omega
      go_wp2
      go_ret
      exact ⟨by rw [fin.out, ← EM.out]; rfl, rfl⟩
end Go.Proofs.YtblojlaifnmimaaGreatDoor

namespace Go.Proofs.YtblojlaifnmimaaGreatDoor
open Go.RowKit
set_option linter.unusedVariables false

/-- How a reader's fields say where it stands. -/
def Fits (s : St) (st : Int) (wd : List UInt8) (op es cd : Int) : Prop :=
  match s with
  | .ahead => st = 0
  | .bare w => st = 1 ∧ wd = w
  | .closed => st = 2
  | .quote o w => st = 3 ∧ wd = w ∧ op = o
  | .esc o w e => st = 4 ∧ wd = w ∧ op = o ∧ es = e
  | .high o w e => st = 5 ∧ wd = w ∧ op = o ∧ es = e
  | .low o w e d => st = 6 ∧ wd = w ∧ op = o ∧ es = e ∧ cd = d * 16 ∧ d < 16
/-- A reader that stands there. -/
def RdAt (B : Nat) (s : St) (ws : Ws) (cs : List Comp) (w : World) : Prop :=
  ∃ st wv dv op es cd wd, Fits s st wd op es cd ∧ All (rdL B st wv dv op es cd ws wd ++ cs) w
theorem RdAt.drop {B : Nat} {s : St} {ws : Ws} {cs : List Comp} {w : World} (h : RdAt B s ws cs w) : All cs w := by
  obtain ⟨st, wv, dv, op, es, cd, wd, hf, hA⟩ := h
  exact hA.tail.tail.tail
theorem RdAt.later {B : Nat} {s : St} {ws : Ws} {cs : List Comp} {w w' : World} (h : RdAt B s ws cs w) (hb : Below w.heap.size w w') : RdAt B s ws cs w' := by
  obtain ⟨st, wv, dv, op, es, cd, wd, hf, hA⟩ := h
  exact ⟨st, wv, dv, op, es, cd, wd, hf, hA.later hb⟩
/-- What a step within quotes answers. -/
def StepPost (B : Nat) (cs : List Comp) (o : Out) (e : Ending) (w' : World) : Prop :=
  match o with
  | .go s ws => e = .returned (.int .i64 (-1)) ∧ RdAt B s ws cs w'
  | .bad j => e = .returned (.int .i64 (j : Int)) ∧ All cs w'

set_option maxHeartbeats 800000 in
set_option maxRecDepth 1000000 in
theorem close_bare {B : Nat} {st : Int} {wv dv : Value} {op es cd : Int} {ws : Ws} {wd : List UInt8} {cs : List Comp} {w : World} (h : All (rdL B st wv dv op es cd ws wd ++ cs) w) (hl : wd.length ≤ 140737488355328) (hb : isBareW wd = true) :
    Calls Tryz.prog 114 #[ptr B] w fun e w' => e = .returned (.int .i64 op) ∧ w' = w := by
  obtain ⟨⟨s0, s1, s2, s3, s4, s5⟩, hf⟩ := rd_cells h
  obtain ⟨ao0, c0, rfl⟩ := owns_form (h.tail.tail.1.2.1 : w.ownsRow 0 5 1 dv _ _)
  have cv := conv_string (reads_own h.tail.tail)
  have C := hid (isBareWord_any (w := w) hl)
  clear h hf
  generalize ByteArray.mk wd.toArray = X at *
  generalize (cellsB wd).length = n at *
  go_enter Tryz.func114, Tryz.ntmps114
  go_wp2_with (go_at_call 103; refine C.out.mono ?_; rintro e w1 ⟨rfl, rfl⟩; rw [hb])
  go_ret
  exact ⟨rfl, rfl⟩

set_option maxHeartbeats 800000 in
set_option maxRecDepth 1000000 in
theorem close_word {B : Nat} {st : Int} {wv dv : Value} {op es cd : Int} {ws : Ws} {wd : List UInt8} {cs : List Comp} {w : World} (h : All (rdL B st wv dv op es cd ws wd ++ cs) w) (hl : wd.length ≤ 140737488355328) (hl2 : ws.length + 1 ≤ 1000000000000) (hb : isBareW wd = false) :
    Calls Tryz.prog 114 #[ptr B] w fun e w' => e = .returned (.int .i64 (-1)) ∧ ∃ wv' dv', All (rdL B 2 wv' dv' op es cd (ws ++ [wd]) wd ++ cs) w' := by
  obtain ⟨⟨s0, s1, s2, s3, s4, s5⟩, hf⟩ := rd_cells h
  obtain ⟨ao0, c0, rfl⟩ := owns_form (h.tail.tail.1.2.1 : w.ownsRow 0 5 1 dv _ _)
  have cv := conv_string (reads_own h.tail.tail)
  have C := hid (isBareWord_any (w := w) hl)
  have HE := hid (end_any h hl2)
  clear h hf
  generalize ByteArray.mk wd.toArray = X at *
  generalize hn : (cellsB wd).length = n at *
  go_enter Tryz.func114, Tryz.ntmps114
  go_wp2_with (first | (go_at_call 103; refine C.out.mono ?_; rintro e w1 ⟨rfl, rfl⟩; rw [hb]) | (go_at_call 68; refine HE.out.mono ?_; rintro e w1 ⟨rfl, wv', A1⟩; clear s0 s1 s2 s3 s4 s5; have hc := rd_cells A1; obtain ⟨⟨s0, s1, s2, s3, s4, s5⟩, hf⟩ := hc; have f0 := hf 0; have A2 := hid (A1.setBlk 0 (.int .i64 2)); clear A1 hf))
  go_ret
  exact ⟨rfl, _, _, A2.out⟩

set_option maxHeartbeats 800000 in
set_option maxRecDepth 1000000 in
theorem plain_any {B : Nat} {o : Nat} {x : List UInt8} {ws : Ws} {k : Nat} {b : UInt8} {cs : List Comp} {w : World} (h : RdAt B (.quote o x) ws cs w) (hl : x.length + 1 ≤ 140737488355328) (hl2 : ws.length + 1 ≤ 1000000000000) :
    Calls Tryz.prog 91 #[ptr B, .int .i64 (k : Int), .int .u8 (b.toNat : Int)] w (StepPost B cs (stepW (.quote o x) ws k b)) := by
  obtain ⟨st, wv, dv, op, es, cd, wd, ⟨rfl, rfl, rfl⟩, A⟩ := h
  by_cases h34 : b.toNat = 34
  · have hi : (b.toNat : Int) = 34 := by omega
    rw [hi]
    cases hw : isBareW wd with
    | true =>
      have e1 : stepW (.quote o wd) ws k b = .bad o := by simp [stepW, h34, hw]
      have C := hid (close_bare A (by omega) hw)
      have D := hid A.tail.tail.tail
      rw [e1]
      clear e1 hi h34 A hw
      go_enter Tryz.func91, Tryz.ntmps91
      go_wp2_with (go_at_call 114; refine C.out.mono ?_; rintro e w1 ⟨rfl, rfl⟩)
      go_ret
      exact ⟨rfl, D.out⟩
    | false =>
      have e1 : stepW (.quote o wd) ws k b = .go .closed (ws ++ [wd]) := by simp [stepW, h34, hw]
      have C := hid (close_word A (by omega) hl2 hw)
      rw [e1]
      clear e1 hi h34 A hw
      go_enter Tryz.func91, Tryz.ntmps91
      go_wp2_with (go_at_call 114; refine C.out.mono ?_; rintro e w1 ⟨rfl, wv', dv', A1⟩; have A2 := hid A1; clear A1)
      go_ret
      exact ⟨rfl, _, _, _, _, _, _, _, rfl, A2.out⟩
  · have n34 : ((b.toNat : Int) == 34) = false := by simp; omega
    by_cases h92 : b.toNat = 92
    · have e1 : stepW (.quote o wd) ws k b = .go (.esc o wd k) ws := by simp [stepW, h92]
      have hi : (b.toNat : Int) = 92 := by omega
      rw [e1, hi]
      obtain ⟨⟨s0, s1, s2, s3, s4, s5⟩, hf⟩ := rd_cells A
      have f0 := hf 0
      have f4 := hf 4
      have A2 := hid ((A.setBlk 0 (.int .i64 4)).setBlk 4 (.int .i64 k))
      clear e1 hi h92 n34 h34 A hf
      go_enter Tryz.func91, Tryz.ntmps91
      go_wp2
      go_ret
      exact ⟨rfl, _, _, _, _, _, _, _, ⟨rfl, rfl, rfl, rfl⟩, A2.out⟩
    · have n92 : ((b.toNat : Int) == 92) = false := by simp; omega
      have P := hid (prn_any b w)
      cases hp : prnN b.toNat with
      | false =>
        have e1 : stepW (.quote o wd) ws k b = .bad k := by simp [stepW, h34, h92, hp]
        rw [e1]
        have D := hid A.tail.tail.tail
        clear e1 A h34 h92
        generalize (b.toNat : Int) = bi at *
        go_enter Tryz.func91, Tryz.ntmps91
        go_wp2_with (go_at_call 115; refine P.out.mono ?_; rintro e w1 ⟨rfl, rfl⟩; rw [hp])
        go_ret
        exact ⟨rfl, D.out⟩
      | true =>
        have e1 : stepW (.quote o wd) ws k b = .go (.quote o (wd ++ [b])) ws := by simp [stepW, h34, h92, hp]
        rw [e1]
        have T := hid (take_any (b := b) A hl)
        clear e1 A h34 h92
        generalize (b.toNat : Int) = bi at *
        go_enter Tryz.func91, Tryz.ntmps91
        go_wp2_with (first | (go_at_call 115; refine P.out.mono ?_; rintro e w1 ⟨rfl, rfl⟩; rw [hp]) | (go_at_call 116; refine T.out.mono ?_; rintro e w1 ⟨rfl, dv', A1⟩; have A2 := hid A1; clear A1))
        go_ret
        exact ⟨rfl, _, _, _, _, _, _, _, ⟨rfl, rfl, rfl⟩, A2.out⟩

set_option maxHeartbeats 800000 in
set_option maxRecDepth 1000000 in
theorem escaped_any {B : Nat} {o f : Nat} {x : List UInt8} {ws : Ws} {k : Nat} {b : UInt8} {cs : List Comp} {w : World} (h : RdAt B (.esc o x f) ws cs w) (hl : x.length + 1 ≤ 140737488355328) :
    Calls Tryz.prog 92 #[ptr B, .int .i64 (k : Int), .int .u8 (b.toNat : Int)] w (StepPost B cs (stepW (.esc o x f) ws k b)) := by
  obtain ⟨st, wv, dv, op, es, cd, wd, ⟨rfl, rfl, rfl, rfl⟩, A⟩ := h
  by_cases h120 : b.toNat = 120
  · have e1 : stepW (.esc o wd f) ws k b = .go (.high o wd f) ws := by simp [stepW, h120]
    have hi : (b.toNat : Int) = 120 := by omega
    rw [e1, hi]
    obtain ⟨⟨s0, s1, s2, s3, s4, s5⟩, hf⟩ := rd_cells A
    have f0 := hf 0
    have A2 := hid (A.setBlk 0 (.int .i64 5))
    clear e1 hi h120 A hf
    go_enter Tryz.func92, Tryz.ntmps92
    go_wp2
    go_ret
    exact ⟨rfl, _, _, _, _, _, _, _, ⟨rfl, rfl, rfl, rfl⟩, A2.out⟩
  · have n120 : ((b.toNat : Int) == 120) = false := by simp; omega
    by_cases h34 : b.toNat = 34
    · have e1 : stepW (.esc o wd f) ws k b = .go (.quote o (wd ++ [b])) ws := by simp [stepW, h34]
      have T := hid (take_any (b := b) A hl)
      have hi : (b.toNat : Int) = 34 := by omega
      rw [e1]
      rw [hi] at T ⊢
      clear e1 A h34 h120 n120 hi
      go_enter Tryz.func92, Tryz.ntmps92
      go_wp2_with (go_at_call 116; refine T.out.mono ?_; rintro e w1 ⟨rfl, dv', A1⟩; have A2 := hid A1; clear A1)
      go_ret
      exact ⟨rfl, _, _, _, _, _, _, _, ⟨rfl, rfl, rfl⟩, A2.out⟩
    · have n34 : ((b.toNat : Int) == 34) = false := by simp; omega
      by_cases h92 : b.toNat = 92
      · have e1 : stepW (.esc o wd f) ws k b = .go (.quote o (wd ++ [b])) ws := by simp [stepW, h92]
        have T := hid (take_any (b := b) A hl)
        have hi : (b.toNat : Int) = 92 := by omega
        rw [e1]
        rw [hi] at T ⊢
        clear e1 A h34 h120 n120 hi n34 h92
        go_enter Tryz.func92, Tryz.ntmps92
        go_wp2_with (go_at_call 116; refine T.out.mono ?_; rintro e w1 ⟨rfl, dv', A1⟩; have A2 := hid A1; clear A1)
        go_ret
        exact ⟨rfl, _, _, _, _, _, _, _, ⟨rfl, rfl, rfl⟩, A2.out⟩
      · have n92 : ((b.toNat : Int) == 92) = false := by simp; omega
        have e1 : stepW (.esc o wd f) ws k b = .bad k := by simp [stepW, h34, h92, h120]
        rw [e1]
        have D := hid A.tail.tail.tail
        clear e1 A h34 h92 h120
        generalize (b.toNat : Int) = bi at *
        go_enter Tryz.func92, Tryz.ntmps92
        go_wp2
        go_ret
        exact ⟨rfl, D.out⟩
end Go.Proofs.YtblojlaifnmimaaGreatDoor
