import Derived.Test.YtdhkdniddjnigaaGreatDoorRd2
import Derived.Test.YtdhkdniddjnigaaGreatDoorSLa
namespace Go.Proofs.YtdhkdniddjnigaaGreatDoor
open Go.RowKit
set_option linter.unusedVariables false

def bareI (k : Int) : Bool := decide ((97 ≤ k ∧ k ≤ 122) ∨ (65 ≤ k ∧ k ≤ 90) ∨ (48 ≤ k ∧ k ≤ 57) ∨ k = 45 ∨ k = 95 ∨ k = 46 ∨ k = 47)
theorem bareI_nat (n : Nat) : bareI (n : Int) = bareN n := by
  unfold bareI bareN
  rw [Bool.eq_iff_iff]
  simp only [decide_eq_true_eq]
  omega
def prnI (k : Int) : Bool := decide (32 ≤ k ∧ k ≤ 126)
theorem prnI_nat (n : Nat) : prnI (n : Int) = prnN n := by
  unfold prnI prnN
  rw [Bool.eq_iff_iff]
  simp only [decide_eq_true_eq]
  omega

set_option maxRecDepth 1000000 in
theorem isBare_int (k : Int) (w : World) : Calls Tryz.prog 158 #[.int .u8 k] w fun e w' => e = .returned (.bool (bareI k)) ∧ w' = w := by
  have key : ∀ b, bareI k = b → Hid (bareI k = b) := fun b h => h
  by_cases e45 : k = 45
  · subst e45
    have H := key true (decide_eq_true (by omega))
    clear key
    go_enter Tryz.func158, Tryz.ntmps158
    go_wp2
    go_ret
    exact ⟨by rw [H.out]; rfl, rfl⟩
  have n45 : (k == 45) = false := by simpa using e45
  by_cases e95 : k = 95
  · subst e95
    have H := key true (decide_eq_true (by omega))
    clear key
    go_enter Tryz.func158, Tryz.ntmps158
    go_wp2
    go_ret
    exact ⟨by rw [H.out]; rfl, rfl⟩
  have n95 : (k == 95) = false := by simpa using e95
  by_cases e46 : k = 46
  · subst e46
    have H := key true (decide_eq_true (by omega))
    clear key
    go_enter Tryz.func158, Tryz.ntmps158
    go_wp2
    go_ret
    exact ⟨by rw [H.out]; rfl, rfl⟩
  have n46 : (k == 46) = false := by simpa using e46
  by_cases e47 : k = 47
  · subst e47
    have H := key true (decide_eq_true (by omega))
    clear key
    go_enter Tryz.func158, Tryz.ntmps158
    go_wp2
    go_ret
    exact ⟨by rw [H.out]; rfl, rfl⟩
  have n47 : (k == 47) = false := by simpa using e47
  by_cases a97 : 97 ≤ k
  · by_cases b122 : k ≤ 122
    · have H := key true (decide_eq_true (by omega))
      clear key
      go_enter Tryz.func158, Tryz.ntmps158
      go_wp2
      go_ret
      exact ⟨by rw [H.out]; rfl, rfl⟩
    · by_cases a65 : 65 ≤ k
      · by_cases b90 : k ≤ 90
        · have H := key true (decide_eq_true (by omega))
          clear key
          go_enter Tryz.func158, Tryz.ntmps158
          go_wp2
          go_ret
          exact ⟨by rw [H.out]; rfl, rfl⟩
        · by_cases a48 : 48 ≤ k
          · by_cases b57 : k ≤ 57
            · have H := key true (decide_eq_true (by omega))
              clear key
              go_enter Tryz.func158, Tryz.ntmps158
              go_wp2
              go_ret
              exact ⟨by rw [H.out]; rfl, rfl⟩
            · have H := key false (decide_eq_false (by omega))
              clear key
              go_enter Tryz.func158, Tryz.ntmps158
              go_wp2
              go_ret
              exact ⟨by rw [H.out]; rfl, rfl⟩
          · have H := key false (decide_eq_false (by omega))
            clear key
            go_enter Tryz.func158, Tryz.ntmps158
            go_wp2
            go_ret
            exact ⟨by rw [H.out]; rfl, rfl⟩
      · by_cases a48 : 48 ≤ k
        · by_cases b57 : k ≤ 57
          · have H := key true (decide_eq_true (by omega))
            clear key
            go_enter Tryz.func158, Tryz.ntmps158
            go_wp2
            go_ret
            exact ⟨by rw [H.out]; rfl, rfl⟩
          · have H := key false (decide_eq_false (by omega))
            clear key
            go_enter Tryz.func158, Tryz.ntmps158
            go_wp2
            go_ret
            exact ⟨by rw [H.out]; rfl, rfl⟩
        · have H := key false (decide_eq_false (by omega))
          clear key
          go_enter Tryz.func158, Tryz.ntmps158
          go_wp2
          go_ret
          exact ⟨by rw [H.out]; rfl, rfl⟩
  · by_cases a65 : 65 ≤ k
    · by_cases b90 : k ≤ 90
      · have H := key true (decide_eq_true (by omega))
        clear key
        go_enter Tryz.func158, Tryz.ntmps158
        go_wp2
        go_ret
        exact ⟨by rw [H.out]; rfl, rfl⟩
      · by_cases a48 : 48 ≤ k
        · by_cases b57 : k ≤ 57
          · have H := key true (decide_eq_true (by omega))
            clear key
            go_enter Tryz.func158, Tryz.ntmps158
            go_wp2
            go_ret
            exact ⟨by rw [H.out]; rfl, rfl⟩
          · have H := key false (decide_eq_false (by omega))
            clear key
            go_enter Tryz.func158, Tryz.ntmps158
            go_wp2
            go_ret
            exact ⟨by rw [H.out]; rfl, rfl⟩
        · have H := key false (decide_eq_false (by omega))
          clear key
          go_enter Tryz.func158, Tryz.ntmps158
          go_wp2
          go_ret
          exact ⟨by rw [H.out]; rfl, rfl⟩
    · by_cases a48 : 48 ≤ k
      · by_cases b57 : k ≤ 57
        · have H := key true (decide_eq_true (by omega))
          clear key
          go_enter Tryz.func158, Tryz.ntmps158
          go_wp2
          go_ret
          exact ⟨by rw [H.out]; rfl, rfl⟩
        · have H := key false (decide_eq_false (by omega))
          clear key
          go_enter Tryz.func158, Tryz.ntmps158
          go_wp2
          go_ret
          exact ⟨by rw [H.out]; rfl, rfl⟩
      · have H := key false (decide_eq_false (by omega))
        clear key
        go_enter Tryz.func158, Tryz.ntmps158
        go_wp2
        go_ret
        exact ⟨by rw [H.out]; rfl, rfl⟩

theorem isBare_any (b : UInt8) (w : World) : Calls Tryz.prog 158 #[.int .u8 (b.toNat : Int)] w fun e w' => e = .returned (.bool (bareN b.toNat)) ∧ w' = w := by
  rw [← bareI_nat]
  exact isBare_int _ _

set_option maxRecDepth 1000000 in
theorem rbare_int (k : Int) (w : World) : Calls Tryz.prog 136 #[.int .u8 k] w fun e w' => e = .returned (.bool (bareI k)) ∧ w' = w := by
  have key : ∀ b, bareI k = b → Hid (bareI k = b) := fun b h => h
  by_cases a97 : 97 ≤ k
  · by_cases b122 : k ≤ 122
    · have H := key true (decide_eq_true (by omega))
      clear key
      go_enter Tryz.func136, Tryz.ntmps136
      go_wp2
      go_ret
      exact ⟨by rw [H.out]; rfl, rfl⟩
    · by_cases a65 : 65 ≤ k
      · by_cases b90 : k ≤ 90
        · have H := key true (decide_eq_true (by omega))
          clear key
          go_enter Tryz.func136, Tryz.ntmps136
          go_wp2
          go_ret
          exact ⟨by rw [H.out]; rfl, rfl⟩
        · by_cases a48 : 48 ≤ k
          · by_cases b57 : k ≤ 57
            · have H := key true (decide_eq_true (by omega))
              clear key
              go_enter Tryz.func136, Tryz.ntmps136
              go_wp2
              go_ret
              exact ⟨by rw [H.out]; rfl, rfl⟩
            · by_cases e45 : k = 45
              · subst e45
                have H := key true (decide_eq_true (by omega))
                clear key
                go_enter Tryz.func136, Tryz.ntmps136
                go_wp2
                go_ret
                exact ⟨by rw [H.out]; rfl, rfl⟩
              have n45 : (k == 45) = false := by simpa using e45
              by_cases e95 : k = 95
              · subst e95
                have H := key true (decide_eq_true (by omega))
                clear key
                go_enter Tryz.func136, Tryz.ntmps136
                go_wp2
                go_ret
                exact ⟨by rw [H.out]; rfl, rfl⟩
              have n95 : (k == 95) = false := by simpa using e95
              by_cases e46 : k = 46
              · subst e46
                have H := key true (decide_eq_true (by omega))
                clear key
                go_enter Tryz.func136, Tryz.ntmps136
                go_wp2
                go_ret
                exact ⟨by rw [H.out]; rfl, rfl⟩
              have n46 : (k == 46) = false := by simpa using e46
              by_cases e47 : k = 47
              · subst e47
                have H := key true (decide_eq_true (by omega))
                clear key
                go_enter Tryz.func136, Tryz.ntmps136
                go_wp2
                go_ret
                exact ⟨by rw [H.out]; rfl, rfl⟩
              have n47 : (k == 47) = false := by simpa using e47
              have H := key false (decide_eq_false (by omega))
              clear key
              go_enter Tryz.func136, Tryz.ntmps136
              go_wp2
              go_ret
              exact ⟨by rw [H.out]; rfl, rfl⟩
          · by_cases e45 : k = 45
            · subst e45
              have H := key true (decide_eq_true (by omega))
              clear key
              go_enter Tryz.func136, Tryz.ntmps136
              go_wp2
              go_ret
              exact ⟨by rw [H.out]; rfl, rfl⟩
            have n45 : (k == 45) = false := by simpa using e45
            by_cases e95 : k = 95
            · subst e95
              have H := key true (decide_eq_true (by omega))
              clear key
              go_enter Tryz.func136, Tryz.ntmps136
              go_wp2
              go_ret
              exact ⟨by rw [H.out]; rfl, rfl⟩
            have n95 : (k == 95) = false := by simpa using e95
            by_cases e46 : k = 46
            · subst e46
              have H := key true (decide_eq_true (by omega))
              clear key
              go_enter Tryz.func136, Tryz.ntmps136
              go_wp2
              go_ret
              exact ⟨by rw [H.out]; rfl, rfl⟩
            have n46 : (k == 46) = false := by simpa using e46
            by_cases e47 : k = 47
            · subst e47
              have H := key true (decide_eq_true (by omega))
              clear key
              go_enter Tryz.func136, Tryz.ntmps136
              go_wp2
              go_ret
              exact ⟨by rw [H.out]; rfl, rfl⟩
            have n47 : (k == 47) = false := by simpa using e47
            have H := key false (decide_eq_false (by omega))
            clear key
            go_enter Tryz.func136, Tryz.ntmps136
            go_wp2
            go_ret
            exact ⟨by rw [H.out]; rfl, rfl⟩
      · by_cases a48 : 48 ≤ k
        · by_cases b57 : k ≤ 57
          · have H := key true (decide_eq_true (by omega))
            clear key
            go_enter Tryz.func136, Tryz.ntmps136
            go_wp2
            go_ret
            exact ⟨by rw [H.out]; rfl, rfl⟩
          · by_cases e45 : k = 45
            · subst e45
              have H := key true (decide_eq_true (by omega))
              clear key
              go_enter Tryz.func136, Tryz.ntmps136
              go_wp2
              go_ret
              exact ⟨by rw [H.out]; rfl, rfl⟩
            have n45 : (k == 45) = false := by simpa using e45
            by_cases e95 : k = 95
            · subst e95
              have H := key true (decide_eq_true (by omega))
              clear key
              go_enter Tryz.func136, Tryz.ntmps136
              go_wp2
              go_ret
              exact ⟨by rw [H.out]; rfl, rfl⟩
            have n95 : (k == 95) = false := by simpa using e95
            by_cases e46 : k = 46
            · subst e46
              have H := key true (decide_eq_true (by omega))
              clear key
              go_enter Tryz.func136, Tryz.ntmps136
              go_wp2
              go_ret
              exact ⟨by rw [H.out]; rfl, rfl⟩
            have n46 : (k == 46) = false := by simpa using e46
            by_cases e47 : k = 47
            · subst e47
              have H := key true (decide_eq_true (by omega))
              clear key
              go_enter Tryz.func136, Tryz.ntmps136
              go_wp2
              go_ret
              exact ⟨by rw [H.out]; rfl, rfl⟩
            have n47 : (k == 47) = false := by simpa using e47
            have H := key false (decide_eq_false (by omega))
            clear key
            go_enter Tryz.func136, Tryz.ntmps136
            go_wp2
            go_ret
            exact ⟨by rw [H.out]; rfl, rfl⟩
        · by_cases e45 : k = 45
          · subst e45
            have H := key true (decide_eq_true (by omega))
            clear key
            go_enter Tryz.func136, Tryz.ntmps136
            go_wp2
            go_ret
            exact ⟨by rw [H.out]; rfl, rfl⟩
          have n45 : (k == 45) = false := by simpa using e45
          by_cases e95 : k = 95
          · subst e95
            have H := key true (decide_eq_true (by omega))
            clear key
            go_enter Tryz.func136, Tryz.ntmps136
            go_wp2
            go_ret
            exact ⟨by rw [H.out]; rfl, rfl⟩
          have n95 : (k == 95) = false := by simpa using e95
          by_cases e46 : k = 46
          · subst e46
            have H := key true (decide_eq_true (by omega))
            clear key
            go_enter Tryz.func136, Tryz.ntmps136
            go_wp2
            go_ret
            exact ⟨by rw [H.out]; rfl, rfl⟩
          have n46 : (k == 46) = false := by simpa using e46
          by_cases e47 : k = 47
          · subst e47
            have H := key true (decide_eq_true (by omega))
            clear key
            go_enter Tryz.func136, Tryz.ntmps136
            go_wp2
            go_ret
            exact ⟨by rw [H.out]; rfl, rfl⟩
          have n47 : (k == 47) = false := by simpa using e47
          have H := key false (decide_eq_false (by omega))
          clear key
          go_enter Tryz.func136, Tryz.ntmps136
          go_wp2
          go_ret
          exact ⟨by rw [H.out]; rfl, rfl⟩
  · by_cases a65 : 65 ≤ k
    · by_cases b90 : k ≤ 90
      · have H := key true (decide_eq_true (by omega))
        clear key
        go_enter Tryz.func136, Tryz.ntmps136
        go_wp2
        go_ret
        exact ⟨by rw [H.out]; rfl, rfl⟩
      · by_cases a48 : 48 ≤ k
        · by_cases b57 : k ≤ 57
          · have H := key true (decide_eq_true (by omega))
            clear key
            go_enter Tryz.func136, Tryz.ntmps136
            go_wp2
            go_ret
            exact ⟨by rw [H.out]; rfl, rfl⟩
          · by_cases e45 : k = 45
            · subst e45
              have H := key true (decide_eq_true (by omega))
              clear key
              go_enter Tryz.func136, Tryz.ntmps136
              go_wp2
              go_ret
              exact ⟨by rw [H.out]; rfl, rfl⟩
            have n45 : (k == 45) = false := by simpa using e45
            by_cases e95 : k = 95
            · subst e95
              have H := key true (decide_eq_true (by omega))
              clear key
              go_enter Tryz.func136, Tryz.ntmps136
              go_wp2
              go_ret
              exact ⟨by rw [H.out]; rfl, rfl⟩
            have n95 : (k == 95) = false := by simpa using e95
            by_cases e46 : k = 46
            · subst e46
              have H := key true (decide_eq_true (by omega))
              clear key
              go_enter Tryz.func136, Tryz.ntmps136
              go_wp2
              go_ret
              exact ⟨by rw [H.out]; rfl, rfl⟩
            have n46 : (k == 46) = false := by simpa using e46
            by_cases e47 : k = 47
            · subst e47
              have H := key true (decide_eq_true (by omega))
              clear key
              go_enter Tryz.func136, Tryz.ntmps136
              go_wp2
              go_ret
              exact ⟨by rw [H.out]; rfl, rfl⟩
            have n47 : (k == 47) = false := by simpa using e47
            have H := key false (decide_eq_false (by omega))
            clear key
            go_enter Tryz.func136, Tryz.ntmps136
            go_wp2
            go_ret
            exact ⟨by rw [H.out]; rfl, rfl⟩
        · by_cases e45 : k = 45
          · subst e45
            have H := key true (decide_eq_true (by omega))
            clear key
            go_enter Tryz.func136, Tryz.ntmps136
            go_wp2
            go_ret
            exact ⟨by rw [H.out]; rfl, rfl⟩
          have n45 : (k == 45) = false := by simpa using e45
          by_cases e95 : k = 95
          · subst e95
            have H := key true (decide_eq_true (by omega))
            clear key
            go_enter Tryz.func136, Tryz.ntmps136
            go_wp2
            go_ret
            exact ⟨by rw [H.out]; rfl, rfl⟩
          have n95 : (k == 95) = false := by simpa using e95
          by_cases e46 : k = 46
          · subst e46
            have H := key true (decide_eq_true (by omega))
            clear key
            go_enter Tryz.func136, Tryz.ntmps136
            go_wp2
            go_ret
            exact ⟨by rw [H.out]; rfl, rfl⟩
          have n46 : (k == 46) = false := by simpa using e46
          by_cases e47 : k = 47
          · subst e47
            have H := key true (decide_eq_true (by omega))
            clear key
            go_enter Tryz.func136, Tryz.ntmps136
            go_wp2
            go_ret
            exact ⟨by rw [H.out]; rfl, rfl⟩
          have n47 : (k == 47) = false := by simpa using e47
          have H := key false (decide_eq_false (by omega))
          clear key
          go_enter Tryz.func136, Tryz.ntmps136
          go_wp2
          go_ret
          exact ⟨by rw [H.out]; rfl, rfl⟩
    · by_cases a48 : 48 ≤ k
      · by_cases b57 : k ≤ 57
        · have H := key true (decide_eq_true (by omega))
          clear key
          go_enter Tryz.func136, Tryz.ntmps136
          go_wp2
          go_ret
          exact ⟨by rw [H.out]; rfl, rfl⟩
        · by_cases e45 : k = 45
          · subst e45
            have H := key true (decide_eq_true (by omega))
            clear key
            go_enter Tryz.func136, Tryz.ntmps136
            go_wp2
            go_ret
            exact ⟨by rw [H.out]; rfl, rfl⟩
          have n45 : (k == 45) = false := by simpa using e45
          by_cases e95 : k = 95
          · subst e95
            have H := key true (decide_eq_true (by omega))
            clear key
            go_enter Tryz.func136, Tryz.ntmps136
            go_wp2
            go_ret
            exact ⟨by rw [H.out]; rfl, rfl⟩
          have n95 : (k == 95) = false := by simpa using e95
          by_cases e46 : k = 46
          · subst e46
            have H := key true (decide_eq_true (by omega))
            clear key
            go_enter Tryz.func136, Tryz.ntmps136
            go_wp2
            go_ret
            exact ⟨by rw [H.out]; rfl, rfl⟩
          have n46 : (k == 46) = false := by simpa using e46
          by_cases e47 : k = 47
          · subst e47
            have H := key true (decide_eq_true (by omega))
            clear key
            go_enter Tryz.func136, Tryz.ntmps136
            go_wp2
            go_ret
            exact ⟨by rw [H.out]; rfl, rfl⟩
          have n47 : (k == 47) = false := by simpa using e47
          have H := key false (decide_eq_false (by omega))
          clear key
          go_enter Tryz.func136, Tryz.ntmps136
          go_wp2
          go_ret
          exact ⟨by rw [H.out]; rfl, rfl⟩
      · by_cases e45 : k = 45
        · subst e45
          have H := key true (decide_eq_true (by omega))
          clear key
          go_enter Tryz.func136, Tryz.ntmps136
          go_wp2
          go_ret
          exact ⟨by rw [H.out]; rfl, rfl⟩
        have n45 : (k == 45) = false := by simpa using e45
        by_cases e95 : k = 95
        · subst e95
          have H := key true (decide_eq_true (by omega))
          clear key
          go_enter Tryz.func136, Tryz.ntmps136
          go_wp2
          go_ret
          exact ⟨by rw [H.out]; rfl, rfl⟩
        have n95 : (k == 95) = false := by simpa using e95
        by_cases e46 : k = 46
        · subst e46
          have H := key true (decide_eq_true (by omega))
          clear key
          go_enter Tryz.func136, Tryz.ntmps136
          go_wp2
          go_ret
          exact ⟨by rw [H.out]; rfl, rfl⟩
        have n46 : (k == 46) = false := by simpa using e46
        by_cases e47 : k = 47
        · subst e47
          have H := key true (decide_eq_true (by omega))
          clear key
          go_enter Tryz.func136, Tryz.ntmps136
          go_wp2
          go_ret
          exact ⟨by rw [H.out]; rfl, rfl⟩
        have n47 : (k == 47) = false := by simpa using e47
        have H := key false (decide_eq_false (by omega))
        clear key
        go_enter Tryz.func136, Tryz.ntmps136
        go_wp2
        go_ret
        exact ⟨by rw [H.out]; rfl, rfl⟩

theorem rbare_any (b : UInt8) (w : World) : Calls Tryz.prog 136 #[.int .u8 (b.toNat : Int)] w fun e w' => e = .returned (.bool (bareN b.toNat)) ∧ w' = w := by
  rw [← bareI_nat]
  exact rbare_int _ _

set_option maxRecDepth 1000000 in
theorem prn_int (k : Int) (w : World) : Calls Tryz.prog 206 #[.int .u8 k] w fun e w' => e = .returned (.bool (prnI k)) ∧ w' = w := by
  have key : ∀ b, prnI k = b → Hid (prnI k = b) := fun b h => h
  by_cases a32 : 32 ≤ k
  · by_cases b126 : k ≤ 126
    · have H := key true (decide_eq_true (by omega))
      clear key
      go_enter Tryz.func206, Tryz.ntmps206
      go_wp2
      go_ret
      exact ⟨by rw [H.out]; rfl, rfl⟩
    · have H := key false (decide_eq_false (by omega))
      clear key
      go_enter Tryz.func206, Tryz.ntmps206
      go_wp2
      go_ret
      exact ⟨by rw [H.out]; rfl, rfl⟩
  · have H := key false (decide_eq_false (by omega))
    clear key
    go_enter Tryz.func206, Tryz.ntmps206
    go_wp2
    go_ret
    exact ⟨by rw [H.out]; rfl, rfl⟩

theorem prn_any (b : UInt8) (w : World) : Calls Tryz.prog 206 #[.int .u8 (b.toNat : Int)] w fun e w' => e = .returned (.bool (prnN b.toNat)) ∧ w' = w := by
  rw [← prnI_nat]
  exact prn_int _ _
end Go.Proofs.YtdhkdniddjnigaaGreatDoor
