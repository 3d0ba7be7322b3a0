import Derived.Test.YtmpbdncgilahkaaShelf
namespace Go.Proofs.Ytmpbdncgilahkaa
open Go.RowKit
set_option linter.unusedVariables false

def wi (v l m : Int) : Bool := decide (l ≤ v) && decide (v ≤ m)
def fl (n : Int) : Bool := n == 3 || n == 5 || n == 7

theorem within_any {w : World} (v l m : Int) : Calls Try.prog 33 #[.int .i64 v, .int .i64 l, .int .i64 m] w fun e w' => e = .returned (.bool (wi v l m)) ∧ w' = w := by
  unfold wi
  by_cases h1 : l ≤ v
  · by_cases h2 : v ≤ m
    all_goals
      go_enter Try.func33, Try.ntmps33
      go_wp2
      go_ret
      exact ⟨by simp [h1, h2], rfl⟩
  · go_enter Try.func33, Try.ntmps33
    go_wp2
    go_ret
    exact ⟨by rw [show decide (l ≤ v) = false from decide_eq_false (by omega)]; rfl, rfl⟩

theorem within_ref {w : World} (v l m : Int) : Calls Try.prog 34 #[.int .i64 v, .int .i64 l, .int .i64 m] w fun e w' => e = .returned (.bool (wi v l m)) ∧ w' = w := by
  unfold wi
  by_cases h1 : l ≤ v
  · by_cases h2 : v ≤ m
    all_goals
      go_enter Try.func34, Try.ntmps34
      go_wp2
      go_ret
      exact ⟨by simp [h1, h2], rfl⟩
  · go_enter Try.func34, Try.ntmps34
    go_wp2
    go_ret
    exact ⟨by rw [show decide (l ≤ v) = false from decide_eq_false (by omega)]; rfl, rfl⟩

theorem fleet_any {w : World} (n : Int) : Calls Try.prog 32 #[.int .i64 n] w fun e w' => e = .returned (.bool (fl n)) ∧ w' = w := by
  unfold fl
  by_cases h1 : n = 3
  · subst h1
    go_enter Try.func32, Try.ntmps32
    go_wp2
    go_ret
    exact ⟨rfl, rfl⟩
  · by_cases h2 : n = 5
    · subst h2
      go_enter Try.func32, Try.ntmps32
      go_wp2
      go_ret
      exact ⟨rfl, rfl⟩
    · go_enter Try.func32, Try.ntmps32
      go_wp2
      go_ret
      exact ⟨by simp, rfl⟩

theorem fleet_ref {w : World} (n : Int) : Calls Try.prog 37 #[.int .i64 n] w fun e w' => e = .returned (.bool (fl n)) ∧ w' = w := by
  unfold fl
  by_cases h1 : n = 3
  · subst h1
    go_enter Try.func37, Try.ntmps37
    go_wp2
    go_ret
    exact ⟨rfl, rfl⟩
  · by_cases h2 : n = 5
    · subst h2
      go_enter Try.func37, Try.ntmps37
      go_wp2
      go_ret
      exact ⟨rfl, rfl⟩
    · go_enter Try.func37, Try.ntmps37
      go_wp2
      go_ret
      exact ⟨by simp, rfl⟩

def fau (n : Int) : Int := if fl n then (n - 1) / 2 else 0
def maj (n : Int) : Int := if fl n then (n - 1) / 2 + 1 else 0
def pri (n v : Int) : Int := if fl n && decide (0 ≤ v) then v % n else 0

theorem fl_cases {n : Int} (h : fl n = true) : n = 3 ∨ n = 5 ∨ n = 7 := by
  simp [fl] at h; omega

theorem Faults_any {w : World} (n : Int) : Calls Try.prog 14 #[.int .i64 n] w fun e w' => e = .returned (.int .i64 (fau n)) ∧ w' = w := by
  unfold fau
  cases h : fl n with
  | false =>
    go_enter Try.func14, Try.ntmps14
    go_wp2_with fail
    refine (fleet_any n).mono ?_
    rintro e w1 ⟨rfl, rfl⟩
    rw [h]
    go_wp2
    go_ret
    exact ⟨rfl, rfl⟩
  | true =>
    rcases fl_cases h with rfl | rfl | rfl
    all_goals
      go_enter Try.func14, Try.ntmps14
      go_wp2_with fail
      refine (fleet_any _).mono ?_
      rintro e w1 ⟨rfl, rfl⟩
      rw [h]
      go_wp2
      go_ret
      exact ⟨rfl, rfl⟩

theorem Faults_ref {w : World} (n : Int) : Calls Try.prog 15 #[.int .i64 n] w fun e w' => e = .returned (.int .i64 (fau n)) ∧ w' = w := by
  unfold fau
  cases h : fl n with
  | false =>
    go_enter Try.func15, Try.ntmps15
    go_wp2_with fail
    refine (fleet_ref n).mono ?_
    rintro e w1 ⟨rfl, rfl⟩
    rw [h]
    go_wp2
    go_ret
    exact ⟨rfl, rfl⟩
  | true =>
    rcases fl_cases h with rfl | rfl | rfl
    all_goals
      go_enter Try.func15, Try.ntmps15
      go_wp2_with fail
      refine (fleet_ref _).mono ?_
      rintro e w1 ⟨rfl, rfl⟩
      rw [h]
      go_wp2
      go_ret
      exact ⟨rfl, rfl⟩

theorem Majority_any {w : World} (n : Int) : Calls Try.prog 16 #[.int .i64 n] w fun e w' => e = .returned (.int .i64 (maj n)) ∧ w' = w := by
  unfold maj
  cases h : fl n with
  | false =>
    go_enter Try.func16, Try.ntmps16
    go_wp2_with fail
    refine (fleet_any n).mono ?_
    rintro e w1 ⟨rfl, rfl⟩
    rw [h]
    go_wp2
    go_ret
    exact ⟨rfl, rfl⟩
  | true =>
    have hf : fau n = (n - 1) / 2 := by simp [fau, h]
    rcases fl_cases h with rfl | rfl | rfl
    all_goals
      go_enter Try.func16, Try.ntmps16
      go_wp2_with fail
      refine (fleet_any _).mono ?_
      rintro e w1 ⟨rfl, rfl⟩
      rw [h]
      go_wp2_with fail
      refine (Faults_any _).mono ?_
      rintro e w1 ⟨rfl, rfl⟩
      rw [hf]
      go_wp2
      go_ret
      exact ⟨rfl, rfl⟩

theorem Majority_ref {w : World} (n : Int) : Calls Try.prog 17 #[.int .i64 n] w fun e w' => e = .returned (.int .i64 (maj n)) ∧ w' = w := by
  unfold maj
  cases h : fl n with
  | false =>
    go_enter Try.func17, Try.ntmps17
    go_wp2_with fail
    refine (fleet_ref n).mono ?_
    rintro e w1 ⟨rfl, rfl⟩
    rw [h]
    go_wp2
    go_ret
    exact ⟨rfl, rfl⟩
  | true =>
    rcases fl_cases h with rfl | rfl | rfl
    all_goals
      go_enter Try.func17, Try.ntmps17
      go_wp2_with fail
      refine (fleet_ref _).mono ?_
      rintro e w1 ⟨rfl, rfl⟩
      rw [h]
      go_wp2
      go_ret
      exact ⟨rfl, rfl⟩

theorem pri_no {n v : Int} (h : fl n = false) : pri n v = 0 := by simp [pri, h]
theorem pri_neg {n v : Int} (h : v < 0) : pri n v = 0 := by
  unfold pri; rw [if_neg]; simp; intro _; omega
theorem pri_pos {n v : Int} (h : fl n = true) (hv : ¬ v < 0) : pri n v = v % n := by
  unfold pri; rw [if_pos]; simp [h]; omega

theorem Primary_any {w : World} (n v : Int) : Calls Try.prog 18 #[.int .i64 n, .int .i64 v] w fun e w' => e = .returned (.int .i64 (pri n v)) ∧ w' = w := by
  cases h : fl n with
  | false =>
    go_enter Try.func18, Try.ntmps18
    go_wp2_with fail
    refine (fleet_any n).mono ?_
    rintro e w1 ⟨rfl, rfl⟩
    rw [h]
    have h' := hid h
    clear h
    go_wp2
    go_ret
    exact ⟨by rw [pri_no h'.out]; rfl, rfl⟩
  | true =>
    by_cases hv : v < 0
    · go_enter Try.func18, Try.ntmps18
      go_wp2_with fail
      refine (fleet_any n).mono ?_
      rintro e w1 ⟨rfl, rfl⟩
      rw [h]
      go_wp2
      go_ret
      exact ⟨by rw [pri_neg hv]; rfl, rfl⟩
    · rcases fl_cases h with rfl | rfl | rfl
      all_goals
        go_enter Try.func18, Try.ntmps18
        go_wp2_with fail
        refine (fleet_any _).mono ?_
        rintro e w1 ⟨rfl, rfl⟩
        rw [h]
        have h' := hid h
        clear h
        go_wp2
        go_ret
        refine ⟨?_, rfl⟩
        rw [pri_pos h'.out (by omega)]; rfl

theorem Primary_ref {w : World} (n v : Int) : Calls Try.prog 19 #[.int .i64 n, .int .i64 v] w fun e w' => e = .returned (.int .i64 (pri n v)) ∧ w' = w := by
  cases h : fl n with
  | false =>
    go_enter Try.func19, Try.ntmps19
    go_wp2_with fail
    refine (fleet_ref n).mono ?_
    rintro e w1 ⟨rfl, rfl⟩
    rw [h]
    have h' := hid h
    clear h
    go_wp2
    go_ret
    exact ⟨by rw [pri_no h'.out]; rfl, rfl⟩
  | true =>
    by_cases hv : v < 0
    · go_enter Try.func19, Try.ntmps19
      go_wp2_with fail
      refine (fleet_ref n).mono ?_
      rintro e w1 ⟨rfl, rfl⟩
      rw [h]
      go_wp2
      go_ret
      exact ⟨by rw [pri_neg hv]; rfl, rfl⟩
    · rcases fl_cases h with rfl | rfl | rfl
      all_goals
        go_enter Try.func19, Try.ntmps19
        go_wp2_with fail
        refine (fleet_ref _).mono ?_
        rintro e w1 ⟨rfl, rfl⟩
        rw [h]
        have h' := hid h
        clear h
        go_wp2
        go_ret
        refine ⟨?_, rfl⟩
        rw [pri_pos h'.out (by omega)]; rfl
end Go.Proofs.Ytmpbdncgilahkaa
