import Derived.Test.YtjnbnmlggbfodaaBase
namespace Go.Proofs.Ytjnbnmlggbfodaa
open Go.RowKit
set_option linter.unusedVariables false
def fl (n : Int) : Bool := n == 3 || n == 5 || n == 7

theorem fleet_any {w : World} (n : Int) : Calls Try.prog 29 #[.int .i64 n] w fun e w' => e = .returned (.bool (fl n)) ∧ w' = w := by
  unfold fl
  by_cases h1 : n = 3
  · subst h1
    go_enter Try.func29, Try.ntmps29
    go_wp2
    go_ret
    exact ⟨rfl, rfl⟩
  · by_cases h2 : n = 5
    · subst h2
      go_enter Try.func29, Try.ntmps29
      go_wp2
      go_ret
      exact ⟨rfl, rfl⟩
    · go_enter Try.func29, Try.ntmps29
      go_wp2
      go_ret
      exact ⟨by simp, rfl⟩

def fau (n : Int) : Int := if fl n then (n - 1) / 2 else 0
def maj (n : Int) : Int := if fl n then (n - 1) / 2 + 1 else 0
def pri (n v : Int) : Int := if fl n && decide (0 ≤ v) then v % n else 0

theorem fl_cases {n : Int} (h : fl n = true) : n = 3 ∨ n = 5 ∨ n = 7 := by
  simp [fl] at h; omega

theorem Faults_any {w : World} (n : Int) : Calls Try.prog 30 #[.int .i64 n] w fun e w' => e = .returned (.int .i64 (fau n)) ∧ w' = w := by
  unfold fau
  cases h : fl n with
  | false =>
    go_enter Try.func30, Try.ntmps30
    go_wp2_with fail
    refine (fleet_any n).mono ?_
    rintro e w1 ⟨rfl, rfl⟩
    rw [h]
    go_wp2
    go_ret
    exact ⟨rfl, rfl⟩
  | true =>
    rcases fl_cases h with rfl | rfl | rfl
    all_goals
      go_enter Try.func30, Try.ntmps30
      go_wp2_with fail
      refine (fleet_any _).mono ?_
      rintro e w1 ⟨rfl, rfl⟩
      rw [h]
      go_wp2
      go_ret
      exact ⟨rfl, rfl⟩

theorem Majority_any {w : World} (n : Int) : Calls Try.prog 27 #[.int .i64 n] w fun e w' => e = .returned (.int .i64 (maj n)) ∧ w' = w := by
  unfold maj
  cases h : fl n with
  | false =>
    go_enter Try.func27, Try.ntmps27
    go_wp2_with fail
    refine (fleet_any n).mono ?_
    rintro e w1 ⟨rfl, rfl⟩
    rw [h]
    go_wp2
    go_ret
    exact ⟨rfl, rfl⟩
  | true =>
    have hf : fau n = (n - 1) / 2 := by simp [fau, h]
    rcases fl_cases h with rfl | rfl | rfl
    all_goals
      go_enter Try.func27, Try.ntmps27
      go_wp2_with fail
      refine (fleet_any _).mono ?_
      rintro e w1 ⟨rfl, rfl⟩
      rw [h]
      go_wp2_with fail
      refine (Faults_any _).mono ?_
      rintro e w1 ⟨rfl, rfl⟩
      rw [hf]
      go_wp2
      go_ret
      exact ⟨rfl, rfl⟩

theorem pri_no {n v : Int} (h : fl n = false) : pri n v = 0 := by simp [pri, h]
theorem pri_neg {n v : Int} (h : v < 0) : pri n v = 0 := by
  unfold pri; rw [if_neg]; simp; intro _; omega
theorem pri_pos {n v : Int} (h : fl n = true) (hv : ¬ v < 0) : pri n v = v % n := by
  unfold pri; rw [if_pos]; simp [h]; omega

theorem Primary_any {w : World} (n v : Int) : Calls Try.prog 28 #[.int .i64 n, .int .i64 v] w fun e w' => e = .returned (.int .i64 (pri n v)) ∧ w' = w := by
  cases h : fl n with
  | false =>
    go_enter Try.func28, Try.ntmps28
    go_wp2_with fail
    refine (fleet_any n).mono ?_
    rintro e w1 ⟨rfl, rfl⟩
    rw [h]
    have h' := hid h
    clear h
    go_wp2
    go_ret
    exact ⟨by rw [pri_no h'.out]; rfl, rfl⟩
  | true =>
    by_cases hv : v < 0
    · go_enter Try.func28, Try.ntmps28
      go_wp2_with fail
      refine (fleet_any n).mono ?_
      rintro e w1 ⟨rfl, rfl⟩
      rw [h]
      go_wp2
      go_ret
      exact ⟨by rw [pri_neg hv]; rfl, rfl⟩
    · rcases fl_cases h with rfl | rfl | rfl
      all_goals
        go_enter Try.func28, Try.ntmps28
        go_wp2_with fail
        refine (fleet_any _).mono ?_
        rintro e w1 ⟨rfl, rfl⟩
        rw [h]
        have h' := hid h
        clear h
        go_wp2
        go_ret
        refine ⟨?_, rfl⟩
        rw [pri_pos h'.out (by omega)]; rfl


def isR (n i : Int) : Bool := decide (0 ≤ i) && decide (i < n)
theorem isR_any {w : World} (n i : Int) : Calls Try.prog 24 #[.int .i64 n, .int .i64 i] w fun e w' => e = .returned (.bool (isR n i)) ∧ w' = w := by
  unfold isR
  by_cases h1 : 0 ≤ i
  · by_cases h2 : i < n
    all_goals
      go_enter Try.func24, Try.ntmps24
      go_wp2
      go_ret
      exact ⟨by simp [h1, h2], rfl⟩
  · go_enter Try.func24, Try.ntmps24
    go_wp2
    go_ret
    exact ⟨by rw [show decide (0 ≤ i) = false from decide_eq_false (by omega)]; rfl, rfl⟩

def szd (n m : Int) : Bool := fl n && decide (1 ≤ m) && decide (m ≤ n)
theorem sized_any {w : World} (n m : Int) : Calls Try.prog 20 #[.int .i64 n, .int .i64 m] w fun e w' => e = .returned (.bool (szd n m)) ∧ w' = w := by
  unfold szd
  cases h : fl n with
  | false =>
    have h3 : ¬ n = 3 := by rintro rfl; simp [fl] at h
    have h5 : ¬ n = 5 := by rintro rfl; simp [fl] at h
    have h7 : ¬ n = 7 := by rintro rfl; simp [fl] at h
    clear h
    go_enter Try.func20, Try.ntmps20
    go_wp2
    go_ret
    exact ⟨rfl, rfl⟩
  | true =>
    by_cases h1 : 1 ≤ m
    · rcases fl_cases h with rfl | rfl | rfl
      all_goals
        clear h
        have h1b : decide (1 ≤ m) = true := decide_eq_true h1
        go_enter Try.func20, Try.ntmps20
        go_wp2
        go_ret
        exact ⟨by simp [h1b], rfl⟩
    · rcases fl_cases h with rfl | rfl | rfl
      all_goals
        clear h
        have h1b : decide (1 ≤ m) = false := decide_eq_false h1
        go_enter Try.func20, Try.ntmps20
        go_wp2
        go_ret
        exact ⟨by simp, rfl⟩

def ahB (x y : Bal) : Bool := decide (y.nm < x.nm) || (x.nm == y.nm && decide (y.op < x.op))
def cmB (x y : Bal) : Bool := decide (y.cm < x.cm)
def vwW (x y : Wit) : Bool := decide (y.vw < x.vw)
def rcB (x : Bal) (n o : Int) : Bool := decide (n < x.nm) || (x.nm == n && decide (o ≤ x.op))
theorem who16 {w : World} (x : Bal) : Calls Try.prog 16 #[x.V] w fun e w' => e = .returned (.int .i64 x.who) ∧ Below w.heap.size w w' := by
  go_enter Try.func16, Try.ntmps16
  go_wp2
  go_ret
  exact ⟨rfl, ba w _⟩
theorem who23 {w : World} (x : Wit) : Calls Try.prog 23 #[x.V] w fun e w' => e = .returned (.int .i64 x.who) ∧ Below w.heap.size w w' := by
  go_enter Try.func23, Try.ntmps23
  go_wp2
  go_ret
  exact ⟨rfl, ba w _⟩
theorem ba2 (w : World) (o p : Obj) : Below w.heap.size w ((w.alloc o).alloc p) := (ba w o).trans ((ba (w.alloc o) p).mono (by simp))

theorem ah18 {w : World} (x y : Bal) : Calls Try.prog 18 #[x.V, y.V] w fun e w' => e = .returned (.bool (ahB x y)) ∧ Below w.heap.size w w' := by
  unfold ahB
  by_cases h1 : y.nm < x.nm
  · go_enter Try.func18, Try.ntmps18
    go_wp2
    go_ret
    exact ⟨by simp [h1], ba2 w _ _⟩
  · by_cases h2 : x.nm = y.nm
    · have h3 : (x.nm == y.nm) = true := by simpa using h2
      go_enter Try.func18, Try.ntmps18
      go_wp2
      go_ret
      exact ⟨by simp, ba2 w _ _⟩
    · have h3 : (x.nm == y.nm) = false := by simpa using h2
      go_enter Try.func18, Try.ntmps18
      go_wp2
      go_ret
      exact ⟨by simp [h1], ba2 w _ _⟩

theorem ah21 {w : World} (x y : Bal) : Calls Try.prog 21 #[x.V, y.V] w fun e w' => e = .returned (.bool (ahB x y)) ∧ Below w.heap.size w w' := by
  unfold ahB
  by_cases h1 : y.nm < x.nm
  · go_enter Try.func21, Try.ntmps21
    go_wp2
    go_ret
    exact ⟨by simp [h1], ba2 w _ _⟩
  · by_cases h2 : x.nm = y.nm
    · have h3 : (x.nm == y.nm) = true := by simpa using h2
      go_enter Try.func21, Try.ntmps21
      go_wp2
      go_ret
      exact ⟨by simp, ba2 w _ _⟩
    · have h3 : (x.nm == y.nm) = false := by simpa using h2
      go_enter Try.func21, Try.ntmps21
      go_wp2
      go_ret
      exact ⟨by simp [h1], ba2 w _ _⟩

theorem cm19 {w : World} (x y : Bal) : Calls Try.prog 19 #[x.V, y.V] w fun e w' => e = .returned (.bool (cmB x y)) ∧ Below w.heap.size w w' := by
  unfold cmB
  go_enter Try.func19, Try.ntmps19
  go_wp2
  go_ret
  exact ⟨rfl, ba2 w _ _⟩
theorem vw26 {w : World} (x y : Wit) : Calls Try.prog 26 #[x.V, y.V] w fun e w' => e = .returned (.bool (vwW x y)) ∧ Below w.heap.size w w' := by
  unfold vwW
  go_enter Try.func26, Try.ntmps26
  go_wp2
  go_ret
  exact ⟨rfl, ba2 w _ _⟩
theorem rc13 {w : World} (x : Bal) (n o : Int) : Calls Try.prog 13 #[x.V, .int .i64 n, .int .i64 o] w fun e w' => e = .returned (.bool (rcB x n o)) ∧ Below w.heap.size w w' := by
  unfold rcB
  by_cases h1 : n < x.nm
  · go_enter Try.func13, Try.ntmps13
    go_wp2
    go_ret
    exact ⟨by simp [h1], ba w _⟩
  · by_cases h2 : x.nm = n
    · have h3 : (x.nm == n) = true := by simpa using h2
      go_enter Try.func13, Try.ntmps13
      go_wp2
      go_ret
      exact ⟨by simp, ba w _⟩
    · have h3 : (x.nm == n) = false := by simpa using h2
      go_enter Try.func13, Try.ntmps13
      go_wp2
      go_ret
      exact ⟨by simp [h1], ba w _⟩

/-- A place among n. -/
def am (i n : Int) : Int := if n < 1 then 0 else i % n
theorem among_any {w : World} {i n : Int} (hn : n < 9223372036854775808) : Calls Try.prog 12 #[.int .i64 i, .int .i64 n] w fun e w' => e = .returned (.int .i64 (am i n)) ∧ w' = w := by
  by_cases h0 : n < 1
  · have e : am i n = 0 := by simp [am, h0]
    rw [e]
    clear e
    go_enter Try.func12, Try.ntmps12
    go_wp2
    go_ret
    exact ⟨rfl, rfl⟩
  · have e : am i n = i % n := by simp [am, h0]
    rw [e]
    clear e
    have hnn : ¬ n = 0 := by omega
    have b1 := Int.tmod_lt_of_pos i (b := n) (by omega)
    have b3 := Int.emod_nonneg i hnn
    have b4 := Int.emod_lt_of_pos i (b := n) (by omega)
    have b2 : i.tmod n = i % n ∨ (i.tmod n < 0 ∧ i.tmod n + n = i % n) := by
      by_cases hi : 0 ≤ i
      · exact Or.inl (Int.tmod_eq_emod_of_nonneg hi)
      · have := Int.tmod_eq_emod (a := i) (b := n)
        split at this
        · left; omega
        · right
          have e : (n.natAbs : Int) = n := by omega
          rw [e] at this
          omega
    generalize hr : i.tmod n = r at *
    generalize i % n = s at *
    rcases b2 with rfl | ⟨b2, rfl⟩
    · have hr0 : ¬ r < 0 := by omega
      go_enter Try.func12, Try.ntmps12
      go_wp2
      go_ret
      exact ⟨rfl, rfl⟩
    · go_enter Try.func12, Try.ntmps12
      go_wp2
      go_ret
      exact ⟨rfl, rfl⟩
end Go.Proofs.Ytjnbnmlggbfodaa
