import Derived.Test.YtphcfkfdkaphbaaShelf
namespace Go.Proofs.Ytphcfkfdkaphbaa
open Go.RowKit
set_option linter.unusedVariables false

theorem mayWait_yes {w : World} {n : Int} (h1 : 1 ≤ n) (h2 : n ≤ 1024) : Calls Try.prog 40 #[.int .i64 n] w fun e w' => e = .returned (.bool true) ∧ w' = w := by
  go_enter Try.func40, Try.ntmps40
  go_wp2
  go_ret
  exact ⟨rfl, rfl⟩

theorem mayWait_no {w : World} {n : Int} (h : n < 1 ∨ 1024 < n) : Calls Try.prog 40 #[.int .i64 n] w fun e w' => e = .returned (.bool false) ∧ w' = w := by
  rcases Int.lt_or_le n 1 with h1 | h1
  · clear h
    go_enter Try.func40, Try.ntmps40
    go_wp2
    go_ret
    exact ⟨rfl, rfl⟩
  · have h2 : ¬ n ≤ 1024 := by omega
    clear h
    go_enter Try.func40, Try.ntmps40
    go_wp2
    go_ret
    exact ⟨rfl, rfl⟩

/-- A backoff's block. -/
def BoB (w : World) (P : Nat) (b m n : Int) : Prop := w.heap[P]? = some (.cells #[.int .i64 b, .int .i64 m, .int .i64 n] 120 (0, 0))

section
variable {w : World} {P : Nat} {b m n : Int}
theorem BoB.c0 (h : BoB w P b m n) : w.cell? ⟨P, 0, none⟩ = some (.int .i64 b) := by rw [cell_at h]; rfl
theorem BoB.c1 (h : BoB w P b m n) : w.cell? ⟨P, 1, none⟩ = some (.int .i64 m) := by rw [cell_at h]; rfl
theorem BoB.c2 (h : BoB w P b m n) : w.cell? ⟨P, 2, none⟩ = some (.int .i64 n) := by rw [cell_at h]; rfl
theorem BoB.free (h : BoB w P b m n) (j : Nat) : w.frozen? ⟨P, j, none⟩ = false := free_at h j
theorem BoB.set2 (h : BoB w P b m n) (k : Int) : BoB (w.setCell ⟨P, 2, none⟩ (.int .i64 k)) P b m k := by
  unfold BoB; rw [heap_setCell_same h]; rfl
theorem BoB.drewN (h : BoB w P b m n) (q : Nat) : BoB (w.drewN q) P b m n := h
end

theorem NewBackoff_ok {w : World} {b m : Int} (h1 : 1 ≤ b) (h2 : b ≤ m) (h3 : m ≤ 1024) :
    Calls Try.prog 31 #[.int .i64 b, .int .i64 m] w fun e w' => ∃ P, e = .returned (.tuple #[.pointer (some ⟨P, 0, none⟩), .int .i64 0]) ∧ Below w.heap.size w w' ∧ w.heap.size ≤ P ∧ BoB w' P b m b := by
  have h4 : b ≤ 1024 := by omega
  go_enter Try.func31, Try.ntmps31
  go_wp2_with fail
  refine (mayWait_yes h1 h4).mono ?_
  rintro e w1 ⟨rfl, rfl⟩
  go_wp2
  go_ret2
  exact ⟨_, rfl, ba _ _, Nat.le_refl _, heap_alloc_new _ _⟩

def errB (b m : Int) : Int := if b < 1 ∨ 1024 < b ∨ 1024 < m then 30 else 32
theorem errB_ticks {b m : Int} (h : b < 1 ∨ 1024 < b ∨ 1024 < m) : errB b m = 30 := if_pos h
theorem errB_cap {b m : Int} (h : ¬ (b < 1 ∨ 1024 < b ∨ 1024 < m)) : errB b m = 32 := if_neg h

theorem NewBackoff_bad {w : World} {b m : Int} (h : b < 1 ∨ m < b ∨ 1024 < m) :
    Calls Try.prog 31 #[.int .i64 b, .int .i64 m] w fun e w' => e = .returned (.tuple #[.pointer none, .int .i64 (errB b m)]) ∧ w' = w := by
  by_cases hb : b < 1 ∨ 1024 < b
  · clear h
    go_enter Try.func31, Try.ntmps31
    go_wp2_with fail
    refine (mayWait_no hb).mono ?_
    rintro e w1 ⟨rfl, rfl⟩
    go_wp2
    go_ret2
    exact ⟨by rw [errB_ticks (by omega)]; rfl, rfl⟩
  · by_cases hm : 1024 < m
    · clear h
      go_enter Try.func31, Try.ntmps31
      go_wp2_with fail
      refine (mayWait_yes (by omega) (by omega)).mono ?_
      rintro e w1 ⟨rfl, rfl⟩
      go_wp2
      go_ret2
      exact ⟨by rw [errB_ticks (by omega)]; rfl, rfl⟩
    · have hmb : m < b := by omega
      clear h
      go_enter Try.func31, Try.ntmps31
      go_wp2_with fail
      refine (mayWait_yes (by omega) (by omega)).mono ?_
      rintro e w1 ⟨rfl, rfl⟩
      go_wp2
      go_ret2
      exact ⟨by rw [errB_cap (by omega)]; rfl, rfl⟩

theorem Now_any {w : World} {P : Nat} {b m n : Int} (h : BoB w P b m n) : Calls Try.prog 35 #[.pointer (some ⟨P, 0, none⟩)] w fun e w' => e = .returned (.int .i64 n) ∧ w' = w := by
  have c2 := h.c2
  clear h
  go_enter Try.func35, Try.ntmps35
  go_wp2
  go_ret
  exact ⟨rfl, rfl⟩

theorem Reset_any {w : World} {P : Nat} {b m n : Int} (h : BoB w P b m n) : Calls Try.prog 36 #[.pointer (some ⟨P, 0, none⟩)] w fun e w' => e = .returned (.tuple #[]) ∧ BoB w' P b m b ∧ Fr [P] w w' := by
  have c0 := h.c0
  have c2 := h.c2
  have f2 := h.free 2
  have N := hid (h.set2 b)
  clear h
  go_enter Try.func36, Try.ntmps36
  go_wp2
  go_end0
  exact ⟨rfl, N.out, Fr.setCell _ _ _ _⟩

theorem Next_any {w : World} {P : Nat} {b m n : Int} (h : BoB w P b m n) (h1 : 1 ≤ n) (h2 : n ≤ m) (h3 : m ≤ 1024) : Calls Try.prog 33 #[.pointer (some ⟨P, 0, none⟩)] w fun e w' => e = .returned (.int .i64 n) ∧ BoB w' P b m (min (2 * n) m) ∧ Fr [P] w w' := by
  have c1 := h.c1
  have c2 := h.c2
  have f2 := h.free 2
  have N1 := hid (h.set2 (2 * n))
  have N2 := hid (h.set2 m)
  clear h
  have hw : IntKind.i64.wrap (2 * n) = 2 * n := by simp [IntKind.wrap, IntKind.bits, IntKind.signed]; omega
  go_enter Try.func33, Try.ntmps33
  go_wp2
  · go_ret
    exact ⟨rfl, by rw [Int.min_eq_right (by omega)]; exact N2.out, Fr.setCell _ _ _ _⟩
  · go_ret
    exact ⟨rfl, by rw [Int.min_eq_left (by omega)]; exact N1.out, Fr.setCell _ _ _ _⟩
end Go.Proofs.Ytphcfkfdkaphbaa
