import Derived.Test.YtkcepkehgkkkbaaGreatDoorJ7
import Derived.Deep.QuietTactic
import Derived.BigQuiet
namespace Go.Proofs.YtkcepkehgkkkbaaGreatDoor
open Go.RowKit
set_option linter.unusedVariables false

theorem hasName_any {w : World} (k : Int) : Calls Tryz.prog 57 #[.int .i64 k] w fun e w' => e = .returned (.bool (decide (1 ≤ k ∧ k ≤ 7))) ∧ w' = w := by
  by_cases h : 1 ≤ k
  · have e1 : decide (1 ≤ k) = true := by simpa using h
    have e : decide (1 ≤ k ∧ k ≤ 7) = decide (k ≤ 7) := by rw [Bool.eq_iff_iff]; simp; omega
    rw [e]; clear e
    go_enter Tryz.func57, Tryz.ntmps57
    go_wp2
    go_ret
    exact ⟨rfl, rfl⟩
  · have e1 : decide (1 ≤ k) = false := by simpa using h
    have e : decide (1 ≤ k ∧ k ≤ 7) = false := by simp; omega
    rw [e]; clear e
    go_enter Tryz.func57, Tryz.ntmps57
    go_wp2
    go_ret
    exact ⟨rfl, rfl⟩
theorem hasNum_any {w : World} (k : Int) : Calls Tryz.prog 60 #[.int .i64 k] w fun e w' => e = .returned (.bool (decide (k = 4 ∨ k = 6))) ∧ w' = w := by
  by_cases h : k = 4
  · subst h
    go_enter Tryz.func60, Tryz.ntmps60
    go_wp2
    go_ret
    exact ⟨by simp, rfl⟩
  · have e1 : (k == 4) = false := by simpa using h
    have e : decide (k = 4 ∨ k = 6) = (k == 6) := by rw [Bool.eq_iff_iff]; simp; omega
    rw [e]; clear e
    go_enter Tryz.func60, Tryz.ntmps60
    go_wp2
    go_ret
    exact ⟨rfl, rfl⟩
def tMost (k : Int) : Int := if k = 3 then 64 else if k = 5 then 16 else -1
def tLeast (k : Int) : Int := if k = 5 then 1 else 0
theorem textMost_any {w : World} (k : Int) : Calls Tryz.prog 59 #[.int .i64 k] w fun e w' => e = .returned (.int .i64 (tMost k)) ∧ w' = w := by
  by_cases h : k = 3
  · subst h
    go_enter Tryz.func59, Tryz.ntmps59
    go_wp2
    go_ret
    exact ⟨rfl, rfl⟩
  · have e1 : (k == 3) = false := by simpa using h
    by_cases h5 : k = 5
    · subst h5
      go_enter Tryz.func59, Tryz.ntmps59
      go_wp2
      go_ret
      exact ⟨rfl, rfl⟩
    · have e2 : (k == 5) = false := by simpa using h5
      rw [show tMost k = -1 by simp [tMost, h, h5]]
      clear h h5
      go_enter Tryz.func59, Tryz.ntmps59
      go_wp2
      go_ret
      exact ⟨rfl, rfl⟩
theorem textLeast_any {w : World} (k : Int) : Calls Tryz.prog 92 #[.int .i64 k] w fun e w' => e = .returned (.int .i64 (tLeast k)) ∧ w' = w := by
  by_cases h : k = 5
  · subst h
    go_enter Tryz.func92, Tryz.ntmps92
    go_wp2
    go_ret
    exact ⟨rfl, rfl⟩
  · have e1 : (k == 5) = false := by simpa using h
    rw [show tLeast k = 0 by simp [tLeast, h]]
    clear h
    go_enter Tryz.func92, Tryz.ntmps92
    go_wp2
    go_ret
    exact ⟨rfl, rfl⟩

theorem nonempty (v : ByteArray) (h : ¬ v.size = 0) : v.toList.isEmpty = false := by
  rw [ByteArray.toList_eq]
  obtain ⟨⟨l⟩⟩ := v
  cases l with
  | nil => exact absurd rfl h
  | cons a l => rfl
theorem isempty (v : ByteArray) (h : v.size = 0) : v.toList.isEmpty = true := by
  rw [ByteArray.toList_eq]
  obtain ⟨⟨l⟩⟩ := v
  cases l with
  | nil => rfl
  | cons a l => simp [ByteArray.size] at h

/-- The op lies in a block of its own. -/
structure Bx (w w1 : World) (k : Int) (nm tx : ByteArray) (n m : Int) : Prop where
  op : w1.heap[w.heap.size]? = some (opB k nm tx n m)
  below : Below w.heap.size w w1
theorem Bx.first (w : World) (k : Int) (nm tx : ByteArray) (n m : Int) : Bx w (w.alloc (opB k nm tx n m)) k nm tx n m := ⟨heap_alloc_new w _, ba w _⟩
theorem Bx.drewN {w w1 : World} {k : Int} {nm tx : ByteArray} {n m : Int} (h : Bx w w1 k nm tx n m) (q : Nat) : Bx w (w1.drewN q) k nm tx n m := ⟨h.op, ⟨h.below.os, h.below.tape, h.below.output, h.below.size, h.below.block⟩⟩
end Go.Proofs.YtkcepkehgkkkbaaGreatDoor

namespace Go.Proofs.YtkcepkehgkkkbaaGreatDoor
open Go.RowKit
set_option linter.unusedVariables false

set_option maxHeartbeats 3200000 in
set_option maxRecDepth 1000000 in
theorem rc1 {w : World} (nm tx : ByteArray) (n m : Int) : Calls Tryz.prog 61 #[opV 1 nm tx n m] w fun e w' => e = .returned (.int .i64 (chkR 1 16 0 0 0 0 0 0 nm.size tx.size n m)) ∧ Below w.heap.size w w' := by
  have N : ∀ W : World, Calls Tryz.prog 57 #[.int .i64 1] W fun e w' => e = .returned (.bool true) ∧ w' = W := fun W => hasName_any 1
  have L : ∀ W : World, Calls Tryz.prog 59 #[.int .i64 1] W fun e w' => e = .returned (.int .i64 (-1)) ∧ w' = W := fun W => textMost_any 1
  have S : ∀ W : World, Calls Tryz.prog 92 #[.int .i64 1] W fun e w' => e = .returned (.int .i64 0) ∧ w' = W := fun W => textLeast_any 1
  have M : ∀ W : World, Calls Tryz.prog 60 #[.int .i64 1] W fun e w' => e = .returned (.bool false) ∧ w' = W := fun W => hasNum_any 1
  have N := hid N
  have L := hid L
  have S := hid S
  have M := hid M
  go_enter Tryz.func61, Tryz.ntmps61
  go_wp2_with fail
  refine (N.out _).mono ?_
  rintro e w1 ⟨rfl, hw⟩
  have T := hid (Bx.first w 1 nm tx n m)
  rw [← hw] at T
  clear hw
  have o0 : w1.cell? ⟨w.heap.size, 0, none⟩ = some (.int .i64 1) := by rw [cell_at T.out.op]; rfl
  have o1 : w1.cell? ⟨w.heap.size, 1, none⟩ = some (.string nm) := by rw [cell_at T.out.op]; rfl
  have o2 : w1.cell? ⟨w.heap.size, 2, none⟩ = some (.string tx) := by rw [cell_at T.out.op]; rfl
  have o3 : w1.cell? ⟨w.heap.size, 3, none⟩ = some (.int .i64 n) := by rw [cell_at T.out.op]; rfl
  have o4 : w1.cell? ⟨w.heap.size, 4, none⟩ = some (.int .i64 m) := by rw [cell_at T.out.op]; rfl
  by_cases s1 : (nm.size : Int) < 1
  · have es1 : decide ((nm.size : Int) < 1) = true := by simp; omega
    go_wp2
    go_ret
    have Z : chkR 1 16 0 0 0 0 0 0 nm.size tx.size n m = 51 := by
      revert s1
      generalize nm.size = s
      generalize tx.size = t
      intro s1
      simp [chkR, wr, ex, hs, hl] <;> omega
    exact ⟨by rw [Z]; rfl, T.out.below⟩
  have es1 : decide ((nm.size : Int) < 1) = false := by simp; omega
  by_cases s2 : (16 : Int) < (nm.size : Int)
  · have es2 : decide ((16 : Int) < (nm.size : Int)) = true := by simp; omega
    go_wp2
    go_ret
    have Z : chkR 1 16 0 0 0 0 0 0 nm.size tx.size n m = 51 := by
      revert s1 s2
      generalize nm.size = s
      generalize tx.size = t
      intro s1 s2
      simp [chkR, wr, ex, hs, hl] <;> omega
    exact ⟨by rw [Z]; rfl, T.out.below⟩
  have es2 : decide ((16 : Int) < (nm.size : Int)) = false := by simp; omega
  go_wp2
  go_quiet (first | (go_at_call 59; exact Calls.quiet_of_same (L.out _)))
  have T := hid (T.out.drewN nq)
  clear o0 o1 o2 o3 o4
  generalize w1.drewN nq = w2 at T ⊢
  have o0 : w2.cell? ⟨w.heap.size, 0, none⟩ = some (.int .i64 1) := by rw [cell_at T.out.op]; rfl
  have o1 : w2.cell? ⟨w.heap.size, 1, none⟩ = some (.string nm) := by rw [cell_at T.out.op]; rfl
  have o2 : w2.cell? ⟨w.heap.size, 2, none⟩ = some (.string tx) := by rw [cell_at T.out.op]; rfl
  have o3 : w2.cell? ⟨w.heap.size, 3, none⟩ = some (.int .i64 n) := by rw [cell_at T.out.op]; rfl
  have o4 : w2.cell? ⟨w.heap.size, 4, none⟩ = some (.int .i64 m) := by rw [cell_at T.out.op]; rfl
  go_wp2_with fail
  refine (M.out _).mono ?_
  rintro e w3 ⟨rfl, rfl⟩
  go_wp2_with fail
  refine (N.out _).mono ?_
  rintro e w4 ⟨rfl, rfl⟩
  go_wp2_with fail
  refine (L.out _).mono ?_
  rintro e w5 ⟨rfl, rfl⟩
  by_cases x2 : tx.size = 0
  case neg =>
    have qtx := nonempty tx x2
    go_wp2
    go_ret
    have Z : chkR 1 16 0 0 0 0 0 0 nm.size tx.size n m = 55 := by
      revert s1 s2 x2
      generalize nm.size = s
      generalize tx.size = t
      intro s1 s2 x2
      simp [chkR, wr, ex, hs, hl] <;> omega
    exact ⟨by rw [Z]; rfl, T.out.below⟩
  have qtx := isempty tx x2
  go_wp2_with fail
  refine (M.out _).mono ?_
  rintro e w6 ⟨rfl, rfl⟩
  by_cases x3 : n = 0
  case neg =>
    have qn : (n != 0) = true := by simpa using x3
    go_wp2
    go_ret
    have Z : chkR 1 16 0 0 0 0 0 0 nm.size tx.size n m = 55 := by
      revert s1 s2 x2 x3
      generalize nm.size = s
      generalize tx.size = t
      intro s1 s2 x2 x3
      simp [chkR, wr, ex, hs, hl] <;> omega
    exact ⟨by rw [Z]; rfl, T.out.below⟩
  have qn : (n != 0) = false := by simpa using x3
  have xx3 := hid x3
  clear x3
  by_cases x4 : m = 0
  case neg =>
    have qm : (m != 0) = true := by simpa using x4
    go_wp2
    go_ret
    have Z : chkR 1 16 0 0 0 0 0 0 nm.size tx.size n m = 55 := by
      revert s1 s2 x2 xx3 x4
      generalize nm.size = s
      generalize tx.size = t
      intro s1 s2 x2 xx3 x4
      have xx3 := xx3.out
      simp [chkR, wr, ex, hs, hl] <;> omega
    exact ⟨by rw [Z]; rfl, T.out.below⟩
  have qm : (m != 0) = false := by simpa using x4
  have xx4 := hid x4
  clear x4
  go_wp2
  go_ret
  have Z : chkR 1 16 0 0 0 0 0 0 nm.size tx.size n m = 0 := by
    revert s1 s2 x2 xx3 xx4
    generalize nm.size = s
    generalize tx.size = t
    intro s1 s2 x2 xx3 xx4
    have xx3 := xx3.out
    have xx4 := xx4.out
    simp [chkR, wr, ex, hs, hl] <;> omega
  exact ⟨by rw [Z]; rfl, T.out.below⟩

set_option maxHeartbeats 3200000 in
set_option maxRecDepth 1000000 in
theorem rc2 {w : World} (nm tx : ByteArray) (n m : Int) : Calls Tryz.prog 61 #[opV 2 nm tx n m] w fun e w' => e = .returned (.int .i64 (chkR 1 16 0 0 0 0 0 0 nm.size tx.size n m)) ∧ Below w.heap.size w w' := by
  have N : ∀ W : World, Calls Tryz.prog 57 #[.int .i64 2] W fun e w' => e = .returned (.bool true) ∧ w' = W := fun W => hasName_any 2
  have L : ∀ W : World, Calls Tryz.prog 59 #[.int .i64 2] W fun e w' => e = .returned (.int .i64 (-1)) ∧ w' = W := fun W => textMost_any 2
  have S : ∀ W : World, Calls Tryz.prog 92 #[.int .i64 2] W fun e w' => e = .returned (.int .i64 0) ∧ w' = W := fun W => textLeast_any 2
  have M : ∀ W : World, Calls Tryz.prog 60 #[.int .i64 2] W fun e w' => e = .returned (.bool false) ∧ w' = W := fun W => hasNum_any 2
  have N := hid N
  have L := hid L
  have S := hid S
  have M := hid M
  go_enter Tryz.func61, Tryz.ntmps61
  go_wp2_with fail
  refine (N.out _).mono ?_
  rintro e w1 ⟨rfl, hw⟩
  have T := hid (Bx.first w 2 nm tx n m)
  rw [← hw] at T
  clear hw
  have o0 : w1.cell? ⟨w.heap.size, 0, none⟩ = some (.int .i64 2) := by rw [cell_at T.out.op]; rfl
  have o1 : w1.cell? ⟨w.heap.size, 1, none⟩ = some (.string nm) := by rw [cell_at T.out.op]; rfl
  have o2 : w1.cell? ⟨w.heap.size, 2, none⟩ = some (.string tx) := by rw [cell_at T.out.op]; rfl
  have o3 : w1.cell? ⟨w.heap.size, 3, none⟩ = some (.int .i64 n) := by rw [cell_at T.out.op]; rfl
  have o4 : w1.cell? ⟨w.heap.size, 4, none⟩ = some (.int .i64 m) := by rw [cell_at T.out.op]; rfl
  by_cases s1 : (nm.size : Int) < 1
  · have es1 : decide ((nm.size : Int) < 1) = true := by simp; omega
    go_wp2
    go_ret
    have Z : chkR 1 16 0 0 0 0 0 0 nm.size tx.size n m = 51 := by
      revert s1
      generalize nm.size = s
      generalize tx.size = t
      intro s1
      simp [chkR, wr, ex, hs, hl] <;> omega
    exact ⟨by rw [Z]; rfl, T.out.below⟩
  have es1 : decide ((nm.size : Int) < 1) = false := by simp; omega
  by_cases s2 : (16 : Int) < (nm.size : Int)
  · have es2 : decide ((16 : Int) < (nm.size : Int)) = true := by simp; omega
    go_wp2
    go_ret
    have Z : chkR 1 16 0 0 0 0 0 0 nm.size tx.size n m = 51 := by
      revert s1 s2
      generalize nm.size = s
      generalize tx.size = t
      intro s1 s2
      simp [chkR, wr, ex, hs, hl] <;> omega
    exact ⟨by rw [Z]; rfl, T.out.below⟩
  have es2 : decide ((16 : Int) < (nm.size : Int)) = false := by simp; omega
  go_wp2
  go_quiet (first | (go_at_call 59; exact Calls.quiet_of_same (L.out _)))
  have T := hid (T.out.drewN nq)
  clear o0 o1 o2 o3 o4
  generalize w1.drewN nq = w2 at T ⊢
  have o0 : w2.cell? ⟨w.heap.size, 0, none⟩ = some (.int .i64 2) := by rw [cell_at T.out.op]; rfl
  have o1 : w2.cell? ⟨w.heap.size, 1, none⟩ = some (.string nm) := by rw [cell_at T.out.op]; rfl
  have o2 : w2.cell? ⟨w.heap.size, 2, none⟩ = some (.string tx) := by rw [cell_at T.out.op]; rfl
  have o3 : w2.cell? ⟨w.heap.size, 3, none⟩ = some (.int .i64 n) := by rw [cell_at T.out.op]; rfl
  have o4 : w2.cell? ⟨w.heap.size, 4, none⟩ = some (.int .i64 m) := by rw [cell_at T.out.op]; rfl
  go_wp2_with fail
  refine (M.out _).mono ?_
  rintro e w3 ⟨rfl, rfl⟩
  go_wp2_with fail
  refine (N.out _).mono ?_
  rintro e w4 ⟨rfl, rfl⟩
  go_wp2_with fail
  refine (L.out _).mono ?_
  rintro e w5 ⟨rfl, rfl⟩
  by_cases x2 : tx.size = 0
  case neg =>
    have qtx := nonempty tx x2
    go_wp2
    go_ret
    have Z : chkR 1 16 0 0 0 0 0 0 nm.size tx.size n m = 55 := by
      revert s1 s2 x2
      generalize nm.size = s
      generalize tx.size = t
      intro s1 s2 x2
      simp [chkR, wr, ex, hs, hl] <;> omega
    exact ⟨by rw [Z]; rfl, T.out.below⟩
  have qtx := isempty tx x2
  go_wp2_with fail
  refine (M.out _).mono ?_
  rintro e w6 ⟨rfl, rfl⟩
  by_cases x3 : n = 0
  case neg =>
    have qn : (n != 0) = true := by simpa using x3
    go_wp2
    go_ret
    have Z : chkR 1 16 0 0 0 0 0 0 nm.size tx.size n m = 55 := by
      revert s1 s2 x2 x3
      generalize nm.size = s
      generalize tx.size = t
      intro s1 s2 x2 x3
      simp [chkR, wr, ex, hs, hl] <;> omega
    exact ⟨by rw [Z]; rfl, T.out.below⟩
  have qn : (n != 0) = false := by simpa using x3
  have xx3 := hid x3
  clear x3
  by_cases x4 : m = 0
  case neg =>
    have qm : (m != 0) = true := by simpa using x4
    go_wp2
    go_ret
    have Z : chkR 1 16 0 0 0 0 0 0 nm.size tx.size n m = 55 := by
      revert s1 s2 x2 xx3 x4
      generalize nm.size = s
      generalize tx.size = t
      intro s1 s2 x2 xx3 x4
      have xx3 := xx3.out
      simp [chkR, wr, ex, hs, hl] <;> omega
    exact ⟨by rw [Z]; rfl, T.out.below⟩
  have qm : (m != 0) = false := by simpa using x4
  have xx4 := hid x4
  clear x4
  go_wp2
  go_ret
  have Z : chkR 1 16 0 0 0 0 0 0 nm.size tx.size n m = 0 := by
    revert s1 s2 x2 xx3 xx4
    generalize nm.size = s
    generalize tx.size = t
    intro s1 s2 x2 xx3 xx4
    have xx3 := xx3.out
    have xx4 := xx4.out
    simp [chkR, wr, ex, hs, hl] <;> omega
  exact ⟨by rw [Z]; rfl, T.out.below⟩

set_option maxHeartbeats 3200000 in
set_option maxRecDepth 1000000 in
theorem rc3 {w : World} (nm tx : ByteArray) (n m : Int) : Calls Tryz.prog 61 #[opV 3 nm tx n m] w fun e w' => e = .returned (.int .i64 (chkR 1 16 0 64 0 0 0 0 nm.size tx.size n m)) ∧ Below w.heap.size w w' := by
  have N : ∀ W : World, Calls Tryz.prog 57 #[.int .i64 3] W fun e w' => e = .returned (.bool true) ∧ w' = W := fun W => hasName_any 3
  have L : ∀ W : World, Calls Tryz.prog 59 #[.int .i64 3] W fun e w' => e = .returned (.int .i64 64) ∧ w' = W := fun W => textMost_any 3
  have S : ∀ W : World, Calls Tryz.prog 92 #[.int .i64 3] W fun e w' => e = .returned (.int .i64 0) ∧ w' = W := fun W => textLeast_any 3
  have M : ∀ W : World, Calls Tryz.prog 60 #[.int .i64 3] W fun e w' => e = .returned (.bool false) ∧ w' = W := fun W => hasNum_any 3
  have N := hid N
  have L := hid L
  have S := hid S
  have M := hid M
  go_enter Tryz.func61, Tryz.ntmps61
  go_wp2_with fail
  refine (N.out _).mono ?_
  rintro e w1 ⟨rfl, hw⟩
  have T := hid (Bx.first w 3 nm tx n m)
  rw [← hw] at T
  clear hw
  have o0 : w1.cell? ⟨w.heap.size, 0, none⟩ = some (.int .i64 3) := by rw [cell_at T.out.op]; rfl
  have o1 : w1.cell? ⟨w.heap.size, 1, none⟩ = some (.string nm) := by rw [cell_at T.out.op]; rfl
  have o2 : w1.cell? ⟨w.heap.size, 2, none⟩ = some (.string tx) := by rw [cell_at T.out.op]; rfl
  have o3 : w1.cell? ⟨w.heap.size, 3, none⟩ = some (.int .i64 n) := by rw [cell_at T.out.op]; rfl
  have o4 : w1.cell? ⟨w.heap.size, 4, none⟩ = some (.int .i64 m) := by rw [cell_at T.out.op]; rfl
  by_cases s1 : (nm.size : Int) < 1
  · have es1 : decide ((nm.size : Int) < 1) = true := by simp; omega
    go_wp2
    go_ret
    have Z : chkR 1 16 0 64 0 0 0 0 nm.size tx.size n m = 51 := by
      revert s1
      generalize nm.size = s
      generalize tx.size = t
      intro s1
      simp [chkR, wr, ex, hs, hl] <;> omega
    exact ⟨by rw [Z]; rfl, T.out.below⟩
  have es1 : decide ((nm.size : Int) < 1) = false := by simp; omega
  by_cases s2 : (16 : Int) < (nm.size : Int)
  · have es2 : decide ((16 : Int) < (nm.size : Int)) = true := by simp; omega
    go_wp2
    go_ret
    have Z : chkR 1 16 0 64 0 0 0 0 nm.size tx.size n m = 51 := by
      revert s1 s2
      generalize nm.size = s
      generalize tx.size = t
      intro s1 s2
      simp [chkR, wr, ex, hs, hl] <;> omega
    exact ⟨by rw [Z]; rfl, T.out.below⟩
  have es2 : decide ((16 : Int) < (nm.size : Int)) = false := by simp; omega
  have et1 : decide ((tx.size : Int) < 0) = false := by simp
  by_cases t2 : (64 : Int) < (tx.size : Int)
  · have et2 : decide ((64 : Int) < (tx.size : Int)) = true := by simp; omega
    go_wp2
    go_quiet (first | (go_at_call 59; exact Calls.quiet_of_same (L.out _)) | (go_at_call 92; exact Calls.quiet_of_same (S.out _)))
    have T := hid (T.out.drewN nq)
    clear o0 o1 o2 o3 o4
    generalize w1.drewN nq = w2 at T ⊢
    have o0 : w2.cell? ⟨w.heap.size, 0, none⟩ = some (.int .i64 3) := by rw [cell_at T.out.op]; rfl
    have o1 : w2.cell? ⟨w.heap.size, 1, none⟩ = some (.string nm) := by rw [cell_at T.out.op]; rfl
    have o2 : w2.cell? ⟨w.heap.size, 2, none⟩ = some (.string tx) := by rw [cell_at T.out.op]; rfl
    have o3 : w2.cell? ⟨w.heap.size, 3, none⟩ = some (.int .i64 n) := by rw [cell_at T.out.op]; rfl
    have o4 : w2.cell? ⟨w.heap.size, 4, none⟩ = some (.int .i64 m) := by rw [cell_at T.out.op]; rfl
    go_wp2
    go_ret
    have Z : chkR 1 16 0 64 0 0 0 0 nm.size tx.size n m = 52 := by
      revert s1 s2 t2
      generalize nm.size = s
      generalize tx.size = t
      intro s1 s2 t2
      simp [chkR, wr, ex, hs, hl] <;> omega
    exact ⟨by rw [Z]; rfl, T.out.below⟩
  have et2 : decide ((64 : Int) < (tx.size : Int)) = false := by simp; omega
  go_wp2
  go_quiet (first | (go_at_call 59; exact Calls.quiet_of_same (L.out _)) | (go_at_call 92; exact Calls.quiet_of_same (S.out _)))
  have T := hid (T.out.drewN nq)
  clear o0 o1 o2 o3 o4
  generalize w1.drewN nq = w2 at T ⊢
  have o0 : w2.cell? ⟨w.heap.size, 0, none⟩ = some (.int .i64 3) := by rw [cell_at T.out.op]; rfl
  have o1 : w2.cell? ⟨w.heap.size, 1, none⟩ = some (.string nm) := by rw [cell_at T.out.op]; rfl
  have o2 : w2.cell? ⟨w.heap.size, 2, none⟩ = some (.string tx) := by rw [cell_at T.out.op]; rfl
  have o3 : w2.cell? ⟨w.heap.size, 3, none⟩ = some (.int .i64 n) := by rw [cell_at T.out.op]; rfl
  have o4 : w2.cell? ⟨w.heap.size, 4, none⟩ = some (.int .i64 m) := by rw [cell_at T.out.op]; rfl
  go_wp2_with fail
  refine (M.out _).mono ?_
  rintro e w3 ⟨rfl, rfl⟩
  go_wp2_with fail
  refine (N.out _).mono ?_
  rintro e w4 ⟨rfl, rfl⟩
  go_wp2_with fail
  refine (L.out _).mono ?_
  rintro e w5 ⟨rfl, rfl⟩
  go_wp2_with fail
  refine (M.out _).mono ?_
  rintro e w6 ⟨rfl, rfl⟩
  by_cases x3 : n = 0
  case neg =>
    have qn : (n != 0) = true := by simpa using x3
    go_wp2
    go_ret
    have Z : chkR 1 16 0 64 0 0 0 0 nm.size tx.size n m = 55 := by
      revert s1 s2 t2 x3
      generalize nm.size = s
      generalize tx.size = t
      intro s1 s2 t2 x3
      simp [chkR, wr, ex, hs, hl] <;> omega
    exact ⟨by rw [Z]; rfl, T.out.below⟩
  have qn : (n != 0) = false := by simpa using x3
  have xx3 := hid x3
  clear x3
  by_cases x4 : m = 0
  case neg =>
    have qm : (m != 0) = true := by simpa using x4
    go_wp2
    go_ret
    have Z : chkR 1 16 0 64 0 0 0 0 nm.size tx.size n m = 55 := by
      revert s1 s2 t2 xx3 x4
      generalize nm.size = s
      generalize tx.size = t
      intro s1 s2 t2 xx3 x4
      have xx3 := xx3.out
      simp [chkR, wr, ex, hs, hl] <;> omega
    exact ⟨by rw [Z]; rfl, T.out.below⟩
  have qm : (m != 0) = false := by simpa using x4
  have xx4 := hid x4
  clear x4
  go_wp2
  go_ret
  have Z : chkR 1 16 0 64 0 0 0 0 nm.size tx.size n m = 0 := by
    revert s1 s2 t2 xx3 xx4
    generalize nm.size = s
    generalize tx.size = t
    intro s1 s2 t2 xx3 xx4
    have xx3 := xx3.out
    have xx4 := xx4.out
    simp [chkR, wr, ex, hs, hl] <;> omega
  exact ⟨by rw [Z]; rfl, T.out.below⟩

set_option maxHeartbeats 3200000 in
set_option maxRecDepth 1000000 in
theorem rc4 {w : World} (nm tx : ByteArray) (n m : Int) : Calls Tryz.prog 61 #[opV 4 nm tx n m] w fun e w' => e = .returned (.int .i64 (chkR 1 16 0 0 0 1099511627776 0 0 nm.size tx.size n m)) ∧ Below w.heap.size w w' := by
  have N : ∀ W : World, Calls Tryz.prog 57 #[.int .i64 4] W fun e w' => e = .returned (.bool true) ∧ w' = W := fun W => hasName_any 4
  have L : ∀ W : World, Calls Tryz.prog 59 #[.int .i64 4] W fun e w' => e = .returned (.int .i64 (-1)) ∧ w' = W := fun W => textMost_any 4
  have S : ∀ W : World, Calls Tryz.prog 92 #[.int .i64 4] W fun e w' => e = .returned (.int .i64 0) ∧ w' = W := fun W => textLeast_any 4
  have M : ∀ W : World, Calls Tryz.prog 60 #[.int .i64 4] W fun e w' => e = .returned (.bool true) ∧ w' = W := fun W => hasNum_any 4
  have N := hid N
  have L := hid L
  have S := hid S
  have M := hid M
  go_enter Tryz.func61, Tryz.ntmps61
  go_wp2_with fail
  refine (N.out _).mono ?_
  rintro e w1 ⟨rfl, hw⟩
  have T := hid (Bx.first w 4 nm tx n m)
  rw [← hw] at T
  clear hw
  have o0 : w1.cell? ⟨w.heap.size, 0, none⟩ = some (.int .i64 4) := by rw [cell_at T.out.op]; rfl
  have o1 : w1.cell? ⟨w.heap.size, 1, none⟩ = some (.string nm) := by rw [cell_at T.out.op]; rfl
  have o2 : w1.cell? ⟨w.heap.size, 2, none⟩ = some (.string tx) := by rw [cell_at T.out.op]; rfl
  have o3 : w1.cell? ⟨w.heap.size, 3, none⟩ = some (.int .i64 n) := by rw [cell_at T.out.op]; rfl
  have o4 : w1.cell? ⟨w.heap.size, 4, none⟩ = some (.int .i64 m) := by rw [cell_at T.out.op]; rfl
  by_cases s1 : (nm.size : Int) < 1
  · have es1 : decide ((nm.size : Int) < 1) = true := by simp; omega
    go_wp2
    go_ret
    have Z : chkR 1 16 0 0 0 1099511627776 0 0 nm.size tx.size n m = 51 := by
      revert s1
      generalize nm.size = s
      generalize tx.size = t
      intro s1
      simp [chkR, wr, ex, hs, hl] <;> omega
    exact ⟨by rw [Z]; rfl, T.out.below⟩
  have es1 : decide ((nm.size : Int) < 1) = false := by simp; omega
  by_cases s2 : (16 : Int) < (nm.size : Int)
  · have es2 : decide ((16 : Int) < (nm.size : Int)) = true := by simp; omega
    go_wp2
    go_ret
    have Z : chkR 1 16 0 0 0 1099511627776 0 0 nm.size tx.size n m = 51 := by
      revert s1 s2
      generalize nm.size = s
      generalize tx.size = t
      intro s1 s2
      simp [chkR, wr, ex, hs, hl] <;> omega
    exact ⟨by rw [Z]; rfl, T.out.below⟩
  have es2 : decide ((16 : Int) < (nm.size : Int)) = false := by simp; omega
  go_wp2
  go_quiet (first | (go_at_call 59; exact Calls.quiet_of_same (L.out _)))
  have T := hid (T.out.drewN nq)
  clear o0 o1 o2 o3 o4
  generalize w1.drewN nq = w2 at T ⊢
  have o0 : w2.cell? ⟨w.heap.size, 0, none⟩ = some (.int .i64 4) := by rw [cell_at T.out.op]; rfl
  have o1 : w2.cell? ⟨w.heap.size, 1, none⟩ = some (.string nm) := by rw [cell_at T.out.op]; rfl
  have o2 : w2.cell? ⟨w.heap.size, 2, none⟩ = some (.string tx) := by rw [cell_at T.out.op]; rfl
  have o3 : w2.cell? ⟨w.heap.size, 3, none⟩ = some (.int .i64 n) := by rw [cell_at T.out.op]; rfl
  have o4 : w2.cell? ⟨w.heap.size, 4, none⟩ = some (.int .i64 m) := by rw [cell_at T.out.op]; rfl
  go_wp2_with fail
  refine (M.out _).mono ?_
  rintro e w3 ⟨rfl, rfl⟩
  by_cases n1 : n < 0
  · have en1 : decide (n < 0) = true := by simp; omega
    go_wp2
    go_ret
    have Z : chkR 1 16 0 0 0 1099511627776 0 0 nm.size tx.size n m = 53 := by
      revert s1 s2 n1
      generalize nm.size = s
      generalize tx.size = t
      intro s1 s2 n1
      simp [chkR, wr, ex, hs, hl] <;> omega
    exact ⟨by rw [Z]; rfl, T.out.below⟩
  have en1 : decide (n < 0) = false := by simp; omega
  by_cases n2 : (1099511627776 : Int) < n
  · have en2 : decide ((1099511627776 : Int) < n) = true := by simp; omega
    go_wp2
    go_ret
    have Z : chkR 1 16 0 0 0 1099511627776 0 0 nm.size tx.size n m = 53 := by
      revert s1 s2 n1 n2
      generalize nm.size = s
      generalize tx.size = t
      intro s1 s2 n1 n2
      simp [chkR, wr, ex, hs, hl] <;> omega
    exact ⟨by rw [Z]; rfl, T.out.below⟩
  have en2 : decide ((1099511627776 : Int) < n) = false := by simp; omega
  go_wp2_with fail
  refine (N.out _).mono ?_
  rintro e w4 ⟨rfl, rfl⟩
  go_wp2_with fail
  refine (L.out _).mono ?_
  rintro e w5 ⟨rfl, rfl⟩
  by_cases x2 : tx.size = 0
  case neg =>
    have qtx := nonempty tx x2
    go_wp2
    go_ret
    have Z : chkR 1 16 0 0 0 1099511627776 0 0 nm.size tx.size n m = 55 := by
      revert s1 s2 n1 n2 x2
      generalize nm.size = s
      generalize tx.size = t
      intro s1 s2 n1 n2 x2
      simp [chkR, wr, ex, hs, hl] <;> omega
    exact ⟨by rw [Z]; rfl, T.out.below⟩
  have qtx := isempty tx x2
  go_wp2_with fail
  refine (M.out _).mono ?_
  rintro e w6 ⟨rfl, rfl⟩
  by_cases x4 : m = 0
  case neg =>
    have qm : (m != 0) = true := by simpa using x4
    go_wp2
    go_ret
    have Z : chkR 1 16 0 0 0 1099511627776 0 0 nm.size tx.size n m = 55 := by
      revert s1 s2 n1 n2 x2 x4
      generalize nm.size = s
      generalize tx.size = t
      intro s1 s2 n1 n2 x2 x4
      simp [chkR, wr, ex, hs, hl] <;> omega
    exact ⟨by rw [Z]; rfl, T.out.below⟩
  have qm : (m != 0) = false := by simpa using x4
  have xx4 := hid x4
  clear x4
  go_wp2
  go_ret
  have Z : chkR 1 16 0 0 0 1099511627776 0 0 nm.size tx.size n m = 0 := by
    revert s1 s2 n1 n2 x2 xx4
    generalize nm.size = s
    generalize tx.size = t
    intro s1 s2 n1 n2 x2 xx4
    have xx4 := xx4.out
    simp [chkR, wr, ex, hs, hl] <;> omega
  exact ⟨by rw [Z]; rfl, T.out.below⟩
end Go.Proofs.YtkcepkehgkkkbaaGreatDoor

namespace Go.Proofs.YtkcepkehgkkkbaaGreatDoor
open Go.RowKit
set_option linter.unusedVariables false

set_option maxHeartbeats 3200000 in
set_option maxRecDepth 1000000 in
theorem rc5 {w : World} (nm tx : ByteArray) (n m : Int) : Calls Tryz.prog 61 #[opV 5 nm tx n m] w fun e w' => e = .returned (.int .i64 (chkR 1 16 1 16 0 0 0 0 nm.size tx.size n m)) ∧ Below w.heap.size w w' := by
  have N : ∀ W : World, Calls Tryz.prog 57 #[.int .i64 5] W fun e w' => e = .returned (.bool true) ∧ w' = W := fun W => hasName_any 5
  have L : ∀ W : World, Calls Tryz.prog 59 #[.int .i64 5] W fun e w' => e = .returned (.int .i64 16) ∧ w' = W := fun W => textMost_any 5
  have S : ∀ W : World, Calls Tryz.prog 92 #[.int .i64 5] W fun e w' => e = .returned (.int .i64 1) ∧ w' = W := fun W => textLeast_any 5
  have M : ∀ W : World, Calls Tryz.prog 60 #[.int .i64 5] W fun e w' => e = .returned (.bool false) ∧ w' = W := fun W => hasNum_any 5
  have N := hid N
  have L := hid L
  have S := hid S
  have M := hid M
  go_enter Tryz.func61, Tryz.ntmps61
  go_wp2_with fail
  refine (N.out _).mono ?_
  rintro e w1 ⟨rfl, hw⟩
  have T := hid (Bx.first w 5 nm tx n m)
  rw [← hw] at T
  clear hw
  have o0 : w1.cell? ⟨w.heap.size, 0, none⟩ = some (.int .i64 5) := by rw [cell_at T.out.op]; rfl
  have o1 : w1.cell? ⟨w.heap.size, 1, none⟩ = some (.string nm) := by rw [cell_at T.out.op]; rfl
  have o2 : w1.cell? ⟨w.heap.size, 2, none⟩ = some (.string tx) := by rw [cell_at T.out.op]; rfl
  have o3 : w1.cell? ⟨w.heap.size, 3, none⟩ = some (.int .i64 n) := by rw [cell_at T.out.op]; rfl
  have o4 : w1.cell? ⟨w.heap.size, 4, none⟩ = some (.int .i64 m) := by rw [cell_at T.out.op]; rfl
  by_cases s1 : (nm.size : Int) < 1
  · have es1 : decide ((nm.size : Int) < 1) = true := by simp; omega
    go_wp2
    go_ret
    have Z : chkR 1 16 1 16 0 0 0 0 nm.size tx.size n m = 51 := by
      revert s1
      generalize nm.size = s
      generalize tx.size = t
      intro s1
      simp [chkR, wr, ex, hs, hl] <;> omega
    exact ⟨by rw [Z]; rfl, T.out.below⟩
  have es1 : decide ((nm.size : Int) < 1) = false := by simp; omega
  by_cases s2 : (16 : Int) < (nm.size : Int)
  · have es2 : decide ((16 : Int) < (nm.size : Int)) = true := by simp; omega
    go_wp2
    go_ret
    have Z : chkR 1 16 1 16 0 0 0 0 nm.size tx.size n m = 51 := by
      revert s1 s2
      generalize nm.size = s
      generalize tx.size = t
      intro s1 s2
      simp [chkR, wr, ex, hs, hl] <;> omega
    exact ⟨by rw [Z]; rfl, T.out.below⟩
  have es2 : decide ((16 : Int) < (nm.size : Int)) = false := by simp; omega
  by_cases t1 : (tx.size : Int) < 1
  · have et1 : decide ((tx.size : Int) < 1) = true := by simp; omega
    go_wp2
    go_quiet (first | (go_at_call 59; exact Calls.quiet_of_same (L.out _)) | (go_at_call 92; exact Calls.quiet_of_same (S.out _)))
    have T := hid (T.out.drewN nq)
    clear o0 o1 o2 o3 o4
    generalize w1.drewN nq = w2 at T ⊢
    have o0 : w2.cell? ⟨w.heap.size, 0, none⟩ = some (.int .i64 5) := by rw [cell_at T.out.op]; rfl
    have o1 : w2.cell? ⟨w.heap.size, 1, none⟩ = some (.string nm) := by rw [cell_at T.out.op]; rfl
    have o2 : w2.cell? ⟨w.heap.size, 2, none⟩ = some (.string tx) := by rw [cell_at T.out.op]; rfl
    have o3 : w2.cell? ⟨w.heap.size, 3, none⟩ = some (.int .i64 n) := by rw [cell_at T.out.op]; rfl
    have o4 : w2.cell? ⟨w.heap.size, 4, none⟩ = some (.int .i64 m) := by rw [cell_at T.out.op]; rfl
    go_wp2
    go_ret
    have Z : chkR 1 16 1 16 0 0 0 0 nm.size tx.size n m = 52 := by
      revert s1 s2 t1
      generalize nm.size = s
      generalize tx.size = t
      intro s1 s2 t1
      simp [chkR, wr, ex, hs, hl] <;> omega
    exact ⟨by rw [Z]; rfl, T.out.below⟩
  have et1 : decide ((tx.size : Int) < 1) = false := by simp; omega
  by_cases t2 : (16 : Int) < (tx.size : Int)
  · have et2 : decide ((16 : Int) < (tx.size : Int)) = true := by simp; omega
    go_wp2
    go_quiet (first | (go_at_call 59; exact Calls.quiet_of_same (L.out _)) | (go_at_call 92; exact Calls.quiet_of_same (S.out _)))
    have T := hid (T.out.drewN nq)
    clear o0 o1 o2 o3 o4
    generalize w1.drewN nq = w2 at T ⊢
    have o0 : w2.cell? ⟨w.heap.size, 0, none⟩ = some (.int .i64 5) := by rw [cell_at T.out.op]; rfl
    have o1 : w2.cell? ⟨w.heap.size, 1, none⟩ = some (.string nm) := by rw [cell_at T.out.op]; rfl
    have o2 : w2.cell? ⟨w.heap.size, 2, none⟩ = some (.string tx) := by rw [cell_at T.out.op]; rfl
    have o3 : w2.cell? ⟨w.heap.size, 3, none⟩ = some (.int .i64 n) := by rw [cell_at T.out.op]; rfl
    have o4 : w2.cell? ⟨w.heap.size, 4, none⟩ = some (.int .i64 m) := by rw [cell_at T.out.op]; rfl
    go_wp2
    go_ret
    have Z : chkR 1 16 1 16 0 0 0 0 nm.size tx.size n m = 52 := by
      revert s1 s2 t1 t2
      generalize nm.size = s
      generalize tx.size = t
      intro s1 s2 t1 t2
      simp [chkR, wr, ex, hs, hl] <;> omega
    exact ⟨by rw [Z]; rfl, T.out.below⟩
  have et2 : decide ((16 : Int) < (tx.size : Int)) = false := by simp; omega
  go_wp2
  go_quiet (first | (go_at_call 59; exact Calls.quiet_of_same (L.out _)) | (go_at_call 92; exact Calls.quiet_of_same (S.out _)))
  have T := hid (T.out.drewN nq)
  clear o0 o1 o2 o3 o4
  generalize w1.drewN nq = w2 at T ⊢
  have o0 : w2.cell? ⟨w.heap.size, 0, none⟩ = some (.int .i64 5) := by rw [cell_at T.out.op]; rfl
  have o1 : w2.cell? ⟨w.heap.size, 1, none⟩ = some (.string nm) := by rw [cell_at T.out.op]; rfl
  have o2 : w2.cell? ⟨w.heap.size, 2, none⟩ = some (.string tx) := by rw [cell_at T.out.op]; rfl
  have o3 : w2.cell? ⟨w.heap.size, 3, none⟩ = some (.int .i64 n) := by rw [cell_at T.out.op]; rfl
  have o4 : w2.cell? ⟨w.heap.size, 4, none⟩ = some (.int .i64 m) := by rw [cell_at T.out.op]; rfl
  go_wp2_with fail
  refine (M.out _).mono ?_
  rintro e w3 ⟨rfl, rfl⟩
  go_wp2_with fail
  refine (N.out _).mono ?_
  rintro e w4 ⟨rfl, rfl⟩
  go_wp2_with fail
  refine (L.out _).mono ?_
  rintro e w5 ⟨rfl, rfl⟩
  go_wp2_with fail
  refine (M.out _).mono ?_
  rintro e w6 ⟨rfl, rfl⟩
  by_cases x3 : n = 0
  case neg =>
    have qn : (n != 0) = true := by simpa using x3
    go_wp2
    go_ret
    have Z : chkR 1 16 1 16 0 0 0 0 nm.size tx.size n m = 55 := by
      revert s1 s2 t1 t2 x3
      generalize nm.size = s
      generalize tx.size = t
      intro s1 s2 t1 t2 x3
      simp [chkR, wr, ex, hs, hl] <;> omega
    exact ⟨by rw [Z]; rfl, T.out.below⟩
  have qn : (n != 0) = false := by simpa using x3
  have xx3 := hid x3
  clear x3
  by_cases x4 : m = 0
  case neg =>
    have qm : (m != 0) = true := by simpa using x4
    go_wp2
    go_ret
    have Z : chkR 1 16 1 16 0 0 0 0 nm.size tx.size n m = 55 := by
      revert s1 s2 t1 t2 xx3 x4
      generalize nm.size = s
      generalize tx.size = t
      intro s1 s2 t1 t2 xx3 x4
      have xx3 := xx3.out
      simp [chkR, wr, ex, hs, hl] <;> omega
    exact ⟨by rw [Z]; rfl, T.out.below⟩
  have qm : (m != 0) = false := by simpa using x4
  have xx4 := hid x4
  clear x4
  go_wp2
  go_ret
  have Z : chkR 1 16 1 16 0 0 0 0 nm.size tx.size n m = 0 := by
    revert s1 s2 t1 t2 xx3 xx4
    generalize nm.size = s
    generalize tx.size = t
    intro s1 s2 t1 t2 xx3 xx4
    have xx3 := xx3.out
    have xx4 := xx4.out
    simp [chkR, wr, ex, hs, hl] <;> omega
  exact ⟨by rw [Z]; rfl, T.out.below⟩

set_option maxHeartbeats 3200000 in
set_option maxRecDepth 1000000 in
theorem rc6 {w : World} (nm tx : ByteArray) (n m : Int) : Calls Tryz.prog 61 #[opV 6 nm tx n m] w fun e w' => e = .returned (.int .i64 (chkR 1 16 0 0 0 1099511627776 1 8 nm.size tx.size n m)) ∧ Below w.heap.size w w' := by
  have N : ∀ W : World, Calls Tryz.prog 57 #[.int .i64 6] W fun e w' => e = .returned (.bool true) ∧ w' = W := fun W => hasName_any 6
  have L : ∀ W : World, Calls Tryz.prog 59 #[.int .i64 6] W fun e w' => e = .returned (.int .i64 (-1)) ∧ w' = W := fun W => textMost_any 6
  have S : ∀ W : World, Calls Tryz.prog 92 #[.int .i64 6] W fun e w' => e = .returned (.int .i64 0) ∧ w' = W := fun W => textLeast_any 6
  have M : ∀ W : World, Calls Tryz.prog 60 #[.int .i64 6] W fun e w' => e = .returned (.bool true) ∧ w' = W := fun W => hasNum_any 6
  have N := hid N
  have L := hid L
  have S := hid S
  have M := hid M
  go_enter Tryz.func61, Tryz.ntmps61
  go_wp2_with fail
  refine (N.out _).mono ?_
  rintro e w1 ⟨rfl, hw⟩
  have T := hid (Bx.first w 6 nm tx n m)
  rw [← hw] at T
  clear hw
  have o0 : w1.cell? ⟨w.heap.size, 0, none⟩ = some (.int .i64 6) := by rw [cell_at T.out.op]; rfl
  have o1 : w1.cell? ⟨w.heap.size, 1, none⟩ = some (.string nm) := by rw [cell_at T.out.op]; rfl
  have o2 : w1.cell? ⟨w.heap.size, 2, none⟩ = some (.string tx) := by rw [cell_at T.out.op]; rfl
  have o3 : w1.cell? ⟨w.heap.size, 3, none⟩ = some (.int .i64 n) := by rw [cell_at T.out.op]; rfl
  have o4 : w1.cell? ⟨w.heap.size, 4, none⟩ = some (.int .i64 m) := by rw [cell_at T.out.op]; rfl
  by_cases s1 : (nm.size : Int) < 1
  · have es1 : decide ((nm.size : Int) < 1) = true := by simp; omega
    go_wp2
    go_ret
    have Z : chkR 1 16 0 0 0 1099511627776 1 8 nm.size tx.size n m = 51 := by
      revert s1
      generalize nm.size = s
      generalize tx.size = t
      intro s1
      simp [chkR, wr, ex, hs, hl] <;> omega
    exact ⟨by rw [Z]; rfl, T.out.below⟩
  have es1 : decide ((nm.size : Int) < 1) = false := by simp; omega
  by_cases s2 : (16 : Int) < (nm.size : Int)
  · have es2 : decide ((16 : Int) < (nm.size : Int)) = true := by simp; omega
    go_wp2
    go_ret
    have Z : chkR 1 16 0 0 0 1099511627776 1 8 nm.size tx.size n m = 51 := by
      revert s1 s2
      generalize nm.size = s
      generalize tx.size = t
      intro s1 s2
      simp [chkR, wr, ex, hs, hl] <;> omega
    exact ⟨by rw [Z]; rfl, T.out.below⟩
  have es2 : decide ((16 : Int) < (nm.size : Int)) = false := by simp; omega
  go_wp2
  go_quiet (first | (go_at_call 59; exact Calls.quiet_of_same (L.out _)))
  have T := hid (T.out.drewN nq)
  clear o0 o1 o2 o3 o4
  generalize w1.drewN nq = w2 at T ⊢
  have o0 : w2.cell? ⟨w.heap.size, 0, none⟩ = some (.int .i64 6) := by rw [cell_at T.out.op]; rfl
  have o1 : w2.cell? ⟨w.heap.size, 1, none⟩ = some (.string nm) := by rw [cell_at T.out.op]; rfl
  have o2 : w2.cell? ⟨w.heap.size, 2, none⟩ = some (.string tx) := by rw [cell_at T.out.op]; rfl
  have o3 : w2.cell? ⟨w.heap.size, 3, none⟩ = some (.int .i64 n) := by rw [cell_at T.out.op]; rfl
  have o4 : w2.cell? ⟨w.heap.size, 4, none⟩ = some (.int .i64 m) := by rw [cell_at T.out.op]; rfl
  go_wp2_with fail
  refine (M.out _).mono ?_
  rintro e w3 ⟨rfl, rfl⟩
  by_cases n1 : n < 0
  · have en1 : decide (n < 0) = true := by simp; omega
    go_wp2
    go_ret
    have Z : chkR 1 16 0 0 0 1099511627776 1 8 nm.size tx.size n m = 53 := by
      revert s1 s2 n1
      generalize nm.size = s
      generalize tx.size = t
      intro s1 s2 n1
      simp [chkR, wr, ex, hs, hl] <;> omega
    exact ⟨by rw [Z]; rfl, T.out.below⟩
  have en1 : decide (n < 0) = false := by simp; omega
  by_cases n2 : (1099511627776 : Int) < n
  · have en2 : decide ((1099511627776 : Int) < n) = true := by simp; omega
    go_wp2
    go_ret
    have Z : chkR 1 16 0 0 0 1099511627776 1 8 nm.size tx.size n m = 53 := by
      revert s1 s2 n1 n2
      generalize nm.size = s
      generalize tx.size = t
      intro s1 s2 n1 n2
      simp [chkR, wr, ex, hs, hl] <;> omega
    exact ⟨by rw [Z]; rfl, T.out.below⟩
  have en2 : decide ((1099511627776 : Int) < n) = false := by simp; omega
  by_cases m1 : m < 1
  · have em1 : decide (m < 1) = true := by simp; omega
    go_wp2
    go_ret
    have Z : chkR 1 16 0 0 0 1099511627776 1 8 nm.size tx.size n m = 54 := by
      revert s1 s2 n1 n2 m1
      generalize nm.size = s
      generalize tx.size = t
      intro s1 s2 n1 n2 m1
      simp [chkR, wr, ex, hs, hl] <;> omega
    exact ⟨by rw [Z]; rfl, T.out.below⟩
  have em1 : decide (m < 1) = false := by simp; omega
  by_cases m2 : (8 : Int) < m
  · have em2 : decide ((8 : Int) < m) = true := by simp; omega
    go_wp2
    go_ret
    have Z : chkR 1 16 0 0 0 1099511627776 1 8 nm.size tx.size n m = 54 := by
      revert s1 s2 n1 n2 m1 m2
      generalize nm.size = s
      generalize tx.size = t
      intro s1 s2 n1 n2 m1 m2
      simp [chkR, wr, ex, hs, hl] <;> omega
    exact ⟨by rw [Z]; rfl, T.out.below⟩
  have em2 : decide ((8 : Int) < m) = false := by simp; omega
  go_wp2_with fail
  refine (N.out _).mono ?_
  rintro e w4 ⟨rfl, rfl⟩
  go_wp2_with fail
  refine (L.out _).mono ?_
  rintro e w5 ⟨rfl, rfl⟩
  by_cases x2 : tx.size = 0
  case neg =>
    have qtx := nonempty tx x2
    go_wp2
    go_ret
    have Z : chkR 1 16 0 0 0 1099511627776 1 8 nm.size tx.size n m = 55 := by
      revert s1 s2 n1 n2 m1 m2 x2
      generalize nm.size = s
      generalize tx.size = t
      intro s1 s2 n1 n2 m1 m2 x2
      simp [chkR, wr, ex, hs, hl] <;> omega
    exact ⟨by rw [Z]; rfl, T.out.below⟩
  have qtx := isempty tx x2
  go_wp2_with fail
  refine (M.out _).mono ?_
  rintro e w6 ⟨rfl, rfl⟩
  go_wp2
  go_ret
  have Z : chkR 1 16 0 0 0 1099511627776 1 8 nm.size tx.size n m = 0 := by
    revert s1 s2 n1 n2 m1 m2 x2
    generalize nm.size = s
    generalize tx.size = t
    intro s1 s2 n1 n2 m1 m2 x2
    simp [chkR, wr, ex, hs, hl] <;> omega
  exact ⟨by rw [Z]; rfl, T.out.below⟩

set_option maxHeartbeats 3200000 in
set_option maxRecDepth 1000000 in
theorem rc7 {w : World} (nm tx : ByteArray) (n m : Int) : Calls Tryz.prog 61 #[opV 7 nm tx n m] w fun e w' => e = .returned (.int .i64 (chkR 1 16 0 0 0 0 0 0 nm.size tx.size n m)) ∧ Below w.heap.size w w' := by
  have N : ∀ W : World, Calls Tryz.prog 57 #[.int .i64 7] W fun e w' => e = .returned (.bool true) ∧ w' = W := fun W => hasName_any 7
  have L : ∀ W : World, Calls Tryz.prog 59 #[.int .i64 7] W fun e w' => e = .returned (.int .i64 (-1)) ∧ w' = W := fun W => textMost_any 7
  have S : ∀ W : World, Calls Tryz.prog 92 #[.int .i64 7] W fun e w' => e = .returned (.int .i64 0) ∧ w' = W := fun W => textLeast_any 7
  have M : ∀ W : World, Calls Tryz.prog 60 #[.int .i64 7] W fun e w' => e = .returned (.bool false) ∧ w' = W := fun W => hasNum_any 7
  have N := hid N
  have L := hid L
  have S := hid S
  have M := hid M
  go_enter Tryz.func61, Tryz.ntmps61
  go_wp2_with fail
  refine (N.out _).mono ?_
  rintro e w1 ⟨rfl, hw⟩
  have T := hid (Bx.first w 7 nm tx n m)
  rw [← hw] at T
  clear hw
  have o0 : w1.cell? ⟨w.heap.size, 0, none⟩ = some (.int .i64 7) := by rw [cell_at T.out.op]; rfl
  have o1 : w1.cell? ⟨w.heap.size, 1, none⟩ = some (.string nm) := by rw [cell_at T.out.op]; rfl
  have o2 : w1.cell? ⟨w.heap.size, 2, none⟩ = some (.string tx) := by rw [cell_at T.out.op]; rfl
  have o3 : w1.cell? ⟨w.heap.size, 3, none⟩ = some (.int .i64 n) := by rw [cell_at T.out.op]; rfl
  have o4 : w1.cell? ⟨w.heap.size, 4, none⟩ = some (.int .i64 m) := by rw [cell_at T.out.op]; rfl
  by_cases s1 : (nm.size : Int) < 1
  · have es1 : decide ((nm.size : Int) < 1) = true := by simp; omega
    go_wp2
    go_ret
    have Z : chkR 1 16 0 0 0 0 0 0 nm.size tx.size n m = 51 := by
      revert s1
      generalize nm.size = s
      generalize tx.size = t
      intro s1
      simp [chkR, wr, ex, hs, hl] <;> omega
    exact ⟨by rw [Z]; rfl, T.out.below⟩
  have es1 : decide ((nm.size : Int) < 1) = false := by simp; omega
  by_cases s2 : (16 : Int) < (nm.size : Int)
  · have es2 : decide ((16 : Int) < (nm.size : Int)) = true := by simp; omega
    go_wp2
    go_ret
    have Z : chkR 1 16 0 0 0 0 0 0 nm.size tx.size n m = 51 := by
      revert s1 s2
      generalize nm.size = s
      generalize tx.size = t
      intro s1 s2
      simp [chkR, wr, ex, hs, hl] <;> omega
    exact ⟨by rw [Z]; rfl, T.out.below⟩
  have es2 : decide ((16 : Int) < (nm.size : Int)) = false := by simp; omega
  go_wp2
  go_quiet (first | (go_at_call 59; exact Calls.quiet_of_same (L.out _)))
  have T := hid (T.out.drewN nq)
  clear o0 o1 o2 o3 o4
  generalize w1.drewN nq = w2 at T ⊢
  have o0 : w2.cell? ⟨w.heap.size, 0, none⟩ = some (.int .i64 7) := by rw [cell_at T.out.op]; rfl
  have o1 : w2.cell? ⟨w.heap.size, 1, none⟩ = some (.string nm) := by rw [cell_at T.out.op]; rfl
  have o2 : w2.cell? ⟨w.heap.size, 2, none⟩ = some (.string tx) := by rw [cell_at T.out.op]; rfl
  have o3 : w2.cell? ⟨w.heap.size, 3, none⟩ = some (.int .i64 n) := by rw [cell_at T.out.op]; rfl
  have o4 : w2.cell? ⟨w.heap.size, 4, none⟩ = some (.int .i64 m) := by rw [cell_at T.out.op]; rfl
  go_wp2_with fail
  refine (M.out _).mono ?_
  rintro e w3 ⟨rfl, rfl⟩
  go_wp2_with fail
  refine (N.out _).mono ?_
  rintro e w4 ⟨rfl, rfl⟩
  go_wp2_with fail
  refine (L.out _).mono ?_
  rintro e w5 ⟨rfl, rfl⟩
  by_cases x2 : tx.size = 0
  case neg =>
    have qtx := nonempty tx x2
    go_wp2
    go_ret
    have Z : chkR 1 16 0 0 0 0 0 0 nm.size tx.size n m = 55 := by
      revert s1 s2 x2
      generalize nm.size = s
      generalize tx.size = t
      intro s1 s2 x2
      simp [chkR, wr, ex, hs, hl] <;> omega
    exact ⟨by rw [Z]; rfl, T.out.below⟩
  have qtx := isempty tx x2
  go_wp2_with fail
  refine (M.out _).mono ?_
  rintro e w6 ⟨rfl, rfl⟩
  by_cases x3 : n = 0
  case neg =>
    have qn : (n != 0) = true := by simpa using x3
    go_wp2
    go_ret
    have Z : chkR 1 16 0 0 0 0 0 0 nm.size tx.size n m = 55 := by
      revert s1 s2 x2 x3
      generalize nm.size = s
      generalize tx.size = t
      intro s1 s2 x2 x3
      simp [chkR, wr, ex, hs, hl] <;> omega
    exact ⟨by rw [Z]; rfl, T.out.below⟩
  have qn : (n != 0) = false := by simpa using x3
  have xx3 := hid x3
  clear x3
  by_cases x4 : m = 0
  case neg =>
    have qm : (m != 0) = true := by simpa using x4
    go_wp2
    go_ret
    have Z : chkR 1 16 0 0 0 0 0 0 nm.size tx.size n m = 55 := by
      revert s1 s2 x2 xx3 x4
      generalize nm.size = s
      generalize tx.size = t
      intro s1 s2 x2 xx3 x4
      have xx3 := xx3.out
      simp [chkR, wr, ex, hs, hl] <;> omega
    exact ⟨by rw [Z]; rfl, T.out.below⟩
  have qm : (m != 0) = false := by simpa using x4
  have xx4 := hid x4
  clear x4
  go_wp2
  go_ret
  have Z : chkR 1 16 0 0 0 0 0 0 nm.size tx.size n m = 0 := by
    revert s1 s2 x2 xx3 xx4
    generalize nm.size = s
    generalize tx.size = t
    intro s1 s2 x2 xx3 xx4
    have xx3 := xx3.out
    have xx4 := xx4.out
    simp [chkR, wr, ex, hs, hl] <;> omega
  exact ⟨by rw [Z]; rfl, T.out.below⟩

set_option maxHeartbeats 3200000 in
set_option maxRecDepth 1000000 in
theorem rc8 {w : World} (nm tx : ByteArray) (n m : Int) : Calls Tryz.prog 61 #[opV 8 nm tx n m] w fun e w' => e = .returned (.int .i64 (chkR 0 0 0 0 0 0 0 0 nm.size tx.size n m)) ∧ Below w.heap.size w w' := by
  have N : ∀ W : World, Calls Tryz.prog 57 #[.int .i64 8] W fun e w' => e = .returned (.bool false) ∧ w' = W := fun W => hasName_any 8
  have L : ∀ W : World, Calls Tryz.prog 59 #[.int .i64 8] W fun e w' => e = .returned (.int .i64 (-1)) ∧ w' = W := fun W => textMost_any 8
  have S : ∀ W : World, Calls Tryz.prog 92 #[.int .i64 8] W fun e w' => e = .returned (.int .i64 0) ∧ w' = W := fun W => textLeast_any 8
  have M : ∀ W : World, Calls Tryz.prog 60 #[.int .i64 8] W fun e w' => e = .returned (.bool false) ∧ w' = W := fun W => hasNum_any 8
  have N := hid N
  have L := hid L
  have S := hid S
  have M := hid M
  go_enter Tryz.func61, Tryz.ntmps61
  go_wp2_with fail
  refine (N.out _).mono ?_
  rintro e w1 ⟨rfl, hw⟩
  have T := hid (Bx.first w 8 nm tx n m)
  rw [← hw] at T
  clear hw
  have o0 : w1.cell? ⟨w.heap.size, 0, none⟩ = some (.int .i64 8) := by rw [cell_at T.out.op]; rfl
  have o1 : w1.cell? ⟨w.heap.size, 1, none⟩ = some (.string nm) := by rw [cell_at T.out.op]; rfl
  have o2 : w1.cell? ⟨w.heap.size, 2, none⟩ = some (.string tx) := by rw [cell_at T.out.op]; rfl
  have o3 : w1.cell? ⟨w.heap.size, 3, none⟩ = some (.int .i64 n) := by rw [cell_at T.out.op]; rfl
  have o4 : w1.cell? ⟨w.heap.size, 4, none⟩ = some (.int .i64 m) := by rw [cell_at T.out.op]; rfl
  go_wp2
  go_quiet (first | (go_at_call 59; exact Calls.quiet_of_same (L.out _)))
  have T := hid (T.out.drewN nq)
  clear o0 o1 o2 o3 o4
  generalize w1.drewN nq = w2 at T ⊢
  have o0 : w2.cell? ⟨w.heap.size, 0, none⟩ = some (.int .i64 8) := by rw [cell_at T.out.op]; rfl
  have o1 : w2.cell? ⟨w.heap.size, 1, none⟩ = some (.string nm) := by rw [cell_at T.out.op]; rfl
  have o2 : w2.cell? ⟨w.heap.size, 2, none⟩ = some (.string tx) := by rw [cell_at T.out.op]; rfl
  have o3 : w2.cell? ⟨w.heap.size, 3, none⟩ = some (.int .i64 n) := by rw [cell_at T.out.op]; rfl
  have o4 : w2.cell? ⟨w.heap.size, 4, none⟩ = some (.int .i64 m) := by rw [cell_at T.out.op]; rfl
  go_wp2_with fail
  refine (M.out _).mono ?_
  rintro e w3 ⟨rfl, rfl⟩
  go_wp2_with fail
  refine (N.out _).mono ?_
  rintro e w4 ⟨rfl, rfl⟩
  by_cases x1 : nm.size = 0
  case neg =>
    have qnm := nonempty nm x1
    go_wp2
    go_ret
    have Z : chkR 0 0 0 0 0 0 0 0 nm.size tx.size n m = 55 := by
      revert x1
      generalize nm.size = s
      generalize tx.size = t
      intro x1
      simp [chkR, wr, ex, hs, hl] <;> omega
    exact ⟨by rw [Z]; rfl, T.out.below⟩
  have qnm := isempty nm x1
  go_wp2_with fail
  refine (L.out _).mono ?_
  rintro e w5 ⟨rfl, rfl⟩
  by_cases x2 : tx.size = 0
  case neg =>
    have qtx := nonempty tx x2
    go_wp2
    go_ret
    have Z : chkR 0 0 0 0 0 0 0 0 nm.size tx.size n m = 55 := by
      revert x1 x2
      generalize nm.size = s
      generalize tx.size = t
      intro x1 x2
      simp [chkR, wr, ex, hs, hl] <;> omega
    exact ⟨by rw [Z]; rfl, T.out.below⟩
  have qtx := isempty tx x2
  go_wp2_with fail
  refine (M.out _).mono ?_
  rintro e w6 ⟨rfl, rfl⟩
  by_cases x3 : n = 0
  case neg =>
    have qn : (n != 0) = true := by simpa using x3
    go_wp2
    go_ret
    have Z : chkR 0 0 0 0 0 0 0 0 nm.size tx.size n m = 55 := by
      revert x1 x2 x3
      generalize nm.size = s
      generalize tx.size = t
      intro x1 x2 x3
      simp [chkR, wr, ex, hs, hl] <;> omega
    exact ⟨by rw [Z]; rfl, T.out.below⟩
  have qn : (n != 0) = false := by simpa using x3
  have xx3 := hid x3
  clear x3
  by_cases x4 : m = 0
  case neg =>
    have qm : (m != 0) = true := by simpa using x4
    go_wp2
    go_ret
    have Z : chkR 0 0 0 0 0 0 0 0 nm.size tx.size n m = 55 := by
      revert x1 x2 xx3 x4
      generalize nm.size = s
      generalize tx.size = t
      intro x1 x2 xx3 x4
      have xx3 := xx3.out
      simp [chkR, wr, ex, hs, hl] <;> omega
    exact ⟨by rw [Z]; rfl, T.out.below⟩
  have qm : (m != 0) = false := by simpa using x4
  have xx4 := hid x4
  clear x4
  go_wp2
  go_ret
  have Z : chkR 0 0 0 0 0 0 0 0 nm.size tx.size n m = 0 := by
    revert x1 x2 xx3 xx4
    generalize nm.size = s
    generalize tx.size = t
    intro x1 x2 xx3 xx4
    have xx3 := xx3.out
    have xx4 := xx4.out
    simp [chkR, wr, ex, hs, hl] <;> omega
  exact ⟨by rw [Z]; rfl, T.out.below⟩
end Go.Proofs.YtkcepkehgkkkbaaGreatDoor

namespace Go.Proofs.YtkcepkehgkkkbaaGreatDoor
open Go.RowKit
set_option linter.unusedVariables false

/-- A slot, as its four cells have it. -/
structure Qv where
  nm : ByteArray
  first : Int
  iv : Value
  gv : Value
def qcells (q : Qv) : List Value := [.string q.nm, .int .i64 q.first, q.iv, q.gv]
def flat (qs : List Qv) : List Value := qs.flatMap qcells
abbrev noQ : Qv := ⟨⟨#[]⟩, 0, .slice none 0 0, .map none⟩

theorem flat_at {qs : List Qv} {i : Nat} {q : Qv} (h : qs[i]? = some q) (j : Nat) (hj : j < 4) : (flat qs)[i * 4 + j]? = (qcells q)[j]? := by
  induction qs generalizing i with
  | nil => simp at h
  | cons p qs ih =>
    cases i with
    | zero =>
      simp at h; subst h
      simp only [flat, List.flatMap_cons, Nat.zero_mul, Nat.zero_add]
      rw [List.getElem?_append_left (by simpa [qcells] using hj)]
    | succ i =>
      simp only [List.getElem?_cons_succ] at h
      simp only [flat, List.flatMap_cons]
      rw [List.getElem?_append_right (by simp [qcells]; omega)]
      have : (i + 1) * 4 + j - (qcells p).length = i * 4 + j := by simp [qcells]; omega
      rw [this]
      exact ih h
theorem flat_len (qs : List Qv) : (flat qs).length = qs.length * 4 := by
  induction qs with
  | nil => rfl
  | cons p qs ih => simp only [flat, List.flatMap_cons, List.length_append, List.length_cons] at ih ⊢; rw [ih]; simp [qcells]; omega
theorem flat_set {qs : List Qv} {i : Nat} {q q' : Qv} {v : Value} {j : Nat} (h : qs[i]? = some q) (hj : j < 4) (e : (qcells q).set j v = qcells q') : (flat qs).set (i * 4 + j) v = flat (qs.set i q') := by
  induction qs generalizing i with
  | nil => simp at h
  | cons p qs ih =>
    cases i with
    | zero =>
      simp at h; subst h
      simp only [flat, List.flatMap_cons, Nat.zero_mul, Nat.zero_add, List.set_cons_zero]
      rw [List.set_append_left (h := by simpa [qcells] using hj), e]
    | succ i =>
      simp only [List.getElem?_cons_succ] at h
      simp only [flat, List.flatMap_cons, List.set_cons_succ] at ih ⊢
      rw [List.set_append_right (h := by simp [qcells]; omega)]
      have : (i + 1) * 4 + j - (qcells p).length = i * 4 + j := by simp [qcells]; omega
      rw [this]
      exact congrArg _ (ih h)

/-- A slot's cells. -/
theorem slot_cell {w : World} {P : Nat} {qs : List Qv} (hb : w.heap[P]? = some (.cells (flat qs).toArray 122 (0, 0))) {i : Nat} {q : Qv} (h : qs[i]? = some q) (j : Nat) (hj : j < 4) {v : Value} (hv : (qcells q)[j]? = some v) : w.cell? ⟨P, i * 4 + j, none⟩ = some v := by
  rw [cell_at hb, List.getElem?_toArray, flat_at h j hj, hv]

/-- Where a name lies. -/
def findN (qs : List Qv) (nm : ByteArray) : Int := match qs.findIdx? (fun q => q.nm.toList == nm.toList) with
  | some i => (i : Int)
  | none => -1

theorem findN_at {qs : List Qv} {nm : ByteArray} {k : Nat} {q : Qv} (hq : qs[k]? = some q) (he : (q.nm.toList == nm.toList) = true) (hb : ∀ j p, j < k → qs[j]? = some p → (p.nm.toList == nm.toList) = false) : findN qs nm = k := by
  have : qs.findIdx? (fun q => q.nm.toList == nm.toList) = some k := by
    rw [List.findIdx?_eq_some_iff_getElem]
    obtain ⟨hk, e⟩ := List.getElem?_eq_some_iff.1 hq
    refine ⟨hk, by rw [e]; exact he, fun j hj => ?_⟩
    rw [hb j _ hj (List.getElem?_eq_getElem _)]; simp
  rw [findN, this]
theorem findN_none {qs : List Qv} {nm : ByteArray} (hb : ∀ p ∈ qs, (p.nm.toList == nm.toList) = false) : findN qs nm = -1 := by
  have : qs.findIdx? (fun q => q.nm.toList == nm.toList) = none := by
    rw [List.findIdx?_eq_none_iff]
    exact hb
  rw [findN, this]

set_option maxHeartbeats 1600000 in
set_option maxRecDepth 1000000 in
theorem find_any {w : World} {P : Nat} {qs : List Qv} (hb : w.heap[P]? = some (.cells (flat qs).toArray 122 (0, 0))) (h8 : qs.length = 8) (nm : ByteArray) :
    Calls Tryz.prog 83 #[.pointer (some ⟨P, 0, none⟩), .string nm] w fun e w' => e = .returned (.int .i64 (findN qs nm)) ∧ w' = w := by
  have HB := hid hb
  clear hb
  go_enter Tryz.func83, Tryz.ntmps83
  go_wp2
  go_loopw [6] (fun iv wr => ∃ k : Nat, iv = .int .i64 (k : Int) ∧ k ≤ 8 ∧ Hid (∀ j p, j < k → qs[j]? = some p → (p.nm.toList == nm.toList) = false) ∧ wr = w) (fun iv _ => 8 - (intOf iv).toNat)
  case atStart => exact ⟨0, rfl, by omega, fun j p hj => absurd hj (by omega), rfl⟩
  case round =>
    obtain ⟨k, rfl, hk, hbef, rfl⟩ := hrel
    by_cases hlt : k < 8
    · obtain ⟨q, hq⟩ : ∃ q, qs[k]? = some q := ⟨_, List.getElem?_eq_getElem (by omega)⟩
      have c0 : wr.cell? ⟨P, k * 4, none⟩ = some (.string q.nm) := slot_cell HB.out hq 0 (by omega) rfl
      have HQ := hid hq
      clear hq
      cases he : (q.nm.toList == nm.toList) with
      | true =>
        have HE := hid he
        go_wp2
        go_ret
        exact ⟨by rw [findN_at HQ.out HE.out hbef.out]; rfl, rfl⟩
      | false =>
        have HE := hid he
        go_wp2
        go_roundw
        case rel => exact ⟨k + 1, by go_num, by omega, fun j p hj hp => by rcases Nat.lt_succ_iff_lt_or_eq.1 hj with h | h; exact hbef.out j p h hp; subst h; rw [HQ.out] at hp; cases hp; exact HE.out, trivial⟩
        case measure => simp [intOf]; omega
    · obtain rfl : k = 8 := by omega
      go_wp2
      go_ret
      refine ⟨by rw [findN_none]; rfl; intro p hp; obtain ⟨j, hj, rfl⟩ := List.getElem_of_mem hp; exact hbef.out j _ (by omega) (List.getElem?_eq_getElem hj), rfl⟩

abbrev zero32 : List Value := flat [noQ, noQ, noQ, noQ, noQ, noQ, noQ, noQ]

set_option maxRecDepth 1000000 in
theorem New_any {cs : List Comp} {w : World} (h : All cs w) : Calls Tryz.prog 32 #[] w fun e w' => ∃ P, e = .returned (.pointer (some ⟨P, 0, none⟩)) ∧ All (blkC P zero32 122 :: cs) w' ∧ Below w.heap.size w w' ∧ w.heap.size ≤ P := by
  have H := hid (h.addBlk zero32 122)
  have B := hid (ba w (.cells zero32.toArray 122))
  clear h
  go_enter Tryz.func32, Tryz.ntmps32
  go_wp2
  go_ret
  exact ⟨_, rfl, H.out, B.out, Nat.le_refl _⟩

/-- A map of a queue's groups. -/
noncomputable abbrev rE : Value → Option (DataW Unit × List MemPlace) := plainElem Tryz.prog 3
def mapC (b n : Nat) (D : DataW Unit) : Comp := ⟨fun w => w.ownsMap Tryz.prog 9 rE b n D, [b]⟩
theorem mapC_good (b n : Nat) (D : DataW Unit) : (mapC b n D).Good := by
  rintro w w' ⟨es, clock, hb, r⟩ hl hk
  exact ⟨es, clock, (hk b (by simp [mapC])).trans hb, r⟩

/-- A map that was just made. -/
theorem All.addMap {cs : List Comp} {w : World} (h : All cs w) : All (mapC w.heap.size 0 (.map []) :: cs) (w.alloc (.map #[] 0)) := by
  refine h.add (Fr.below (ba w _)) (mapC_good _ _ _) (World.ownsMap_made w Tryz.prog 9 rE) (fun k hk => ?_)
  have hk' : k = w.heap.size := by simpa [mapC] using hk
  subst hk'
  exact ⟨Nat.le_refl _, by simp⟩

set_option maxRecDepth 1000000 in
theorem newQueue_any {cs : List Comp} {w : World} (h : All cs w) (nm : ByteArray) : Calls Tryz.prog 119 #[.string nm] w fun e w' => ∃ b, e = .returned (.agg #[.string nm, .int .i64 0, .slice none 0 0, .map (some b)]) ∧ All (mapC b 0 (.map []) :: cs) w' ∧ Below w.heap.size w w' ∧ w.heap.size ≤ b := by
  have hmm := @run_makeMap Tryz.prog
  have H := fun o => hid ((h.alloc o).addMap)
  have B := fun o => hid (b2 (ba w o) (ba (w.alloc o) (.map #[] 0)))
  have hsz : ∀ o, (w.alloc o).heap.size = w.heap.size + 1 := fun o => by simp
  simp only [hsz] at H
  clear h hsz
  go_enter Tryz.func119, Tryz.ntmps119
  go_wp2
  refine bodyPost_ret (v := .agg #[.string nm, .int .i64 0, .slice none 0 0, .map (some (w.heap.size + 1))]) (by simp only [results, Tryz.f119]; go_simp) rfl ?_
  exact ⟨_, rfl, (H _).out, (B _).out, by omega⟩

set_option maxRecDepth 1000000 in
theorem end_q {w : World} {P i : Nat} {first : Int} {ao : Option Addr} {n c : Nat} (c1 : w.cell? ⟨P, i * 4 + 1, none⟩ = some (.int .i64 first)) (c2 : w.cell? ⟨P, i * 4 + 2, none⟩ = some (.slice ao n c)) (h0 : 0 ≤ first) (h1 : first + n ≤ 1152921504606846976) :
    Calls Tryz.prog 120 #[.pointer (some ⟨P, i * 4, none⟩)] w fun e w' => e = .returned (.int .i64 (first + n)) ∧ ∃ q, w' = w.drewN q := by
  go_enter Tryz.func120, Tryz.ntmps120
  go_wp2
  go_quiet (fail)
  go_wp2
  go_ret
  exact ⟨rfl, _, rfl⟩
end Go.Proofs.YtkcepkehgkkkbaaGreatDoor
