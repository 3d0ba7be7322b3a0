import Derived.Test.YtblojlaifnmimaaGreatDoorJ4
import Derived.Deep.QuietTactic
import Derived.BigQuiet
namespace Go.Proofs.YtblojlaifnmimaaGreatDoor
open Go.RowKit
set_option linter.unusedVariables false

set_option maxHeartbeats 1600000 in
set_option maxRecDepth 1000000 in
theorem end_any {B : Nat} {st : Int} {wv dv : Value} {op es cd : Int} {ws : Ws} {wd : List UInt8} {cs : List Comp} {w : World} (h : All (rdL B st wv dv op es cd ws wd ++ cs) w) (hl : ws.length + 1 ≤ 1000000000000) :
    Calls Tryz.prog 68 #[ptr B] w fun e w' => e = .returned (.tuple #[]) ∧ ∃ wv', All (rdL B st wv' dv op es cd (ws ++ [wd]) wd ++ cs) w' := by
  have h := h.drew
  obtain ⟨⟨s0, s1, s2, s3, s4, s5⟩, hf⟩ := rd_cells h
  obtain ⟨ao0, c0, rfl⟩ := owns_form (h.tail.tail.1.2.1 : w.drew.ownsRow 0 5 1 dv _ _)
  obtain ⟨ao1, c1, rfl⟩ := owns_form (h.tail.1.2.1 : w.drew.ownsRow 0 9 1 wv _ _)
  have hBw : B < w.drew.heap.size := (h.1.2.2 B (by simp [blkC]))
  have cv := conv_string (reads_own h.tail.tail)
  have u1 : (w.alloc (.cells #[.string ⟨wd.toArray⟩] 9)).cell? ⟨B, 1, none⟩ = _ := cell_under (ba w.drew (.cells #[.string ⟨wd.toArray⟩] 9)) hBw s1
  obtain ⟨ao, c, w1, hr, A1⟩ := app_txt h.swap wd hl
  obtain ⟨⟨t0, t1, t2, t3, t4, t5⟩, hf1⟩ := rd_cells A1.swap
  have f1 := hf1 1
  have A2 := hid (A1.swap.setBlk 1 (.slice ao (ws.length + 1) c))
  rw [txW_length, cellsB_length] at *
  have R := hid hr
  clear hr A1 h hf1 hf
  generalize hn : wd.length = n at *
  clear hn
  generalize hm : ws.length = m at *
  clear hm
  generalize hx : ByteArray.mk wd.toArray = X at *
  clear hx
  go_enter Tryz.func68, Tryz.ntmps68
  go_wp2_with fail
  go_region_law (refine step_append_run (by rfl) (.tmp 6) (.tmp 12) 46 (by rfl) _ _ _ _ (by rfl) (by rfl) R.out ?_)
  all_goals (go_end0; exact ⟨rfl, _, A2.out⟩)
end Go.Proofs.YtblojlaifnmimaaGreatDoor

namespace Go.Proofs.YtblojlaifnmimaaGreatDoor
open Go.RowKit
set_option linter.unusedVariables false

theorem hasName_any {w : World} (k : Int) : Calls Tryz.prog 98 #[.int .i64 k] w fun e w' => e = .returned (.bool (decide (1 ≤ k ∧ k ≤ 7))) ∧ w' = w := by
  by_cases h : 1 ≤ k
  · have e1 : decide (1 ≤ k) = true := by simpa using h
    have e : decide (1 ≤ k ∧ k ≤ 7) = decide (k ≤ 7) := by rw [Bool.eq_iff_iff]; simp; omega
    rw [e]; clear e
    go_enter Tryz.func98, Tryz.ntmps98
    go_wp2
    go_ret
    exact ⟨rfl, rfl⟩
  · have e1 : decide (1 ≤ k) = false := by simpa using h
    have e : decide (1 ≤ k ∧ k ≤ 7) = false := by simp; omega
    rw [e]; clear e
    go_enter Tryz.func98, Tryz.ntmps98
    go_wp2
    go_ret
    exact ⟨rfl, rfl⟩
theorem hasNum_any {w : World} (k : Int) : Calls Tryz.prog 101 #[.int .i64 k] w fun e w' => e = .returned (.bool (decide (k = 4 ∨ k = 6))) ∧ w' = w := by
  by_cases h : k = 4
  · subst h
    go_enter Tryz.func101, Tryz.ntmps101
    go_wp2
    go_ret
    exact ⟨by simp, rfl⟩
  · have e1 : (k == 4) = false := by simpa using h
    have e : decide (k = 4 ∨ k = 6) = (k == 6) := by rw [Bool.eq_iff_iff]; simp; omega
    rw [e]; clear e
    go_enter Tryz.func101, Tryz.ntmps101
    go_wp2
    go_ret
    exact ⟨rfl, rfl⟩
def tMost (k : Int) : Int := if k = 3 then 64 else if k = 5 then 16 else -1
def tLeast (k : Int) : Int := if k = 5 then 1 else 0
theorem textMost_any {w : World} (k : Int) : Calls Tryz.prog 99 #[.int .i64 k] w fun e w' => e = .returned (.int .i64 (tMost k)) ∧ w' = w := by
  by_cases h : k = 3
  · subst h
    go_enter Tryz.func99, Tryz.ntmps99
    go_wp2
    go_ret
    exact ⟨rfl, rfl⟩
  · have e1 : (k == 3) = false := by simpa using h
    by_cases h5 : k = 5
    · subst h5
      go_enter Tryz.func99, Tryz.ntmps99
      go_wp2
      go_ret
      exact ⟨rfl, rfl⟩
    · have e2 : (k == 5) = false := by simpa using h5
      rw [show tMost k = -1 by simp [tMost, h, h5]]
      clear h h5
      go_enter Tryz.func99, Tryz.ntmps99
      go_wp2
      go_ret
      exact ⟨rfl, rfl⟩
theorem textLeast_any {w : World} (k : Int) : Calls Tryz.prog 100 #[.int .i64 k] w fun e w' => e = .returned (.int .i64 (tLeast k)) ∧ w' = w := by
  by_cases h : k = 5
  · subst h
    go_enter Tryz.func100, Tryz.ntmps100
    go_wp2
    go_ret
    exact ⟨rfl, rfl⟩
  · have e1 : (k == 5) = false := by simpa using h
    rw [show tLeast k = 0 by simp [tLeast, h]]
    clear h
    go_enter Tryz.func100, Tryz.ntmps100
    go_wp2
    go_ret
    exact ⟨rfl, rfl⟩

theorem nonempty (v : ByteArray) (h : ¬ v.size = 0) : v.toList.isEmpty = false := by
  rw [ByteArray.toList_eq]
  obtain ⟨⟨l⟩⟩ := v
  cases l with
  | nil => exact absurd rfl h
  | cons a l => rfl
theorem isempty (v : ByteArray) (h : v.size = 0) : v.toList.isEmpty = true := by
  rw [ByteArray.toList_eq]
  obtain ⟨⟨l⟩⟩ := v
  cases l with
  | nil => rfl
  | cons a l => simp [ByteArray.size] at h

/-- The op lies in a block of its own. -/
abbrev opC (k : Int) (nm tx : ByteArray) (n m : Int) : Obj := .cells #[.int .i64 k, .string nm, .string tx, .int .i64 n, .int .i64 m] 41
structure Bx (w w1 : World) (k : Int) (nm tx : ByteArray) (n m : Int) : Prop where
  op : w1.heap[w.heap.size]? = some (opC k nm tx n m)
  below : Below w.heap.size w w1
theorem Bx.first (w : World) (k : Int) (nm tx : ByteArray) (n m : Int) : Bx w (w.alloc (opC k nm tx n m)) k nm tx n m := ⟨heap_alloc_new w _, ba w _⟩
theorem Bx.drewN {w w1 : World} {k : Int} {nm tx : ByteArray} {n m : Int} (h : Bx w w1 k nm tx n m) (q : Nat) : Bx w (w1.drewN q) k nm tx n m := ⟨h.op, ⟨h.below.os, h.below.tape, h.below.output, h.below.size, h.below.block⟩⟩
end Go.Proofs.YtblojlaifnmimaaGreatDoor

namespace Go.Proofs.YtblojlaifnmimaaGreatDoor
open Go.RowKit
set_option linter.unusedVariables false

set_option maxHeartbeats 3200000 in
set_option maxRecDepth 1000000 in
theorem rc1 {w : World} (nm tx : ByteArray) (n m : Int) : Calls Tryz.prog 77 #[opV 1 nm tx n m] w fun e w' => e = .returned (.int .i64 (chkR 1 16 0 0 0 0 0 0 nm.size tx.size n m)) ∧ Below w.heap.size w w' := by
  have N : ∀ W : World, Calls Tryz.prog 98 #[.int .i64 1] W fun e w' => e = .returned (.bool true) ∧ w' = W := fun W => hasName_any 1
  have L : ∀ W : World, Calls Tryz.prog 99 #[.int .i64 1] W fun e w' => e = .returned (.int .i64 (-1)) ∧ w' = W := fun W => textMost_any 1
  have S : ∀ W : World, Calls Tryz.prog 100 #[.int .i64 1] W fun e w' => e = .returned (.int .i64 0) ∧ w' = W := fun W => textLeast_any 1
  have M : ∀ W : World, Calls Tryz.prog 101 #[.int .i64 1] W fun e w' => e = .returned (.bool false) ∧ w' = W := fun W => hasNum_any 1
  have N := hid N
  have L := hid L
  have S := hid S
  have M := hid M
  go_enter Tryz.func77, Tryz.ntmps77
  go_wp2_with fail
  refine (N.out _).mono ?_
  rintro e w1 ⟨rfl, hw⟩
  have T := hid (Bx.first w 1 nm tx n m)
  have T : Hid (Bx w w1 1 nm tx n m) := hid (by rw [hw]; exact T.out)
  clear hw
  have o0 : w1.cell? ⟨w.heap.size, 0, none⟩ = some (.int .i64 1) := by rw [cell_at T.out.op]; rfl
  have o1 : w1.cell? ⟨w.heap.size, 1, none⟩ = some (.string nm) := by rw [cell_at T.out.op]; rfl
  have o2 : w1.cell? ⟨w.heap.size, 2, none⟩ = some (.string tx) := by rw [cell_at T.out.op]; rfl
  have o3 : w1.cell? ⟨w.heap.size, 3, none⟩ = some (.int .i64 n) := by rw [cell_at T.out.op]; rfl
  have o4 : w1.cell? ⟨w.heap.size, 4, none⟩ = some (.int .i64 m) := by rw [cell_at T.out.op]; rfl
  by_cases s1 : (nm.size : Int) < 1
  · have es1 : decide ((nm.size : Int) < 1) = true := by simp; omega
    go_wp2
    go_ret
    have Z : chkR 1 16 0 0 0 0 0 0 nm.size tx.size n m = 51 := by
      revert s1
      generalize nm.size = s
      generalize tx.size = t
      intro s1
      simp [chkR, wr, ex, hs, hl] <;> omega
    exact ⟨by rw [Z]; rfl, T.out.below⟩
  have es1 : decide ((nm.size : Int) < 1) = false := by simp; omega
  by_cases s2 : (16 : Int) < (nm.size : Int)
  · have es2 : decide ((16 : Int) < (nm.size : Int)) = true := by simp; omega
    go_wp2
    go_ret
    have Z : chkR 1 16 0 0 0 0 0 0 nm.size tx.size n m = 51 := by
      revert s1 s2
      generalize nm.size = s
      generalize tx.size = t
      intro s1 s2
      simp [chkR, wr, ex, hs, hl] <;> omega
    exact ⟨by rw [Z]; rfl, T.out.below⟩
  have es2 : decide ((16 : Int) < (nm.size : Int)) = false := by simp; omega
  go_wp2
  go_quiet (first | (go_at_call 99; exact Calls.quiet_of_same (L.out _)))
  have T := hid (T.out.drewN nq)
  clear o0 o1 o2 o3 o4
  generalize w1.drewN nq = w2 at T ⊢
  have o0 : w2.cell? ⟨w.heap.size, 0, none⟩ = some (.int .i64 1) := by rw [cell_at T.out.op]; rfl
  have o1 : w2.cell? ⟨w.heap.size, 1, none⟩ = some (.string nm) := by rw [cell_at T.out.op]; rfl
  have o2 : w2.cell? ⟨w.heap.size, 2, none⟩ = some (.string tx) := by rw [cell_at T.out.op]; rfl
  have o3 : w2.cell? ⟨w.heap.size, 3, none⟩ = some (.int .i64 n) := by rw [cell_at T.out.op]; rfl
  have o4 : w2.cell? ⟨w.heap.size, 4, none⟩ = some (.int .i64 m) := by rw [cell_at T.out.op]; rfl
  go_wp2_with fail
  refine (M.out _).mono ?_
  rintro e w3 ⟨rfl, rfl⟩
  go_wp2_with fail
  refine (N.out _).mono ?_
  rintro e w4 ⟨rfl, rfl⟩
  go_wp2_with fail
  refine (L.out _).mono ?_
  rintro e w5 ⟨rfl, rfl⟩
  by_cases x2 : tx.size = 0
  case neg =>
    have qtx := nonempty tx x2
    go_wp2
    go_ret
    have Z : chkR 1 16 0 0 0 0 0 0 nm.size tx.size n m = 55 := by
      revert s1 s2 x2
      generalize nm.size = s
      generalize tx.size = t
      intro s1 s2 x2
      simp [chkR, wr, ex, hs, hl] <;> omega
    exact ⟨by rw [Z]; rfl, T.out.below⟩
  have qtx := isempty tx x2
  go_wp2_with fail
  refine (M.out _).mono ?_
  rintro e w6 ⟨rfl, rfl⟩
  by_cases x3 : n = 0
  case neg =>
    have qn : (n != 0) = true := by simpa using x3
    go_wp2
    go_ret
    have Z : chkR 1 16 0 0 0 0 0 0 nm.size tx.size n m = 55 := by
      revert s1 s2 x2 x3
      generalize nm.size = s
      generalize tx.size = t
      intro s1 s2 x2 x3
      simp [chkR, wr, ex, hs, hl] <;> omega
    exact ⟨by rw [Z]; rfl, T.out.below⟩
  have qn : (n != 0) = false := by simpa using x3
  have xx3 := hid x3
  clear x3
  by_cases x4 : m = 0
  case neg =>
    have qm : (m != 0) = true := by simpa using x4
    go_wp2
    go_ret
    have Z : chkR 1 16 0 0 0 0 0 0 nm.size tx.size n m = 55 := by
      revert s1 s2 x2 xx3 x4
      generalize nm.size = s
      generalize tx.size = t
      intro s1 s2 x2 xx3 x4
      have xx3 := xx3.out
      simp [chkR, wr, ex, hs, hl] <;> omega
    exact ⟨by rw [Z]; rfl, T.out.below⟩
  have qm : (m != 0) = false := by simpa using x4
  have xx4 := hid x4
  clear x4
  go_wp2
  go_ret
  have Z : chkR 1 16 0 0 0 0 0 0 nm.size tx.size n m = 0 := by
    revert s1 s2 x2 xx3 xx4
    generalize nm.size = s
    generalize tx.size = t
    intro s1 s2 x2 xx3 xx4
    have xx3 := xx3.out
    have xx4 := xx4.out
    simp [chkR, wr, ex, hs, hl] <;> omega
  exact ⟨by rw [Z]; rfl, T.out.below⟩

set_option maxHeartbeats 3200000 in
set_option maxRecDepth 1000000 in
theorem rc2 {w : World} (nm tx : ByteArray) (n m : Int) : Calls Tryz.prog 77 #[opV 2 nm tx n m] w fun e w' => e = .returned (.int .i64 (chkR 1 16 0 0 0 0 0 0 nm.size tx.size n m)) ∧ Below w.heap.size w w' := by
  have N : ∀ W : World, Calls Tryz.prog 98 #[.int .i64 2] W fun e w' => e = .returned (.bool true) ∧ w' = W := fun W => hasName_any 2
  have L : ∀ W : World, Calls Tryz.prog 99 #[.int .i64 2] W fun e w' => e = .returned (.int .i64 (-1)) ∧ w' = W := fun W => textMost_any 2
  have S : ∀ W : World, Calls Tryz.prog 100 #[.int .i64 2] W fun e w' => e = .returned (.int .i64 0) ∧ w' = W := fun W => textLeast_any 2
  have M : ∀ W : World, Calls Tryz.prog 101 #[.int .i64 2] W fun e w' => e = .returned (.bool false) ∧ w' = W := fun W => hasNum_any 2
  have N := hid N
  have L := hid L
  have S := hid S
  have M := hid M
  go_enter Tryz.func77, Tryz.ntmps77
  go_wp2_with fail
  refine (N.out _).mono ?_
  rintro e w1 ⟨rfl, hw⟩
  have T := hid (Bx.first w 2 nm tx n m)
  have T : Hid (Bx w w1 2 nm tx n m) := hid (by rw [hw]; exact T.out)
  clear hw
  have o0 : w1.cell? ⟨w.heap.size, 0, none⟩ = some (.int .i64 2) := by rw [cell_at T.out.op]; rfl
  have o1 : w1.cell? ⟨w.heap.size, 1, none⟩ = some (.string nm) := by rw [cell_at T.out.op]; rfl
  have o2 : w1.cell? ⟨w.heap.size, 2, none⟩ = some (.string tx) := by rw [cell_at T.out.op]; rfl
  have o3 : w1.cell? ⟨w.heap.size, 3, none⟩ = some (.int .i64 n) := by rw [cell_at T.out.op]; rfl
  have o4 : w1.cell? ⟨w.heap.size, 4, none⟩ = some (.int .i64 m) := by rw [cell_at T.out.op]; rfl
  by_cases s1 : (nm.size : Int) < 1
  · have es1 : decide ((nm.size : Int) < 1) = true := by simp; omega
    go_wp2
    go_ret
    have Z : chkR 1 16 0 0 0 0 0 0 nm.size tx.size n m = 51 := by
      revert s1
      generalize nm.size = s
      generalize tx.size = t
      intro s1
      simp [chkR, wr, ex, hs, hl] <;> omega
    exact ⟨by rw [Z]; rfl, T.out.below⟩
  have es1 : decide ((nm.size : Int) < 1) = false := by simp; omega
  by_cases s2 : (16 : Int) < (nm.size : Int)
  · have es2 : decide ((16 : Int) < (nm.size : Int)) = true := by simp; omega
    go_wp2
    go_ret
    have Z : chkR 1 16 0 0 0 0 0 0 nm.size tx.size n m = 51 := by
      revert s1 s2
      generalize nm.size = s
      generalize tx.size = t
      intro s1 s2
      simp [chkR, wr, ex, hs, hl] <;> omega
    exact ⟨by rw [Z]; rfl, T.out.below⟩
  have es2 : decide ((16 : Int) < (nm.size : Int)) = false := by simp; omega
  go_wp2
  go_quiet (first | (go_at_call 99; exact Calls.quiet_of_same (L.out _)))
  have T := hid (T.out.drewN nq)
  clear o0 o1 o2 o3 o4
  generalize w1.drewN nq = w2 at T ⊢
  have o0 : w2.cell? ⟨w.heap.size, 0, none⟩ = some (.int .i64 2) := by rw [cell_at T.out.op]; rfl
  have o1 : w2.cell? ⟨w.heap.size, 1, none⟩ = some (.string nm) := by rw [cell_at T.out.op]; rfl
  have o2 : w2.cell? ⟨w.heap.size, 2, none⟩ = some (.string tx) := by rw [cell_at T.out.op]; rfl
  have o3 : w2.cell? ⟨w.heap.size, 3, none⟩ = some (.int .i64 n) := by rw [cell_at T.out.op]; rfl
  have o4 : w2.cell? ⟨w.heap.size, 4, none⟩ = some (.int .i64 m) := by rw [cell_at T.out.op]; rfl
  go_wp2_with fail
  refine (M.out _).mono ?_
  rintro e w3 ⟨rfl, rfl⟩
  go_wp2_with fail
  refine (N.out _).mono ?_
  rintro e w4 ⟨rfl, rfl⟩
  go_wp2_with fail
  refine (L.out _).mono ?_
  rintro e w5 ⟨rfl, rfl⟩
  by_cases x2 : tx.size = 0
  case neg =>
    have qtx := nonempty tx x2
    go_wp2
    go_ret
    have Z : chkR 1 16 0 0 0 0 0 0 nm.size tx.size n m = 55 := by
      revert s1 s2 x2
      generalize nm.size = s
      generalize tx.size = t
      intro s1 s2 x2
      simp [chkR, wr, ex, hs, hl] <;> omega
    exact ⟨by rw [Z]; rfl, T.out.below⟩
  have qtx := isempty tx x2
  go_wp2_with fail
  refine (M.out _).mono ?_
  rintro e w6 ⟨rfl, rfl⟩
  by_cases x3 : n = 0
  case neg =>
    have qn : (n != 0) = true := by simpa using x3
    go_wp2
    go_ret
    have Z : chkR 1 16 0 0 0 0 0 0 nm.size tx.size n m = 55 := by
      revert s1 s2 x2 x3
      generalize nm.size = s
      generalize tx.size = t
      intro s1 s2 x2 x3
      simp [chkR, wr, ex, hs, hl] <;> omega
    exact ⟨by rw [Z]; rfl, T.out.below⟩
  have qn : (n != 0) = false := by simpa using x3
  have xx3 := hid x3
  clear x3
  by_cases x4 : m = 0
  case neg =>
    have qm : (m != 0) = true := by simpa using x4
    go_wp2
    go_ret
    have Z : chkR 1 16 0 0 0 0 0 0 nm.size tx.size n m = 55 := by
      revert s1 s2 x2 xx3 x4
      generalize nm.size = s
      generalize tx.size = t
      intro s1 s2 x2 xx3 x4
      have xx3 := xx3.out
      simp [chkR, wr, ex, hs, hl] <;> omega
    exact ⟨by rw [Z]; rfl, T.out.below⟩
  have qm : (m != 0) = false := by simpa using x4
  have xx4 := hid x4
  clear x4
  go_wp2
  go_ret
  have Z : chkR 1 16 0 0 0 0 0 0 nm.size tx.size n m = 0 := by
    revert s1 s2 x2 xx3 xx4
    generalize nm.size = s
    generalize tx.size = t
    intro s1 s2 x2 xx3 xx4
    have xx3 := xx3.out
    have xx4 := xx4.out
    simp [chkR, wr, ex, hs, hl] <;> omega
  exact ⟨by rw [Z]; rfl, T.out.below⟩

set_option maxHeartbeats 3200000 in
set_option maxRecDepth 1000000 in
theorem rc3 {w : World} (nm tx : ByteArray) (n m : Int) : Calls Tryz.prog 77 #[opV 3 nm tx n m] w fun e w' => e = .returned (.int .i64 (chkR 1 16 0 64 0 0 0 0 nm.size tx.size n m)) ∧ Below w.heap.size w w' := by
  have N : ∀ W : World, Calls Tryz.prog 98 #[.int .i64 3] W fun e w' => e = .returned (.bool true) ∧ w' = W := fun W => hasName_any 3
  have L : ∀ W : World, Calls Tryz.prog 99 #[.int .i64 3] W fun e w' => e = .returned (.int .i64 64) ∧ w' = W := fun W => textMost_any 3
  have S : ∀ W : World, Calls Tryz.prog 100 #[.int .i64 3] W fun e w' => e = .returned (.int .i64 0) ∧ w' = W := fun W => textLeast_any 3
  have M : ∀ W : World, Calls Tryz.prog 101 #[.int .i64 3] W fun e w' => e = .returned (.bool false) ∧ w' = W := fun W => hasNum_any 3
  have N := hid N
  have L := hid L
  have S := hid S
  have M := hid M
  go_enter Tryz.func77, Tryz.ntmps77
  go_wp2_with fail
  refine (N.out _).mono ?_
  rintro e w1 ⟨rfl, hw⟩
  have T := hid (Bx.first w 3 nm tx n m)
  have T : Hid (Bx w w1 3 nm tx n m) := hid (by rw [hw]; exact T.out)
  clear hw
  have o0 : w1.cell? ⟨w.heap.size, 0, none⟩ = some (.int .i64 3) := by rw [cell_at T.out.op]; rfl
  have o1 : w1.cell? ⟨w.heap.size, 1, none⟩ = some (.string nm) := by rw [cell_at T.out.op]; rfl
  have o2 : w1.cell? ⟨w.heap.size, 2, none⟩ = some (.string tx) := by rw [cell_at T.out.op]; rfl
  have o3 : w1.cell? ⟨w.heap.size, 3, none⟩ = some (.int .i64 n) := by rw [cell_at T.out.op]; rfl
  have o4 : w1.cell? ⟨w.heap.size, 4, none⟩ = some (.int .i64 m) := by rw [cell_at T.out.op]; rfl
  by_cases s1 : (nm.size : Int) < 1
  · have es1 : decide ((nm.size : Int) < 1) = true := by simp; omega
    go_wp2
    go_ret
    have Z : chkR 1 16 0 64 0 0 0 0 nm.size tx.size n m = 51 := by
      revert s1
      generalize nm.size = s
      generalize tx.size = t
      intro s1
      simp [chkR, wr, ex, hs, hl] <;> omega
    exact ⟨by rw [Z]; rfl, T.out.below⟩
  have es1 : decide ((nm.size : Int) < 1) = false := by simp; omega
  by_cases s2 : (16 : Int) < (nm.size : Int)
  · have es2 : decide ((16 : Int) < (nm.size : Int)) = true := by simp; omega
    go_wp2
    go_ret
    have Z : chkR 1 16 0 64 0 0 0 0 nm.size tx.size n m = 51 := by
      revert s1 s2
      generalize nm.size = s
      generalize tx.size = t
      intro s1 s2
      simp [chkR, wr, ex, hs, hl] <;> omega
    exact ⟨by rw [Z]; rfl, T.out.below⟩
  have es2 : decide ((16 : Int) < (nm.size : Int)) = false := by simp; omega
  have et1 : decide ((tx.size : Int) < 0) = false := by simp
  by_cases t2 : (64 : Int) < (tx.size : Int)
  · have et2 : decide ((64 : Int) < (tx.size : Int)) = true := by simp; omega
    go_wp2
    go_quiet (first | (go_at_call 99; exact Calls.quiet_of_same (L.out _)) | (go_at_call 100; exact Calls.quiet_of_same (S.out _)))
    have T := hid (T.out.drewN nq)
    clear o0 o1 o2 o3 o4
    generalize w1.drewN nq = w2 at T ⊢
    have o0 : w2.cell? ⟨w.heap.size, 0, none⟩ = some (.int .i64 3) := by rw [cell_at T.out.op]; rfl
    have o1 : w2.cell? ⟨w.heap.size, 1, none⟩ = some (.string nm) := by rw [cell_at T.out.op]; rfl
    have o2 : w2.cell? ⟨w.heap.size, 2, none⟩ = some (.string tx) := by rw [cell_at T.out.op]; rfl
    have o3 : w2.cell? ⟨w.heap.size, 3, none⟩ = some (.int .i64 n) := by rw [cell_at T.out.op]; rfl
    have o4 : w2.cell? ⟨w.heap.size, 4, none⟩ = some (.int .i64 m) := by rw [cell_at T.out.op]; rfl
    go_wp2
    go_ret
    have Z : chkR 1 16 0 64 0 0 0 0 nm.size tx.size n m = 52 := by
      revert s1 s2 t2
      generalize nm.size = s
      generalize tx.size = t
      intro s1 s2 t2
      simp [chkR, wr, ex, hs, hl] <;> omega
    exact ⟨by rw [Z]; rfl, T.out.below⟩
  have et2 : decide ((64 : Int) < (tx.size : Int)) = false := by simp; omega
  go_wp2
  go_quiet (first | (go_at_call 99; exact Calls.quiet_of_same (L.out _)) | (go_at_call 100; exact Calls.quiet_of_same (S.out _)))
  have T := hid (T.out.drewN nq)
  clear o0 o1 o2 o3 o4
  generalize w1.drewN nq = w2 at T ⊢
  have o0 : w2.cell? ⟨w.heap.size, 0, none⟩ = some (.int .i64 3) := by rw [cell_at T.out.op]; rfl
  have o1 : w2.cell? ⟨w.heap.size, 1, none⟩ = some (.string nm) := by rw [cell_at T.out.op]; rfl
  have o2 : w2.cell? ⟨w.heap.size, 2, none⟩ = some (.string tx) := by rw [cell_at T.out.op]; rfl
  have o3 : w2.cell? ⟨w.heap.size, 3, none⟩ = some (.int .i64 n) := by rw [cell_at T.out.op]; rfl
  have o4 : w2.cell? ⟨w.heap.size, 4, none⟩ = some (.int .i64 m) := by rw [cell_at T.out.op]; rfl
  go_wp2_with fail
  refine (M.out _).mono ?_
  rintro e w3 ⟨rfl, rfl⟩
  go_wp2_with fail
  refine (N.out _).mono ?_
  rintro e w4 ⟨rfl, rfl⟩
  go_wp2_with fail
  refine (L.out _).mono ?_
  rintro e w5 ⟨rfl, rfl⟩
  go_wp2_with fail
  refine (M.out _).mono ?_
  rintro e w6 ⟨rfl, rfl⟩
  by_cases x3 : n = 0
  case neg =>
    have qn : (n != 0) = true := by simpa using x3
    go_wp2
    go_ret
    have Z : chkR 1 16 0 64 0 0 0 0 nm.size tx.size n m = 55 := by
      revert s1 s2 t2 x3
      generalize nm.size = s
      generalize tx.size = t
      intro s1 s2 t2 x3
      simp [chkR, wr, ex, hs, hl] <;> omega
    exact ⟨by rw [Z]; rfl, T.out.below⟩
  have qn : (n != 0) = false := by simpa using x3
  have xx3 := hid x3
  clear x3
  by_cases x4 : m = 0
  case neg =>
    have qm : (m != 0) = true := by simpa using x4
    go_wp2
    go_ret
    have Z : chkR 1 16 0 64 0 0 0 0 nm.size tx.size n m = 55 := by
      revert s1 s2 t2 xx3 x4
      generalize nm.size = s
      generalize tx.size = t
      intro s1 s2 t2 xx3 x4
      have xx3 := xx3.out
      simp [chkR, wr, ex, hs, hl] <;> omega
    exact ⟨by rw [Z]; rfl, T.out.below⟩
  have qm : (m != 0) = false := by simpa using x4
  have xx4 := hid x4
  clear x4
  go_wp2
  go_ret
  have Z : chkR 1 16 0 64 0 0 0 0 nm.size tx.size n m = 0 := by
    revert s1 s2 t2 xx3 xx4
    generalize nm.size = s
    generalize tx.size = t
    intro s1 s2 t2 xx3 xx4
    have xx3 := xx3.out
    have xx4 := xx4.out
    simp [chkR, wr, ex, hs, hl] <;> omega
  exact ⟨by rw [Z]; rfl, T.out.below⟩

set_option maxHeartbeats 3200000 in
set_option maxRecDepth 1000000 in
theorem rc4 {w : World} (nm tx : ByteArray) (n m : Int) : Calls Tryz.prog 77 #[opV 4 nm tx n m] w fun e w' => e = .returned (.int .i64 (chkR 1 16 0 0 0 1099511627776 0 0 nm.size tx.size n m)) ∧ Below w.heap.size w w' := by
  have N : ∀ W : World, Calls Tryz.prog 98 #[.int .i64 4] W fun e w' => e = .returned (.bool true) ∧ w' = W := fun W => hasName_any 4
  have L : ∀ W : World, Calls Tryz.prog 99 #[.int .i64 4] W fun e w' => e = .returned (.int .i64 (-1)) ∧ w' = W := fun W => textMost_any 4
  have S : ∀ W : World, Calls Tryz.prog 100 #[.int .i64 4] W fun e w' => e = .returned (.int .i64 0) ∧ w' = W := fun W => textLeast_any 4
  have M : ∀ W : World, Calls Tryz.prog 101 #[.int .i64 4] W fun e w' => e = .returned (.bool true) ∧ w' = W := fun W => hasNum_any 4
  have N := hid N
  have L := hid L
  have S := hid S
  have M := hid M
  go_enter Tryz.func77, Tryz.ntmps77
  go_wp2_with fail
  refine (N.out _).mono ?_
  rintro e w1 ⟨rfl, hw⟩
  have T := hid (Bx.first w 4 nm tx n m)
  have T : Hid (Bx w w1 4 nm tx n m) := hid (by rw [hw]; exact T.out)
  clear hw
  have o0 : w1.cell? ⟨w.heap.size, 0, none⟩ = some (.int .i64 4) := by rw [cell_at T.out.op]; rfl
  have o1 : w1.cell? ⟨w.heap.size, 1, none⟩ = some (.string nm) := by rw [cell_at T.out.op]; rfl
  have o2 : w1.cell? ⟨w.heap.size, 2, none⟩ = some (.string tx) := by rw [cell_at T.out.op]; rfl
  have o3 : w1.cell? ⟨w.heap.size, 3, none⟩ = some (.int .i64 n) := by rw [cell_at T.out.op]; rfl
  have o4 : w1.cell? ⟨w.heap.size, 4, none⟩ = some (.int .i64 m) := by rw [cell_at T.out.op]; rfl
  by_cases s1 : (nm.size : Int) < 1
  · have es1 : decide ((nm.size : Int) < 1) = true := by simp; omega
    go_wp2
    go_ret
    have Z : chkR 1 16 0 0 0 1099511627776 0 0 nm.size tx.size n m = 51 := by
      revert s1
      generalize nm.size = s
      generalize tx.size = t
      intro s1
      simp [chkR, wr, ex, hs, hl] <;> omega
    exact ⟨by rw [Z]; rfl, T.out.below⟩
  have es1 : decide ((nm.size : Int) < 1) = false := by simp; omega
  by_cases s2 : (16 : Int) < (nm.size : Int)
  · have es2 : decide ((16 : Int) < (nm.size : Int)) = true := by simp; omega
    go_wp2
    go_ret
    have Z : chkR 1 16 0 0 0 1099511627776 0 0 nm.size tx.size n m = 51 := by
      revert s1 s2
      generalize nm.size = s
      generalize tx.size = t
      intro s1 s2
      simp [chkR, wr, ex, hs, hl] <;> omega
    exact ⟨by rw [Z]; rfl, T.out.below⟩
  have es2 : decide ((16 : Int) < (nm.size : Int)) = false := by simp; omega
  go_wp2
  go_quiet (first | (go_at_call 99; exact Calls.quiet_of_same (L.out _)))
  have T := hid (T.out.drewN nq)
  clear o0 o1 o2 o3 o4
  generalize w1.drewN nq = w2 at T ⊢
  have o0 : w2.cell? ⟨w.heap.size, 0, none⟩ = some (.int .i64 4) := by rw [cell_at T.out.op]; rfl
  have o1 : w2.cell? ⟨w.heap.size, 1, none⟩ = some (.string nm) := by rw [cell_at T.out.op]; rfl
  have o2 : w2.cell? ⟨w.heap.size, 2, none⟩ = some (.string tx) := by rw [cell_at T.out.op]; rfl
  have o3 : w2.cell? ⟨w.heap.size, 3, none⟩ = some (.int .i64 n) := by rw [cell_at T.out.op]; rfl
  have o4 : w2.cell? ⟨w.heap.size, 4, none⟩ = some (.int .i64 m) := by rw [cell_at T.out.op]; rfl
  go_wp2_with fail
  refine (M.out _).mono ?_
  rintro e w3 ⟨rfl, rfl⟩
  by_cases n1 : n < 0
  · have en1 : decide (n < 0) = true := by simp; omega
    go_wp2
    go_ret
    have Z : chkR 1 16 0 0 0 1099511627776 0 0 nm.size tx.size n m = 53 := by
      revert s1 s2 n1
      generalize nm.size = s
      generalize tx.size = t
      intro s1 s2 n1
      simp [chkR, wr, ex, hs, hl] <;> omega
    exact ⟨by rw [Z]; rfl, T.out.below⟩
  have en1 : decide (n < 0) = false := by simp; omega
  by_cases n2 : (1099511627776 : Int) < n
  · have en2 : decide ((1099511627776 : Int) < n) = true := by simp; omega
    go_wp2
    go_ret
    have Z : chkR 1 16 0 0 0 1099511627776 0 0 nm.size tx.size n m = 53 := by
      revert s1 s2 n1 n2
      generalize nm.size = s
      generalize tx.size = t
      intro s1 s2 n1 n2
      simp [chkR, wr, ex, hs, hl] <;> omega
    exact ⟨by rw [Z]; rfl, T.out.below⟩
  have en2 : decide ((1099511627776 : Int) < n) = false := by simp; omega
  go_wp2_with fail
  refine (N.out _).mono ?_
  rintro e w4 ⟨rfl, rfl⟩
  go_wp2_with fail
  refine (L.out _).mono ?_
  rintro e w5 ⟨rfl, rfl⟩
  by_cases x2 : tx.size = 0
  case neg =>
    have qtx := nonempty tx x2
    go_wp2
    go_ret
    have Z : chkR 1 16 0 0 0 1099511627776 0 0 nm.size tx.size n m = 55 := by
      revert s1 s2 n1 n2 x2
      generalize nm.size = s
      generalize tx.size = t
      intro s1 s2 n1 n2 x2
      simp [chkR, wr, ex, hs, hl] <;> omega
    exact ⟨by rw [Z]; rfl, T.out.below⟩
  have qtx := isempty tx x2
  go_wp2_with fail
  refine (M.out _).mono ?_
  rintro e w6 ⟨rfl, rfl⟩
  by_cases x4 : m = 0
  case neg =>
    have qm : (m != 0) = true := by simpa using x4
    go_wp2
    go_ret
    have Z : chkR 1 16 0 0 0 1099511627776 0 0 nm.size tx.size n m = 55 := by
      revert s1 s2 n1 n2 x2 x4
      generalize nm.size = s
      generalize tx.size = t
      intro s1 s2 n1 n2 x2 x4
      simp [chkR, wr, ex, hs, hl] <;> omega
    exact ⟨by rw [Z]; rfl, T.out.below⟩
  have qm : (m != 0) = false := by simpa using x4
  have xx4 := hid x4
  clear x4
  go_wp2
  go_ret
  have Z : chkR 1 16 0 0 0 1099511627776 0 0 nm.size tx.size n m = 0 := by
    revert s1 s2 n1 n2 x2 xx4
    generalize nm.size = s
    generalize tx.size = t
    intro s1 s2 n1 n2 x2 xx4
    have xx4 := xx4.out
    simp [chkR, wr, ex, hs, hl] <;> omega
  exact ⟨by rw [Z]; rfl, T.out.below⟩
end Go.Proofs.YtblojlaifnmimaaGreatDoor
