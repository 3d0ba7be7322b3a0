import Derived.Test.YtdhkdniddjnigaaGreatDoorChkA
import Derived.Deep.QuietTactic
import Derived.BigQuiet
namespace Go.Proofs.YtdhkdniddjnigaaGreatDoor
open Go.RowKit
set_option linter.unusedVariables false

theorem hasName_any {w : World} (k : Int) : Calls Tryz.prog 151 #[.int .i64 k] w fun e w' => e = .returned (.bool (decide (1 ≤ k ∧ k ≤ 7))) ∧ w' = w := by
  by_cases h : 1 ≤ k
  · have e1 : decide (1 ≤ k) = true := by simpa using h
    have e : decide (1 ≤ k ∧ k ≤ 7) = decide (k ≤ 7) := by rw [Bool.eq_iff_iff]; simp; omega
    rw [e]; clear e
    go_enter Tryz.func151, Tryz.ntmps151
    go_wp2
    go_ret
    exact ⟨rfl, rfl⟩
  · have e1 : decide (1 ≤ k) = false := by simpa using h
    have e : decide (1 ≤ k ∧ k ≤ 7) = false := by simp; omega
    rw [e]; clear e
    go_enter Tryz.func151, Tryz.ntmps151
    go_wp2
    go_ret
    exact ⟨rfl, rfl⟩
theorem hasNum_any {w : World} (k : Int) : Calls Tryz.prog 154 #[.int .i64 k] w fun e w' => e = .returned (.bool (decide (k = 4 ∨ k = 6))) ∧ w' = w := by
  by_cases h : k = 4
  · subst h
    go_enter Tryz.func154, Tryz.ntmps154
    go_wp2
    go_ret
    exact ⟨by simp, rfl⟩
  · have e1 : (k == 4) = false := by simpa using h
    have e : decide (k = 4 ∨ k = 6) = (k == 6) := by rw [Bool.eq_iff_iff]; simp; omega
    rw [e]; clear e
    go_enter Tryz.func154, Tryz.ntmps154
    go_wp2
    go_ret
    exact ⟨rfl, rfl⟩
def tMost (k : Int) : Int := if k = 3 then 64 else if k = 5 then 16 else -1
def tLeast (k : Int) : Int := if k = 5 then 1 else 0
theorem textMost_any {w : World} (k : Int) : Calls Tryz.prog 152 #[.int .i64 k] w fun e w' => e = .returned (.int .i64 (tMost k)) ∧ w' = w := by
  by_cases h : k = 3
  · subst h
    go_enter Tryz.func152, Tryz.ntmps152
    go_wp2
    go_ret
    exact ⟨rfl, rfl⟩
  · have e1 : (k == 3) = false := by simpa using h
    by_cases h5 : k = 5
    · subst h5
      go_enter Tryz.func152, Tryz.ntmps152
      go_wp2
      go_ret
      exact ⟨rfl, rfl⟩
    · have e2 : (k == 5) = false := by simpa using h5
      rw [show tMost k = -1 by simp [tMost, h, h5]]
      clear h h5
      go_enter Tryz.func152, Tryz.ntmps152
      go_wp2
      go_ret
      exact ⟨rfl, rfl⟩
theorem textLeast_any {w : World} (k : Int) : Calls Tryz.prog 153 #[.int .i64 k] w fun e w' => e = .returned (.int .i64 (tLeast k)) ∧ w' = w := by
  by_cases h : k = 5
  · subst h
    go_enter Tryz.func153, Tryz.ntmps153
    go_wp2
    go_ret
    exact ⟨rfl, rfl⟩
  · have e1 : (k == 5) = false := by simpa using h
    rw [show tLeast k = 0 by simp [tLeast, h]]
    clear h
    go_enter Tryz.func153, Tryz.ntmps153
    go_wp2
    go_ret
    exact ⟨rfl, rfl⟩

theorem nonempty (v : ByteArray) (h : ¬ v.size = 0) : v.toList.isEmpty = false := by
  rw [ByteArray.toList_eq]
  obtain ⟨⟨l⟩⟩ := v
  cases l with
  | nil => exact absurd rfl h
  | cons a l => rfl
theorem isempty (v : ByteArray) (h : v.size = 0) : v.toList.isEmpty = true := by
  rw [ByteArray.toList_eq]
  obtain ⟨⟨l⟩⟩ := v
  cases l with
  | nil => rfl
  | cons a l => simp [ByteArray.size] at h

/-- The op lies in a block of its own. -/
abbrev opC (k : Int) (nm tx : ByteArray) (n m : Int) : Obj := .cells #[.int .i64 k, .string nm, .string tx, .int .i64 n, .int .i64 m] 42
structure Bx (w w1 : World) (k : Int) (nm tx : ByteArray) (n m : Int) : Prop where
  op : w1.heap[w.heap.size]? = some (opC k nm tx n m)
  below : Below w.heap.size w w1
theorem Bx.first (w : World) (k : Int) (nm tx : ByteArray) (n m : Int) : Bx w (w.alloc (opC k nm tx n m)) k nm tx n m := ⟨heap_alloc_new w _, ba w _⟩
theorem Bx.drewN {w w1 : World} {k : Int} {nm tx : ByteArray} {n m : Int} (h : Bx w w1 k nm tx n m) (q : Nat) : Bx w (w1.drewN q) k nm tx n m := ⟨h.op, ⟨h.below.os, h.below.tape, h.below.output, h.below.size, h.below.block⟩⟩
end Go.Proofs.YtdhkdniddjnigaaGreatDoor
