import Derived.Test.YthoppemjfdnibaaGreatDoorJ21
import Derived.Test.YthoppemjfdnibaaGreatDoorJ20
namespace Go.Proofs.YthoppemjfdnibaaGreatDoor
open Go.RowKit Go.Lib
set_option linter.unusedVariables false

def zM : Ms := ⟨0, 0, 0, 0, 0, 0, 0, 0, 0, false, 0, ⟨#[]⟩, ⟨#[]⟩, 0, 0, 0, 0, none, 0, 0, none, 0, 0, 0, 0, none, 0, 0, none, 0, 0⟩
def rP (i : Nat) : Rst := match i with
  | 0 => ⟨[5, 1, 0, 172, 2, 5], 0, 0⟩
  | 1 => ⟨[1, 0, 172, 2, 5], 1, 0⟩
  | 2 => ⟨[0, 172, 2, 5], 2, 0⟩
  | 3 => ⟨[172, 2, 5], 3, 0⟩
  | 4 => ⟨[5], 5, 0⟩
  | _ => ⟨[], 6, 0⟩
theorem rP0 : (rP 0).numV 15 = 5 ∧ (rP 0).num 15 = rP 1 := ⟨by decide, rfl⟩
theorem rP1 : (rP 1).numV 7 = 1 ∧ (rP 1).num 7 = rP 2 := ⟨by decide, rfl⟩
theorem rP2 : (rP 2).numV 7 = 0 ∧ (rP 2).num 7 = rP 3 := ⟨by decide, rfl⟩
theorem rP3 : (rP 3).numV 1099511627776 = 300 ∧ (rP 3).num 1099511627776 = rP 4 := ⟨by decide, rfl⟩
theorem rP4 : (rP 4).numV 1099511627776 = 5 ∧ (rP 4).num 1099511627776 = rP 5 := ⟨by decide, rfl⟩
theorem rP_size (i : Nat) : (rP i).place + (rP i).rs.length ≤ 140737488355328 := by
  match i with
  | 0 | 1 | 2 | 3 | 4 => decide
  | n + 5 => exact (by decide : (6 : Nat) + 0 ≤ 140737488355328)

set_option maxHeartbeats 1600000 in
set_option maxRecDepth 1000000 in
theorem r115 {br mb : Nat} {D : Option Nat} {rv : Value} {r : Rst} {RC : List Value} {x : Value} {cs : List Comp} {w : World} (h : All (rdC br D rv r :: blkC mb RC 34 :: cs) w) (hp : r.place + r.rs.length ≤ 140737488355328) (hx : RC[3]? = some x) :
    Calls Tryz.prog 115 #[.agg #[.pointer (some ⟨br, 0, none⟩)], .pointer (some ⟨mb, 0, none⟩)] w fun e w' => e = .returned (.tuple #[]) ∧ ∃ rv', All (rdC br D rv' (r.num 1099511627776) :: blkC mb (RC.set 3 (.int .i64 (r.numV 1099511627776))) 34 :: cs) w' := by
  have A := hid (h.addBlk [.pointer (some ⟨br, 0, none⟩)] 81).swap
  have p0 : (w.alloc (.cells #[.pointer (some ⟨br, 0, none⟩)] 81)).cell? ⟨w.heap.size, 0, none⟩ = some (.pointer (some ⟨br, 0, none⟩)) := by rw [cell_at (heap_alloc_new w _)]; rfl
  clear h
  go_enter Tryz.func115, Tryz.ntmps115
  go_wp2_with fail
  refine (numRd A.out hp 1099511627776).mono ?_
  rintro e w1 ⟨rfl, rv1, A1⟩
  have A2 := hid (A1.tail.tail)
  have B1 : All (blkC mb RC 34 :: rdC br D rv1 (r.num 1099511627776) :: cs) w1 := (A1.swap.tail).swap
  have hb := B1.1.2.1
  have q0 : w1.cell? ⟨mb, 3, none⟩ = some x := by rw [cell_at hb]; simpa using hx
  have q1 : w1.frozen? ⟨mb, 3, none⟩ = false := free_at hb 3
  have B2 := hid (B1.setBlk 3 (.int .i64 (r.numV 1099511627776)))
  clear A1 A2 B1 hb A p0
  go_wp2
  go_end0
  exact ⟨rfl, rv1, B2.out.swap⟩
set_option maxHeartbeats 1600000 in
set_option maxRecDepth 1000000 in
theorem r117 {br mb : Nat} {D : Option Nat} {rv : Value} {r : Rst} {RC : List Value} {x : Value} {cs : List Comp} {w : World} (h : All (rdC br D rv r :: blkC mb RC 34 :: cs) w) (hp : r.place + r.rs.length ≤ 140737488355328) (hx : RC[4]? = some x) :
    Calls Tryz.prog 117 #[.agg #[.pointer (some ⟨br, 0, none⟩)], .pointer (some ⟨mb, 0, none⟩)] w fun e w' => e = .returned (.tuple #[]) ∧ ∃ rv', All (rdC br D rv' (r.num 1099511627776) :: blkC mb (RC.set 4 (.int .i64 (r.numV 1099511627776))) 34 :: cs) w' := by
  have A := hid (h.addBlk [.pointer (some ⟨br, 0, none⟩)] 81).swap
  have p0 : (w.alloc (.cells #[.pointer (some ⟨br, 0, none⟩)] 81)).cell? ⟨w.heap.size, 0, none⟩ = some (.pointer (some ⟨br, 0, none⟩)) := by rw [cell_at (heap_alloc_new w _)]; rfl
  clear h
  go_enter Tryz.func117, Tryz.ntmps117
  go_wp2_with fail
  refine (numRd A.out hp 1099511627776).mono ?_
  rintro e w1 ⟨rfl, rv1, A1⟩
  have B1 : All (blkC mb RC 34 :: rdC br D rv1 (r.num 1099511627776) :: cs) w1 := (A1.swap.tail).swap
  have hb := B1.1.2.1
  have q0 : w1.cell? ⟨mb, 4, none⟩ = some x := by rw [cell_at hb]; simpa using hx
  have q1 : w1.frozen? ⟨mb, 4, none⟩ = false := free_at hb 4
  have B2 := hid (B1.setBlk 4 (.int .i64 (r.numV 1099511627776)))
  clear A1 B1 hb A p0
  go_wp2
  go_end0
  exact ⟨rfl, rv1, B2.out.swap⟩
end Go.Proofs.YthoppemjfdnibaaGreatDoor

namespace Go.Proofs.YthoppemjfdnibaaGreatDoor
open Go.RowKit
set_option linter.unusedVariables false

/-- What opsMayBe tells. -/
def opsB (f b : Int) (xl : Nat) : Bool := decide (0 ≤ f ∧ f ≤ b ∧ (xl : Int) ≤ 64 ∧ b ≤ 1099511627776 - (xl : Int))
/-- A cargo as a value. -/
abbrev cgV (f b : Int) (sa : Option Addr) (sl sp : Nat) (xa : Option Addr) (xl xp : Nat) : Value := .agg #[.int .i64 f, .int .i64 b, .slice sa sl sp, .slice xa xl xp]
set_option maxRecDepth 1000000 in
theorem ops_any {w : World} (f b : Int) (sa : Option Addr) (sl sp : Nat) (xa : Option Addr) (xl xp : Nat) : Calls Tryz.prog 143 #[cgV f b sa sl sp xa xl xp] w fun e w' => e = .returned (.bool (opsB f b xl)) ∧ Below w.heap.size w w' := by
  by_cases c0 : 0 ≤ f
  rotate_left
  · have F : Hid (opsB f b xl = false) := hid (by simp only [opsB, decide_eq_false_iff_not]; omega)
    have e0 : decide (0 ≤ f) = false := by simpa using c0
    clear c0
    go_enter Tryz.func143, Tryz.ntmps143
    go_wp2
    go_ret
    exact ⟨by rw [F.out]; rfl, ba _ _⟩
  have e0 : decide (0 ≤ f) = true := by simpa using c0
  by_cases c1 : f ≤ b
  rotate_left
  · have F : Hid (opsB f b xl = false) := hid (by simp only [opsB, decide_eq_false_iff_not]; omega)
    have e1 : decide (f ≤ b) = false := by simpa using c1
    clear c1
    go_enter Tryz.func143, Tryz.ntmps143
    go_wp2
    go_ret
    exact ⟨by rw [F.out]; rfl, ba _ _⟩
  have e1 : decide (f ≤ b) = true := by simpa using c1
  by_cases c2 : (xl : Int) ≤ 64
  rotate_left
  · have F : Hid (opsB f b xl = false) := hid (by simp only [opsB, decide_eq_false_iff_not]; omega)
    have e2 : decide ((xl : Int) ≤ 64) = false := by simpa using c2
    clear c2
    go_enter Tryz.func143, Tryz.ntmps143
    go_wp2
    go_ret
    exact ⟨by rw [F.out]; rfl, ba _ _⟩
  have e2 : decide ((xl : Int) ≤ 64) = true := by simpa using c2
  have hs : IntKind.i64.wrap (1099511627776 - (xl : Int)) = 1099511627776 - (xl : Int) := by rw [IntKind.wrap_i64]; omega
  by_cases c3 : b ≤ 1099511627776 - (xl : Int)
  rotate_left
  · have F : Hid (opsB f b xl = false) := hid (by simp only [opsB, decide_eq_false_iff_not]; omega)
    have e3 : decide (b ≤ 1099511627776 - (xl : Int)) = false := by simpa using c3
    clear c0 c1 c2 c3
    go_enter Tryz.func143, Tryz.ntmps143
    go_wp2
    go_ret
    exact ⟨by rw [F.out]; rfl, ba _ _⟩
  have e3 : decide (b ≤ 1099511627776 - (xl : Int)) = true := by simpa using c3
  have F : Hid (opsB f b xl = true) := hid (by simp only [opsB, decide_eq_true_eq]; omega)
  clear c0 c1 c2 c3
  go_enter Tryz.func143, Tryz.ntmps143
  go_wp2
  go_ret
  exact ⟨by rw [F.out]; rfl, ba _ _⟩
end Go.Proofs.YthoppemjfdnibaaGreatDoor
