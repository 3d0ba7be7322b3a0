import Derived.Test.YthnccpbgccmapabDoorScan
import Derived.Test.YthnccpbgccmapabDoorSumLaw
namespace Go.Proofs.YthnccpbgccmapabDoor
open Go.RowKit
set_option linter.unusedVariables false
attribute [local go_sem ↓] Go.wp_at_zero Go.wp_at_succ

/-- A stream's own block. -/
def StB (w : World) (P : Nat) (hv : Value) (s : Lk) (fv : Value) (L : Nat) : Prop :=
  w.heap[P]? = some (.cells #[hv, .int .i64 (s.taken : Int), .int .i64 (s.size : Int), .int .u32 (s.reg : Int), fv, .int .i64 (L : Int)] 56 (0, 0))

section
variable {w : World} {P : Nat} {hv fv : Value} {s : Lk} {L : Nat}

theorem StB.lt (h : StB w P hv s fv L) : P < w.heap.size := (Array.getElem?_eq_some_iff.1 h).1
theorem StB.c0 (h : StB w P hv s fv L) : w.cell? ⟨P, 0, none⟩ = some hv := by rw [cell_at h]; rfl
theorem StB.c1 (h : StB w P hv s fv L) : w.cell? ⟨P, 1, none⟩ = some (.int .i64 (s.taken : Int)) := by rw [cell_at h]; rfl
theorem StB.c2 (h : StB w P hv s fv L) : w.cell? ⟨P, 2, none⟩ = some (.int .i64 (s.size : Int)) := by rw [cell_at h]; rfl
theorem StB.c3 (h : StB w P hv s fv L) : w.cell? ⟨P, 3, none⟩ = some (.int .u32 (s.reg : Int)) := by rw [cell_at h]; rfl
theorem StB.c4 (h : StB w P hv s fv L) : w.cell? ⟨P, 4, none⟩ = some fv := by rw [cell_at h]; rfl
theorem StB.c5 (h : StB w P hv s fv L) : w.cell? ⟨P, 5, none⟩ = some (.int .i64 (L : Int)) := by rw [cell_at h]; rfl
theorem StB.free (h : StB w P hv s fv L) (j : Nat) : w.frozen? ⟨P, j, none⟩ = false := free_at h j
theorem StB.kept {w' : World} (h : StB w P hv s fv L) (hb : w'.heap[P]? = w.heap[P]?) : StB w' P hv s fv L := by unfold StB; rw [hb]; exact h
theorem StB.below {w' : World} (h : StB w P hv s fv L) (hb : Below w.heap.size w w') : StB w' P hv s fv L := h.kept (hb.block P h.lt)

theorem StB.set0 (h : StB w P hv s fv L) (v : Value) : StB (w.setCell ⟨P, 0, none⟩ v) P v s fv L := by
  unfold StB; rw [heap_setCell_same h]; rfl
theorem StB.set1 (h : StB w P hv s fv L) (t : Nat) : StB (w.setCell ⟨P, 1, none⟩ (.int .i64 (t : Int))) P hv ⟨t, s.size, s.reg⟩ fv L := by
  unfold StB; rw [heap_setCell_same h]; rfl
theorem StB.set2 (h : StB w P hv s fv L) (t : Nat) : StB (w.setCell ⟨P, 2, none⟩ (.int .i64 (t : Int))) P hv ⟨s.taken, t, s.reg⟩ fv L := by
  unfold StB; rw [heap_setCell_same h]; rfl
theorem StB.set3 (h : StB w P hv s fv L) (t : Nat) : StB (w.setCell ⟨P, 3, none⟩ (.int .u32 (t : Int))) P hv ⟨s.taken, s.size, t⟩ fv L := by
  unfold StB; rw [heap_setCell_same h]; rfl
theorem StB.set4 (h : StB w P hv s fv L) (v : Value) : StB (w.setCell ⟨P, 4, none⟩ v) P hv s v L := by
  unfold StB; rw [heap_setCell_same h]; rfl
theorem StB.set5 (h : StB w P hv s fv L) (t : Nat) : StB (w.setCell ⟨P, 5, none⟩ (.int .i64 (t : Int))) P hv s fv t := by
  unfold StB; rw [heap_setCell_same h]; rfl
end

theorem Fr.set {F : List Nat} {w w' : World} (h : Fr F w w') (b j : Nat) (v : Value) (hb : b ∈ F) : Fr F w (w'.setCell ⟨b, j, none⟩ v) :=
  ⟨h.os, h.tape, h.output, by simpa [World.setCell] using h.size, fun k hk hF => (Below.heap_setCell _ _ _ _ (by intro e; exact hF (by rw [show k = b from e]; exact hb))).trans (h.block k hk hF)⟩
theorem Fr.drewN {F : List Nat} {w w' : World} (h : Fr F w w') (q : Nat) : Fr F w (w'.drewN q) := ⟨h.os, h.tape, h.output, h.size, h.block⟩
theorem Fr.drew {F : List Nat} {w w' : World} (h : Fr F w w') : Fr F w w'.drew := ⟨h.os, h.tape, h.output, h.size, h.block⟩
theorem Tab.fr {F : List Nat} {w w' : World} (h : Tab w) (hf : Fr F w w') (h0 : 0 ∉ F) : Tab w' := h.kept hf.size (hf.block 0 h.1 h0)

theorem or_size (z x j : Nat) (hz : z < 256 ^ j) (hj : j < 3) (hx : x < 256) : bits .or .i64 (z : Int) ((x * 256 ^ j : Nat) : Int) = ((z + x * 256 ^ j : Nat) : Int) := by
  have h3 : 256 ^ j ≤ 65536 := by
    have : j = 0 ∨ j = 1 ∨ j = 2 := by omega
    rcases this with rfl | rfl | rfl <;> decide
  have h4 : x * 256 ^ j ≤ 256 * 65536 := Nat.mul_le_mul (by omega) h3
  rw [i64_or_nat _ _ (by omega) (by omega), or_add _ _ _ hz]

theorem u8_beq (c d : UInt8) : ((c.toNat : Int) == (d.toNat : Int)) = (c == d) := by
  by_cases h : c = d
  · subst h; simp
  · have : ¬ (c.toNat : Int) = (d.toNat : Int) := fun e => h (u8_eq (by omega))
    rw [beq_eq_false_iff_ne.2 this, beq_eq_false_iff_ne.2 h]

set_option maxHeartbeats 1600000 in
set_option maxRecDepth 1000000 in
theorem takeLead_mark {w : World} {P : Nat} {hv fv : Value} {s : Lk} {L : Nat} (h : StB w P hv s fv L) (c : UInt8) (k : Nat) (hk : k < 2) :
    Calls Tryd.prog 38 #[.pointer (some ⟨P, 1, none⟩), .int .u8 (c.toNat : Int), .int .i64 (k : Int)] w fun e w' => e = .returned (.bool (c == ([70, 76] : List UInt8).getD k 0)) ∧ w' = w := by
  have hk2 : (k : Int) < 2 := by omega
  have hk4 : k < ByteArray.size { data := #[70, 76] } := hk
  go_enter Tryd.func38, Tryd.ntmps38
  go_wp2
  go_ret
  refine ⟨?_, rfl⟩
  show Ending.returned (.bool ((c.toNat : Int) == ((({ data := #[70, 76] } : ByteArray)[k]'hk4).toNat : Int))) = _
  rw [mark_at hk, u8_beq]

set_option maxHeartbeats 1600000 in
set_option maxRecDepth 1000000 in
theorem takeLead_size {w : World} {P : Nat} {hv fv : Value} {s : Lk} {L : Nat} (h : StB w P hv s fv L) (c : UInt8) (j : Nat) (hj : j < 3) (hz : s.size < 256 ^ j) :
    Calls Tryd.prog 38 #[.pointer (some ⟨P, 1, none⟩), .int .u8 (c.toNat : Int), .int .i64 ((j + 2 : Nat) : Int)] w fun e w' => e = .returned (.bool (decide (s.size + c.toNat * 256 ^ j ≤ 65536))) ∧ StB w' P hv ⟨s.taken, s.size + c.toNat * 256 ^ j, s.reg⟩ fv L ∧ Fr [P] w w' := by
  have c2 := h.c2
  have f2 := h.free 2
  have hx := c.toNat_lt
  have hor := or_size s.size c.toNat j hz hj hx
  have HS := hid ((h.kept (w' := w.drew) rfl).set2 (s.size + c.toNat * 256 ^ j))
  have hlt := h.lt
  have hj2 : ¬ ((j : Int) + 2 < 2) := by omega
  clear h
  have hb : s.size + c.toNat * 256 ^ j < 2 ^ 40 := by
    have : j = 0 ∨ j = 1 ∨ j = 2 := by omega
    rcases this with rfl | rfl | rfl <;> simp at hz ⊢ <;> omega
  have hor2 : bits .or .i64 (s.size : Int) ((c.toNat : Int) * 256 ^ j) = ((s.size + c.toNat * 256 ^ j : Nat) : Int) := by
    rw [← hor, Int.natCast_mul, Int.natCast_pow]
    rfl
  generalize hN : s.size + c.toNat * 256 ^ j = N at *
  clear hN hz
  go_enter Tryd.func38, Tryd.ntmps38
  go_wp2
  go_region_with (go_at_call 39; refine (sizeBits_any c.toNat j hx hj).mono ?_; rintro e w1 ⟨rfl, rfl⟩)
  all_goals go_wp2
  all_goals go_ret
  all_goals refine ⟨?_, HS.out, ((Fr.refl [P] w).drew).set P 2 _ (by simp)⟩
  all_goals
    show Ending.returned (.bool (decide ((N : Int) ≤ 65536))) = Ending.returned (.bool (decide (N ≤ 65536)))
    congr 3
    exact propext (by omega)
end Go.Proofs.YthnccpbgccmapabDoor
