import Derived.Test.YthnccpbgccmapabDoorOpen
import Derived.Lib.SlBytesConst
namespace Go.Proofs.YthnccpbgccmapabDoor
open Go.RowKit
set_option linter.unusedVariables false

set_option maxHeartbeats 1600000 in
set_option maxRecDepth 1000000 in
theorem newLook_any {w : World} : Calls Tryd.prog 20 #[] w fun e w' => e = .returned (.agg #[.int .i64 0, .int .i64 0, .int .u32 4294967295]) ∧ Below w.heap.size w w' := by
  have hres : Tryd.f20.results = #[.cell 0 53] := by kernel_rfl
  go_enter Tryd.func20, Tryd.ntmps20
  go_wp2
  refine bodyPost_ret (v := .agg #[.int .i64 0, .int .i64 0, .int .u32 4294967295]) ?_ rfl ⟨rfl, ?_⟩
  · simp only [results, hres]
    go_simp
  · exact (Below.refl _ _).alloc (Nat.le_refl _) _

set_option maxHeartbeats 1600000 in
set_option maxRecDepth 1000000 in
theorem NewStream_any {w : World} : Calls Tryd.prog 7 #[] w fun e w' => (∃ a, e = .returned (.pointer (some a))) ∧ Below w.heap.size w w' := by
  go_enter Tryd.func7, Tryd.ntmps7
  go_wp2_with fail
  refine newLook_any.mono ?_
  rintro e w1 ⟨rfl, hb⟩
  have B := hid hb
  clear hb
  go_wp2
  go_ret
  exact ⟨⟨_, rfl⟩, B.out.alloc B.out.size _⟩

/-- A list that was just laid out. -/
theorem reads_new (w : World) (l : List UInt8) (cs : Array Value) (fr : Nat × Nat) (n : Nat) (hn : n = l.length) (hcs : cs = (cellsB l).toArray) : Reads (w.alloc (.cells cs 5 fr)) (.slice (some ⟨w.heap.size, 0, none⟩) n n) l := by
  subst hn hcs
  refine ⟨_, _, rfl, Nat.le_refl _, Or.inr ⟨_, _, rfl, by simp, fun j u hu => ?_⟩⟩
  rw [cell_at (heap_alloc_new w _)]
  simpa using hu

theorem ba (w : World) (o : Obj) : Below w.heap.size w (w.alloc o) := (Below.refl _ _).alloc (Nat.le_refl _) _

def abc : List UInt8 := [97, 98, 99]
def abcD : List UInt8 := [70, 76, 3, 0, 0, 242, 176, 170, 46, 97, 98, 99, 183, 63, 75, 54]
theorem abc_seal : sealA abc = (abcD, 0) := by decide +kernel
theorem abc_open : openP abcD = (abc, 0) := by decide +kernel
theorem abc_sum : sumN [49, 50, 51, 52, 53, 54, 55, 56, 57] = 3808858755 := by decide +kernel

set_option maxHeartbeats 3200000 in
set_option maxRecDepth 1000000 in
theorem shown_any {w : World} (hT : Tab w) : Calls Tryd.prog 6 #[] w fun e w' => e = .returned (.bool true) ∧ Below w.heap.size w w' := by
  have HT := hid hT
  clear hT
  have kc := fun (w : World) (C : Array Value) (n c : Nat) => Lib.run_convert_bytes_const (P := Tryd.prog) w 26 5 C n c Tryd.underlying26 Tryd.underlying5
  go_enter Tryd.func6, Tryd.ntmps6
  go_wp2_with fail
  refine (Seal_any (HT.out.alloc _) (reads_new w abc _ _ 3 rfl rfl) (by decide)).mono ?_
  rintro e w1 ⟨v, rfl, ho, hb⟩
  rw [abc_seal] at ho ⊢
  have B1 := hid (show Below w.heap.size w w1 from (ba w _).trans (hb.mono (by simp)))
  obtain ⟨x, y, hv⟩ := owns_form ho
  have R1 := hid (Reads.of_owns ho)
  subst hv
  clear ho hb
  go_wp2_with fail
  refine (same_any (R1.out.below (ba w1 _)) (reads_new w1 abcD _ _ 16 rfl rfl) (by decide) (by decide)).mono ?_
  rintro e w2 ⟨rfl, q, rfl⟩
  rw [show alike abcD abcD = true by decide +kernel]
  have B2 := hid (show Below w.heap.size w ((w1.alloc (.cells (cellsB abcD).toArray 5)).drewN q) from B1.out.trans (((ba w1 _).trans (bdN _ _ |>.mono (by simp))).mono B1.out.size))
  have R2 := hid ((R1.out.below (ba w1 (.cells (cellsB abcD).toArray 5))).drewN q)
  clear R1 B1
  generalize (w1.alloc (.cells (cellsB abcD).toArray 5)).drewN q = w3 at *
  go_wp2_with fail
  refine (Open_any (HT.out.below B2.out) R2.out (by decide)).mono ?_
  rintro e w4 ⟨v, rfl, ho, hb⟩
  rw [show openP abcD = (abc, 0) from abc_open] at ho ⊢
  have B4 := hid (show Below w.heap.size w w4 from B2.out.trans (hb.mono B2.out.size))
  obtain ⟨x', y', hv⟩ := owns_form ho
  have R4 := hid (Reads.of_owns ho)
  subst hv
  clear ho hb R2 B2
  go_wp2_with fail
  refine (same_any (R4.out.below (ba w4 _)) (reads_new w4 abc _ _ 3 rfl rfl) (by decide) (by decide)).mono ?_
  rintro e w5 ⟨rfl, q', rfl⟩
  rw [show alike abc abc = true by decide +kernel]
  have B5 := hid (show Below w.heap.size w ((w4.alloc (.cells (cellsB abc).toArray 5 (3, 4))).drewN q') from B4.out.trans (((ba w4 _).trans (bdN _ _ |>.mono (by simp))).mono B4.out.size))
  clear B4 R4
  generalize (w4.alloc (.cells (cellsB abc).toArray 5 (3, 4))).drewN q' = w6 at *
  go_wp2_with fail
  refine NewStream_any.mono ?_
  rintro e w7 ⟨⟨a, rfl⟩, hb7⟩
  have B7 := hid (show Below w.heap.size w w7 from B5.out.trans (hb7.mono B5.out.size))
  clear hb7 B5
  go_wp2_with fail
  refine (Sum_any ((HT.out.below B7.out).alloc _) (reads_new w7 [49, 50, 51, 52, 53, 54, 55, 56, 57] _ _ 9 rfl rfl) (by decide)).mono ?_
  rintro e w8 ⟨rfl, rfl⟩
  rw [abc_sum]
  have B8 := hid (show Below w.heap.size w (w7.alloc (.cells (cellsB [49, 50, 51, 52, 53, 54, 55, 56, 57]).toArray 5 (9, 10))) from B7.out.alloc B7.out.size _)
  go_wp2
  go_ret
  exact ⟨rfl, B8.out⟩
end Go.Proofs.YthnccpbgccmapabDoor
