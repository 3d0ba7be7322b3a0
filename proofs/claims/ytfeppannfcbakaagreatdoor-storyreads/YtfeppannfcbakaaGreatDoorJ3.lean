import Derived.Test.YtfeppannfcbakaaGreatDoorJ2
import Derived.Lib.ItoaNum
import Derived.Lib.AtoiAll
import Derived.Shelf.Strconv.ErrVarAll
import Derived.Shelf.Strconv.Itoa3
import Derived.Test.YtfeppannfcbakaaGreatDoorProg
import Derived.Test.YtfeppannfcbakaaGreatDoorJ1
import Derived.Lib.AtoiAllCases
namespace Go.Proofs.YtfeppannfcbakaaGreatDoor
open Go.RowKit
set_option linter.unusedVariables false
set_option maxRecDepth 1000000
set_option maxHeartbeats 3200000
abbrev opV (k : Int) (nm tx : ByteArray) (n m : Int) : Value := .agg #[.int .i64 k, .string nm, .string tx, .int .i64 n, .int .i64 m]
def chkR (a0 a1 a2 a3 a4 a5 a6 a7 : Int) (s t n m : Int) : Int :=
 if wr a0 a1 s then 51 else if wr a2 a3 t then 52 else if wr a4 a5 n then 53 else if wr a6 a7 m then 54
 else if ex a1 s then 55 else if ex a3 t then 55 else if ex a5 n then 55 else if ex a7 m then 55 else 0
structure Two (w w1 : World) (o f : Obj) : Prop where
 op : w1.heap[w.heap.size]? = some o
 row : w1.heap[w.heap.size + 1]? = some f
 lt : w.heap.size + 1 < w1.heap.size
 below : Below w.heap.size w w1
theorem Two.first (w : World) (o f : Obj) : Two w ((w.alloc o).alloc f) o f := by
 have h1 := heap_alloc_new w o
 have h2 := heap_alloc_new (w.alloc o) f
 have hs : (w.alloc o).heap.size = w.heap.size + 1 := by simp
 rw [hs] at h2
 refine ⟨?_, h2, by simp, b2 (ba w o) (ba _ f)⟩
 rw [(ba (w.alloc o) f).block _ (by simp)]; exact h1
theorem Two.next {w w1 w2 : World} {o f : Obj} (h : Two w w1 o f) (hb : Below w1.heap.size w1 w2) : Two w w2 o f :=
 ⟨by rw [hb.block _ (Nat.lt_of_succ_lt h.lt)]; exact h.op, by rw [hb.block _ h.lt]; exact h.row, Nat.lt_of_lt_of_le h.lt hb.size, b2 h.below hb⟩
theorem check_row {w : World} (k : Nat) (hk1 : 1 ≤ k) (hk8 : k ≤ 8) (nm tx : ByteArray) (n m : Int) (a0 a1 a2 a3 a4 a5 a6 a7 : Int)
   (c0 : w.cell? ⟨4, k * 8, none⟩ = some (.int .i64 a0))
   (c1 : w.cell? ⟨4, k * 8 + 1, none⟩ = some (.int .i64 a1))
   (c2 : w.cell? ⟨4, k * 8 + 2, none⟩ = some (.int .i64 a2))
   (c3 : w.cell? ⟨4, k * 8 + 3, none⟩ = some (.int .i64 a3))
   (c4 : w.cell? ⟨4, k * 8 + 4, none⟩ = some (.int .i64 a4))
   (c5 : w.cell? ⟨4, k * 8 + 5, none⟩ = some (.int .i64 a5))
   (c6 : w.cell? ⟨4, k * 8 + 6, none⟩ = some (.int .i64 a6))
   (c7 : w.cell? ⟨4, k * 8 + 7, none⟩ = some (.int .i64 a7))
   (h0 : 4 < w.heap.size) :
   Calls Tryz.prog 118 #[opV k nm tx n m] w fun e w' => e = .returned (.int .i64 (chkR a0 a1 a2 a3 a4 a5 a6 a7 nm.size tx.size n m)) ∧ Below w.heap.size w w' := by
 have A0 := fun o => cell_under (ba w o) h0 c0
 have A1 := fun o => cell_under (ba w o) h0 c1
 have A2 := fun o => cell_under (ba w o) h0 c2
 have A3 := fun o => cell_under (ba w o) h0 c3
 have A4 := fun o => cell_under (ba w o) h0 c4
 have A5 := fun o => cell_under (ba w o) h0 c5
 have A6 := fun o => cell_under (ba w o) h0 c6
 have A7 := fun o => cell_under (ba w o) h0 c7
 clear c0 c1 c2 c3 c4 c5 c6 c7 h0
 go_enter Tryz.func118, Tryz.ntmps118
 go_wp2_with fail
 refine (wrong_b _ _ _).mono ?_
 rintro e w1 ⟨x, H0, rfl, B⟩
 have T := hid ((Two.first w _ _).next B.out)
 clear B A0 A1 A2 A3 A4 A5 A6 A7
 have o1 : w1.cell? ⟨w.heap.size, 1, none⟩ = some ((.string nm)) := by rw [cell_at T.out.op]; rfl
 have o2 : w1.cell? ⟨w.heap.size, 2, none⟩ = some ((.string tx)) := by rw [cell_at T.out.op]; rfl
 have o3 : w1.cell? ⟨w.heap.size, 3, none⟩ = some ((.int .i64 n)) := by rw [cell_at T.out.op]; rfl
 have o4 : w1.cell? ⟨w.heap.size, 4, none⟩ = some ((.int .i64 m)) := by rw [cell_at T.out.op]; rfl
 have r0 : w1.cell? ⟨w.heap.size + 1, 0, none⟩ = some (.int .i64 a0) := by rw [cell_at T.out.row]; rfl
 have r1 : w1.cell? ⟨w.heap.size + 1, 1, none⟩ = some (.int .i64 a1) := by rw [cell_at T.out.row]; rfl
 have r2 : w1.cell? ⟨w.heap.size + 1, 2, none⟩ = some (.int .i64 a2) := by rw [cell_at T.out.row]; rfl
 have r3 : w1.cell? ⟨w.heap.size + 1, 3, none⟩ = some (.int .i64 a3) := by rw [cell_at T.out.row]; rfl
 have r4 : w1.cell? ⟨w.heap.size + 1, 4, none⟩ = some (.int .i64 a4) := by rw [cell_at T.out.row]; rfl
 have r5 : w1.cell? ⟨w.heap.size + 1, 5, none⟩ = some (.int .i64 a5) := by rw [cell_at T.out.row]; rfl
 have r6 : w1.cell? ⟨w.heap.size + 1, 6, none⟩ = some (.int .i64 a6) := by rw [cell_at T.out.row]; rfl
 have r7 : w1.cell? ⟨w.heap.size + 1, 7, none⟩ = some (.int .i64 a7) := by rw [cell_at T.out.row]; rfl
 cases x with
 | true =>
   go_wp2
   go_ret
   exact ⟨by simp [chkR, H0.out], T.out.below⟩
 | false =>
   go_wp2_with fail
   refine (wrong_b _ _ _).mono ?_
   rintro e w2 ⟨x, H1, rfl, B⟩
   have T := hid (T.out.next B.out)
   clear B o1 o2 o3 o4 r0 r1 r2 r3 r4 r5 r6 r7
   have o1 : w2.cell? ⟨w.heap.size, 1, none⟩ = some ((.string nm)) := by rw [cell_at T.out.op]; rfl
   have o2 : w2.cell? ⟨w.heap.size, 2, none⟩ = some ((.string tx)) := by rw [cell_at T.out.op]; rfl
   have o3 : w2.cell? ⟨w.heap.size, 3, none⟩ = some ((.int .i64 n)) := by rw [cell_at T.out.op]; rfl
   have o4 : w2.cell? ⟨w.heap.size, 4, none⟩ = some ((.int .i64 m)) := by rw [cell_at T.out.op]; rfl
   have r0 : w2.cell? ⟨w.heap.size + 1, 0, none⟩ = some (.int .i64 a0) := by rw [cell_at T.out.row]; rfl
   have r1 : w2.cell? ⟨w.heap.size + 1, 1, none⟩ = some (.int .i64 a1) := by rw [cell_at T.out.row]; rfl
   have r2 : w2.cell? ⟨w.heap.size + 1, 2, none⟩ = some (.int .i64 a2) := by rw [cell_at T.out.row]; rfl
   have r3 : w2.cell? ⟨w.heap.size + 1, 3, none⟩ = some (.int .i64 a3) := by rw [cell_at T.out.row]; rfl
   have r4 : w2.cell? ⟨w.heap.size + 1, 4, none⟩ = some (.int .i64 a4) := by rw [cell_at T.out.row]; rfl
   have r5 : w2.cell? ⟨w.heap.size + 1, 5, none⟩ = some (.int .i64 a5) := by rw [cell_at T.out.row]; rfl
   have r6 : w2.cell? ⟨w.heap.size + 1, 6, none⟩ = some (.int .i64 a6) := by rw [cell_at T.out.row]; rfl
   have r7 : w2.cell? ⟨w.heap.size + 1, 7, none⟩ = some (.int .i64 a7) := by rw [cell_at T.out.row]; rfl
   cases x with
   | true =>
     go_wp2
     go_ret
     exact ⟨by simp [chkR, H0.out, H1.out], T.out.below⟩
   | false =>
     go_wp2_with fail
     refine (wrong_b _ _ _).mono ?_
     rintro e w3 ⟨x, H2, rfl, B⟩
     have T := hid (T.out.next B.out)
     clear B o1 o2 o3 o4 r0 r1 r2 r3 r4 r5 r6 r7
     have o1 : w3.cell? ⟨w.heap.size, 1, none⟩ = some ((.string nm)) := by rw [cell_at T.out.op]; rfl
     have o2 : w3.cell? ⟨w.heap.size, 2, none⟩ = some ((.string tx)) := by rw [cell_at T.out.op]; rfl
     have o3 : w3.cell? ⟨w.heap.size, 3, none⟩ = some ((.int .i64 n)) := by rw [cell_at T.out.op]; rfl
     have o4 : w3.cell? ⟨w.heap.size, 4, none⟩ = some ((.int .i64 m)) := by rw [cell_at T.out.op]; rfl
     have r0 : w3.cell? ⟨w.heap.size + 1, 0, none⟩ = some (.int .i64 a0) := by rw [cell_at T.out.row]; rfl
     have r1 : w3.cell? ⟨w.heap.size + 1, 1, none⟩ = some (.int .i64 a1) := by rw [cell_at T.out.row]; rfl
     have r2 : w3.cell? ⟨w.heap.size + 1, 2, none⟩ = some (.int .i64 a2) := by rw [cell_at T.out.row]; rfl
     have r3 : w3.cell? ⟨w.heap.size + 1, 3, none⟩ = some (.int .i64 a3) := by rw [cell_at T.out.row]; rfl
     have r4 : w3.cell? ⟨w.heap.size + 1, 4, none⟩ = some (.int .i64 a4) := by rw [cell_at T.out.row]; rfl
     have r5 : w3.cell? ⟨w.heap.size + 1, 5, none⟩ = some (.int .i64 a5) := by rw [cell_at T.out.row]; rfl
     have r6 : w3.cell? ⟨w.heap.size + 1, 6, none⟩ = some (.int .i64 a6) := by rw [cell_at T.out.row]; rfl
     have r7 : w3.cell? ⟨w.heap.size + 1, 7, none⟩ = some (.int .i64 a7) := by rw [cell_at T.out.row]; rfl
     cases x with
     | true =>
       go_wp2
       go_ret
       exact ⟨by simp [chkR, H0.out, H1.out, H2.out], T.out.below⟩
     | false =>
       go_wp2_with fail
       refine (wrong_b _ _ _).mono ?_
       rintro e w4 ⟨x, H3, rfl, B⟩
       have T := hid (T.out.next B.out)
       clear B o1 o2 o3 o4 r0 r1 r2 r3 r4 r5 r6 r7
       have o1 : w4.cell? ⟨w.heap.size, 1, none⟩ = some ((.string nm)) := by rw [cell_at T.out.op]; rfl
       have o2 : w4.cell? ⟨w.heap.size, 2, none⟩ = some ((.string tx)) := by rw [cell_at T.out.op]; rfl
       have o3 : w4.cell? ⟨w.heap.size, 3, none⟩ = some ((.int .i64 n)) := by rw [cell_at T.out.op]; rfl
       have o4 : w4.cell? ⟨w.heap.size, 4, none⟩ = some ((.int .i64 m)) := by rw [cell_at T.out.op]; rfl
       have r0 : w4.cell? ⟨w.heap.size + 1, 0, none⟩ = some (.int .i64 a0) := by rw [cell_at T.out.row]; rfl
       have r1 : w4.cell? ⟨w.heap.size + 1, 1, none⟩ = some (.int .i64 a1) := by rw [cell_at T.out.row]; rfl
       have r2 : w4.cell? ⟨w.heap.size + 1, 2, none⟩ = some (.int .i64 a2) := by rw [cell_at T.out.row]; rfl
       have r3 : w4.cell? ⟨w.heap.size + 1, 3, none⟩ = some (.int .i64 a3) := by rw [cell_at T.out.row]; rfl
       have r4 : w4.cell? ⟨w.heap.size + 1, 4, none⟩ = some (.int .i64 a4) := by rw [cell_at T.out.row]; rfl
       have r5 : w4.cell? ⟨w.heap.size + 1, 5, none⟩ = some (.int .i64 a5) := by rw [cell_at T.out.row]; rfl
       have r6 : w4.cell? ⟨w.heap.size + 1, 6, none⟩ = some (.int .i64 a6) := by rw [cell_at T.out.row]; rfl
       have r7 : w4.cell? ⟨w.heap.size + 1, 7, none⟩ = some (.int .i64 a7) := by rw [cell_at T.out.row]; rfl
       cases x with
       | true =>
         go_wp2
         go_ret
         exact ⟨by simp [chkR, H0.out, H1.out, H2.out, H3.out], T.out.below⟩
       | false =>
         go_wp2_with fail
         refine (extra_b _ _ _).mono ?_
         rintro e w5 ⟨x, H4, rfl, B⟩
         have T := hid (T.out.next B.out)
         clear B o1 o2 o3 o4 r0 r1 r2 r3 r4 r5 r6 r7
         have o1 : w5.cell? ⟨w.heap.size, 1, none⟩ = some ((.string nm)) := by rw [cell_at T.out.op]; rfl
         have o2 : w5.cell? ⟨w.heap.size, 2, none⟩ = some ((.string tx)) := by rw [cell_at T.out.op]; rfl
         have o3 : w5.cell? ⟨w.heap.size, 3, none⟩ = some ((.int .i64 n)) := by rw [cell_at T.out.op]; rfl
         have o4 : w5.cell? ⟨w.heap.size, 4, none⟩ = some ((.int .i64 m)) := by rw [cell_at T.out.op]; rfl
         have r0 : w5.cell? ⟨w.heap.size + 1, 0, none⟩ = some (.int .i64 a0) := by rw [cell_at T.out.row]; rfl
         have r1 : w5.cell? ⟨w.heap.size + 1, 1, none⟩ = some (.int .i64 a1) := by rw [cell_at T.out.row]; rfl
         have r2 : w5.cell? ⟨w.heap.size + 1, 2, none⟩ = some (.int .i64 a2) := by rw [cell_at T.out.row]; rfl
         have r3 : w5.cell? ⟨w.heap.size + 1, 3, none⟩ = some (.int .i64 a3) := by rw [cell_at T.out.row]; rfl
         have r4 : w5.cell? ⟨w.heap.size + 1, 4, none⟩ = some (.int .i64 a4) := by rw [cell_at T.out.row]; rfl
         have r5 : w5.cell? ⟨w.heap.size + 1, 5, none⟩ = some (.int .i64 a5) := by rw [cell_at T.out.row]; rfl
         have r6 : w5.cell? ⟨w.heap.size + 1, 6, none⟩ = some (.int .i64 a6) := by rw [cell_at T.out.row]; rfl
         have r7 : w5.cell? ⟨w.heap.size + 1, 7, none⟩ = some (.int .i64 a7) := by rw [cell_at T.out.row]; rfl
         cases x with
         | true =>
           go_wp2
           go_ret
           exact ⟨by simp [chkR, H0.out, H1.out, H2.out, H3.out, H4.out], T.out.below⟩
         | false =>
           go_wp2_with fail
           refine (extra_b _ _ _).mono ?_
           rintro e w6 ⟨x, H5, rfl, B⟩
           have T := hid (T.out.next B.out)
           clear B o1 o2 o3 o4 r0 r1 r2 r3 r4 r5 r6 r7
           have o1 : w6.cell? ⟨w.heap.size, 1, none⟩ = some ((.string nm)) := by rw [cell_at T.out.op]; rfl
           have o2 : w6.cell? ⟨w.heap.size, 2, none⟩ = some ((.string tx)) := by rw [cell_at T.out.op]; rfl
           have o3 : w6.cell? ⟨w.heap.size, 3, none⟩ = some ((.int .i64 n)) := by rw [cell_at T.out.op]; rfl
           have o4 : w6.cell? ⟨w.heap.size, 4, none⟩ = some ((.int .i64 m)) := by rw [cell_at T.out.op]; rfl
           have r0 : w6.cell? ⟨w.heap.size + 1, 0, none⟩ = some (.int .i64 a0) := by rw [cell_at T.out.row]; rfl
           have r1 : w6.cell? ⟨w.heap.size + 1, 1, none⟩ = some (.int .i64 a1) := by rw [cell_at T.out.row]; rfl
           have r2 : w6.cell? ⟨w.heap.size + 1, 2, none⟩ = some (.int .i64 a2) := by rw [cell_at T.out.row]; rfl
           have r3 : w6.cell? ⟨w.heap.size + 1, 3, none⟩ = some (.int .i64 a3) := by rw [cell_at T.out.row]; rfl
           have r4 : w6.cell? ⟨w.heap.size + 1, 4, none⟩ = some (.int .i64 a4) := by rw [cell_at T.out.row]; rfl
           have r5 : w6.cell? ⟨w.heap.size + 1, 5, none⟩ = some (.int .i64 a5) := by rw [cell_at T.out.row]; rfl
           have r6 : w6.cell? ⟨w.heap.size + 1, 6, none⟩ = some (.int .i64 a6) := by rw [cell_at T.out.row]; rfl
           have r7 : w6.cell? ⟨w.heap.size + 1, 7, none⟩ = some (.int .i64 a7) := by rw [cell_at T.out.row]; rfl
           cases x with
           | true =>
             go_wp2
             go_ret
             exact ⟨by simp [chkR, H0.out, H1.out, H2.out, H3.out, H4.out, H5.out], T.out.below⟩
           | false =>
             go_wp2_with fail
             refine (extra_b _ _ _).mono ?_
             rintro e w7 ⟨x, H6, rfl, B⟩
             have T := hid (T.out.next B.out)
             clear B o1 o2 o3 o4 r0 r1 r2 r3 r4 r5 r6 r7
             have o1 : w7.cell? ⟨w.heap.size, 1, none⟩ = some ((.string nm)) := by rw [cell_at T.out.op]; rfl
             have o2 : w7.cell? ⟨w.heap.size, 2, none⟩ = some ((.string tx)) := by rw [cell_at T.out.op]; rfl
             have o3 : w7.cell? ⟨w.heap.size, 3, none⟩ = some ((.int .i64 n)) := by rw [cell_at T.out.op]; rfl
             have o4 : w7.cell? ⟨w.heap.size, 4, none⟩ = some ((.int .i64 m)) := by rw [cell_at T.out.op]; rfl
             have r0 : w7.cell? ⟨w.heap.size + 1, 0, none⟩ = some (.int .i64 a0) := by rw [cell_at T.out.row]; rfl
             have r1 : w7.cell? ⟨w.heap.size + 1, 1, none⟩ = some (.int .i64 a1) := by rw [cell_at T.out.row]; rfl
             have r2 : w7.cell? ⟨w.heap.size + 1, 2, none⟩ = some (.int .i64 a2) := by rw [cell_at T.out.row]; rfl
             have r3 : w7.cell? ⟨w.heap.size + 1, 3, none⟩ = some (.int .i64 a3) := by rw [cell_at T.out.row]; rfl
             have r4 : w7.cell? ⟨w.heap.size + 1, 4, none⟩ = some (.int .i64 a4) := by rw [cell_at T.out.row]; rfl
             have r5 : w7.cell? ⟨w.heap.size + 1, 5, none⟩ = some (.int .i64 a5) := by rw [cell_at T.out.row]; rfl
             have r6 : w7.cell? ⟨w.heap.size + 1, 6, none⟩ = some (.int .i64 a6) := by rw [cell_at T.out.row]; rfl
             have r7 : w7.cell? ⟨w.heap.size + 1, 7, none⟩ = some (.int .i64 a7) := by rw [cell_at T.out.row]; rfl
             cases x with
             | true =>
               go_wp2
               go_ret
               exact ⟨by simp [chkR, H0.out, H1.out, H2.out, H3.out, H4.out, H5.out, H6.out], T.out.below⟩
             | false =>
               go_wp2_with fail
               refine (extra_b _ _ _).mono ?_
               rintro e w8 ⟨x, H7, rfl, B⟩
               have T := hid (T.out.next B.out)
               clear B o1 o2 o3 o4 r0 r1 r2 r3 r4 r5 r6 r7
               have o1 : w8.cell? ⟨w.heap.size, 1, none⟩ = some ((.string nm)) := by rw [cell_at T.out.op]; rfl
               have o2 : w8.cell? ⟨w.heap.size, 2, none⟩ = some ((.string tx)) := by rw [cell_at T.out.op]; rfl
               have o3 : w8.cell? ⟨w.heap.size, 3, none⟩ = some ((.int .i64 n)) := by rw [cell_at T.out.op]; rfl
               have o4 : w8.cell? ⟨w.heap.size, 4, none⟩ = some ((.int .i64 m)) := by rw [cell_at T.out.op]; rfl
               have r0 : w8.cell? ⟨w.heap.size + 1, 0, none⟩ = some (.int .i64 a0) := by rw [cell_at T.out.row]; rfl
               have r1 : w8.cell? ⟨w.heap.size + 1, 1, none⟩ = some (.int .i64 a1) := by rw [cell_at T.out.row]; rfl
               have r2 : w8.cell? ⟨w.heap.size + 1, 2, none⟩ = some (.int .i64 a2) := by rw [cell_at T.out.row]; rfl
               have r3 : w8.cell? ⟨w.heap.size + 1, 3, none⟩ = some (.int .i64 a3) := by rw [cell_at T.out.row]; rfl
               have r4 : w8.cell? ⟨w.heap.size + 1, 4, none⟩ = some (.int .i64 a4) := by rw [cell_at T.out.row]; rfl
               have r5 : w8.cell? ⟨w.heap.size + 1, 5, none⟩ = some (.int .i64 a5) := by rw [cell_at T.out.row]; rfl
               have r6 : w8.cell? ⟨w.heap.size + 1, 6, none⟩ = some (.int .i64 a6) := by rw [cell_at T.out.row]; rfl
               have r7 : w8.cell? ⟨w.heap.size + 1, 7, none⟩ = some (.int .i64 a7) := by rw [cell_at T.out.row]; rfl
               cases x with
               | true =>
                 go_wp2
                 go_ret
                 exact ⟨by simp [chkR, H0.out, H1.out, H2.out, H3.out, H4.out, H5.out, H6.out, H7.out], T.out.below⟩
               | false =>
                 go_wp2
                 go_ret
                 exact ⟨by simp [chkR, H0.out, H1.out, H2.out, H3.out, H4.out, H5.out, H6.out, H7.out], T.out.below⟩
set_option linter.unusedVariables false
set_option maxRecDepth 1000000
def chkT (k : Nat) (s t n m : Int) : Int := chkR (formN.getD (k * 8) 0) (formN.getD (k * 8 + 1) 0) (formN.getD (k * 8 + 2) 0) (formN.getD (k * 8 + 3) 0) (formN.getD (k * 8 + 4) 0) (formN.getD (k * 8 + 5) 0) (formN.getD (k * 8 + 6) 0) (formN.getD (k * 8 + 7) 0) s t n m
theorem check_tab {w : World} (h : Tab w) (k : Nat) (h1 : 1 ≤ k) (h8 : k ≤ 8) (nm tx : ByteArray) (n m : Int) : Calls Tryz.prog 118 #[opV k nm tx n m] w fun e w' => e = .returned (.int .i64 (chkT k nm.size tx.size n m)) ∧ Below w.heap.size w w' :=
 check_row k h1 h8 nm tx n m _ _ _ _ _ _ _ _ (h.cell _ (by omega)) (h.cell _ (by omega)) (h.cell _ (by omega)) (h.cell _ (by omega)) (h.cell _ (by omega)) (h.cell _ (by omega)) (h.cell _ (by omega)) (h.cell _ (by omega)) h.lt
def chkA (k : Int) (s t n m : Int) : Int := if k < 1 ∨ 8 < k then 50 else chkT k.toNat s t n m
theorem chkA_in {k : Int} (h1 : 1 ≤ k) (h8 : k ≤ 8) (s t n m : Int) : chkA k s t n m = chkT k.toNat s t n m := by unfold chkA; rw [if_neg (by omega)]
theorem chkA_out {k : Int} (h : k < 1 ∨ 8 < k) (s t n m : Int) : chkA k s t n m = 50 := by unfold chkA; rw [if_pos h]
theorem check_out {w : World} {k : Int} (h : k < 1 ∨ 8 < k) (nm tx : ByteArray) (n m : Int) : Calls Tryz.prog 118 #[opV k nm tx n m] w fun e w' => e = .returned (.int .i64 50) ∧ Below w.heap.size w w' := by
 by_cases h1 : k < 1
 · have e1 : decide (k < 1) = true := by simpa using h1
   clear h
   go_enter Tryz.func118, Tryz.ntmps118
   go_wp2
   go_ret
   exact ⟨rfl, ba _ _⟩
 · have e1 : decide (k < 1) = false := by simpa using h1
   have e2 : decide (8 < k) = true := by simp; omega
   clear h
   go_enter Tryz.func118, Tryz.ntmps118
   go_wp2
   go_ret
   exact ⟨rfl, ba _ _⟩
theorem check_any {w : World} (hT : Tab w) (k : Int) (nm tx : ByteArray) (n m : Int) : Calls Tryz.prog 118 #[opV k nm tx n m] w fun e w' => e = .returned (.int .i64 (chkA k nm.size tx.size n m)) ∧ Below w.heap.size w w' := by
 by_cases h : k < 1 ∨ 8 < k
 · rw [chkA_out h]
   exact check_out h nm tx n m
 · rw [chkA_in (by omega) (by omega)]
   have := check_tab hT k.toNat (by omega) (by omega) nm tx n m
   rw [show ((k.toNat : Nat) : Int) = k by omega] at this
   exact this
end Go.Proofs.YtfeppannfcbakaaGreatDoor

namespace Go.Proofs.YtfeppannfcbakaaGreatDoor
def decN : Nat → List UInt8 → Option Nat
 | acc, [] => some acc
 | acc, c :: r => if 48 ≤ c.toNat ∧ c.toNat ≤ 57 then (if 10 * acc + (c.toNat - 48) ≤ 9223372036854775807 then decN (10 * acc + (c.toNat - 48)) r else none) else none
def numW (l : List UInt8) : Option Nat := if l = [] ∨ (1 < l.length ∧ l.head? = some 48) then none else decN 0 l
theorem decN_append (a b : List UInt8) : ∀ acc, decN acc (a ++ b) = (decN acc a).bind fun x => decN x b := by
 induction a with
 | nil => intro acc; simp [decN]
 | cons c r ih =>
   intro acc
   simp only [List.cons_append, decN]
   split
   · split
     · exact ih _
     · rfl
   · rfl
theorem toNat_dig {d : Nat} (h : d < 10) : (UInt8.ofNat (48 + d)).toNat = 48 + d := by simp; omega
theorem decN_one {acc d : Nat} (hd : d < 10) (h : 10 * acc + d ≤ 9223372036854775807) : decN acc [UInt8.ofNat (48 + d)] = some (10 * acc + d) := by
 simp only [decN]
 rw [toNat_dig hd, if_pos ⟨by omega, by omega⟩, if_pos (by omega)]
 congr 1
 omega
theorem decN_digits : ∀ v : Nat, v ≤ 9223372036854775807 → decN 0 (Lib.decDigits v) = some v := by
 intro v
 induction v using Nat.strongRecOn with
 | _ v ih =>
   intro hv
   rw [Lib.decDigits]
   split
   · rename_i h
     rw [decN_one h (by omega)]
     simp
   · rename_i h
     rw [decN_append, ih (v / 10) (by omega) (by omega), Option.bind_some, decN_one (by omega) (by omega)]
     congr 1
     omega
theorem digits_ne (v : Nat) : Lib.decDigits v ≠ [] := by
 rw [Lib.decDigits]
 split <;> simp
theorem digits_head : ∀ v : Nat, 1 ≤ v → (Lib.decDigits v).head? ≠ some 48 := by
 intro v
 induction v using Nat.strongRecOn with
 | _ v ih =>
   intro hv
   rw [Lib.decDigits]
   split
   · rename_i h
     simp only [List.head?_cons, ne_eq, Option.some.injEq]
     intro e
     have := congrArg UInt8.toNat e
     rw [toNat_dig h] at this
     simp at this
     omega
   · rename_i h
     have := ih (v / 10) (by omega) (by omega)
     cases hd : Lib.decDigits (v / 10) with
     | nil => exact absurd hd (digits_ne _)
     | cons a b => rw [hd] at this; simpa using this
theorem digits_long {v : Nat} (h : 1 < (Lib.decDigits v).length) : 1 ≤ v := by
 apply Classical.byContradiction
 intro hn
 have : v = 0 := by omega
 subst this
 rw [Lib.decDigits] at h
 simp at h
theorem digits_len : ∀ (k v : Nat), v < 10 ^ (k + 1) → (Lib.decDigits v).length ≤ k + 1
 | 0, v, h => by rw [Lib.decDigits, dif_pos (by simpa using h)]; simp
 | k + 1, v, h => by
   rw [Lib.decDigits]
   split
   · simp
   · rw [List.length_append]
     have := digits_len k (v / 10) (by rw [Nat.pow_succ] at h; omega)
     simp only [List.length_cons, List.length_nil]
     omega
theorem digits_short {v : Nat} (h : v ≤ 9223372036854775807) : (Lib.decDigits v).length ≤ 19 := digits_len 18 v (by omega)
theorem numW_digits {v : Nat} (h : v ≤ 9223372036854775807) : numW (Lib.decDigits v) = some v := by
 unfold numW
 rw [if_neg]
 · exact decN_digits v h
 · rintro (e | ⟨h1, h2⟩)
   · exact digits_ne _ e
   · exact digits_head v (digits_long h1) h2
theorem decN_le : ∀ {l : List UInt8} {acc v : Nat}, acc ≤ 9223372036854775807 → decN acc l = some v → v ≤ 9223372036854775807
 | [], acc, v, ha, h => by simp only [decN, Option.some.injEq] at h; omega
 | c :: r, acc, v, ha, h => by
   simp only [decN] at h
   split at h
   · split at h
     · exact decN_le (by assumption) h
     · simp at h
   · simp at h
theorem numW_le {l : List UInt8} {v : Nat} (h : numW l = some v) : v ≤ 9223372036854775807 := by
 unfold numW at h
 split at h
 · simp at h
 · exact decN_le (by omega) h
theorem byte_of (c : UInt8) (h : 48 ≤ c.toNat) : UInt8.ofNat (48 + (c.toNat - 48)) = c := by
 rw [show 48 + (c.toNat - 48) = c.toNat by omega]
 simp
theorem snoc_cases (l : List UInt8) : l = [] ∨ ∃ m c, l = m ++ [c] := by
 rcases List.eq_nil_or_concat l with h | ⟨m, c, h⟩
 · exact Or.inl h
 · exact Or.inr ⟨m, c, by rw [h, List.concat_eq_append]⟩
theorem digits_of : ∀ (n : Nat) (l : List UInt8) (v : Nat), l.length = n → numW l = some v → l = Lib.decDigits v := by
 intro n
 induction n with
 | zero =>
   intro l v hl h
   have : l = [] := List.eq_nil_of_length_eq_zero hl
   subst this
   simp [numW] at h
 | succ n ih =>
   intro l v hl h
   rcases snoc_cases l with rfl | ⟨m, c, rfl⟩
   · simp at hl
   unfold numW at h
   split at h
   · simp at h
   rename_i hno
   rw [decN_append] at h
   cases hm : decN 0 m with
   | none => rw [hm] at h; simp at h
   | some u =>
     rw [hm, Option.bind_some] at h
     simp only [decN] at h
     split at h
     · rename_i hc
       split at h
       · rename_i hle
         simp only [Option.some.injEq] at h
         subst h
         by_cases hm0 : m = []
         · subst hm0
           simp only [decN, Option.some.injEq] at hm
           subst hm
           rw [Lib.decDigits, dif_pos (by omega)]
           simp only [List.nil_append, Nat.mul_zero, Nat.zero_add]
           rw [byte_of c hc.1]
         · have hml : 1 ≤ m.length := List.length_pos_iff.2 hm0
           have hh : m.head? = (m ++ [c]).head? := by
             cases m with
             | nil => exact absurd rfl hm0
             | cons a b => rfl
           have hnh : m.head? ≠ some 48 := by
             intro e
             exact hno (Or.inr ⟨by simp; omega, by rw [← hh]; exact e⟩)
           have hnm : numW m = some u := by
             unfold numW
             rw [if_neg (by rintro (e | ⟨_, e⟩); exact hm0 e; exact hnh e)]
             exact hm
           have hmd := ih m u (by simp at hl; omega) hnm
           have hu : 1 ≤ u := by
             apply Classical.byContradiction
             intro hn
             have : u = 0 := by omega
             subst this
             rw [Lib.decDigits, dif_pos (by omega)] at hmd
             rw [hmd] at hnh
             exact hnh rfl
           have h10 : ¬ (10 * u + (c.toNat - 48)) < 10 := by omega
           rw [Lib.decDigits, dif_neg h10, show (10 * u + (c.toNat - 48)) / 10 = u by omega, ← hmd, show (10 * u + (c.toNat - 48)) % 10 = c.toNat - 48 by omega, byte_of c hc.1]
       · simp at h
     · simp at h
theorem numW_spelt {l : List UInt8} {v : Nat} (h : numW l = some v) : l = Lib.decDigits v := digits_of _ l v rfl h
theorem parse_of : ∀ {l : List UInt8} {acc v : Nat}, decN acc l = some v → Lib.parseUint10 acc l = .ok v
 | [], acc, v, h => by simp only [decN, Option.some.injEq] at h; rw [Lib.parseUint10, h]
 | c :: r, acc, v, h => by
   simp only [decN] at h
   split at h
   · rename_i hc
     split at h
     · rename_i hle
       simp only [Lib.parseUint10]
       rw [if_pos hc, if_neg (by omega), if_neg (by omega), show acc * 10 = 10 * acc by omega]
       exact parse_of h
     · simp at h
   · simp at h
theorem atoi_of {l : List UInt8} {v : Nat} (h : numW l = some v) : Lib.atoiAll l = .ok (v : Int) := by
 have hle := numW_le h
 unfold numW at h
 split at h
 · simp at h
 rename_i hno
 cases l with
 | nil => exact absurd (Or.inl rfl) hno
 | cons c r =>
   have hp := parse_of h
   simp only [decN] at h
   split at h
   · rename_i hc
     unfold Lib.atoiAll
     simp only
     rw [if_neg (by omega), Lib.parseMag, if_neg (by simp), hp]
     simp only
     rw [if_neg (by omega), if_neg (by omega), if_neg (by omega)]
   · simp at h
theorem numW_none {l : List UInt8} (h : numW l = none) {v : Int} (hv : v ≤ 9223372036854775807) (h0 : 0 ≤ v) : Lib.itoa v ≠ l := by
 intro e
 unfold Lib.itoa at e
 rw [if_neg (by omega)] at e
 rw [← e, numW_digits (by omega)] at h
 simp at h
end Go.Proofs.YtfeppannfcbakaaGreatDoor

/- strconv.Atoi and Itoa at this program: which number is which. -/
namespace Go.Proofs
open Go.Shelf
def Tryz.laysM171_ren : Go.Shelf.Ren := ⟨fun | 171 => 46 | 243 => 79 | 246 => 113 | 283 => 137 | 284 => 138 | 285 => 139 | 286 => 140 | 129 => 154 | 317 => 153 | 318 => 155 | 319 => 156 | 320 => 157 | 337 => 172 | 338 => 173 | n => n, fun | 3 => 3 | 9 => 9 | 2 => 2 | 4 => 4 | 171 => 188 | 0 => 0 | 53 => 189 | 37 => 32 | 5 => 5 | 173 => 192 | 212 => 204 | 51 => 205 | 20 => 20 | 213 => 206 | 46 => 169 | 232 => 230 | 233 => 231 | n => n, fun | 17 => 5 | 18 => 11 | 19 => 12 | n => n⟩
theorem Tryz.laysM171 : Go.Proofs.LaysM.n171 Tryz.prog Tryz.laysM171_ren := {
  mixed := by kernel_rfl
  f129 := Tryz.func154.trans (congrArg some (by kernel_rfl))
  f171 := Tryz.func46.trans (congrArg some (by kernel_rfl))
  f243 := Tryz.func79.trans (congrArg some (by kernel_rfl))
  f246 := Tryz.func113.trans (congrArg some (by kernel_rfl))
  f283 := Tryz.func137.trans (congrArg some (by kernel_rfl))
  f284 := Tryz.func138.trans (congrArg some (by kernel_rfl))
  f285 := Tryz.func139.trans (congrArg some (by kernel_rfl))
  f286 := Tryz.func140.trans (congrArg some (by kernel_rfl))
  f317 := Tryz.func153.trans (congrArg some (by kernel_rfl))
  f318 := Tryz.func155.trans (congrArg some (by kernel_rfl))
  f319 := Tryz.func156.trans (congrArg some (by kernel_rfl))
  f320 := Tryz.func157.trans (congrArg some (by kernel_rfl))
  f337 := Tryz.func172.trans (congrArg some (by kernel_rfl))
  f338 := Tryz.func173.trans (congrArg some (by kernel_rfl))
  t0 := Tryz.underlying0
  a0 := Tryz.isAgg0
  z0 := Tryz.sizeOf0
  v0 := Tryz.zeroValue0
  t2 := Tryz.underlying2
  a2 := Tryz.isAgg2
  z2 := Tryz.sizeOf2
  v2 := Tryz.zeroValue2
  t3 := Tryz.underlying3
  a3 := Tryz.isAgg3
  z3 := Tryz.sizeOf3
  v3 := Tryz.zeroValue3
  t4 := Tryz.underlying4
  a4 := Tryz.isAgg4
  z4 := Tryz.sizeOf4
  v4 := Tryz.zeroValue4
  t5 := Tryz.underlying5
  a5 := Tryz.isAgg5
  z5 := Tryz.sizeOf5
  v5 := Tryz.zeroValue5
  t9 := Tryz.underlying9
  a9 := Tryz.isAgg9
  z9 := Tryz.sizeOf9
  v9 := Tryz.zeroValue9
  t20 := Tryz.underlying20
  a20 := Tryz.isAgg20
  z20 := Tryz.sizeOf20
  v20 := Tryz.zeroValue20
  t37 := Tryz.underlying32
  a37 := Tryz.isAgg32
  z37 := Tryz.sizeOf32
  v37 := Tryz.zeroValue32
  t46 := Tryz.underlying169
  a46 := Tryz.isAgg169
  z46 := Tryz.sizeOf169
  v46 := Tryz.zeroValue169
  t51 := Tryz.underlying205
  a51 := Tryz.isAgg205
  z51 := Tryz.sizeOf205
  v51 := Tryz.zeroValue205
  t53 := Tryz.underlying189
  a53 := Tryz.isAgg189
  z53 := Tryz.sizeOf189
  v53 := Tryz.zeroValue189
  t171 := Tryz.underlying188
  a171 := Tryz.isAgg188
  z171 := Tryz.sizeOf188
  v171 := Tryz.zeroValue188
  t173 := Tryz.underlying192
  a173 := Tryz.isAgg192
  z173 := Tryz.sizeOf192
  v173 := Tryz.zeroValue192
  t212 := Tryz.underlying204
  a212 := Tryz.isAgg204
  z212 := Tryz.sizeOf204
  v212 := Tryz.zeroValue204
  t213 := Tryz.underlying206
  a213 := Tryz.isAgg206
  z213 := Tryz.sizeOf206
  t232 := Tryz.underlying230
  a232 := Tryz.isAgg230
  z232 := Tryz.sizeOf230
  v232 := Tryz.zeroValue230
  t233 := Tryz.underlying231
  a233 := Tryz.isAgg231
  z233 := Tryz.sizeOf231
  v233 := Tryz.zeroValue231
  g17 := by kernel_rfl
  g18 := by kernel_rfl
  g19 := by kernel_rfl
  i0 := by kernel_rfl
  i2 := by kernel_rfl
  i3 := by kernel_rfl
  i4 := by kernel_rfl
  i5 := by kernel_rfl
  i9 := by kernel_rfl
  i20 := by kernel_rfl
  i37 := by kernel_rfl
  i46 := by kernel_rfl
  i51 := by kernel_rfl
  i53 := by kernel_rfl
  i171 := by kernel_rfl
  i173 := by kernel_rfl
  i212 := by kernel_rfl
  i232 := by kernel_rfl
  i233 := by kernel_rfl
  m17 := by kernel_rfl
  m18 := by kernel_rfl
  m19 := by kernel_rfl }
def Tryz.laysC172_ren : Go.Shelf.Ren := ⟨fun | 172 => 117 | 244 => 143 | 245 => 144 | 247 => 161 | 279 => 162 | 280 => 163 | 281 => 164 | 282 => 165 | 287 => 175 | 316 => 176 | 171 => 46 | 205 => 177 | 321 => 180 | 322 => 181 | 243 => 79 | 246 => 113 | 283 => 137 | 284 => 138 | 285 => 139 | 286 => 140 | 129 => 154 | 317 => 153 | 318 => 155 | 319 => 156 | 320 => 157 | 337 => 172 | 338 => 173 | n => n, fun | 9 => 9 | 3 => 3 | 75 => 108 | 76 => 146 | 4 => 4 | 5 => 5 | 167 => 212 | 37 => 32 | 0 => 0 | 85 => 213 | 2 => 2 | 168 => 215 | 53 => 189 | 175 => 222 | 46 => 169 | 210 => 225 | 127 => 149 | 145 => 235 | 143 => 233 | 21 => 21 | 171 => 188 | 173 => 192 | 212 => 204 | 51 => 205 | 20 => 20 | 213 => 206 | 232 => 230 | 233 => 231 | 80 => 111 | n => n, fun | 15 => 9 | 16 => 10 | 17 => 5 | 18 => 11 | 19 => 12 | n => n⟩
theorem Tryz.laysC172 : Go.Proofs.LaysC.n172 Tryz.prog Tryz.laysC172_ren := {
  mixed := by kernel_rfl
  f129 := Tryz.func154.trans (congrArg some (by kernel_rfl))
  f171 := Tryz.func46.trans (congrArg some (by kernel_rfl))
  f172 := Tryz.func117.trans (congrArg some (by kernel_rfl))
  f205 := Tryz.func177.trans (congrArg some (by kernel_rfl))
  f243 := Tryz.func79.trans (congrArg some (by kernel_rfl))
  f244 := Tryz.func143.trans (congrArg some (by kernel_rfl))
  f245 := Tryz.func144.trans (congrArg some (by kernel_rfl))
  f246 := Tryz.func113.trans (congrArg some (by kernel_rfl))
  f247 := Tryz.func161.trans (congrArg some (by kernel_rfl))
  f279 := Tryz.func162.trans (congrArg some (by kernel_rfl))
  f280 := Tryz.func163.trans (congrArg some (by kernel_rfl))
  f281 := Tryz.func164.trans (congrArg some (by kernel_rfl))
  f282 := Tryz.func165.trans (congrArg some (by kernel_rfl))
  f283 := Tryz.func137.trans (congrArg some (by kernel_rfl))
  f284 := Tryz.func138.trans (congrArg some (by kernel_rfl))
  f285 := Tryz.func139.trans (congrArg some (by kernel_rfl))
  f286 := Tryz.func140.trans (congrArg some (by kernel_rfl))
  f287 := Tryz.func175.trans (congrArg some (by kernel_rfl))
  f316 := Tryz.func176.trans (congrArg some (by kernel_rfl))
  f317 := Tryz.func153.trans (congrArg some (by kernel_rfl))
  f318 := Tryz.func155.trans (congrArg some (by kernel_rfl))
  f319 := Tryz.func156.trans (congrArg some (by kernel_rfl))
  f320 := Tryz.func157.trans (congrArg some (by kernel_rfl))
  f321 := Tryz.func180.trans (congrArg some (by kernel_rfl))
  f322 := Tryz.func181.trans (congrArg some (by kernel_rfl))
  f337 := Tryz.func172.trans (congrArg some (by kernel_rfl))
  f338 := Tryz.func173.trans (congrArg some (by kernel_rfl))
  t0 := Tryz.underlying0
  a0 := Tryz.isAgg0
  z0 := Tryz.sizeOf0
  v0 := Tryz.zeroValue0
  t2 := Tryz.underlying2
  a2 := Tryz.isAgg2
  z2 := Tryz.sizeOf2
  v2 := Tryz.zeroValue2
  t3 := Tryz.underlying3
  a3 := Tryz.isAgg3
  z3 := Tryz.sizeOf3
  v3 := Tryz.zeroValue3
  t4 := Tryz.underlying4
  a4 := Tryz.isAgg4
  z4 := Tryz.sizeOf4
  v4 := Tryz.zeroValue4
  t5 := Tryz.underlying5
  a5 := Tryz.isAgg5
  z5 := Tryz.sizeOf5
  v5 := Tryz.zeroValue5
  t9 := Tryz.underlying9
  a9 := Tryz.isAgg9
  z9 := Tryz.sizeOf9
  v9 := Tryz.zeroValue9
  t20 := Tryz.underlying20
  a20 := Tryz.isAgg20
  z20 := Tryz.sizeOf20
  v20 := Tryz.zeroValue20
  t21 := Tryz.underlying21
  a21 := Tryz.isAgg21
  z21 := Tryz.sizeOf21
  v21 := Tryz.zeroValue21
  t37 := Tryz.underlying32
  a37 := Tryz.isAgg32
  z37 := Tryz.sizeOf32
  v37 := Tryz.zeroValue32
  t46 := Tryz.underlying169
  a46 := Tryz.isAgg169
  z46 := Tryz.sizeOf169
  v46 := Tryz.zeroValue169
  t51 := Tryz.underlying205
  a51 := Tryz.isAgg205
  z51 := Tryz.sizeOf205
  v51 := Tryz.zeroValue205
  t53 := Tryz.underlying189
  a53 := Tryz.isAgg189
  z53 := Tryz.sizeOf189
  v53 := Tryz.zeroValue189
  t75 := Tryz.underlying108
  a75 := Tryz.isAgg108
  z75 := Tryz.sizeOf108
  v75 := Tryz.zeroValue108
  t76 := Tryz.underlying146
  a76 := Tryz.isAgg146
  z76 := Tryz.sizeOf146
  v76 := Tryz.zeroValue146
  t85 := Tryz.underlying213
  a85 := Tryz.isAgg213
  z85 := Tryz.sizeOf213
  v85 := Tryz.zeroValue213
  t127 := Tryz.underlying149
  a127 := Tryz.isAgg149
  z127 := Tryz.sizeOf149
  v127 := Tryz.zeroValue149
  t143 := Tryz.underlying233
  a143 := Tryz.isAgg233
  z143 := Tryz.sizeOf233
  v143 := Tryz.zeroValue233
  t145 := Tryz.underlying235
  a145 := Tryz.isAgg235
  z145 := Tryz.sizeOf235
  v145 := Tryz.zeroValue235
  t167 := Tryz.underlying212
  a167 := Tryz.isAgg212
  z167 := Tryz.sizeOf212
  v167 := Tryz.zeroValue212
  t168 := Tryz.underlying215
  a168 := Tryz.isAgg215
  z168 := Tryz.sizeOf215
  v168 := Tryz.zeroValue215
  t171 := Tryz.underlying188
  a171 := Tryz.isAgg188
  z171 := Tryz.sizeOf188
  v171 := Tryz.zeroValue188
  t173 := Tryz.underlying192
  a173 := Tryz.isAgg192
  z173 := Tryz.sizeOf192
  v173 := Tryz.zeroValue192
  t175 := Tryz.underlying222
  a175 := Tryz.isAgg222
  z175 := Tryz.sizeOf222
  v175 := Tryz.zeroValue222
  t210 := Tryz.underlying225
  a210 := Tryz.isAgg225
  z210 := Tryz.sizeOf225
  v210 := Tryz.zeroValue225
  t212 := Tryz.underlying204
  a212 := Tryz.isAgg204
  z212 := Tryz.sizeOf204
  v212 := Tryz.zeroValue204
  t213 := Tryz.underlying206
  a213 := Tryz.isAgg206
  z213 := Tryz.sizeOf206
  t232 := Tryz.underlying230
  a232 := Tryz.isAgg230
  z232 := Tryz.sizeOf230
  v232 := Tryz.zeroValue230
  t233 := Tryz.underlying231
  a233 := Tryz.isAgg231
  z233 := Tryz.sizeOf231
  v233 := Tryz.zeroValue231
  g15 := by kernel_rfl
  g16 := by kernel_rfl
  g17 := by kernel_rfl
  g18 := by kernel_rfl
  g19 := by kernel_rfl
  t80 := Tryz.underlying111
  a80 := Tryz.isAgg111
  z80 := Tryz.sizeOf111
  v80 := Tryz.zeroValue111
  i0 := by kernel_rfl
  i2 := by kernel_rfl
  i3 := by kernel_rfl
  i4 := by kernel_rfl
  i5 := by kernel_rfl
  i9 := by kernel_rfl
  i20 := by kernel_rfl
  i21 := by kernel_rfl
  i37 := by kernel_rfl
  i46 := by kernel_rfl
  i51 := by kernel_rfl
  i53 := by kernel_rfl
  i75 := by kernel_rfl
  i76 := by kernel_rfl
  i80 := by kernel_rfl
  i85 := by kernel_rfl
  i127 := by kernel_rfl
  i143 := by kernel_rfl
  i145 := by kernel_rfl
  i167 := by kernel_rfl
  i168 := by kernel_rfl
  i171 := by kernel_rfl
  i173 := by kernel_rfl
  i175 := by kernel_rfl
  i210 := by kernel_rfl
  i212 := by kernel_rfl
  i232 := by kernel_rfl
  i233 := by kernel_rfl
  m15 := by kernel_rfl
  m16 := by kernel_rfl
  m17 := by kernel_rfl
  m18 := by kernel_rfl
  m19 := by kernel_rfl
  c0 := by kernel_rfl
  c2 := by kernel_rfl
  c3 := by kernel_rfl
  c4 := by kernel_rfl
  c5 := by kernel_rfl
  c9 := by kernel_rfl
  c20 := by kernel_rfl
  c21 := by kernel_rfl
  c37 := by kernel_rfl
  c46 := by kernel_rfl
  c51 := by kernel_rfl
  c53 := by kernel_rfl
  c75 := by kernel_rfl
  c76 := by kernel_rfl
  c80 := by kernel_rfl
  c85 := by kernel_rfl
  c127 := by kernel_rfl
  c143 := by kernel_rfl
  c145 := by kernel_rfl
  c167 := by kernel_rfl
  c168 := by kernel_rfl
  c171 := by kernel_rfl
  c173 := by kernel_rfl
  c175 := by kernel_rfl
  c210 := by kernel_rfl
  c212 := by kernel_rfl
  c213 := by kernel_rfl
  c232 := by kernel_rfl
  c233 := by kernel_rfl }
end Go.Proofs

namespace Go.Proofs.YtfeppannfcbakaaGreatDoor
open Go.RowKit
set_option linter.unusedVariables false
set_option maxRecDepth 1000000
set_option maxHeartbeats 1000000
structure Vars (w : World) : Prop where
 es : ∃ tp p, w.var? Tryz.prog "strconv.ErrSyntax" = some #[.iface tp p]
 er : ∃ tp p, w.var? Tryz.prog "strconv.ErrRange" = some #[.iface tp p]
 pw : Lib.TabIs Tryz.prog w "internal/strconv.uint64pow10" .u64 Lib.pow10Tab
theorem var_later {w w' : World} (hb : Below w.heap.size w w') {n : String} {cs : Array Value} (h : w.var? Tryz.prog n = some cs) : w'.var? Tryz.prog n = some cs := by
 unfold World.var? at h ⊢
 cases hg : Tryz.prog.globalNamed n with
 | none => rw [hg] at h; simp at h
 | some g =>
   rw [hg] at h
   simp only [Option.bind_some] at h ⊢
   by_cases hlt : g < w.heap.size
   · rw [hb.block g hlt]; exact h
   · rw [Array.getElem?_eq_none (by omega)] at h; simp at h
theorem Vars.later {w w' : World} (h : Vars w) (hb : Below w.heap.size w w') : Vars w' := by
 obtain ⟨⟨t1, p1, h1⟩, ⟨t2, p2, h2⟩, h3⟩ := h
 exact ⟨⟨t1, p1, var_later hb h1⟩, ⟨t2, p2, var_later hb h2⟩, var_later hb h3⟩
theorem grow_bel (w : World) (k : Nat) (os : Array Obj) : Below w.heap.size w (Sort.grow (w.drewN k) os) := by
 refine ⟨rfl, rfl, rfl, by simp [Sort.grow], fun j hj => ?_⟩
 show (w.heap ++ os)[j]? = _
 rw [Array.getElem?_append_left hj]
theorem Itoa_any {v : Int} {w : World} (V : Vars w) (h0 : 0 ≤ v) (h1 : v ≤ 9223372036854775807) : Calls Tryz.prog 46 #[.int .i64 v] w fun e w' => e = .returned (.string ⟨(Lib.itoa v).toArray⟩) ∧ Below w.heap.size w w' := by
 refine Calls.mono (Any.strconv_Itoa Tryz.laysM171 v (by omega) h1 w V.pw) ?_
 rintro e w' ⟨he, k, os, rfl⟩
 exact ⟨he, grow_bel w k os⟩
theorem Atoi_ok {l : List UInt8} {v : Int} {w : World} (hl : l.length ≤ 140737488355328) (h : Lib.atoiAll l = .ok v) : Calls Tryz.prog 117 #[.string ⟨l.toArray⟩] w fun e w' => e = .returned (.tuple #[.int .i64 v, .nilIface]) ∧ Below w.heap.size w w' := by
 have hz : (⟨l.toArray⟩ : ByteArray).size = l.length := by simp [ByteArray.size]
 refine Calls.mono (Any.strconv_Atoi_ok Tryz.laysC172 ⟨l.toArray⟩ (by rw [hz]; omega) v (by simpa using h) w) ?_
 rintro e w' ⟨he, rfl | ⟨t, rfl⟩⟩
 · exact ⟨he, Below.refl _ _⟩
 · exact ⟨he, Lib.bytesWorld_below _ _ _⟩
theorem Atoi_bad {l : List UInt8} {w : World} (V : Vars w) (hl : l.length ≤ 140737488355328) (h : ∀ v, Lib.atoiAll l ≠ .ok v) : Calls Tryz.prog 117 #[.string ⟨l.toArray⟩] w fun e w' => ∃ z t N, e = .returned (.tuple #[.int .i64 z, .iface t (.pointer (some ⟨N, 0, none⟩))]) ∧ Below w.heap.size w w' := by
 have hz : (⟨l.toArray⟩ : ByteArray).size = l.length := by simp [ByteArray.size]
 cases hA : Lib.atoiAll l with
 | ok v => exact absurd hA (h v)
 | «syntax» =>
   obtain ⟨tp, p, hv⟩ := V.es
   refine Calls.mono (Any.strconv_Atoi_syntax_var Tryz.laysC172 ⟨l.toArray⟩ (by rw [hz]; omega) (by simpa using hA) tp p w hv) ?_
   rintro e w' ⟨N, he, _, _, hb⟩
   exact ⟨_, _, N, he, hb⟩
 | range =>
   obtain ⟨tp, p, hv⟩ := V.er
   refine Calls.mono (Any.strconv_Atoi_range_var Tryz.laysC172 ⟨l.toArray⟩ (by rw [hz]; omega) (by simpa using hA) tp p w hv) ?_
   rintro e w' ⟨N, he, _, _, hb⟩
   exact ⟨_, _, N, he, hb⟩
def numA (l : List UInt8) : Value := .tuple #[.int .i64 (((numW l).getD 0 : Nat) : Int), .bool (numW l).isSome]
theorem Number_any {l : List UInt8} {w : World} (V : Vars w) (hl : l.length ≤ 140737488355328) :
   Calls Tryz.prog 81 #[.string ⟨l.toArray⟩] w fun e w' => e = .returned (numA l) ∧ Below w.heap.size w w' := by
 cases hN : numW l with
 | some v =>
   have e1 : numA l = .tuple #[.int .i64 (v : Int), .bool true] := by unfold numA; rw [hN]; rfl
   rw [e1]
   have hle := numW_le hN
   have C := hid (Atoi_ok (w := w) hl (atoi_of hN))
   have IT : Hid (∀ W, Below w.heap.size w W → Calls Tryz.prog 46 #[.int .i64 (v : Int)] W fun e w' => e = .returned (.string ⟨l.toArray⟩) ∧ Below W.heap.size W w') := hid (fun W hb => by
     have := Itoa_any (v := (v : Int)) (V.later hb) (by omega) (by omega)
     have e2 : Lib.itoa (v : Int) = l := by
       unfold Lib.itoa
       rw [if_neg (by omega), Int.toNat_natCast]
       exact (numW_spelt hN).symm
     rw [e2] at this
     exact this)
   have ne : ((⟨l.toArray⟩ : ByteArray).toList != (⟨l.toArray⟩ : ByteArray).toList) = false := by simp
   have hv0 : ¬ (v : Int) < 0 := by omega
   clear e1 hN V hl
   generalize ByteArray.mk l.toArray = L at *
   go_enter Tryz.func81, Tryz.ntmps81
   go_wp2_with (go_at_call 117; refine C.out.mono ?_; rintro e w1 ⟨rfl, B1⟩; have Q := hid (IT.out w1 B1); have BB := hid B1; clear B1; refine Hid.out ?_)
   refine hid ?_
   go_wp2_with (go_at_call 46; refine Q.out.mono ?_; rintro e w2 ⟨rfl, B2⟩; have B3 := hid (BB.out.trans (B2.mono BB.out.size)); clear B2)
   go_ret2
   exact ⟨rfl, B3.out⟩
 | none =>
   have e1 : numA l = .tuple #[.int .i64 0, .bool false] := by unfold numA; rw [hN]; rfl
   rw [e1]
   by_cases hA : ∃ v, Lib.atoiAll l = .ok v
   · obtain ⟨v, hA⟩ := hA
     have hb := Lib.atoiAll_bounds hA
     have C := hid (Atoi_ok (w := w) hl hA)
     by_cases hv0 : v < 0
     · clear hb e1 hN V hl hA
       generalize ByteArray.mk l.toArray = L at *
       go_enter Tryz.func81, Tryz.ntmps81
       go_wp2_with (go_at_call 117; refine C.out.mono ?_; rintro e w1 ⟨rfl, B1⟩; have BB := hid B1; clear B1)
       go_ret2
       exact ⟨rfl, BB.out⟩
     · have hno := numW_none hN hb.2 (by omega)
       have IT : Hid (∀ W, Below w.heap.size w W → Calls Tryz.prog 46 #[.int .i64 v] W fun e w' => e = .returned (.string ⟨(Lib.itoa v).toArray⟩) ∧ Below W.heap.size W w') := hid (fun W hw => Itoa_any (V.later hw) (by omega) hb.2)
       have ne : ((⟨(Lib.itoa v).toArray⟩ : ByteArray).toList == (⟨l.toArray⟩ : ByteArray).toList) = false := by
         rw [ba_ne]; exact decide_eq_false hno
       clear hb e1 hN V hl hA hno
       generalize ByteArray.mk (Lib.itoa v).toArray = M at *
       generalize ByteArray.mk l.toArray = L at *
       have ne' : (M.toList != L.toList) = true := by simp only [bne, ne]; rfl
       go_enter Tryz.func81, Tryz.ntmps81
       go_wp2_with (go_at_call 117; refine C.out.mono ?_; rintro e w1 ⟨rfl, B1⟩; have Q := hid (IT.out w1 B1); have BB := hid B1; clear B1; refine Hid.out ?_)
       refine hid ?_
       go_wp2_with (go_at_call 46; refine Q.out.mono ?_; rintro e w2 ⟨rfl, B2⟩; have B3 := hid (BB.out.trans (B2.mono BB.out.size)); clear B2)
       go_ret2
       exact ⟨rfl, B3.out⟩
   · have C := hid (Atoi_bad V hl (fun v e => hA ⟨v, e⟩))
     clear e1 hN V hl hA
     generalize ByteArray.mk l.toArray = L at *
     go_enter Tryz.func81, Tryz.ntmps81
     go_wp2_with (go_at_call 117; refine C.out.mono ?_; rintro e w1 ⟨z, t, N, rfl, B1⟩; have BB := hid B1; clear B1)
     go_ret2
     exact ⟨rfl, BB.out⟩
end Go.Proofs.YtfeppannfcbakaaGreatDoor

namespace Go.Proofs.YtfeppannfcbakaaGreatDoor
open Go.RowKit
set_option linter.unusedVariables false
set_option maxRecDepth 1000000
set_option maxHeartbeats 800000
def Fits (s : St) (st : Int) (wd : List UInt8) (op es cd : Int) : Prop :=
 match s with
 | .ahead => st = 0
 | .bare w => st = 1 ∧ wd = w
 | .closed => st = 2
 | .quote o w => st = 3 ∧ wd = w ∧ op = o
 | .esc o w e => st = 4 ∧ wd = w ∧ op = o ∧ es = e
 | .high o w e => st = 5 ∧ wd = w ∧ op = o ∧ es = e
 | .low o w e d => st = 6 ∧ wd = w ∧ op = o ∧ es = e ∧ cd = d * 16 ∧ d < 16
def RdAt (B : Nat) (s : St) (ws : Ws) (cs : List Comp) (w : World) : Prop :=
 ∃ st wv dv op es cd wd, Fits s st wd op es cd ∧ All (rdL B st wv dv op es cd ws wd ++ cs) w
theorem RdAt.drop {B : Nat} {s : St} {ws : Ws} {cs : List Comp} {w : World} (h : RdAt B s ws cs w) : All cs w := by
 obtain ⟨st, wv, dv, op, es, cd, wd, hf, hA⟩ := h
 exact hA.tail.tail.tail
def StepPost (B : Nat) (cs : List Comp) (o : Out) (e : Ending) (w' : World) : Prop :=
 match o with
 | .go s ws => e = .returned (.int .i64 (-1)) ∧ RdAt B s ws cs w'
 | .bad j => e = .returned (.int .i64 (j : Int)) ∧ All cs w'
theorem close_bare {B : Nat} {st : Int} {wv dv : Value} {op es cd : Int} {ws : Ws} {wd : List UInt8} {cs : List Comp} {w : World} (h : All (rdL B st wv dv op es cd ws wd ++ cs) w) (hl : wd.length ≤ 140737488355328) (hb : isBareW wd = true) :
   Calls Tryz.prog 128 #[ptr B] w fun e w' => e = .returned (.int .i64 op) ∧ w' = w := by
 obtain ⟨⟨s0, s1, s2, s3, s4, s5⟩, hf⟩ := rd_cells h
 obtain ⟨ao0, c0, rfl⟩ := owns_form (h.tail.tail.1.2.1 : w.ownsRow 0 5 1 dv _ _)
 have cv := conv_string (reads_own h.tail.tail)
 have C := hid (isBareWord_any (w := w) hl)
 clear h hf
 generalize ByteArray.mk wd.toArray = X at *
 generalize (cellsB wd).length = n at *
 go_enter Tryz.func128, Tryz.ntmps128
 go_wp2_with (go_at_call 91; refine C.out.mono ?_; rintro e w1 ⟨rfl, rfl⟩; rw [hb])
 go_ret
 exact ⟨rfl, rfl⟩
theorem close_word {B : Nat} {st : Int} {wv dv : Value} {op es cd : Int} {ws : Ws} {wd : List UInt8} {cs : List Comp} {w : World} (h : All (rdL B st wv dv op es cd ws wd ++ cs) w) (hl : wd.length ≤ 140737488355328) (hl2 : ws.length + 1 ≤ 1000000000000) (hb : isBareW wd = false) :
   Calls Tryz.prog 128 #[ptr B] w fun e w' => e = .returned (.int .i64 (-1)) ∧ ∃ wv' dv', All (rdL B 2 wv' dv' op es cd (ws ++ [wd]) wd ++ cs) w' := by
 obtain ⟨⟨s0, s1, s2, s3, s4, s5⟩, hf⟩ := rd_cells h
 obtain ⟨ao0, c0, rfl⟩ := owns_form (h.tail.tail.1.2.1 : w.ownsRow 0 5 1 dv _ _)
 have cv := conv_string (reads_own h.tail.tail)
 have C := hid (isBareWord_any (w := w) hl)
 have HE := hid (end_any h hl2)
 clear h hf
 generalize ByteArray.mk wd.toArray = X at *
 generalize hn : (cellsB wd).length = n at *
 go_enter Tryz.func128, Tryz.ntmps128
 go_wp2_with (first | (go_at_call 91; refine C.out.mono ?_; rintro e w1 ⟨rfl, rfl⟩; rw [hb]) | (go_at_call 68; refine HE.out.mono ?_; rintro e w1 ⟨rfl, wv', A1⟩; clear s0 s1 s2 s3 s4 s5; have hc := rd_cells A1; obtain ⟨⟨s0, s1, s2, s3, s4, s5⟩, hf⟩ := hc; have f0 := hf 0; have A2 := hid (A1.setBlk 0 (.int .i64 2)); clear A1 hf))
 go_ret
 exact ⟨rfl, _, _, A2.out⟩
theorem plain_any {B : Nat} {o : Nat} {x : List UInt8} {ws : Ws} {k : Nat} {b : UInt8} {cs : List Comp} {w : World} (h : RdAt B (.quote o x) ws cs w) (hl : x.length + 1 ≤ 140737488355328) (hl2 : ws.length + 1 ≤ 1000000000000) :
   Calls Tryz.prog 102 #[ptr B, .int .i64 (k : Int), .int .u8 (b.toNat : Int)] w (StepPost B cs (stepW (.quote o x) ws k b)) := by
 obtain ⟨st, wv, dv, op, es, cd, wd, ⟨rfl, rfl, rfl⟩, A⟩ := h
 by_cases h34 : b.toNat = 34
 · have hi : (b.toNat : Int) = 34 := by omega
   rw [hi]
   cases hw : isBareW wd with
   | true =>
     have e1 : stepW (.quote o wd) ws k b = .bad o := by simp [stepW, h34, hw]
     have C := hid (close_bare A (by omega) hw)
     have D := hid A.tail.tail.tail
     rw [e1]
     clear e1 hi h34 A hw
     go_enter Tryz.func102, Tryz.ntmps102
     go_wp2_with (go_at_call 128; refine C.out.mono ?_; rintro e w1 ⟨rfl, rfl⟩)
     go_ret
     exact ⟨rfl, D.out⟩
   | false =>
     have e1 : stepW (.quote o wd) ws k b = .go .closed (ws ++ [wd]) := by simp [stepW, h34, hw]
     have C := hid (close_word A (by omega) hl2 hw)
     rw [e1]
     clear e1 hi h34 A hw
     go_enter Tryz.func102, Tryz.ntmps102
     go_wp2_with (go_at_call 128; refine C.out.mono ?_; rintro e w1 ⟨rfl, wv', dv', A1⟩; have A2 := hid A1; clear A1)
     go_ret
     exact ⟨rfl, _, _, _, _, _, _, _, rfl, A2.out⟩
 · have n34 : ((b.toNat : Int) == 34) = false := by simp; omega
   by_cases h92 : b.toNat = 92
   · have e1 : stepW (.quote o wd) ws k b = .go (.esc o wd k) ws := by simp [stepW, h92]
     have hi : (b.toNat : Int) = 92 := by omega
     rw [e1, hi]
     obtain ⟨⟨s0, s1, s2, s3, s4, s5⟩, hf⟩ := rd_cells A
     have f0 := hf 0
     have f4 := hf 4
     have A2 := hid ((A.setBlk 0 (.int .i64 4)).setBlk 4 (.int .i64 k))
     clear e1 hi h92 n34 h34 A hf
     go_enter Tryz.func102, Tryz.ntmps102
     go_wp2
     go_ret
     exact ⟨rfl, _, _, _, _, _, _, _, ⟨rfl, rfl, rfl, rfl⟩, A2.out⟩
   · have n92 : ((b.toNat : Int) == 92) = false := by simp; omega
     have P := hid (prn_any b w)
     cases hp : prnN b.toNat with
     | false =>
       have e1 : stepW (.quote o wd) ws k b = .bad k := by simp [stepW, h34, h92, hp]
       rw [e1]
       have D := hid A.tail.tail.tail
       clear e1 A h34 h92
       generalize (b.toNat : Int) = bi at *
       go_enter Tryz.func102, Tryz.ntmps102
       go_wp2_with (go_at_call 123; refine P.out.mono ?_; rintro e w1 ⟨rfl, rfl⟩; rw [hp])
       go_ret
       exact ⟨rfl, D.out⟩
     | true =>
       have e1 : stepW (.quote o wd) ws k b = .go (.quote o (wd ++ [b])) ws := by simp [stepW, h34, h92, hp]
       rw [e1]
       have T := hid (take_any (b := b) A hl)
       clear e1 A h34 h92
       generalize (b.toNat : Int) = bi at *
       go_enter Tryz.func102, Tryz.ntmps102
       go_wp2_with (first | (go_at_call 123; refine P.out.mono ?_; rintro e w1 ⟨rfl, rfl⟩; rw [hp]) | (go_at_call 129; refine T.out.mono ?_; rintro e w1 ⟨rfl, dv', A1⟩; have A2 := hid A1; clear A1))
       go_ret
       exact ⟨rfl, _, _, _, _, _, _, _, ⟨rfl, rfl, rfl⟩, A2.out⟩
theorem escaped_any {B : Nat} {o f : Nat} {x : List UInt8} {ws : Ws} {k : Nat} {b : UInt8} {cs : List Comp} {w : World} (h : RdAt B (.esc o x f) ws cs w) (hl : x.length + 1 ≤ 140737488355328) :
   Calls Tryz.prog 103 #[ptr B, .int .i64 (k : Int), .int .u8 (b.toNat : Int)] w (StepPost B cs (stepW (.esc o x f) ws k b)) := by
 obtain ⟨st, wv, dv, op, es, cd, wd, ⟨rfl, rfl, rfl, rfl⟩, A⟩ := h
 by_cases h120 : b.toNat = 120
 · have e1 : stepW (.esc o wd f) ws k b = .go (.high o wd f) ws := by simp [stepW, h120]
   have hi : (b.toNat : Int) = 120 := by omega
   rw [e1, hi]
   obtain ⟨⟨s0, s1, s2, s3, s4, s5⟩, hf⟩ := rd_cells A
   have f0 := hf 0
   have A2 := hid (A.setBlk 0 (.int .i64 5))
   clear e1 hi h120 A hf
   go_enter Tryz.func103, Tryz.ntmps103
   go_wp2
   go_ret
   exact ⟨rfl, _, _, _, _, _, _, _, ⟨rfl, rfl, rfl, rfl⟩, A2.out⟩
 · have n120 : ((b.toNat : Int) == 120) = false := by simp; omega
   by_cases h34 : b.toNat = 34
   · have e1 : stepW (.esc o wd f) ws k b = .go (.quote o (wd ++ [b])) ws := by simp [stepW, h34]
     have T := hid (take_any (b := b) A hl)
     have hi : (b.toNat : Int) = 34 := by omega
     rw [e1]
     rw [hi] at T ⊢
     clear e1 A h34 h120 n120 hi
     go_enter Tryz.func103, Tryz.ntmps103
     go_wp2_with (go_at_call 129; refine T.out.mono ?_; rintro e w1 ⟨rfl, dv', A1⟩; have A2 := hid A1; clear A1)
     go_ret
     exact ⟨rfl, _, _, _, _, _, _, _, ⟨rfl, rfl, rfl⟩, A2.out⟩
   · have n34 : ((b.toNat : Int) == 34) = false := by simp; omega
     by_cases h92 : b.toNat = 92
     · have e1 : stepW (.esc o wd f) ws k b = .go (.quote o (wd ++ [b])) ws := by simp [stepW, h92]
       have T := hid (take_any (b := b) A hl)
       have hi : (b.toNat : Int) = 92 := by omega
       rw [e1]
       rw [hi] at T ⊢
       clear e1 A h34 h120 n120 hi n34 h92
       go_enter Tryz.func103, Tryz.ntmps103
       go_wp2_with (go_at_call 129; refine T.out.mono ?_; rintro e w1 ⟨rfl, dv', A1⟩; have A2 := hid A1; clear A1)
       go_ret
       exact ⟨rfl, _, _, _, _, _, _, _, ⟨rfl, rfl, rfl⟩, A2.out⟩
     · have n92 : ((b.toNat : Int) == 92) = false := by simp; omega
       have e1 : stepW (.esc o wd f) ws k b = .bad k := by simp [stepW, h34, h92, h120]
       rw [e1]
       have D := hid A.tail.tail.tail
       clear e1 A h34 h92 h120
       generalize (b.toNat : Int) = bi at *
       go_enter Tryz.func103, Tryz.ntmps103
       go_wp2
       go_ret
       exact ⟨rfl, D.out⟩
set_option linter.unusedVariables false
set_option maxRecDepth 1000000
set_option maxHeartbeats 800000
theorem digit_high {B : Nat} {o f d : Nat} {x : List UInt8} {ws : Ws} {cs : List Comp} {w : World} (h : RdAt B (.high o x f) ws cs w) (hd : d < 16) :
   Calls Tryz.prog 105 #[ptr B, .int .u8 (d : Int)] w (StepPost B cs (.go (.low o x f d) ws)) := by
 obtain ⟨st, wv, dv, op, es, cd, wd, ⟨rfl, rfl, rfl, rfl⟩, A⟩ := h
 obtain ⟨⟨s0, s1, s2, s3, s4, s5⟩, hf⟩ := rd_cells A
 have f0 := hf 0
 have f5 := hf 5
 have A2 := hid ((A.setBlk 0 (.int .i64 6)).setBlk 5 (.int .u8 ((d : Int) * 16)))
 clear A hf
 go_enter Tryz.func105, Tryz.ntmps105
 go_wp2
 go_ret
 exact ⟨rfl, _, _, _, _, _, _, _, ⟨rfl, rfl, rfl, rfl, rfl, hd⟩, A2.out⟩
theorem or_hex (g d : Nat) (hg : g < 16) (hd : d < 16) : bits BinOp.or IntKind.u8 ((g : Int) * 16) (d : Int) = ((16 * g + d : Nat) : Int) := by
 have h : ∀ a b : Fin 16, bits BinOp.or IntKind.u8 ((a.val : Int) * 16) (b.val : Int) = ((16 * a.val + b.val : Nat) : Int) := by decide +kernel
 exact h ⟨g, hg⟩ ⟨d, hd⟩
theorem digit_low {B : Nat} {o f g d : Nat} {x : List UInt8} {ws : Ws} {cs : List Comp} {w : World} (h : RdAt B (.low o x f g) ws cs w) (hl : x.length + 1 ≤ 140737488355328) (hd : d < 16) :
   Calls Tryz.prog 105 #[ptr B, .int .u8 (d : Int)] w (StepPost B cs (if prnN (16 * g + d) = true then .bad f else .go (.quote o (x ++ [UInt8.ofNat (16 * g + d)])) ws)) := by
 obtain ⟨st, wv, dv, op, es, cd, wd, ⟨rfl, rfl, rfl, rfl, rfl, hg⟩, A⟩ := h
 obtain ⟨⟨s0, s1, s2, s3, s4, s5⟩, hf⟩ := rd_cells A
 have T := hid (take_any (b := UInt8.ofNat (16 * g + d)) A hl)
 have eN : (UInt8.ofNat (16 * g + d)).toNat = 16 * g + d := by simp; omega
 rw [eN] at T
 have P : Hid (Calls Tryz.prog 123 #[.int .u8 ((16 * g + d : Nat) : Int)] w fun e w' => e = .returned (.bool (prnN (16 * g + d))) ∧ w' = w) := by
   rw [← prnI_nat]
   exact prn_int _ _
 have D := hid A.tail.tail.tail
 have ho := or_hex g d hg hd
 clear A hf hg eN
 generalize 16 * g + d = N at *
 cases hp : prnN N with
 | true =>
   rw [if_pos rfl]
   go_enter Tryz.func105, Tryz.ntmps105
   go_wp2_with (go_at_call 123; refine P.out.mono ?_; rintro e w1 ⟨rfl, rfl⟩; rw [hp])
   go_ret
   exact ⟨rfl, D.out⟩
 | false =>
   rw [if_neg (by simp)]
   go_enter Tryz.func105, Tryz.ntmps105
   go_wp2_with (first | (go_at_call 123; refine P.out.mono ?_; rintro e w1 ⟨rfl, rfl⟩; rw [hp]) | (go_at_call 129; refine T.out.mono ?_; rintro e w1 ⟨rfl, dv', A1⟩; have A2 := hid A1; clear A1))
   go_ret
   exact ⟨rfl, _, _, _, _, _, _, _, ⟨rfl, rfl, rfl⟩, A2.out⟩
theorem idxHex (b : UInt8) : Lib.indexByte [48, 49, 50, 51, 52, 53, 54, 55, 56, 57, 97, 98, 99, 100, 101, 102] b = match hexN b.toNat with | none => -1 | some d => (d : Int) := by
 have h : ∀ n : Fin 256, Lib.indexByte [48, 49, 50, 51, 52, 53, 54, 55, 56, 57, 97, 98, 99, 100, 101, 102] (UInt8.ofNat n.val) = match hexN n.val with | none => -1 | some d => (d : Int) := by decide +kernel
 have := h ⟨b.toNat, by have := b.toNat_lt; omega⟩
 simpa using this
theorem index_any (b : UInt8) (w : World) : Calls Tryz.prog 104 #[.string ⟨#[48, 49, 50, 51, 52, 53, 54, 55, 56, 57, 97, 98, 99, 100, 101, 102]⟩, .int .u8 (b.toNat : Int)] w fun e w' => e = .returned (.int .i64 (match hexN b.toNat with | none => -1 | some d => (d : Int))) ∧ w' = w := by
 have := Any.strings_IndexByte Tryz.lays137 ⟨#[48, 49, 50, 51, 52, 53, 54, 55, 56, 57, 97, 98, 99, 100, 101, 102]⟩ (b.toNat : Int) w
 rw [← idxHex b]
 have e : ((b.toNat : Int).toNat.toUInt8) = b := by simp
 rw [e] at this
 exact this
theorem quoted_any {B : Nat} {s : St} {ws : Ws} {k : Nat} {b : UInt8} {cs : List Comp} {w : World} (h : RdAt B s ws cs w) (hs : s ≠ .ahead ∧ (∀ x, s ≠ .bare x) ∧ s ≠ .closed) (hl : s.held ≤ 140737488355328) (hl2 : ws.length + 1 ≤ 1000000000000) :
   Calls Tryz.prog 69 #[ptr B, .int .i64 (k : Int), .int .u8 (b.toNat : Int)] w (StepPost B cs (stepW s ws k b)) := by
 cases s with
 | ahead => exact absurd rfl hs.1
 | bare x => exact absurd rfl (hs.2.1 x)
 | closed => exact absurd rfl hs.2.2
 | quote o x =>
   have C := hid (plain_any (k := k) (b := b) h hl hl2)
   obtain ⟨st, wv, dv, op, es, cd, wd, ⟨rfl, rfl, rfl⟩, A⟩ := h
   obtain ⟨⟨s0, s1, s2, s3, s4, s5⟩, hf⟩ := rd_cells A
   clear A hf hs
   generalize hO : stepW (St.quote o wd) ws k b = O at *
   clear hO
   generalize (b.toNat : Int) = bi at *
   go_enter Tryz.func69, Tryz.ntmps69
   go_wp2_with (go_at_call 102; refine C.out.mono ?_; intro e w1 hp; have HP := hid hp; clear hp; obtain ⟨i, rfl⟩ : ∃ i, e = .returned (.int .i64 i) := by (cases O with | go s ws => exact ⟨_, HP.out.1⟩ | bad j => exact ⟨_, HP.out.1⟩))
   go_ret
   exact HP.out
 | esc o x f =>
   have C := hid (escaped_any (k := k) (b := b) h hl)
   obtain ⟨st, wv, dv, op, es, cd, wd, ⟨rfl, rfl, rfl, rfl⟩, A⟩ := h
   obtain ⟨⟨s0, s1, s2, s3, s4, s5⟩, hf⟩ := rd_cells A
   clear A hf hs
   generalize hO : stepW (St.esc o wd f) ws k b = O at *
   clear hO
   generalize (b.toNat : Int) = bi at *
   go_enter Tryz.func69, Tryz.ntmps69
   go_wp2_with (go_at_call 103; refine C.out.mono ?_; intro e w1 hp; have HP := hid hp; clear hp; obtain ⟨i, rfl⟩ : ∃ i, e = .returned (.int .i64 i) := by (cases O with | go s ws => exact ⟨_, HP.out.1⟩ | bad j => exact ⟨_, HP.out.1⟩))
   go_ret
   exact HP.out
 | high o x f =>
   have I := hid (index_any b w)
   have C := fun d hd => hid (digit_high (d := d) h hd)
   have D := hid h.drop
   obtain ⟨st, wv, dv, op, es, cd, wd, ⟨rfl, rfl, rfl, rfl⟩, A⟩ := h
   obtain ⟨⟨s0, s1, s2, s3, s4, s5⟩, hf⟩ := rd_cells A
   clear A hf hs
   cases hx : hexN b.toNat with
   | none =>
     have e1 : stepW (.high o wd f) ws k b = .bad k := by simp [stepW, hx]
     rw [e1]
     rw [hx] at I
     clear e1 hx C
     generalize (b.toNat : Int) = bi at *
     go_enter Tryz.func69, Tryz.ntmps69
     go_wp2_with (go_at_call 104; refine I.out.mono ?_; rintro e w1 ⟨rfl, rfl⟩; simp only)
     go_ret
     exact ⟨rfl, D.out⟩
   | some d =>
     have e1 : stepW (.high o wd f) ws k b = .go (.low o wd f d) ws := by simp [stepW, hx]
     rw [e1]
     rw [hx] at I
     have hd := hexN_lt hx
     have C := C d hd
     clear e1 hx
     have hw : IntKind.u8.wrap (d : Int) = d := by
       have : ∀ a : Fin 16, IntKind.u8.wrap (a.val : Int) = a.val := by decide +kernel
       exact this ⟨d, hd⟩
     generalize hO : Out.go (.low o wd f d) ws = O at *
     clear hO
     generalize (b.toNat : Int) = bi at *
     go_enter Tryz.func69, Tryz.ntmps69
     go_wp2_with (first | (go_at_call 104; refine I.out.mono ?_; rintro e w1 ⟨rfl, rfl⟩; simp only) | (go_at_call 105; refine C.out.mono ?_; intro e w1 hp; have HP := hid hp; clear hp; obtain ⟨i, rfl⟩ : ∃ i, e = .returned (.int .i64 i) := by (cases O with | go s ws => exact ⟨_, HP.out.1⟩ | bad j => exact ⟨_, HP.out.1⟩)))
     go_ret
     exact HP.out
 | low o x f g =>
   have I := hid (index_any b w)
   have C := fun d hd => hid (digit_low (d := d) h hl hd)
   have D := hid h.drop
   obtain ⟨st, wv, dv, op, es, cd, wd, ⟨rfl, rfl, rfl, rfl, rfl, hg⟩, A⟩ := h
   obtain ⟨⟨s0, s1, s2, s3, s4, s5⟩, hf⟩ := rd_cells A
   clear A hf hs hg
   cases hx : hexN b.toNat with
   | none =>
     have e1 : stepW (.low o wd f g) ws k b = .bad k := by simp [stepW, hx]
     rw [e1]
     rw [hx] at I
     clear e1 hx C
     generalize (b.toNat : Int) = bi at *
     go_enter Tryz.func69, Tryz.ntmps69
     go_wp2_with (go_at_call 104; refine I.out.mono ?_; rintro e w1 ⟨rfl, rfl⟩; simp only)
     go_ret
     exact ⟨rfl, D.out⟩
   | some d =>
     have e1 : stepW (.low o wd f g) ws k b = (if prnN (16 * g + d) = true then .bad f else .go (.quote o (wd ++ [UInt8.ofNat (16 * g + d)])) ws) := by simp [stepW, hx]
     rw [e1]
     rw [hx] at I
     have hd := hexN_lt hx
     have C := C d hd
     clear e1 hx
     have hw : IntKind.u8.wrap (d : Int) = d := by
       have : ∀ a : Fin 16, IntKind.u8.wrap (a.val : Int) = a.val := by decide +kernel
       exact this ⟨d, hd⟩
     generalize hO : (if prnN (16 * g + d) = true then Out.bad f else .go (.quote o (wd ++ [UInt8.ofNat (16 * g + d)])) ws) = O at *
     clear hO
     generalize (b.toNat : Int) = bi at *
     go_enter Tryz.func69, Tryz.ntmps69
     go_wp2_with (first | (go_at_call 104; refine I.out.mono ?_; rintro e w1 ⟨rfl, rfl⟩; simp only) | (go_at_call 105; refine C.out.mono ?_; intro e w1 hp; have HP := hid hp; clear hp; obtain ⟨i, rfl⟩ : ∃ i, e = .returned (.int .i64 i) := by (cases O with | go s ws => exact ⟨_, HP.out.1⟩ | bad j => exact ⟨_, HP.out.1⟩)))
     go_ret
     exact HP.out
set_option linter.unusedVariables false
set_option maxRecDepth 1000000
set_option maxHeartbeats 800000
def SplitPost (A : Ans) (cs : List Comp) (e : Ending) (w' : World) : Prop :=
 ∃ v, e = .returned (.tuple #[v, .int .i64 (A.at : Int), .int .i64 (A.err : Int)]) ∧ All (ownC 9 v (txW A.ws) :: cs) w'
theorem answer_bad {B n k : Nat} {cs : List Comp} {w : World} (h : All cs w) :
   Calls Tryz.prog 70 #[ptr B, .int .i64 (n : Int), .int .i64 (k : Int)] w (SplitPost (.byte k) cs) := by
 have A := hid (All.addNil (e := 9) h)
 have hk : ((k : Int) != -1) = true := by simp
 clear h
 go_enter Tryz.func70, Tryz.ntmps70
 go_wp2
 go_ret3
 exact ⟨_, rfl, A.out⟩
theorem answer_fin {B n : Nat} {s : St} {ws : Ws} {cs : List Comp} {w : World} (h : RdAt B s ws cs w) (hl2 : ws.length + 1 ≤ 1000000000000) :
   Calls Tryz.prog 70 #[ptr B, .int .i64 (n : Int), .int .i64 (-1)] w (SplitPost (finW s ws n) cs) := by
 obtain ⟨st, wv, dv, op, es, cd, wd, hF, A⟩ := h
 by_cases h3 : 3 ≤ st
 · have e1 : finW s ws n = .stop n := by
     cases s <;> simp only [Fits] at hF <;> simp only [finW] <;> omega
   rw [e1]
   obtain ⟨⟨s0, s1, s2, s3, s4, s5⟩, hf⟩ := rd_cells A
   have D := hid (All.addNil (e := 9) A.tail.tail.tail)
   clear A hf hF e1
   go_enter Tryz.func70, Tryz.ntmps70
   go_wp2
   go_ret3
   exact ⟨_, rfl, D.out⟩
 · have h3' : st < 3 := by omega
   by_cases h1 : st = 1
   · have e1 : finW s ws n = .ok (ws ++ [wd]) := by
       cases s <;> simp only [Fits] at hF <;> simp only [finW] <;> (first | omega | (rw [hF.2]))
     rw [e1]
     subst h1
     obtain ⟨⟨s0, s1, s2, s3, s4, s5⟩, hf⟩ := rd_cells A
     have E := hid (end_any A hl2)
     clear A hf hF e1 h3 h3'
     go_enter Tryz.func70, Tryz.ntmps70
     go_wp2_with (go_at_call 68; refine E.out.mono ?_; rintro e w1 ⟨rfl, wv', A1⟩; clear s0 s1 s2 s3 s4 s5; have hc := rd_cells A1; obtain ⟨⟨s0, s1, s2, s3, s4, s5⟩, hf⟩ := hc; have D := hid (((A1.tail).perm (List.Perm.swap _ _ _)).tail); clear A1 hf)
     go_ret3
     exact ⟨_, rfl, D.out⟩
   · have e1 : finW s ws n = .ok ws := by
       cases s <;> simp only [Fits] at hF <;> simp only [finW] <;> omega
     have n1 : (st == 1) = false := by simpa using h1
     rw [e1]
     obtain ⟨⟨s0, s1, s2, s3, s4, s5⟩, hf⟩ := rd_cells A
     have D := hid (((A.tail).perm (List.Perm.swap _ _ _)).tail)
     clear A hf hF e1 h1
     go_enter Tryz.func70, Tryz.ntmps70
     go_wp2
     go_ret3
     exact ⟨_, rfl, D.out⟩
theorem word_app {B : Nat} {st : Int} {wv dv : Value} {op es cd : Int} {ws : Ws} {wd : List UInt8} {cs : List Comp} {w : World} (b : UInt8) (h : All (rdL B st wv dv op es cd ws wd ++ cs) w) (hl : wd.length + 1 ≤ 140737488355328) :
   ∃ ao0 c0 ao c w1, dv = .slice ao0 wd.length c0 ∧ (Builtin.append_ #[32, 32] 32 #[.slice ao0 wd.length c0, .slice (some ⟨w.heap.size, 0, none⟩) 1 1]).run Tryz.prog (w.alloc (.cells #[.int .u8 (b.toNat : Int)] 5)) = .ok (.slice ao (wd.length + 1) c) w1 ∧
     w.cell? ⟨B, 2, none⟩ = some (.slice ao0 wd.length c0) ∧ w1.cell? ⟨B, 2, none⟩ = some (.slice ao0 wd.length c0) ∧ w1.frozen? ⟨B, 2, none⟩ = false ∧ All (rdL B st wv (.slice ao (wd.length + 1) c) op es cd ws (wd ++ [b]) ++ cs) (w1.setCell ⟨B, 2, none⟩ (.slice ao (wd.length + 1) c)) := by
 obtain ⟨⟨s0, s1, s2, s3, s4, s5⟩, hf⟩ := rd_cells h
 obtain ⟨ao0, c0, rfl⟩ := owns_form (h.tail.tail.1.2.1 : w.ownsRow 0 5 1 dv _ _)
 obtain ⟨ao, c, w1, hr, A1⟩ := app_byte (h.perm (perm3a _ _ _ _)) b hl
 obtain ⟨⟨t0, t1, t2, t3, t4, t5⟩, hf1⟩ := rd_cells A1.tail
 rw [cellsB_length] at *
 exact ⟨ao0, c0, ao, c, w1, rfl, hr, s2, t2, hf1 2, (A1.perm (perm3a _ _ _ _).symm).setBlk 2 (.slice ao (wd.length + 1) c)⟩
set_option linter.unusedVariables false
set_option maxRecDepth 1000000
set_option maxHeartbeats 3200000
theorem Split_long {l : List UInt8} {cs : List Comp} {w : World} (h : All cs w) (hl : 8192 < l.length) (hl2 : l.length ≤ 140737488355328) :
   Calls Tryz.prog 35 #[.string ⟨l.toArray⟩] w (SplitPost .long cs) := by
 have hz : (⟨l.toArray⟩ : ByteArray).size = l.length := by simp [ByteArray.size]
 have A := hid (All.addNil (e := 9) h)
 clear h
 generalize ByteArray.mk l.toArray = S at *
 generalize l.length = n at *
 have hl' : (8192 : Int) < n := by omega
 go_enter Tryz.func35, Tryz.ntmps35
 go_wp2
 go_step3
 go_wp2
 simp only [Exit.noGoto]
 go_ret3
 exact ⟨_, rfl, A.out⟩
theorem rd_new {cs : List Comp} {w : World} (h : All cs w) : RdAt w.heap.size .ahead [] cs (w.alloc (.cells #[.int .i64 0, .slice none 0 0, .slice none 0 0, .int .i64 0, .int .i64 0, .int .u8 0] 119)) := by
 refine ⟨0, .slice none 0 0, .slice none 0 0, 0, 0, 0, [], rfl, ?_⟩
 have A := (All.addNil (e := 9) (All.addNil (e := 5) h)).addBlk (rdV 0 (.slice none 0 0) (.slice none 0 0) 0 0 0) 119
 exact A
theorem Split_short {l : List UInt8} {cs : List Comp} {w : World} (h : All cs w) (hl : l.length ≤ 8192) :
   Calls Tryz.prog 35 #[.string ⟨l.toArray⟩] w (SplitPost (runW .ahead [] 0 l) cs) := by
 have hz : (⟨l.toArray⟩ : ByteArray).size = l.length := by simp [ByteArray.size]
 have IX : Hid (∀ k, k < l.length → ∀ W, (Instr.index 9 (.string ⟨l.toArray⟩) (.int .i64 (k : Int))).run Tryz.prog W = .ok (.int .u8 ((l.getD k 0).toNat : Int)) W) := fun k hk W => idx_at hk W
 have N := hid (rd_new h)
 have R0 : Hid (runW .ahead [] 0 l = runW .ahead [] 0 (l.drop 0)) := hid (by simp)
 generalize hA : runW .ahead [] 0 l = AN at *
 clear hA h
 generalize ByteArray.mk l.toArray = S at *
 generalize hn : l.length = n at *
 have HN := hid hn
 clear hn
 have hl' : ¬ (8192 : Int) < n := by omega
 go_enter Tryz.func35, Tryz.ntmps35
 go_wp2
 go_step3
 go_wp2
 go_step3
 go_wp2
 go_loopw [6, 14] (fun gv iv wr => ∃ (k : Nat) (s : St) (ws : Ws), k ≤ n ∧ iv = .int .i64 (k : Int) ∧ gv = .int .i64 (-1) ∧ Hid (RdAt w.heap.size s ws cs wr) ∧ Hid (AN = runW s ws k (l.drop k)) ∧ Hid (s.held + wsz ws ≤ 2 * k)) (fun _ iv _ => n - (intOf iv).toNat)
 case atStart => exact ⟨0, .ahead, [], by omega, rfl, rfl, N, R0, hid (by simp [St.held, wsz])⟩
 case round =>
   obtain ⟨k, s, ws, hk, rfl, rfl, hR, hrun, hheld⟩ := hrel
   have hws : ws.length + 1 ≤ 1000000000000 := by have := hheld.out; unfold wsz at this; omega
   have hsh : s.held ≤ 140737488355328 := by have := hheld.out; omega
   by_cases hlt : k < n
   · have hlt' : (k : Int) < (n : Int) := by omega
     have ix := IX.out k hlt
     generalize hb : l.getD k 0 = b at ix
     have HB := hid hb
     clear hb
     have NX : Hid (∀ s' ws', stepW s ws k b = .go s' ws' → Hid (AN = runW s' ws' (k + 1) (l.drop (k + 1))) ∧ Hid (s'.held + wsz ws' ≤ 2 * (k + 1))) := hid (fun s' ws' hst => ⟨hid (by rw [hrun.out]; exact runW_go (by rw [HN.out]; exact hlt) (by rw [HB.out]; exact hst)), hid (by have := stepW_held hst; have := hheld.out; omega)⟩)
     have BD : Hid (∀ j, stepW s ws k b = .bad j → Hid (AN = .byte j)) := hid (fun j hst => hid (by rw [hrun.out]; exact runW_bad (by rw [HN.out]; exact hlt) (by rw [HB.out]; exact hst)))
     have DD0 := hid hR.out.drop
     clear hrun hheld
     cases s with
     | ahead =>
       obtain ⟨st, wv, dv, op, es, cd, wd, rfl, A⟩ := hR.out
       obtain ⟨⟨s0, s1, s2, s3, s4, s5⟩, hf⟩ := rd_cells A
       clear hf
       by_cases h32 : b.toNat = 32
       · have e1 : stepW .ahead ws k b = .go .ahead ws := by simp [stepW, h32]
         have hi : (b.toNat : Int) = 32 := by omega
         have nx := NX.out _ _ e1
         rw [hi] at ix
         clear e1 NX BD hi h32 A
         go_wp2
         go_roundw
         case rel => exact ⟨k + 1, .ahead, ws, by omega, by go_num, rfl, hR, nx.1, nx.2⟩
         case measure => simp [intOf]; omega
       · have n32 : ((b.toNat : Int) == 32) = false := by simp; omega
         by_cases h34 : b.toNat = 34
         · have e1 : stepW .ahead ws k b = .go (.quote k []) ws := by simp [stepW, h34]
           have hi : (b.toNat : Int) = 34 := by omega
           have nx := NX.out _ _ e1
           rw [hi] at ix
           have C := hid (begin_any (s := 3) A)
           clear e1 NX BD hi h34 h32 n32 A
           go_wp2_with (go_at_call 66; refine C.out.mono ?_; rintro e w1 ⟨rfl, A1⟩; clear s0 s1 s2 s3 s4 s5; have hc := rd_cells A1; obtain ⟨⟨s0, s1, s2, s3, s4, s5⟩, hf⟩ := hc; have f3 := hf 3; have A2 := hid (A1.setBlk 3 (.int .i64 (k : Int))); clear A1 hf)
           go_roundw
           case rel => exact ⟨k + 1, .quote k [], ws, by omega, by go_num, rfl, hid ⟨3, _, _, _, _, _, _, ⟨rfl, rfl, rfl⟩, A2.out⟩, nx.1, nx.2⟩
           case measure => simp [intOf]; omega
         · have n34 : ((b.toNat : Int) == 34) = false := by simp; omega
           have IB := hid (fun W => isBare_any b W)
           have C := hid (begin_any (s := 1) A)
           cases hx : bareN b.toNat with
           | true =>
             have e1 : stepW .ahead ws k b = .go (.bare [b]) ws := by simp [stepW, h34, h32, hx]
             have nx := NX.out _ _ e1
             have HBB : ∃ bb : UInt8, bb = b := ⟨b, rfl⟩
             clear e1 NX BD h34 h32 A
             go_wp2_with (first | (go_at_call 66; refine C.out.mono ?_; rintro e w1 ⟨rfl, A1⟩; clear s0 s1 s2 s3 s4 s5; have hq := word_app b A1 (by simp); obtain ⟨ao0, c0, ao, c, w2, hdv, hr, s2, t2, f2, A2⟩ := hq; rw [List.length_nil] at hr s2 t2 A2; have R := hid hr; have A3 := hid A2; clear hr A2 A1 hdv) | (go_at_call 67; refine (IB.out _).mono ?_; rintro e w3 ⟨rfl, rfl⟩; rw [hx]) | (at_builtin; refine wpList_append_run rfl _ _ 32 rfl _ _ _ _ rfl rfl R.out ?_))
             go_roundw
             case rel => exact ⟨k + 1, .bare [b], ws, by omega, by go_num, rfl, hid ⟨1, _, _, _, _, _, _, ⟨rfl, rfl⟩, A3.out⟩, nx.1, nx.2⟩
             case measure => simp [intOf]; omega
           | false =>
             have e1 : stepW .ahead ws k b = .bad k := by simp [stepW, h34, h32, hx]
             have fin := BD.out _ e1
             have m32 : ((b.toNat : Int) != 32) = true := by simp; omega
             clear e1 NX BD h34 h32 A
             go_wp2_with (first | (go_at_call 66; refine C.out.mono ?_; rintro e w1 ⟨rfl, A1⟩; clear s0 s1 s2 s3 s4 s5; have E := hid (end_any A1 hws); clear A1) | (go_at_call 67; refine (IB.out _).mono ?_; rintro e w3 ⟨rfl, rfl⟩; rw [hx]) | (go_at_call 68; refine E.out.mono ?_; rintro e w4 ⟨rfl, wv', A1⟩; have DD := hid A1.tail.tail.tail; clear A1) | (go_at_call 70; refine (answer_bad (k := k) (n := n) DD.out).mono ?_; rintro e w9 ⟨v, rfl, A9⟩; have A8 := hid A9; clear A9))
             simp only [Exit.noGoto]
             go_ret3
             exact ⟨v, by rw [fin.out]; rfl, by rw [fin.out]; exact A8.out⟩
     | bare x =>
       obtain ⟨st, wv, dv, op, es, cd, wd, ⟨rfl, rfl⟩, A⟩ := hR.out
       obtain ⟨⟨s0, s1, s2, s3, s4, s5⟩, hf⟩ := rd_cells A
       clear hf
       have IB := hid (fun W => isBare_any b W)
       cases hx : bareN b.toNat with
       | true =>
         have e1 : stepW (.bare wd) ws k b = .go (.bare (wd ++ [b])) ws := by simp [stepW, hx]
         have nx := NX.out _ _ e1
         have hq := word_app b A (by simp only [St.held] at hsh; omega)
         obtain ⟨ao0, c0, ao, c, w2, hdv, hr, s2', t2, f2, A2⟩ := hq
         rw [hdv] at s2
         have R := hid hr
         have A3 := hid A2
         clear e1 NX BD hr A2 A s2' hdv hsh
         generalize wd.length = nw at *
         go_wp2_with (first | (go_at_call 67; refine (IB.out _).mono ?_; rintro e w3 ⟨rfl, rfl⟩; rw [hx]) | (at_builtin; refine wpList_append_run rfl _ _ 32 rfl _ _ _ _ rfl rfl R.out ?_))
         go_roundw
         case rel => exact ⟨k + 1, .bare (wd ++ [b]), ws, by omega, by go_num, rfl, hid ⟨1, _, _, _, _, _, _, ⟨rfl, rfl⟩, A3.out⟩, nx.1, nx.2⟩
         case measure => simp [intOf]; omega
       | false =>
         have E := hid (end_any A hws)
         by_cases h32 : b.toNat = 32
         · have e1 : stepW (.bare wd) ws k b = .go .ahead (ws ++ [wd]) := by rw [stepW, hx]; simp [h32]
           have hi : (b.toNat : Int) = 32 := by omega
           have nx := NX.out _ _ e1
           clear e1 NX BD A hsh
           rw [hi] at ix IB
           clear hi h32
           go_wp2_with (first | (go_at_call 67; refine (IB.out _).mono ?_; rintro e w3 ⟨rfl, rfl⟩; rw [hx]) | (go_at_call 68; refine E.out.mono ?_; rintro e w4 ⟨rfl, wv', A1⟩; clear s0 s1 s2 s3 s4 s5; have hc := rd_cells A1; obtain ⟨⟨s0, s1, s2, s3, s4, s5⟩, hf⟩ := hc; have f0 := hf 0; have A2 := hid (A1.setBlk 0 (.int .i64 0)); clear A1 hf))
           go_roundw
           case rel => exact ⟨k + 1, .ahead, ws ++ [wd], by omega, by go_num, rfl, hid ⟨0, _, _, _, _, _, _, rfl, A2.out⟩, nx.1, nx.2⟩
           case measure => simp [intOf]; omega
         · have e1 : stepW (.bare wd) ws k b = .bad k := by rw [stepW, hx]; simp [h32]
           have fin := BD.out _ e1
           have m32 : ((b.toNat : Int) != 32) = true := by simp; omega
           clear e1 NX BD h32 A hsh
           go_wp2_with (first | (go_at_call 67; refine (IB.out _).mono ?_; rintro e w3 ⟨rfl, rfl⟩; rw [hx]) | (go_at_call 68; refine E.out.mono ?_; rintro e w4 ⟨rfl, wv', A1⟩; have DD := hid A1.tail.tail.tail; clear A1) | (go_at_call 70; refine (answer_bad (k := k) (n := n) DD.out).mono ?_; rintro e w9 ⟨v, rfl, A9⟩; have A8 := hid A9; clear A9))
           simp only [Exit.noGoto]
           go_ret3
           exact ⟨v, by rw [fin.out]; rfl, by rw [fin.out]; exact A8.out⟩
     | closed =>
       obtain ⟨st, wv, dv, op, es, cd, wd, rfl, A⟩ := hR.out
       obtain ⟨⟨s0, s1, s2, s3, s4, s5⟩, hf⟩ := rd_cells A
       by_cases h32 : b.toNat = 32
       · have e1 : stepW .closed ws k b = .go .ahead ws := by simp [stepW, h32]
         have hi : (b.toNat : Int) = 32 := by omega
         have nx := NX.out _ _ e1
         have f0 := hf 0
         have A2 := hid (A.setBlk 0 (.int .i64 0))
         rw [hi] at ix
         clear e1 NX BD A hsh hi h32 hf
         go_wp2
         go_roundw
         case rel => exact ⟨k + 1, .ahead, ws, by omega, by go_num, rfl, hid ⟨0, _, _, _, _, _, _, rfl, A2.out⟩, nx.1, nx.2⟩
         case measure => simp [intOf]; omega
       · have e1 : stepW .closed ws k b = .bad k := by simp [stepW, h32]
         have fin := BD.out _ e1
         have m32 : ((b.toNat : Int) != 32) = true := by simp; omega
         have DD := DD0
         clear e1 NX BD h32 A hsh hf
         go_wp2_with (go_at_call 70; refine (answer_bad (k := k) (n := n) DD.out).mono ?_; rintro e w9 ⟨v, rfl, A9⟩; have A8 := hid A9; clear A9)
         simp only [Exit.noGoto]
         go_ret3
         exact ⟨v, by rw [fin.out]; rfl, by rw [fin.out]; exact A8.out⟩
     | quote o x =>
       have hne : (.quote o x : St) ≠ .ahead ∧ (∀ y, (.quote o x : St) ≠ .bare y) ∧ (.quote o x : St) ≠ .closed := ⟨by simp, by simp, by simp⟩
       have C := hid (quoted_any (k := k) (b := b) hR.out hne hsh hws)
       obtain ⟨st, wv, dv, op, es, cd, wd, ⟨rfl, rfl, rfl⟩, A⟩ := hR.out
       obtain ⟨⟨s0, s1, s2, s3, s4, s5⟩, hf⟩ := rd_cells A
       clear hf A hne hsh
       cases hO : stepW (.quote o wd) ws k b with
       | go s' ws' =>
         have nx := NX.out _ _ hO
         rw [hO] at C
         clear NX BD hO
         go_wp2_with (go_at_call 69; refine C.out.mono ?_; rintro e w1 ⟨rfl, A1⟩; have A2 := hid A1; clear A1)
         go_roundw
         case rel => exact ⟨k + 1, s', ws', by omega, by go_num, rfl, A2, nx.1, nx.2⟩
         case measure => simp [intOf]; omega
       | bad j =>
         have fin := BD.out _ hO
         rw [hO] at C
         have mj : ((j : Int) != -1) = true := by simp
         clear NX BD hO
         go_wp2_with (first | (go_at_call 69; refine C.out.mono ?_; rintro e w1 ⟨rfl, A1⟩; have DD := hid A1; clear A1) | (go_at_call 70; refine (answer_bad (k := j) (n := n) DD.out).mono ?_; rintro e w9 ⟨v, rfl, A9⟩; have A8 := hid A9; clear A9))
         simp only [Exit.noGoto]
         go_ret3
         exact ⟨v, by rw [fin.out]; rfl, by rw [fin.out]; exact A8.out⟩
     | esc o x f =>
       have hne : (.esc o x f : St) ≠ .ahead ∧ (∀ y, (.esc o x f : St) ≠ .bare y) ∧ (.esc o x f : St) ≠ .closed := ⟨by simp, by simp, by simp⟩
       have C := hid (quoted_any (k := k) (b := b) hR.out hne hsh hws)
       obtain ⟨st, wv, dv, op, es, cd, wd, ⟨rfl, rfl, rfl, rfl⟩, A⟩ := hR.out
       obtain ⟨⟨s0, s1, s2, s3, s4, s5⟩, hf⟩ := rd_cells A
       clear hf A hne hsh
       cases hO : stepW (.esc o wd f) ws k b with
       | go s' ws' =>
         have nx := NX.out _ _ hO
         rw [hO] at C
         clear NX BD hO
         go_wp2_with (go_at_call 69; refine C.out.mono ?_; rintro e w1 ⟨rfl, A1⟩; have A2 := hid A1; clear A1)
         go_roundw
         case rel => exact ⟨k + 1, s', ws', by omega, by go_num, rfl, A2, nx.1, nx.2⟩
         case measure => simp [intOf]; omega
       | bad j =>
         have fin := BD.out _ hO
         rw [hO] at C
         have mj : ((j : Int) != -1) = true := by simp
         clear NX BD hO
         go_wp2_with (first | (go_at_call 69; refine C.out.mono ?_; rintro e w1 ⟨rfl, A1⟩; have DD := hid A1; clear A1) | (go_at_call 70; refine (answer_bad (k := j) (n := n) DD.out).mono ?_; rintro e w9 ⟨v, rfl, A9⟩; have A8 := hid A9; clear A9))
         simp only [Exit.noGoto]
         go_ret3
         exact ⟨v, by rw [fin.out]; rfl, by rw [fin.out]; exact A8.out⟩
     | high o x f =>
       have hne : (.high o x f : St) ≠ .ahead ∧ (∀ y, (.high o x f : St) ≠ .bare y) ∧ (.high o x f : St) ≠ .closed := ⟨by simp, by simp, by simp⟩
       have C := hid (quoted_any (k := k) (b := b) hR.out hne hsh hws)
       obtain ⟨st, wv, dv, op, es, cd, wd, ⟨rfl, rfl, rfl, rfl⟩, A⟩ := hR.out
       obtain ⟨⟨s0, s1, s2, s3, s4, s5⟩, hf⟩ := rd_cells A
       clear hf A hne hsh
       cases hO : stepW (.high o wd f) ws k b with
       | go s' ws' =>
         have nx := NX.out _ _ hO
         rw [hO] at C
         clear NX BD hO
         go_wp2_with (go_at_call 69; refine C.out.mono ?_; rintro e w1 ⟨rfl, A1⟩; have A2 := hid A1; clear A1)
         go_roundw
         case rel => exact ⟨k + 1, s', ws', by omega, by go_num, rfl, A2, nx.1, nx.2⟩
         case measure => simp [intOf]; omega
       | bad j =>
         have fin := BD.out _ hO
         rw [hO] at C
         have mj : ((j : Int) != -1) = true := by simp
         clear NX BD hO
         go_wp2_with (first | (go_at_call 69; refine C.out.mono ?_; rintro e w1 ⟨rfl, A1⟩; have DD := hid A1; clear A1) | (go_at_call 70; refine (answer_bad (k := j) (n := n) DD.out).mono ?_; rintro e w9 ⟨v, rfl, A9⟩; have A8 := hid A9; clear A9))
         simp only [Exit.noGoto]
         go_ret3
         exact ⟨v, by rw [fin.out]; rfl, by rw [fin.out]; exact A8.out⟩
     | low o x f g =>
       have hne : (.low o x f g : St) ≠ .ahead ∧ (∀ y, (.low o x f g : St) ≠ .bare y) ∧ (.low o x f g : St) ≠ .closed := ⟨by simp, by simp, by simp⟩
       have C := hid (quoted_any (k := k) (b := b) hR.out hne hsh hws)
       obtain ⟨st, wv, dv, op, es, cd, wd, ⟨rfl, rfl, rfl, rfl, rfl, hg⟩, A⟩ := hR.out
       obtain ⟨⟨s0, s1, s2, s3, s4, s5⟩, hf⟩ := rd_cells A
       clear hf A hne hsh
       cases hO : stepW (.low o wd f g) ws k b with
       | go s' ws' =>
         have nx := NX.out _ _ hO
         rw [hO] at C
         clear NX BD hO
         go_wp2_with (go_at_call 69; refine C.out.mono ?_; rintro e w1 ⟨rfl, A1⟩; have A2 := hid A1; clear A1)
         go_roundw
         case rel => exact ⟨k + 1, s', ws', by omega, by go_num, rfl, A2, nx.1, nx.2⟩
         case measure => simp [intOf]; omega
       | bad j =>
         have fin := BD.out _ hO
         rw [hO] at C
         have mj : ((j : Int) != -1) = true := by simp
         clear NX BD hO
         go_wp2_with (first | (go_at_call 69; refine C.out.mono ?_; rintro e w1 ⟨rfl, A1⟩; have DD := hid A1; clear A1) | (go_at_call 70; refine (answer_bad (k := j) (n := n) DD.out).mono ?_; rintro e w9 ⟨v, rfl, A9⟩; have A8 := hid A9; clear A9))
         simp only [Exit.noGoto]
         go_ret3
         exact ⟨v, by rw [fin.out]; rfl, by rw [fin.out]; exact A8.out⟩
   · have hlt' : ¬ (k : Int) < (n : Int) := by omega
     have fin : Hid (AN = finW s ws k) := hid (by rw [hrun.out]; exact runW_end (by rw [HN.out]; omega))
     have C := hid (answer_fin (n := n) hR.out hws)
     have hkn := hid (show k = n by omega)
     go_wp2_with (go_at_call 70; refine C.out.mono ?_; rintro e w1 ⟨v, rfl, A1⟩; have A2 := hid A1; clear A1)
     simp only [Exit.noGoto]
     go_ret3
     refine ⟨v, ?_, ?_⟩
     · rw [fin.out, hkn.out]; rfl
     · rw [fin.out, hkn.out]; exact A2.out
set_option linter.unusedVariables false
set_option maxRecDepth 1000000
def hexI (k : Int) : Int := if 48 ≤ k ∧ k ≤ 57 then k - 48 else if 97 ≤ k ∧ k ≤ 102 then k - 87 else -1
theorem hexI_nat (n : Nat) : hexI (n : Int) = match hexN n with | none => -1 | some d => (d : Int) := by
 unfold hexI hexN
 by_cases h1 : 48 ≤ n ∧ n ≤ 57
 · rw [if_pos (by omega), if_pos h1]; simp only; omega
 · rw [if_neg (by omega), if_neg h1]
   by_cases h2 : 97 ≤ n ∧ n ≤ 102
   · rw [if_pos (by omega), if_pos h2]; simp only; omega
   · rw [if_neg (by omega), if_neg h2]
theorem rdigit_int (k : Int) (w : World) (h0 : 0 ≤ k) (h1 : k < 256) : Calls Tryz.prog 78 #[.int .u8 k] w fun e w' => e = .returned (.int .i64 (hexI k)) ∧ w' = w := by
 have key : ∀ b, hexI k = b → Hid (hexI k = b) := fun b h => h
 by_cases a48 : 48 ≤ k
 · by_cases b57 : k ≤ 57
   · have H := key (k - 48) (by unfold hexI; rw [if_pos ⟨a48, b57⟩])
     clear key
     go_enter Tryz.func78, Tryz.ntmps78
     go_wp2
     go_ret
     exact ⟨by rw [H.out]; rfl, rfl⟩
   · by_cases a97 : 97 ≤ k
     · by_cases b102 : k ≤ 102
       · have H := key (k - 97 + 10) (by unfold hexI; rw [if_neg (by omega), if_pos ⟨a97, b102⟩]; omega)
         clear key
         go_enter Tryz.func78, Tryz.ntmps78
         go_wp2
         go_ret
         exact ⟨by rw [H.out]; rfl, rfl⟩
       · have H := key (-1) (by unfold hexI; rw [if_neg (by omega), if_neg (by omega)])
         clear key
         go_enter Tryz.func78, Tryz.ntmps78
         go_wp2
         go_ret
         exact ⟨by rw [H.out]; rfl, rfl⟩
     · have H := key (-1) (by unfold hexI; rw [if_neg (by omega), if_neg (by omega)])
       clear key
       go_enter Tryz.func78, Tryz.ntmps78
       go_wp2
       go_ret
       exact ⟨by rw [H.out]; rfl, rfl⟩
 · have a97 : ¬ 97 ≤ k := by omega
   have H := key (-1) (by unfold hexI; rw [if_neg (by omega), if_neg (by omega)])
   clear key
   go_enter Tryz.func78, Tryz.ntmps78
   go_wp2
   go_ret
   exact ⟨by rw [H.out]; rfl, rfl⟩
theorem rdigit_any (b : UInt8) (w : World) : Calls Tryz.prog 78 #[.int .u8 (b.toNat : Int)] w fun e w' => e = .returned (.int .i64 (match hexN b.toNat with | none => -1 | some d => (d : Int))) ∧ w' = w := by
 rw [← hexI_nat]
 exact rdigit_int _ _ (by omega) (by have := b.toNat_lt; omega)
def QPost (AN : Ans) (l : List UInt8) (o : Nat) (ws : Ws) (cs : List Comp) (e : Ending) (w' : World) : Prop :=
 ∃ (x : List UInt8) (k er : Nat), e = .returned (.tuple #[.string ⟨x.toArray⟩, .int .i64 (k : Int), .int .i64 (er : Int)]) ∧ All cs w' ∧
   (er = 0 ∧ k ≤ l.length ∧ o < k ∧ AN = runW .closed (ws ++ [x]) k (l.drop k) ∨ er ≠ 0 ∧ AN.at = k ∧ AN.err = er ∧ AN.ws = [])
def Inn (AN : Ans) (l : List UInt8) (o i : Nat) (x : List UInt8) (ws : Ws) (j v : Nat) : Prop :=
 match j with
 | 0 => v = 0 ∧ AN = runW (.high o x i) ws (i + 2) (l.drop (i + 2))
 | 1 => v < 16 ∧ AN = runW (.low o x i v) ws (i + 3) (l.drop (i + 3))
 | _ => v < 256 ∧ i + 4 ≤ l.length ∧ AN = if prnN v = true then .byte i else runW (.quote o (x ++ [UInt8.ofNat v])) ws (i + 4) (l.drop (i + 4))
theorem Inn.next {AN : Ans} {l : List UInt8} {o i : Nat} {x : List UInt8} {ws : Ws} {j v d : Nat} (h : Inn AN l o i x ws j v) (hj : j < 2) (hl : i + 2 + j < l.length) (hd : hexN (l.getD (i + 2 + j) 0).toNat = some d) : Inn AN l o i x ws (j + 1) (16 * v + d) := by
 have hlt := hexN_lt hd
 match j with
 | 0 =>
   obtain ⟨rfl, h⟩ := h
   refine ⟨by omega, ?_⟩
   rw [h, runW_go hl (s' := .low o x i d) (ws' := ws) (by simp only [stepW]; rw [show i + 2 + 0 = i + 2 from rfl] at hd; rw [hd])]
   simp
 | 1 =>
   obtain ⟨h1, h⟩ := h
   refine ⟨by omega, by omega, ?_⟩
   rw [h]
   by_cases hp : prnN (16 * v + d) = true
   · rw [if_pos hp, runW_bad hl (j := i) (by simp only [stepW]; rw [show i + 2 + 1 = i + 3 from rfl] at hd; rw [hd]; simp only; rw [if_pos hp])]
   · rw [if_neg hp, runW_go hl (s' := .quote o (x ++ [UInt8.ofNat (16 * v + d)])) (ws' := ws) (by simp only [stepW]; rw [show i + 2 + 1 = i + 3 from rfl] at hd; rw [hd]; simp only; rw [if_neg hp])]
 | j + 2 => omega
theorem Inn.bad {AN : Ans} {l : List UInt8} {o i : Nat} {x : List UInt8} {ws : Ws} {j v : Nat} (h : Inn AN l o i x ws j v) (hj : j < 2) (hl : i + 2 + j < l.length) (hd : hexN (l.getD (i + 2 + j) 0).toNat = none) : AN = .byte (i + 2 + j) := by
 match j with
 | 0 => rw [h.2]; exact runW_bad hl (by simp only [stepW]; rw [show i + 2 + 0 = i + 2 from rfl] at hd; rw [hd])
 | 1 => rw [h.2]; exact runW_bad hl (by simp only [stepW]; rw [show i + 2 + 1 = i + 3 from rfl] at hd; rw [hd])
 | j + 2 => omega
theorem Inn.stop {AN : Ans} {l : List UInt8} {o i : Nat} {x : List UInt8} {ws : Ws} {j v : Nat} (h : Inn AN l o i x ws j v) (hj : j < 2) (hl : l.length ≤ i + 2 + j) : AN = .stop (i + 2 + j) := by
 match j with
 | 0 => rw [h.2]; exact runW_end hl
 | 1 => rw [h.2]; exact runW_end hl
 | j + 2 => omega
theorem Inn.small {AN : Ans} {l : List UInt8} {o i : Nat} {x : List UInt8} {ws : Ws} {j v : Nat} (h : Inn AN l o i x ws j v) : v < 256 := by
 match j with
 | 0 => have := h.1; omega
 | 1 => have := h.1; omega
 | j + 2 => exact h.1
end Go.Proofs.YtfeppannfcbakaaGreatDoor
