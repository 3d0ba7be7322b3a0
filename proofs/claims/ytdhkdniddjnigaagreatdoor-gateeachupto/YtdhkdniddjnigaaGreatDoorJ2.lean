import Derived.Test.YtdhkdniddjnigaaGreatDoorJ1
import Derived.Deep.Draws
import Derived.Deep.Upon
import Derived.Lib.ItoaNum
import Derived.Lib.AtoiAll
import Derived.Shelf.Strconv.ErrVarAll
import Derived.Shelf.Strconv.Itoa3
import Derived.Test.YtdhkdniddjnigaaGreatDoorProg
namespace Go.Proofs.YtdhkdniddjnigaaGreatDoor
open Go.RowKit
set_option linter.unusedVariables false

set_option maxRecDepth 1000000 in
theorem wrong_any {w : World} (a b n : Int) : Calls Tryz.prog 195 #[spanV a b, .int .i64 n] w fun e w' => e = .returned (.bool (wr a b n)) ∧ Below w.heap.size w w' := by
  go_enter Tryz.func195, Tryz.ntmps195
  go_wp2_with fail
  refine (has_b a b).mono ?_
  rintro e w1 ⟨x, H0, rfl, B1⟩
  have hh := heap_alloc_new w (.cells #[.int .i64 a, .int .i64 b] 241)
  have hh1 : w1.heap[w.heap.size]? = some (.cells #[.int .i64 a, .int .i64 b] 241) := by rw [B1.out.block _ (by simp)]; exact hh
  have c0 : w1.cell? ⟨w.heap.size, 0, none⟩ = some (.int .i64 a) := by rw [cell_at hh1]; rfl
  have c1 : w1.cell? ⟨w.heap.size, 1, none⟩ = some (.int .i64 b) := by rw [cell_at hh1]; rfl
  clear hh hh1
  have B2 := hid (b2 (ba w _) B1.out)
  clear B1
  cases x with
  | false =>
    go_wp2
    go_ret
    exact ⟨by simp [wr, H0.out], B2.out⟩
  | true =>
    go_wp2_with fail
    refine (holds_b a b n).mono ?_
    rintro e w2 ⟨x, H1, rfl, B3⟩
    have B4 := hid (b2 B2.out B3.out)
    clear B2 B3
    go_wp2
    go_ret
    exact ⟨by simp [wr, H0.out, H1.out], B4.out⟩

set_option maxRecDepth 1000000 in
theorem extra_any {w : World} (a b n : Int) : Calls Tryz.prog 196 #[spanV a b, .int .i64 n] w fun e w' => e = .returned (.bool (ex b n)) ∧ Below w.heap.size w w' := by
  go_enter Tryz.func196, Tryz.ntmps196
  go_wp2_with fail
  refine (has_b a b).mono ?_
  rintro e w1 ⟨x, H0, rfl, B1⟩
  have B2 := hid (b2 (ba w _) B1.out)
  clear B1
  cases x with
  | true =>
    go_wp2
    go_ret
    exact ⟨by simp [ex, H0.out], B2.out⟩
  | false =>
    go_wp2
    go_ret
    exact ⟨by simp [ex, H0.out, bne, BEq.beq], B2.out⟩

theorem wrong_b {w : World} (a b n : Int) : Calls Tryz.prog 195 #[spanV a b, .int .i64 n] w fun e w' => ∃ x, Hid (wr a b n = x) ∧ e = .returned (.bool x) ∧ Hid (Below w.heap.size w w') :=
  (wrong_any a b n).mono fun e w' ⟨h, h'⟩ => ⟨_, hid rfl, h, h'⟩
theorem extra_b {w : World} (a b n : Int) : Calls Tryz.prog 196 #[spanV a b, .int .i64 n] w fun e w' => ∃ x, Hid (ex b n = x) ∧ e = .returned (.bool x) ∧ Hid (Below w.heap.size w w') :=
  (extra_any a b n).mono fun e w' ⟨h, h'⟩ => ⟨_, hid rfl, h, h'⟩
end Go.Proofs.YtdhkdniddjnigaaGreatDoor

namespace Go.Proofs.YtdhkdniddjnigaaGreatDoor
open Go.RowKit
set_option linter.unusedVariables false

abbrev opV (k : Int) (nm tx : ByteArray) (n m : Int) : Value := .agg #[.int .i64 k, .string nm, .string tx, .int .i64 n, .int .i64 m]
abbrev opB (k : Int) (nm tx : ByteArray) (n m : Int) : Obj := .cells #[.int .i64 k, .string nm, .string tx, .int .i64 n, .int .i64 m] 55

/-- What Check tells of an op whose kind may be, by the row of its kind. -/
def chkR (a0 a1 a2 a3 a4 a5 a6 a7 : Int) (s t n m : Int) : Int :=
  if wr a0 a1 s then 51 else if wr a2 a3 t then 52 else if wr a4 a5 n then 53 else if wr a6 a7 m then 54
  else if ex a1 s then 55 else if ex a3 t then 55 else if ex a5 n then 55 else if ex a7 m then 55 else 0

/-- The op and the row of its kind lie in two blocks of their own. -/
structure Two (w w1 : World) (o f : Obj) : Prop where
  op : w1.heap[w.heap.size]? = some o
  row : w1.heap[w.heap.size + 1]? = some f
  lt : w.heap.size + 1 < w1.heap.size
  below : Below w.heap.size w w1

theorem Two.first (w : World) (o f : Obj) : Two w ((w.alloc o).alloc f) o f := by
  have h1 := heap_alloc_new w o
  have h2 := heap_alloc_new (w.alloc o) f
  have hs : (w.alloc o).heap.size = w.heap.size + 1 := by simp
  rw [hs] at h2
  refine ⟨?_, h2, by simp, b2 (ba w o) (ba _ f)⟩
  rw [(ba (w.alloc o) f).block _ (by simp)]; exact h1
theorem Two.next {w w1 w2 : World} {o f : Obj} (h : Two w w1 o f) (hb : Below w1.heap.size w1 w2) : Two w w2 o f :=
  ⟨by rw [hb.block _ (Nat.lt_of_succ_lt h.lt)]; exact h.op, by rw [hb.block _ h.lt]; exact h.row, Nat.lt_of_lt_of_le h.lt hb.size, b2 h.below hb⟩

set_option maxHeartbeats 3200000 in
set_option maxRecDepth 1000000 in
theorem check_row {w : World} (k : Nat) (hk1 : 1 ≤ k) (hk8 : k ≤ 8) (nm tx : ByteArray) (n m : Int) (a0 a1 a2 a3 a4 a5 a6 a7 : Int)
    (c0 : w.cell? ⟨3, k * 8, none⟩ = some (.int .i64 a0))
    (c1 : w.cell? ⟨3, k * 8 + 1, none⟩ = some (.int .i64 a1))
    (c2 : w.cell? ⟨3, k * 8 + 2, none⟩ = some (.int .i64 a2))
    (c3 : w.cell? ⟨3, k * 8 + 3, none⟩ = some (.int .i64 a3))
    (c4 : w.cell? ⟨3, k * 8 + 4, none⟩ = some (.int .i64 a4))
    (c5 : w.cell? ⟨3, k * 8 + 5, none⟩ = some (.int .i64 a5))
    (c6 : w.cell? ⟨3, k * 8 + 6, none⟩ = some (.int .i64 a6))
    (c7 : w.cell? ⟨3, k * 8 + 7, none⟩ = some (.int .i64 a7))
    (h0 : 3 < w.heap.size) :
    Calls Tryz.prog 169 #[opV k nm tx n m] w fun e w' => e = .returned (.int .i64 (chkR a0 a1 a2 a3 a4 a5 a6 a7 nm.size tx.size n m)) ∧ Below w.heap.size w w' := by
  have A0 := fun o => cell_under (ba w o) h0 c0
  have A1 := fun o => cell_under (ba w o) h0 c1
  have A2 := fun o => cell_under (ba w o) h0 c2
  have A3 := fun o => cell_under (ba w o) h0 c3
  have A4 := fun o => cell_under (ba w o) h0 c4
  have A5 := fun o => cell_under (ba w o) h0 c5
  have A6 := fun o => cell_under (ba w o) h0 c6
  have A7 := fun o => cell_under (ba w o) h0 c7
  clear c0 c1 c2 c3 c4 c5 c6 c7 h0
  go_enter Tryz.func169, Tryz.ntmps169
  go_wp2_with fail
  refine (wrong_b _ _ _).mono ?_
  rintro e w1 ⟨x, H0, rfl, B⟩
  have T := hid ((Two.first w _ _).next B.out)
  clear B A0 A1 A2 A3 A4 A5 A6 A7
  have o1 : w1.cell? ⟨w.heap.size, 1, none⟩ = some ((.string nm)) := by rw [cell_at T.out.op]; rfl
  have o2 : w1.cell? ⟨w.heap.size, 2, none⟩ = some ((.string tx)) := by rw [cell_at T.out.op]; rfl
  have o3 : w1.cell? ⟨w.heap.size, 3, none⟩ = some ((.int .i64 n)) := by rw [cell_at T.out.op]; rfl
  have o4 : w1.cell? ⟨w.heap.size, 4, none⟩ = some ((.int .i64 m)) := by rw [cell_at T.out.op]; rfl
  have r0 : w1.cell? ⟨w.heap.size + 1, 0, none⟩ = some (.int .i64 a0) := by rw [cell_at T.out.row]; rfl
  have r1 : w1.cell? ⟨w.heap.size + 1, 1, none⟩ = some (.int .i64 a1) := by rw [cell_at T.out.row]; rfl
  have r2 : w1.cell? ⟨w.heap.size + 1, 2, none⟩ = some (.int .i64 a2) := by rw [cell_at T.out.row]; rfl
  have r3 : w1.cell? ⟨w.heap.size + 1, 3, none⟩ = some (.int .i64 a3) := by rw [cell_at T.out.row]; rfl
  have r4 : w1.cell? ⟨w.heap.size + 1, 4, none⟩ = some (.int .i64 a4) := by rw [cell_at T.out.row]; rfl
  have r5 : w1.cell? ⟨w.heap.size + 1, 5, none⟩ = some (.int .i64 a5) := by rw [cell_at T.out.row]; rfl
  have r6 : w1.cell? ⟨w.heap.size + 1, 6, none⟩ = some (.int .i64 a6) := by rw [cell_at T.out.row]; rfl
  have r7 : w1.cell? ⟨w.heap.size + 1, 7, none⟩ = some (.int .i64 a7) := by rw [cell_at T.out.row]; rfl
  cases x with
  | true =>
    go_wp2
    go_ret
    exact ⟨by simp [chkR, H0.out], T.out.below⟩
  | false =>
    go_wp2_with fail
    refine (wrong_b _ _ _).mono ?_
    rintro e w2 ⟨x, H1, rfl, B⟩
    have T := hid (T.out.next B.out)
    clear B o1 o2 o3 o4 r0 r1 r2 r3 r4 r5 r6 r7
    have o1 : w2.cell? ⟨w.heap.size, 1, none⟩ = some ((.string nm)) := by rw [cell_at T.out.op]; rfl
    have o2 : w2.cell? ⟨w.heap.size, 2, none⟩ = some ((.string tx)) := by rw [cell_at T.out.op]; rfl
    have o3 : w2.cell? ⟨w.heap.size, 3, none⟩ = some ((.int .i64 n)) := by rw [cell_at T.out.op]; rfl
    have o4 : w2.cell? ⟨w.heap.size, 4, none⟩ = some ((.int .i64 m)) := by rw [cell_at T.out.op]; rfl
    have r0 : w2.cell? ⟨w.heap.size + 1, 0, none⟩ = some (.int .i64 a0) := by rw [cell_at T.out.row]; rfl
    have r1 : w2.cell? ⟨w.heap.size + 1, 1, none⟩ = some (.int .i64 a1) := by rw [cell_at T.out.row]; rfl
    have r2 : w2.cell? ⟨w.heap.size + 1, 2, none⟩ = some (.int .i64 a2) := by rw [cell_at T.out.row]; rfl
    have r3 : w2.cell? ⟨w.heap.size + 1, 3, none⟩ = some (.int .i64 a3) := by rw [cell_at T.out.row]; rfl
    have r4 : w2.cell? ⟨w.heap.size + 1, 4, none⟩ = some (.int .i64 a4) := by rw [cell_at T.out.row]; rfl
    have r5 : w2.cell? ⟨w.heap.size + 1, 5, none⟩ = some (.int .i64 a5) := by rw [cell_at T.out.row]; rfl
    have r6 : w2.cell? ⟨w.heap.size + 1, 6, none⟩ = some (.int .i64 a6) := by rw [cell_at T.out.row]; rfl
    have r7 : w2.cell? ⟨w.heap.size + 1, 7, none⟩ = some (.int .i64 a7) := by rw [cell_at T.out.row]; rfl
    cases x with
    | true =>
      go_wp2
      go_ret
      exact ⟨by simp [chkR, H0.out, H1.out], T.out.below⟩
    | false =>
      go_wp2_with fail
      refine (wrong_b _ _ _).mono ?_
      rintro e w3 ⟨x, H2, rfl, B⟩
      have T := hid (T.out.next B.out)
      clear B o1 o2 o3 o4 r0 r1 r2 r3 r4 r5 r6 r7
      have o1 : w3.cell? ⟨w.heap.size, 1, none⟩ = some ((.string nm)) := by rw [cell_at T.out.op]; rfl
      have o2 : w3.cell? ⟨w.heap.size, 2, none⟩ = some ((.string tx)) := by rw [cell_at T.out.op]; rfl
      have o3 : w3.cell? ⟨w.heap.size, 3, none⟩ = some ((.int .i64 n)) := by rw [cell_at T.out.op]; rfl
      have o4 : w3.cell? ⟨w.heap.size, 4, none⟩ = some ((.int .i64 m)) := by rw [cell_at T.out.op]; rfl
      have r0 : w3.cell? ⟨w.heap.size + 1, 0, none⟩ = some (.int .i64 a0) := by rw [cell_at T.out.row]; rfl
      have r1 : w3.cell? ⟨w.heap.size + 1, 1, none⟩ = some (.int .i64 a1) := by rw [cell_at T.out.row]; rfl
      have r2 : w3.cell? ⟨w.heap.size + 1, 2, none⟩ = some (.int .i64 a2) := by rw [cell_at T.out.row]; rfl
      have r3 : w3.cell? ⟨w.heap.size + 1, 3, none⟩ = some (.int .i64 a3) := by rw [cell_at T.out.row]; rfl
      have r4 : w3.cell? ⟨w.heap.size + 1, 4, none⟩ = some (.int .i64 a4) := by rw [cell_at T.out.row]; rfl
      have r5 : w3.cell? ⟨w.heap.size + 1, 5, none⟩ = some (.int .i64 a5) := by rw [cell_at T.out.row]; rfl
      have r6 : w3.cell? ⟨w.heap.size + 1, 6, none⟩ = some (.int .i64 a6) := by rw [cell_at T.out.row]; rfl
      have r7 : w3.cell? ⟨w.heap.size + 1, 7, none⟩ = some (.int .i64 a7) := by rw [cell_at T.out.row]; rfl
      cases x with
      | true =>
        go_wp2
        go_ret
        exact ⟨by simp [chkR, H0.out, H1.out, H2.out], T.out.below⟩
      | false =>
        go_wp2_with fail
        refine (wrong_b _ _ _).mono ?_
        rintro e w4 ⟨x, H3, rfl, B⟩
        have T := hid (T.out.next B.out)
        clear B o1 o2 o3 o4 r0 r1 r2 r3 r4 r5 r6 r7
        have o1 : w4.cell? ⟨w.heap.size, 1, none⟩ = some ((.string nm)) := by rw [cell_at T.out.op]; rfl
        have o2 : w4.cell? ⟨w.heap.size, 2, none⟩ = some ((.string tx)) := by rw [cell_at T.out.op]; rfl
        have o3 : w4.cell? ⟨w.heap.size, 3, none⟩ = some ((.int .i64 n)) := by rw [cell_at T.out.op]; rfl
        have o4 : w4.cell? ⟨w.heap.size, 4, none⟩ = some ((.int .i64 m)) := by rw [cell_at T.out.op]; rfl
        have r0 : w4.cell? ⟨w.heap.size + 1, 0, none⟩ = some (.int .i64 a0) := by rw [cell_at T.out.row]; rfl
        have r1 : w4.cell? ⟨w.heap.size + 1, 1, none⟩ = some (.int .i64 a1) := by rw [cell_at T.out.row]; rfl
        have r2 : w4.cell? ⟨w.heap.size + 1, 2, none⟩ = some (.int .i64 a2) := by rw [cell_at T.out.row]; rfl
        have r3 : w4.cell? ⟨w.heap.size + 1, 3, none⟩ = some (.int .i64 a3) := by rw [cell_at T.out.row]; rfl
        have r4 : w4.cell? ⟨w.heap.size + 1, 4, none⟩ = some (.int .i64 a4) := by rw [cell_at T.out.row]; rfl
        have r5 : w4.cell? ⟨w.heap.size + 1, 5, none⟩ = some (.int .i64 a5) := by rw [cell_at T.out.row]; rfl
        have r6 : w4.cell? ⟨w.heap.size + 1, 6, none⟩ = some (.int .i64 a6) := by rw [cell_at T.out.row]; rfl
        have r7 : w4.cell? ⟨w.heap.size + 1, 7, none⟩ = some (.int .i64 a7) := by rw [cell_at T.out.row]; rfl
        cases x with
        | true =>
          go_wp2
          go_ret
          exact ⟨by simp [chkR, H0.out, H1.out, H2.out, H3.out], T.out.below⟩
        | false =>
          go_wp2_with fail
          refine (extra_b _ _ _).mono ?_
          rintro e w5 ⟨x, H4, rfl, B⟩
          have T := hid (T.out.next B.out)
          clear B o1 o2 o3 o4 r0 r1 r2 r3 r4 r5 r6 r7
          have o1 : w5.cell? ⟨w.heap.size, 1, none⟩ = some ((.string nm)) := by rw [cell_at T.out.op]; rfl
          have o2 : w5.cell? ⟨w.heap.size, 2, none⟩ = some ((.string tx)) := by rw [cell_at T.out.op]; rfl
          have o3 : w5.cell? ⟨w.heap.size, 3, none⟩ = some ((.int .i64 n)) := by rw [cell_at T.out.op]; rfl
          have o4 : w5.cell? ⟨w.heap.size, 4, none⟩ = some ((.int .i64 m)) := by rw [cell_at T.out.op]; rfl
          have r0 : w5.cell? ⟨w.heap.size + 1, 0, none⟩ = some (.int .i64 a0) := by rw [cell_at T.out.row]; rfl
          have r1 : w5.cell? ⟨w.heap.size + 1, 1, none⟩ = some (.int .i64 a1) := by rw [cell_at T.out.row]; rfl
          have r2 : w5.cell? ⟨w.heap.size + 1, 2, none⟩ = some (.int .i64 a2) := by rw [cell_at T.out.row]; rfl
          have r3 : w5.cell? ⟨w.heap.size + 1, 3, none⟩ = some (.int .i64 a3) := by rw [cell_at T.out.row]; rfl
          have r4 : w5.cell? ⟨w.heap.size + 1, 4, none⟩ = some (.int .i64 a4) := by rw [cell_at T.out.row]; rfl
          have r5 : w5.cell? ⟨w.heap.size + 1, 5, none⟩ = some (.int .i64 a5) := by rw [cell_at T.out.row]; rfl
          have r6 : w5.cell? ⟨w.heap.size + 1, 6, none⟩ = some (.int .i64 a6) := by rw [cell_at T.out.row]; rfl
          have r7 : w5.cell? ⟨w.heap.size + 1, 7, none⟩ = some (.int .i64 a7) := by rw [cell_at T.out.row]; rfl
          cases x with
          | true =>
            go_wp2
            go_ret
            exact ⟨by simp [chkR, H0.out, H1.out, H2.out, H3.out, H4.out], T.out.below⟩
          | false =>
            go_wp2_with fail
            refine (extra_b _ _ _).mono ?_
            rintro e w6 ⟨x, H5, rfl, B⟩
            have T := hid (T.out.next B.out)
            clear B o1 o2 o3 o4 r0 r1 r2 r3 r4 r5 r6 r7
            have o1 : w6.cell? ⟨w.heap.size, 1, none⟩ = some ((.string nm)) := by rw [cell_at T.out.op]; rfl
            have o2 : w6.cell? ⟨w.heap.size, 2, none⟩ = some ((.string tx)) := by rw [cell_at T.out.op]; rfl
            have o3 : w6.cell? ⟨w.heap.size, 3, none⟩ = some ((.int .i64 n)) := by rw [cell_at T.out.op]; rfl
            have o4 : w6.cell? ⟨w.heap.size, 4, none⟩ = some ((.int .i64 m)) := by rw [cell_at T.out.op]; rfl
            have r0 : w6.cell? ⟨w.heap.size + 1, 0, none⟩ = some (.int .i64 a0) := by rw [cell_at T.out.row]; rfl
            have r1 : w6.cell? ⟨w.heap.size + 1, 1, none⟩ = some (.int .i64 a1) := by rw [cell_at T.out.row]; rfl
            have r2 : w6.cell? ⟨w.heap.size + 1, 2, none⟩ = some (.int .i64 a2) := by rw [cell_at T.out.row]; rfl
            have r3 : w6.cell? ⟨w.heap.size + 1, 3, none⟩ = some (.int .i64 a3) := by rw [cell_at T.out.row]; rfl
            have r4 : w6.cell? ⟨w.heap.size + 1, 4, none⟩ = some (.int .i64 a4) := by rw [cell_at T.out.row]; rfl
            have r5 : w6.cell? ⟨w.heap.size + 1, 5, none⟩ = some (.int .i64 a5) := by rw [cell_at T.out.row]; rfl
            have r6 : w6.cell? ⟨w.heap.size + 1, 6, none⟩ = some (.int .i64 a6) := by rw [cell_at T.out.row]; rfl
            have r7 : w6.cell? ⟨w.heap.size + 1, 7, none⟩ = some (.int .i64 a7) := by rw [cell_at T.out.row]; rfl
            cases x with
            | true =>
              go_wp2
              go_ret
              exact ⟨by simp [chkR, H0.out, H1.out, H2.out, H3.out, H4.out, H5.out], T.out.below⟩
            | false =>
              go_wp2_with fail
              refine (extra_b _ _ _).mono ?_
              rintro e w7 ⟨x, H6, rfl, B⟩
              have T := hid (T.out.next B.out)
              clear B o1 o2 o3 o4 r0 r1 r2 r3 r4 r5 r6 r7
              have o1 : w7.cell? ⟨w.heap.size, 1, none⟩ = some ((.string nm)) := by rw [cell_at T.out.op]; rfl
              have o2 : w7.cell? ⟨w.heap.size, 2, none⟩ = some ((.string tx)) := by rw [cell_at T.out.op]; rfl
              have o3 : w7.cell? ⟨w.heap.size, 3, none⟩ = some ((.int .i64 n)) := by rw [cell_at T.out.op]; rfl
              have o4 : w7.cell? ⟨w.heap.size, 4, none⟩ = some ((.int .i64 m)) := by rw [cell_at T.out.op]; rfl
              have r0 : w7.cell? ⟨w.heap.size + 1, 0, none⟩ = some (.int .i64 a0) := by rw [cell_at T.out.row]; rfl
              have r1 : w7.cell? ⟨w.heap.size + 1, 1, none⟩ = some (.int .i64 a1) := by rw [cell_at T.out.row]; rfl
              have r2 : w7.cell? ⟨w.heap.size + 1, 2, none⟩ = some (.int .i64 a2) := by rw [cell_at T.out.row]; rfl
              have r3 : w7.cell? ⟨w.heap.size + 1, 3, none⟩ = some (.int .i64 a3) := by rw [cell_at T.out.row]; rfl
              have r4 : w7.cell? ⟨w.heap.size + 1, 4, none⟩ = some (.int .i64 a4) := by rw [cell_at T.out.row]; rfl
              have r5 : w7.cell? ⟨w.heap.size + 1, 5, none⟩ = some (.int .i64 a5) := by rw [cell_at T.out.row]; rfl
              have r6 : w7.cell? ⟨w.heap.size + 1, 6, none⟩ = some (.int .i64 a6) := by rw [cell_at T.out.row]; rfl
              have r7 : w7.cell? ⟨w.heap.size + 1, 7, none⟩ = some (.int .i64 a7) := by rw [cell_at T.out.row]; rfl
              cases x with
              | true =>
                go_wp2
                go_ret
                exact ⟨by simp [chkR, H0.out, H1.out, H2.out, H3.out, H4.out, H5.out, H6.out], T.out.below⟩
              | false =>
                go_wp2_with fail
                refine (extra_b _ _ _).mono ?_
                rintro e w8 ⟨x, H7, rfl, B⟩
                have T := hid (T.out.next B.out)
                clear B o1 o2 o3 o4 r0 r1 r2 r3 r4 r5 r6 r7
                have o1 : w8.cell? ⟨w.heap.size, 1, none⟩ = some ((.string nm)) := by rw [cell_at T.out.op]; rfl
                have o2 : w8.cell? ⟨w.heap.size, 2, none⟩ = some ((.string tx)) := by rw [cell_at T.out.op]; rfl
                have o3 : w8.cell? ⟨w.heap.size, 3, none⟩ = some ((.int .i64 n)) := by rw [cell_at T.out.op]; rfl
                have o4 : w8.cell? ⟨w.heap.size, 4, none⟩ = some ((.int .i64 m)) := by rw [cell_at T.out.op]; rfl
                have r0 : w8.cell? ⟨w.heap.size + 1, 0, none⟩ = some (.int .i64 a0) := by rw [cell_at T.out.row]; rfl
                have r1 : w8.cell? ⟨w.heap.size + 1, 1, none⟩ = some (.int .i64 a1) := by rw [cell_at T.out.row]; rfl
                have r2 : w8.cell? ⟨w.heap.size + 1, 2, none⟩ = some (.int .i64 a2) := by rw [cell_at T.out.row]; rfl
                have r3 : w8.cell? ⟨w.heap.size + 1, 3, none⟩ = some (.int .i64 a3) := by rw [cell_at T.out.row]; rfl
                have r4 : w8.cell? ⟨w.heap.size + 1, 4, none⟩ = some (.int .i64 a4) := by rw [cell_at T.out.row]; rfl
                have r5 : w8.cell? ⟨w.heap.size + 1, 5, none⟩ = some (.int .i64 a5) := by rw [cell_at T.out.row]; rfl
                have r6 : w8.cell? ⟨w.heap.size + 1, 6, none⟩ = some (.int .i64 a6) := by rw [cell_at T.out.row]; rfl
                have r7 : w8.cell? ⟨w.heap.size + 1, 7, none⟩ = some (.int .i64 a7) := by rw [cell_at T.out.row]; rfl
                cases x with
                | true =>
                  go_wp2
                  go_ret
                  exact ⟨by simp [chkR, H0.out, H1.out, H2.out, H3.out, H4.out, H5.out, H6.out, H7.out], T.out.below⟩
                | false =>
                  go_wp2
                  go_ret
                  exact ⟨by simp [chkR, H0.out, H1.out, H2.out, H3.out, H4.out, H5.out, H6.out, H7.out], T.out.below⟩
end Go.Proofs.YtdhkdniddjnigaaGreatDoor

namespace Go.Proofs.YtdhkdniddjnigaaGreatDoor
open Go.RowKit
set_option linter.unusedVariables false

theorem mem2 {c d : Comp} {cs : List Comp} : d ∈ c :: d :: cs := List.mem_cons_of_mem _ List.mem_cons_self

theorem mem3 {a b c : Comp} {cs : List Comp} : c ∈ a :: b :: c :: cs := List.mem_cons_of_mem _ mem2
theorem str_len (nm : ByteArray) : nm.data.toList.length = nm.size := Array.length_toList
/-- What Check tells of a kind that may be. -/
def chkT (k : Nat) (s t n m : Int) : Int := chkR (formN.getD (k * 8) 0) (formN.getD (k * 8 + 1) 0) (formN.getD (k * 8 + 2) 0) (formN.getD (k * 8 + 3) 0) (formN.getD (k * 8 + 4) 0) (formN.getD (k * 8 + 5) 0) (formN.getD (k * 8 + 6) 0) (formN.getD (k * 8 + 7) 0) s t n m

theorem check_tab {w : World} (h : Tab w) (k : Nat) (h1 : 1 ≤ k) (h8 : k ≤ 8) (nm tx : ByteArray) (n m : Int) : Calls Tryz.prog 169 #[opV k nm tx n m] w fun e w' => e = .returned (.int .i64 (chkT k nm.size tx.size n m)) ∧ Below w.heap.size w w' :=
  check_row k h1 h8 nm tx n m _ _ _ _ _ _ _ _ (h.cell _ (by omega)) (h.cell _ (by omega)) (h.cell _ (by omega)) (h.cell _ (by omega)) (h.cell _ (by omega)) (h.cell _ (by omega)) (h.cell _ (by omega)) (h.cell _ (by omega)) h.lt

/-- What Check tells, of any op. -/
def chkA (k : Int) (s t n m : Int) : Int := if k < 1 ∨ 8 < k then 50 else chkT k.toNat s t n m
theorem chkA_in {k : Int} (h1 : 1 ≤ k) (h8 : k ≤ 8) (s t n m : Int) : chkA k s t n m = chkT k.toNat s t n m := by unfold chkA; rw [if_neg (by omega)]
theorem chkA_out {k : Int} (h : k < 1 ∨ 8 < k) (s t n m : Int) : chkA k s t n m = 50 := by unfold chkA; rw [if_pos h]

set_option maxRecDepth 1000000 in
theorem check_out {w : World} {k : Int} (h : k < 1 ∨ 8 < k) (nm tx : ByteArray) (n m : Int) : Calls Tryz.prog 169 #[opV k nm tx n m] w fun e w' => e = .returned (.int .i64 50) ∧ Below w.heap.size w w' := by
  by_cases h1 : k < 1
  · have e1 : decide (k < 1) = true := by simpa using h1
    clear h
    go_enter Tryz.func169, Tryz.ntmps169
    go_wp2
    go_ret
    exact ⟨rfl, ba _ _⟩
  · have e1 : decide (k < 1) = false := by simpa using h1
    have e2 : decide (8 < k) = true := by simp; omega
    clear h
    go_enter Tryz.func169, Tryz.ntmps169
    go_wp2
    go_ret
    exact ⟨rfl, ba _ _⟩
theorem check_any {w : World} (hT : Tab w) (k : Int) (nm tx : ByteArray) (n m : Int) : Calls Tryz.prog 169 #[opV k nm tx n m] w fun e w' => e = .returned (.int .i64 (chkA k nm.size tx.size n m)) ∧ Below w.heap.size w w' := by
  by_cases h : k < 1 ∨ 8 < k
  · rw [chkA_out h]
    exact check_out h nm tx n m
  · rw [chkA_in (by omega) (by omega)]
    have := check_tab hT k.toNat (by omega) (by omega) nm tx n m
    rw [show ((k.toNat : Nat) : Int) = k by omega] at this
    exact this
end Go.Proofs.YtdhkdniddjnigaaGreatDoor

namespace Go.Proofs.YtdhkdniddjnigaaGreatDoor
open Go.RowKit
set_option linter.unusedVariables false
/-- A row of one's own, whatever its elements' size. -/
def rowC (e : TypeId) (size : Nat) (v : Value) (n : Nat) (vs : List Value) : Comp := ⟨fun w => w.ownsRow 0 e size v n vs, v.ownBlock.toList⟩
theorem owns_keep {w w' : World} {e : TypeId} {size n : Nat} {v : Value} {vs : List Value} (h : w.ownsRow 0 e size v n vs) (hb : ∀ k ∈ v.ownBlock.toList, w'.heap[k]? = w.heap[k]?) : w'.ownsRow 0 e size v n vs :=
  ⟨h.1, by
    rcases h.2 with hn | ⟨g, cap, cur, rfl, hg, hgg, rest⟩
    · exact Or.inl hn
    · exact Or.inr ⟨g, cap, cur, rfl, hg, by rw [hb g (by simp [Value.ownBlock])]; exact hgg, rest⟩⟩
theorem rowC_good (e : TypeId) (size : Nat) (v : Value) (n : Nat) (vs : List Value) : (rowC e size v n vs).Good := fun w w' h hs hb => owns_keep h hb
theorem All.addRow0 {e : TypeId} {size : Nat} {cs : List Comp} {w : World} (h : All cs w) : All (rowC e size (.slice none 0 0) 0 [] :: cs) w :=
  ⟨⟨rowC_good _ _ _ _ _, ⟨by simp, Or.inl ⟨rfl, rfl⟩⟩, fun k hk => by simp [rowC, Value.ownBlock] at hk⟩, fun d hd k hk => by simp [rowC, Value.ownBlock] at hk, h⟩
theorem All.rowGrow {e : TypeId} {size n n' : Nat} {v v' : Value} {vs vs' : List Value} {cs : List Comp} {w w1 : World} {base : Nat} (h : All (rowC e size v n vs :: cs) w) (hown : w1.ownsRow base e size v' n' vs') (hg : w.grownBy w1 v.ownBlock) (hat : v'.ownBlock = v.ownBlock ∨ v'.ownBlock = some w.heap.size) : All (rowC e size v' n' vs' :: cs) w1 := by
  have ho' := owns_zero hown
  refine h.turn ((grown_fr hg).mono (fun k hk => by simpa [rowC] using hk)) (rowC_good _ _ _ _ _) ho' (fun k hk => ?_) (fun k hk => ?_)
  · have hk' : v'.ownBlock = some k := by simpa [rowC] using hk
    rcases hat with e1 | e1
    · exact Or.inl (by simp [rowC, ← e1, hk'])
    · rw [e1] at hk'; simp at hk'; exact Or.inr (by omega)
  · have hk' : v'.ownBlock = some k := by simpa [rowC] using hk
    exact (ho'.lt k hk').2
/-- Elements are laid behind a row of one's own. -/
theorem appN {W : World} {e t : TypeId} {i : TypeInfo} {z v : Value} {size bytes n m c : Nat} {us news : List Value} {cs : List Comp} (hu : Tryz.prog.underlying t = some (.slice e)) (hi : Tryz.prog.info? e = some i) (hz : i.zero = some z) (hsize : i.size = size) (hby : i.bytes = bytes) (hzs : z.cells.size = size) (hsz : 0 < size)
    (A : All (rowC e size v n us :: cs) W) (ao2 : Option Addr) (hl : news.length = m * size) (hnews : 0 < m → ∃ a, ao2 = some a ∧ ∀ j u, news[j]? = some u → W.cell? (a.add j) = some u) (h1 : ∀ u ∈ news, u.oneCell' = true) (h63 : n + m ≤ maxLen) (hb : (n + m) * bytes ≤ 140737488355328) :
    ∃ ao cap w', (Builtin.append_ #[t, t] t #[v, .slice ao2 m c]).run Tryz.prog W = .ok (.slice ao (n + m) cap) w' ∧ All (rowC e size (.slice ao (n + m) cap) (n + m) (us ++ news) :: cs) w' := by
  have hown : W.ownsRow 0 e size v n us := A.1.2.1
  by_cases hm : 0 < m
  · obtain ⟨a, rfl, hc⟩ := hnews hm
    obtain ⟨v', w', hr, h2, h3, h4, h5⟩ := run_append_own_at (P := Tryz.prog) W 0 t t e i z size bytes hu hi hz hsize hby hzs hsz v n us hown a m c news hl hc h1 h63 hb (by omega)
    obtain ⟨ao, cap, rfl⟩ := owns_form h2
    exact ⟨ao, cap, w', hr, A.rowGrow (base := 0) h2 h3 h5⟩
  · have hm0 : m = 0 := by omega
    subst hm0
    have hn0 : news = [] := List.length_eq_zero_iff.1 (by omega)
    subst hn0
    subst hsize
    rw [List.append_nil]
    rcases hown.2 with ⟨rfl, rfl⟩ | ⟨g, cap, cur, rfl, _, _, hle, _⟩
    · exact ⟨none, 0, W, run_append_nothing W t t t e i hu hi none 0 0 (Nat.le_refl _) _ (srcNil hu ao2 c), A⟩
    · exact ⟨_, cap, W, run_append_nothing W t t t e i hu hi _ n cap hle _ (srcNil hu ao2 c), A⟩
theorem All.addRowE {cs : List Comp} {w : World} (h : All cs w) (e : TypeId) (size : Nat) : All (rowC e size (.slice (some ⟨w.heap.size, 0, none⟩) 0 0) 0 [] :: cs) (w.alloc (.cells #[] e)) := by
  refine h.add (Fr.below (ba w _)) (rowC_good _ _ _ _ _) ?_ (fun k hk => ?_)
  · exact ⟨by simp, Or.inr ⟨w.heap.size, 0, #[], rfl, Nat.zero_le _, heap_alloc_new w _, Nat.le_refl _, by unfold maxLen; omega, by simp, by simp⟩⟩
  · have : k = w.heap.size := by simpa [rowC, Value.ownBlock, eq_comm] using hk
    subst this
    exact ⟨Nat.le_refl _, by simp⟩
/-- A row of one's own is read. -/
theorem row_at {w : World} {base : Nat} {e : TypeId} {size : Nat} {ao : Option Addr} {n c n' : Nat} {us : List Value} (h : w.ownsRow base e size (.slice ao n' c) n us) {k : Nat} {u : Value} (hu : us[k]? = some u) : ∃ g, ao = some ⟨g, 0, none⟩ ∧ g < w.heap.size ∧ w.cell? ⟨g, k, none⟩ = some u := by
  have hk := (List.getElem?_eq_some_iff.1 hu).1
  have hl := h.1
  rcases h.2 with ⟨e, e2⟩ | ⟨g, cap, cur, e, _, hg, hn, hm, hcs, ht⟩
  · subst e2; omega
  · simp only [Value.slice.injEq] at e
    refine ⟨g, e.1, (Array.getElem?_eq_some_iff.1 hg).1, ?_⟩
    rw [cell_at hg, ← Array.getElem?_toList]
    rw [← ht, List.getElem?_take, if_pos (by omega)] at hu
    exact hu
theorem row_cap {w : World} {base : Nat} {e : TypeId} {size : Nat} {ao : Option Addr} {n c n' : Nat} {us : List Value} (h : w.ownsRow base e size (.slice ao n' c) n us) : n' = n ∧ n ≤ c ∧ c ≤ maxLen := by
  rcases h.2 with ⟨e, e2⟩ | ⟨g, cap, cur, e, _, hg, hn, hm, hcs, ht⟩
  · simp only [Value.slice.injEq] at e
    obtain ⟨_, rfl, rfl⟩ := e
    exact ⟨e2.symm, by omega, by unfold maxLen; omega⟩
  · simp only [Value.slice.injEq] at e
    obtain ⟨_, rfl, rfl⟩ := e
    exact ⟨rfl, hn, hm⟩
theorem flat_len {α : Type} {f : α → List Value} {s : Nat} (hf : ∀ x, (f x).length = s) (l : List α) : (l.flatMap f).length = l.length * s := by
  induction l with
  | nil => simp
  | cons x l ih => rw [List.flatMap_cons, List.length_append, ih, hf, List.length_cons, Nat.succ_mul]; omega
theorem flat_at {α : Type} {f : α → List Value} {s : Nat} (hf : ∀ x, (f x).length = s) {l : List α} {i : Nat} {x : α} (hx : l[i]? = some x) {j : Nat} (hj : j < s) : (l.flatMap f)[i * s + j]? = (f x)[j]? := by
  induction l generalizing i with
  | nil => simp at hx
  | cons y l ih =>
    rw [List.flatMap_cons]
    cases i with
    | zero =>
      simp only [List.getElem?_cons_zero, Option.some.injEq] at hx
      subst hx
      rw [Nat.zero_mul, Nat.zero_add, List.getElem?_append_left (by rw [hf]; exact hj)]
    | succ i =>
      simp only [List.getElem?_cons_succ] at hx
      rw [List.getElem?_append_right (by rw [hf, Nat.succ_mul]; omega), hf, ← ih hx]
      congr 1
      rw [Nat.succ_mul]; omega
theorem flat_one {α : Type} {f : α → List Value} (hf : ∀ x, ∀ u ∈ f x, u.oneCell' = true) (l : List α) : ∀ u ∈ l.flatMap f, u.oneCell' = true := by
  intro u hu
  obtain ⟨x, _, h⟩ := List.mem_flatMap.1 hu
  exact hf x u h
/-- Cells that are read element by element are read as a row. -/
theorem flat_src {α : Type} {f : α → List Value} {s : Nat} (hs : 0 < s) (hf : ∀ x, (f x).length = s) {W : World} {ao : Option Addr} {l : List α} (h : ∀ (i : Nat) (x : α), l[i]? = some x → ∃ g o, ao = some ⟨g, o, none⟩ ∧ g < W.heap.size ∧ ∀ j u, (f x)[j]? = some u → W.cell? ⟨g, o + i * s + j, none⟩ = some u) :
    0 < l.length → ∃ a, ao = some a ∧ ∀ j u, (l.flatMap f)[j]? = some u → W.cell? (a.add j) = some u := by
  intro h0
  obtain ⟨g, o, rfl, _, _⟩ := h 0 _ (List.getElem?_eq_getElem h0)
  refine ⟨_, rfl, fun j u hu => ?_⟩
  have hj : j < l.length * s := by have := (List.getElem?_eq_some_iff.1 hu).1; rwa [flat_len hf] at this
  have hd : j / s < l.length := Nat.div_lt_of_lt_mul (by rw [Nat.mul_comm]; exact hj)
  obtain ⟨g', o', e, _, hc⟩ := h (j / s) _ (List.getElem?_eq_getElem hd)
  cases e
  have hm : j % s < s := Nat.mod_lt _ hs
  have h1 := flat_at hf (List.getElem?_eq_getElem hd) hm
  have h2 : j / s * s + j % s = j := by rw [Nat.mul_comm]; exact Nat.div_add_mod j s
  rw [h2, hu] at h1
  have h3 := hc (j % s) u h1.symm
  rw [Addr.add_lit]
  rw [show o + j / s * s + j % s = o + j by omega] at h3
  exact h3
/-- A row of one's own is read element by element. -/
theorem flat_row {α : Type} {f : α → List Value} {s : Nat} (hf : ∀ x, (f x).length = s) {W : World} {base : Nat} {e : TypeId} {ao : Option Addr} {n n' c : Nat} {l : List α} (hs : 0 < s) (h : W.ownsRow base e s (.slice ao n' c) n (l.flatMap f)) :
    ∀ (i : Nat) (x : α), l[i]? = some x → ∃ g o, ao = some ⟨g, o, none⟩ ∧ g < W.heap.size ∧ ∀ j u, (f x)[j]? = some u → W.cell? ⟨g, o + i * s + j, none⟩ = some u := by
  intro i x hx
  have hi := (List.getElem?_eq_some_iff.1 hx).1
  have hat : ∀ j u, (f x)[j]? = some u → ∃ g, ao = some ⟨g, 0, none⟩ ∧ g < W.heap.size ∧ W.cell? ⟨g, i * s + j, none⟩ = some u := by
    intro j u hu
    have hj : j < s := by have := (List.getElem?_eq_some_iff.1 hu).1; rwa [hf] at this
    exact row_at h (by rw [flat_at hf hx hj]; exact hu)
  obtain ⟨g, rfl, hg, _⟩ := hat 0 _ (List.getElem?_eq_getElem (by rw [hf]; exact hs))
  refine ⟨g, 0, rfl, hg, fun j u hu => ?_⟩
  obtain ⟨g', e, _, hc⟩ := hat j u hu
  cases e
  rw [Nat.zero_add]
  exact hc

end Go.Proofs.YtdhkdniddjnigaaGreatDoor

namespace Go.Proofs.YtdhkdniddjnigaaGreatDoor
set_option linter.unusedVariables false

/-- Digits read from the left; what is above the greatest number is none. -/
def decN : Nat → List UInt8 → Option Nat
  | acc, [] => some acc
  | acc, c :: r => if 48 ≤ c.toNat ∧ c.toNat ≤ 57 then (if 10 * acc + (c.toNat - 48) ≤ 9223372036854775807 then decN (10 * acc + (c.toNat - 48)) r else none) else none
/-- A number as it is written. -/
def numW (l : List UInt8) : Option Nat := if l = [] ∨ (1 < l.length ∧ l.head? = some 48) then none else decN 0 l

theorem decN_append (a b : List UInt8) : ∀ acc, decN acc (a ++ b) = (decN acc a).bind fun x => decN x b := by
  induction a with
  | nil => intro acc; simp [decN]
  | cons c r ih =>
    intro acc
    simp only [List.cons_append, decN]
    split
    · split
      · exact ih _
      · rfl
    · rfl
theorem toNat_dig {d : Nat} (h : d < 10) : (UInt8.ofNat (48 + d)).toNat = 48 + d := by simp; omega
theorem decN_one {acc d : Nat} (hd : d < 10) (h : 10 * acc + d ≤ 9223372036854775807) : decN acc [UInt8.ofNat (48 + d)] = some (10 * acc + d) := by
  simp only [decN]
  rw [toNat_dig hd, if_pos ⟨by omega, by omega⟩, if_pos (by omega)]
  congr 1
  omega
theorem decN_digits : ∀ v : Nat, v ≤ 9223372036854775807 → decN 0 (Lib.decDigits v) = some v := by
  intro v
  induction v using Nat.strongRecOn with
  | _ v ih =>
    intro hv
    rw [Lib.decDigits]
    split
    · rename_i h
      rw [decN_one h (by omega)]
      simp
    · rename_i h
      rw [decN_append, ih (v / 10) (by omega) (by omega), Option.bind_some, decN_one (by omega) (by omega)]
      congr 1
      omega
theorem digits_ne (v : Nat) : Lib.decDigits v ≠ [] := by
  rw [Lib.decDigits]
  split <;> simp
theorem digits_head : ∀ v : Nat, 1 ≤ v → (Lib.decDigits v).head? ≠ some 48 := by
  intro v
  induction v using Nat.strongRecOn with
  | _ v ih =>
    intro hv
    rw [Lib.decDigits]
    split
    · rename_i h
      simp only [List.head?_cons, ne_eq, Option.some.injEq]
      intro e
      have := congrArg UInt8.toNat e
      rw [toNat_dig h] at this
      simp at this
      omega
    · rename_i h
      have := ih (v / 10) (by omega) (by omega)
      cases hd : Lib.decDigits (v / 10) with
      | nil => exact absurd hd (digits_ne _)
      | cons a b => rw [hd] at this; simpa using this
theorem digits_long {v : Nat} (h : 1 < (Lib.decDigits v).length) : 1 ≤ v := by
  apply Classical.byContradiction
  intro hn
  have : v = 0 := by omega
  subst this
  rw [Lib.decDigits] at h
  simp at h
theorem digits_len : ∀ (k v : Nat), v < 10 ^ (k + 1) → (Lib.decDigits v).length ≤ k + 1
  | 0, v, h => by rw [Lib.decDigits, dif_pos (by simpa using h)]; simp
  | k + 1, v, h => by
    rw [Lib.decDigits]
    split
    · simp
    · rw [List.length_append]
      have := digits_len k (v / 10) (by rw [Nat.pow_succ] at h; omega)
      simp only [List.length_cons, List.length_nil]
      omega
theorem digits_short {v : Nat} (h : v ≤ 9223372036854775807) : (Lib.decDigits v).length ≤ 19 := digits_len 18 v (by omega)
theorem numW_digits {v : Nat} (h : v ≤ 9223372036854775807) : numW (Lib.decDigits v) = some v := by
  unfold numW
  rw [if_neg]
  · exact decN_digits v h
  · rintro (e | ⟨h1, h2⟩)
    · exact digits_ne _ e
    · exact digits_head v (digits_long h1) h2
theorem decN_le : ∀ {l : List UInt8} {acc v : Nat}, acc ≤ 9223372036854775807 → decN acc l = some v → v ≤ 9223372036854775807
  | [], acc, v, ha, h => by simp only [decN, Option.some.injEq] at h; omega
  | c :: r, acc, v, ha, h => by
    simp only [decN] at h
    split at h
    · split at h
      · exact decN_le (by assumption) h
      · simp at h
    · simp at h
theorem numW_le {l : List UInt8} {v : Nat} (h : numW l = some v) : v ≤ 9223372036854775807 := by
  unfold numW at h
  split at h
  · simp at h
  · exact decN_le (by omega) h
theorem byte_of (c : UInt8) (h : 48 ≤ c.toNat) : UInt8.ofNat (48 + (c.toNat - 48)) = c := by
  rw [show 48 + (c.toNat - 48) = c.toNat by omega]
  simp
theorem snoc_cases (l : List UInt8) : l = [] ∨ ∃ m c, l = m ++ [c] := by
  rcases List.eq_nil_or_concat l with h | ⟨m, c, h⟩
  · exact Or.inl h
  · exact Or.inr ⟨m, c, by rw [h, List.concat_eq_append]⟩
theorem digits_of : ∀ (n : Nat) (l : List UInt8) (v : Nat), l.length = n → numW l = some v → l = Lib.decDigits v := by
  intro n
  induction n with
  | zero =>
    intro l v hl h
    have : l = [] := List.eq_nil_of_length_eq_zero hl
    subst this
    simp [numW] at h
  | succ n ih =>
    intro l v hl h
    rcases snoc_cases l with rfl | ⟨m, c, rfl⟩
    · simp at hl
    unfold numW at h
    split at h
    · simp at h
    rename_i hno
    rw [decN_append] at h
    cases hm : decN 0 m with
    | none => rw [hm] at h; simp at h
    | some u =>
      rw [hm, Option.bind_some] at h
      simp only [decN] at h
      split at h
      · rename_i hc
        split at h
        · rename_i hle
          simp only [Option.some.injEq] at h
          subst h
          by_cases hm0 : m = []
          · subst hm0
            simp only [decN, Option.some.injEq] at hm
            subst hm
            rw [Lib.decDigits, dif_pos (by omega)]
            simp only [List.nil_append, Nat.mul_zero, Nat.zero_add]
            rw [byte_of c hc.1]
          · have hml : 1 ≤ m.length := List.length_pos_iff.2 hm0
            have hh : m.head? = (m ++ [c]).head? := by
              cases m with
              | nil => exact absurd rfl hm0
              | cons a b => rfl
            have hnh : m.head? ≠ some 48 := by
              intro e
              exact hno (Or.inr ⟨by simp; omega, by rw [← hh]; exact e⟩)
            have hnm : numW m = some u := by
              unfold numW
              rw [if_neg (by rintro (e | ⟨_, e⟩); exact hm0 e; exact hnh e)]
              exact hm
            have hmd := ih m u (by simp at hl; omega) hnm
            have hu : 1 ≤ u := by
              apply Classical.byContradiction
              intro hn
              have : u = 0 := by omega
              subst this
              rw [Lib.decDigits, dif_pos (by omega)] at hmd
              rw [hmd] at hnh
              exact hnh rfl
            have h10 : ¬ (10 * u + (c.toNat - 48)) < 10 := by omega
            rw [Lib.decDigits, dif_neg h10, show (10 * u + (c.toNat - 48)) / 10 = u by omega, ← hmd, show (10 * u + (c.toNat - 48)) % 10 = c.toNat - 48 by omega, byte_of c hc.1]
        · simp at h
      · simp at h
theorem numW_spelt {l : List UInt8} {v : Nat} (h : numW l = some v) : l = Lib.decDigits v := digits_of _ l v rfl h
theorem parse_of : ∀ {l : List UInt8} {acc v : Nat}, decN acc l = some v → Lib.parseUint10 acc l = .ok v
  | [], acc, v, h => by simp only [decN, Option.some.injEq] at h; rw [Lib.parseUint10, h]
  | c :: r, acc, v, h => by
    simp only [decN] at h
    split at h
    · rename_i hc
      split at h
      · rename_i hle
        simp only [Lib.parseUint10]
        rw [if_pos hc, if_neg (by omega), if_neg (by omega), show acc * 10 = 10 * acc by omega]
        exact parse_of h
      · simp at h
    · simp at h
theorem atoi_of {l : List UInt8} {v : Nat} (h : numW l = some v) : Lib.atoiAll l = .ok (v : Int) := by
  have hle := numW_le h
  unfold numW at h
  split at h
  · simp at h
  rename_i hno
  cases l with
  | nil => exact absurd (Or.inl rfl) hno
  | cons c r =>
    have hp := parse_of h
    simp only [decN] at h
    split at h
    · rename_i hc
      unfold Lib.atoiAll
      simp only
      rw [if_neg (by omega), Lib.parseMag, if_neg (by simp), hp]
      simp only
      rw [if_neg (by omega), if_neg (by omega), if_neg (by omega)]
    · simp at h
/-- What the program's Number tells is the document's. -/
theorem numW_none {l : List UInt8} (h : numW l = none) {v : Int} (hv : v ≤ 9223372036854775807) (h0 : 0 ≤ v) : Lib.itoa v ≠ l := by
  intro e
  unfold Lib.itoa at e
  rw [if_neg (by omega)] at e
  rw [← e, numW_digits (by omega)] at h
  simp at h
end Go.Proofs.YtdhkdniddjnigaaGreatDoor

/- strconv.Atoi and Itoa at this program: which number is which. -/
namespace Go.Proofs
open Go.Shelf
def Tryz.laysM171_ren : Go.Shelf.Ren := ⟨fun | 171 => 61 | 243 => 100 | 246 => 131 | 283 => 173 | 284 => 174 | 285 => 175 | 286 => 176 | 129 => 201 | 317 => 200 | 318 => 202 | 319 => 203 | 320 => 204 | 337 => 220 | 338 => 221 | n => n, fun | 3 => 3 | 9 => 9 | 2 => 2 | 4 => 4 | 171 => 221 | 0 => 0 | 53 => 222 | 37 => 40 | 5 => 5 | 173 => 225 | 212 => 248 | 51 => 179 | 20 => 20 | 213 => 249 | 46 => 157 | 232 => 269 | 233 => 270 | n => n, fun | 17 => 4 | 18 => 6 | 19 => 7 | n => n⟩
theorem Tryz.laysM171 : Go.Proofs.LaysM.n171 Tryz.prog Tryz.laysM171_ren := {
  mixed := by kernel_rfl
  f129 := Tryz.func201.trans (congrArg some (by kernel_rfl))
  f171 := Tryz.func61.trans (congrArg some (by kernel_rfl))
  f243 := Tryz.func100.trans (congrArg some (by kernel_rfl))
  f246 := Tryz.func131.trans (congrArg some (by kernel_rfl))
  f283 := Tryz.func173.trans (congrArg some (by kernel_rfl))
  f284 := Tryz.func174.trans (congrArg some (by kernel_rfl))
  f285 := Tryz.func175.trans (congrArg some (by kernel_rfl))
  f286 := Tryz.func176.trans (congrArg some (by kernel_rfl))
  f317 := Tryz.func200.trans (congrArg some (by kernel_rfl))
  f318 := Tryz.func202.trans (congrArg some (by kernel_rfl))
  f319 := Tryz.func203.trans (congrArg some (by kernel_rfl))
  f320 := Tryz.func204.trans (congrArg some (by kernel_rfl))
  f337 := Tryz.func220.trans (congrArg some (by kernel_rfl))
  f338 := Tryz.func221.trans (congrArg some (by kernel_rfl))
  t0 := Tryz.underlying0
  a0 := Tryz.isAgg0
  z0 := Tryz.sizeOf0
  v0 := Tryz.zeroValue0
  t2 := Tryz.underlying2
  a2 := Tryz.isAgg2
  z2 := Tryz.sizeOf2
  v2 := Tryz.zeroValue2
  t3 := Tryz.underlying3
  a3 := Tryz.isAgg3
  z3 := Tryz.sizeOf3
  v3 := Tryz.zeroValue3
  t4 := Tryz.underlying4
  a4 := Tryz.isAgg4
  z4 := Tryz.sizeOf4
  v4 := Tryz.zeroValue4
  t5 := Tryz.underlying5
  a5 := Tryz.isAgg5
  z5 := Tryz.sizeOf5
  v5 := Tryz.zeroValue5
  t9 := Tryz.underlying9
  a9 := Tryz.isAgg9
  z9 := Tryz.sizeOf9
  v9 := Tryz.zeroValue9
  t20 := Tryz.underlying20
  a20 := Tryz.isAgg20
  z20 := Tryz.sizeOf20
  v20 := Tryz.zeroValue20
  t37 := Tryz.underlying40
  a37 := Tryz.isAgg40
  z37 := Tryz.sizeOf40
  v37 := Tryz.zeroValue40
  t46 := Tryz.underlying157
  a46 := Tryz.isAgg157
  z46 := Tryz.sizeOf157
  v46 := Tryz.zeroValue157
  t51 := Tryz.underlying179
  a51 := Tryz.isAgg179
  z51 := Tryz.sizeOf179
  v51 := Tryz.zeroValue179
  t53 := Tryz.underlying222
  a53 := Tryz.isAgg222
  z53 := Tryz.sizeOf222
  v53 := Tryz.zeroValue222
  t171 := Tryz.underlying221
  a171 := Tryz.isAgg221
  z171 := Tryz.sizeOf221
  v171 := Tryz.zeroValue221
  t173 := Tryz.underlying225
  a173 := Tryz.isAgg225
  z173 := Tryz.sizeOf225
  v173 := Tryz.zeroValue225
  t212 := Tryz.underlying248
  a212 := Tryz.isAgg248
  z212 := Tryz.sizeOf248
  v212 := Tryz.zeroValue248
  t213 := Tryz.underlying249
  a213 := Tryz.isAgg249
  z213 := Tryz.sizeOf249
  t232 := Tryz.underlying269
  a232 := Tryz.isAgg269
  z232 := Tryz.sizeOf269
  v232 := Tryz.zeroValue269
  t233 := Tryz.underlying270
  a233 := Tryz.isAgg270
  z233 := Tryz.sizeOf270
  v233 := Tryz.zeroValue270
  g17 := by kernel_rfl
  g18 := by kernel_rfl
  g19 := by kernel_rfl
  i0 := by kernel_rfl
  i2 := by kernel_rfl
  i3 := by kernel_rfl
  i4 := by kernel_rfl
  i5 := by kernel_rfl
  i9 := by kernel_rfl
  i20 := by kernel_rfl
  i37 := by kernel_rfl
  i46 := by kernel_rfl
  i51 := by kernel_rfl
  i53 := by kernel_rfl
  i171 := by kernel_rfl
  i173 := by kernel_rfl
  i212 := by kernel_rfl
  i232 := by kernel_rfl
  i233 := by kernel_rfl
  m17 := by kernel_rfl
  m18 := by kernel_rfl
  m19 := by kernel_rfl }
def Tryz.laysC172_ren : Go.Shelf.Ren := ⟨fun | 172 => 192 | 244 => 214 | 245 => 215 | 247 => 223 | 279 => 224 | 280 => 225 | 281 => 226 | 282 => 227 | 287 => 228 | 316 => 229 | 171 => 61 | 205 => 230 | 321 => 231 | 322 => 232 | 243 => 100 | 246 => 131 | 283 => 173 | 284 => 174 | 285 => 175 | 286 => 176 | 129 => 201 | 317 => 200 | 318 => 202 | 319 => 203 | 320 => 204 | 337 => 220 | 338 => 221 | n => n, fun | 9 => 9 | 3 => 3 | 75 => 190 | 76 => 227 | 4 => 4 | 5 => 5 | 167 => 263 | 37 => 40 | 0 => 0 | 85 => 264 | 2 => 2 | 168 => 266 | 53 => 222 | 175 => 271 | 46 => 157 | 210 => 274 | 127 => 230 | 145 => 279 | 143 => 277 | 21 => 21 | 171 => 221 | 173 => 225 | 212 => 248 | 51 => 179 | 20 => 20 | 213 => 249 | 232 => 269 | 233 => 270 | 80 => 193 | n => n, fun | 15 => 8 | 16 => 9 | 17 => 4 | 18 => 6 | 19 => 7 | n => n⟩
theorem Tryz.laysC172 : Go.Proofs.LaysC.n172 Tryz.prog Tryz.laysC172_ren := {
  mixed := by kernel_rfl
  f129 := Tryz.func201.trans (congrArg some (by kernel_rfl))
  f171 := Tryz.func61.trans (congrArg some (by kernel_rfl))
  f172 := Tryz.func192.trans (congrArg some (by kernel_rfl))
  f205 := Tryz.func230.trans (congrArg some (by kernel_rfl))
  f243 := Tryz.func100.trans (congrArg some (by kernel_rfl))
  f244 := Tryz.func214.trans (congrArg some (by kernel_rfl))
  f245 := Tryz.func215.trans (congrArg some (by kernel_rfl))
  f246 := Tryz.func131.trans (congrArg some (by kernel_rfl))
  f247 := Tryz.func223.trans (congrArg some (by kernel_rfl))
  f279 := Tryz.func224.trans (congrArg some (by kernel_rfl))
  f280 := Tryz.func225.trans (congrArg some (by kernel_rfl))
  f281 := Tryz.func226.trans (congrArg some (by kernel_rfl))
  f282 := Tryz.func227.trans (congrArg some (by kernel_rfl))
  f283 := Tryz.func173.trans (congrArg some (by kernel_rfl))
  f284 := Tryz.func174.trans (congrArg some (by kernel_rfl))
  f285 := Tryz.func175.trans (congrArg some (by kernel_rfl))
  f286 := Tryz.func176.trans (congrArg some (by kernel_rfl))
  f287 := Tryz.func228.trans (congrArg some (by kernel_rfl))
  f316 := Tryz.func229.trans (congrArg some (by kernel_rfl))
  f317 := Tryz.func200.trans (congrArg some (by kernel_rfl))
  f318 := Tryz.func202.trans (congrArg some (by kernel_rfl))
  f319 := Tryz.func203.trans (congrArg some (by kernel_rfl))
  f320 := Tryz.func204.trans (congrArg some (by kernel_rfl))
  f321 := Tryz.func231.trans (congrArg some (by kernel_rfl))
  f322 := Tryz.func232.trans (congrArg some (by kernel_rfl))
  f337 := Tryz.func220.trans (congrArg some (by kernel_rfl))
  f338 := Tryz.func221.trans (congrArg some (by kernel_rfl))
  t0 := Tryz.underlying0
  a0 := Tryz.isAgg0
  z0 := Tryz.sizeOf0
  v0 := Tryz.zeroValue0
  t2 := Tryz.underlying2
  a2 := Tryz.isAgg2
  z2 := Tryz.sizeOf2
  v2 := Tryz.zeroValue2
  t3 := Tryz.underlying3
  a3 := Tryz.isAgg3
  z3 := Tryz.sizeOf3
  v3 := Tryz.zeroValue3
  t4 := Tryz.underlying4
  a4 := Tryz.isAgg4
  z4 := Tryz.sizeOf4
  v4 := Tryz.zeroValue4
  t5 := Tryz.underlying5
  a5 := Tryz.isAgg5
  z5 := Tryz.sizeOf5
  v5 := Tryz.zeroValue5
  t9 := Tryz.underlying9
  a9 := Tryz.isAgg9
  z9 := Tryz.sizeOf9
  v9 := Tryz.zeroValue9
  t20 := Tryz.underlying20
  a20 := Tryz.isAgg20
  z20 := Tryz.sizeOf20
  v20 := Tryz.zeroValue20
  t21 := Tryz.underlying21
  a21 := Tryz.isAgg21
  z21 := Tryz.sizeOf21
  v21 := Tryz.zeroValue21
  t37 := Tryz.underlying40
  a37 := Tryz.isAgg40
  z37 := Tryz.sizeOf40
  v37 := Tryz.zeroValue40
  t46 := Tryz.underlying157
  a46 := Tryz.isAgg157
  z46 := Tryz.sizeOf157
  v46 := Tryz.zeroValue157
  t51 := Tryz.underlying179
  a51 := Tryz.isAgg179
  z51 := Tryz.sizeOf179
  v51 := Tryz.zeroValue179
  t53 := Tryz.underlying222
  a53 := Tryz.isAgg222
  z53 := Tryz.sizeOf222
  v53 := Tryz.zeroValue222
  t75 := Tryz.underlying190
  a75 := Tryz.isAgg190
  z75 := Tryz.sizeOf190
  v75 := Tryz.zeroValue190
  t76 := Tryz.underlying227
  a76 := Tryz.isAgg227
  z76 := Tryz.sizeOf227
  v76 := Tryz.zeroValue227
  t85 := Tryz.underlying264
  a85 := Tryz.isAgg264
  z85 := Tryz.sizeOf264
  v85 := Tryz.zeroValue264
  t127 := Tryz.underlying230
  a127 := Tryz.isAgg230
  z127 := Tryz.sizeOf230
  v127 := Tryz.zeroValue230
  t143 := Tryz.underlying277
  a143 := Tryz.isAgg277
  z143 := Tryz.sizeOf277
  v143 := Tryz.zeroValue277
  t145 := Tryz.underlying279
  a145 := Tryz.isAgg279
  z145 := Tryz.sizeOf279
  v145 := Tryz.zeroValue279
  t167 := Tryz.underlying263
  a167 := Tryz.isAgg263
  z167 := Tryz.sizeOf263
  v167 := Tryz.zeroValue263
  t168 := Tryz.underlying266
  a168 := Tryz.isAgg266
  z168 := Tryz.sizeOf266
  v168 := Tryz.zeroValue266
  t171 := Tryz.underlying221
  a171 := Tryz.isAgg221
  z171 := Tryz.sizeOf221
  v171 := Tryz.zeroValue221
  t173 := Tryz.underlying225
  a173 := Tryz.isAgg225
  z173 := Tryz.sizeOf225
  v173 := Tryz.zeroValue225
  t175 := Tryz.underlying271
  a175 := Tryz.isAgg271
  z175 := Tryz.sizeOf271
  v175 := Tryz.zeroValue271
  t210 := Tryz.underlying274
  a210 := Tryz.isAgg274
  z210 := Tryz.sizeOf274
  v210 := Tryz.zeroValue274
  t212 := Tryz.underlying248
  a212 := Tryz.isAgg248
  z212 := Tryz.sizeOf248
  v212 := Tryz.zeroValue248
  t213 := Tryz.underlying249
  a213 := Tryz.isAgg249
  z213 := Tryz.sizeOf249
  t232 := Tryz.underlying269
  a232 := Tryz.isAgg269
  z232 := Tryz.sizeOf269
  v232 := Tryz.zeroValue269
  t233 := Tryz.underlying270
  a233 := Tryz.isAgg270
  z233 := Tryz.sizeOf270
  v233 := Tryz.zeroValue270
  g15 := by kernel_rfl
  g16 := by kernel_rfl
  g17 := by kernel_rfl
  g18 := by kernel_rfl
  g19 := by kernel_rfl
  t80 := Tryz.underlying193
  a80 := Tryz.isAgg193
  z80 := Tryz.sizeOf193
  v80 := Tryz.zeroValue193
  i0 := by kernel_rfl
  i2 := by kernel_rfl
  i3 := by kernel_rfl
  i4 := by kernel_rfl
  i5 := by kernel_rfl
  i9 := by kernel_rfl
  i20 := by kernel_rfl
  i21 := by kernel_rfl
  i37 := by kernel_rfl
  i46 := by kernel_rfl
  i51 := by kernel_rfl
  i53 := by kernel_rfl
  i75 := by kernel_rfl
  i76 := by kernel_rfl
  i80 := by kernel_rfl
  i85 := by kernel_rfl
  i127 := by kernel_rfl
  i143 := by kernel_rfl
  i145 := by kernel_rfl
  i167 := by kernel_rfl
  i168 := by kernel_rfl
  i171 := by kernel_rfl
  i173 := by kernel_rfl
  i175 := by kernel_rfl
  i210 := by kernel_rfl
  i212 := by kernel_rfl
  i232 := by kernel_rfl
  i233 := by kernel_rfl
  m15 := by kernel_rfl
  m16 := by kernel_rfl
  m17 := by kernel_rfl
  m18 := by kernel_rfl
  m19 := by kernel_rfl
  c0 := by kernel_rfl
  c2 := by kernel_rfl
  c3 := by kernel_rfl
  c4 := by kernel_rfl
  c5 := by kernel_rfl
  c9 := by kernel_rfl
  c20 := by kernel_rfl
  c21 := by kernel_rfl
  c37 := by kernel_rfl
  c46 := by kernel_rfl
  c51 := by kernel_rfl
  c53 := by kernel_rfl
  c75 := by kernel_rfl
  c76 := by kernel_rfl
  c80 := by kernel_rfl
  c85 := by kernel_rfl
  c127 := by kernel_rfl
  c143 := by kernel_rfl
  c145 := by kernel_rfl
  c167 := by kernel_rfl
  c168 := by kernel_rfl
  c171 := by kernel_rfl
  c173 := by kernel_rfl
  c175 := by kernel_rfl
  c210 := by kernel_rfl
  c212 := by kernel_rfl
  c213 := by kernel_rfl
  c232 := by kernel_rfl
  c233 := by kernel_rfl }
end Go.Proofs
