import Derived.Test.YtdhkdniddjnigaaGreatDoorWrong
namespace Go.Proofs.YtdhkdniddjnigaaGreatDoor
open Go.RowKit
set_option linter.unusedVariables false

abbrev opV (k : Int) (nm tx : ByteArray) (n m : Int) : Value := .agg #[.int .i64 k, .string nm, .string tx, .int .i64 n, .int .i64 m]
abbrev opB (k : Int) (nm tx : ByteArray) (n m : Int) : Obj := .cells #[.int .i64 k, .string nm, .string tx, .int .i64 n, .int .i64 m] 55

/-- What Check tells of an op whose kind may be, by the row of its kind. -/
def chkR (a0 a1 a2 a3 a4 a5 a6 a7 : Int) (s t n m : Int) : Int :=
  if wr a0 a1 s then 51 else if wr a2 a3 t then 52 else if wr a4 a5 n then 53 else if wr a6 a7 m then 54
  else if ex a1 s then 55 else if ex a3 t then 55 else if ex a5 n then 55 else if ex a7 m then 55 else 0

/-- The op and the row of its kind lie in two blocks of their own. -/
structure Two (w w1 : World) (o f : Obj) : Prop where
  op : w1.heap[w.heap.size]? = some o
  row : w1.heap[w.heap.size + 1]? = some f
  lt : w.heap.size + 1 < w1.heap.size
  below : Below w.heap.size w w1

theorem Two.first (w : World) (o f : Obj) : Two w ((w.alloc o).alloc f) o f := by
  have h1 := heap_alloc_new w o
  have h2 := heap_alloc_new (w.alloc o) f
  have hs : (w.alloc o).heap.size = w.heap.size + 1 := by simp
  rw [hs] at h2
  refine ⟨?_, h2, by simp, b2 (ba w o) (ba _ f)⟩
  rw [(ba (w.alloc o) f).block _ (by simp)]; exact h1
theorem Two.next {w w1 w2 : World} {o f : Obj} (h : Two w w1 o f) (hb : Below w1.heap.size w1 w2) : Two w w2 o f :=
  ⟨by rw [hb.block _ (Nat.lt_of_succ_lt h.lt)]; exact h.op, by rw [hb.block _ h.lt]; exact h.row, Nat.lt_of_lt_of_le h.lt hb.size, b2 h.below hb⟩

set_option maxHeartbeats 3200000 in
set_option maxRecDepth 1000000 in
theorem check_row {w : World} (k : Nat) (hk1 : 1 ≤ k) (hk8 : k ≤ 8) (nm tx : ByteArray) (n m : Int) (a0 a1 a2 a3 a4 a5 a6 a7 : Int)
    (c0 : w.cell? ⟨3, k * 8, none⟩ = some (.int .i64 a0))
    (c1 : w.cell? ⟨3, k * 8 + 1, none⟩ = some (.int .i64 a1))
    (c2 : w.cell? ⟨3, k * 8 + 2, none⟩ = some (.int .i64 a2))
    (c3 : w.cell? ⟨3, k * 8 + 3, none⟩ = some (.int .i64 a3))
    (c4 : w.cell? ⟨3, k * 8 + 4, none⟩ = some (.int .i64 a4))
    (c5 : w.cell? ⟨3, k * 8 + 5, none⟩ = some (.int .i64 a5))
    (c6 : w.cell? ⟨3, k * 8 + 6, none⟩ = some (.int .i64 a6))
    (c7 : w.cell? ⟨3, k * 8 + 7, none⟩ = some (.int .i64 a7))
    (h0 : 3 < w.heap.size) :
    Calls Tryz.prog 169 #[opV k nm tx n m] w fun e w' => e = .returned (.int .i64 (chkR a0 a1 a2 a3 a4 a5 a6 a7 nm.size tx.size n m)) ∧ Below w.heap.size w w' := by
  have A0 := fun o => cell_under (ba w o) h0 c0
  have A1 := fun o => cell_under (ba w o) h0 c1
  have A2 := fun o => cell_under (ba w o) h0 c2
  have A3 := fun o => cell_under (ba w o) h0 c3
  have A4 := fun o => cell_under (ba w o) h0 c4
  have A5 := fun o => cell_under (ba w o) h0 c5
  have A6 := fun o => cell_under (ba w o) h0 c6
  have A7 := fun o => cell_under (ba w o) h0 c7
  clear c0 c1 c2 c3 c4 c5 c6 c7 h0
  go_enter Tryz.func169, Tryz.ntmps169
  go_wp2_with fail
  refine (wrong_b _ _ _).mono ?_
  rintro e w1 ⟨x, H0, rfl, B⟩
  have T := hid ((Two.first w _ _).next B.out)
  clear B A0 A1 A2 A3 A4 A5 A6 A7
  have o1 : w1.cell? ⟨w.heap.size, 1, none⟩ = some ((.string nm)) := by rw [cell_at T.out.op]; rfl
  have o2 : w1.cell? ⟨w.heap.size, 2, none⟩ = some ((.string tx)) := by rw [cell_at T.out.op]; rfl
  have o3 : w1.cell? ⟨w.heap.size, 3, none⟩ = some ((.int .i64 n)) := by rw [cell_at T.out.op]; rfl
  have o4 : w1.cell? ⟨w.heap.size, 4, none⟩ = some ((.int .i64 m)) := by rw [cell_at T.out.op]; rfl
  have r0 : w1.cell? ⟨w.heap.size + 1, 0, none⟩ = some (.int .i64 a0) := by rw [cell_at T.out.row]; rfl
  have r1 : w1.cell? ⟨w.heap.size + 1, 1, none⟩ = some (.int .i64 a1) := by rw [cell_at T.out.row]; rfl
  have r2 : w1.cell? ⟨w.heap.size + 1, 2, none⟩ = some (.int .i64 a2) := by rw [cell_at T.out.row]; rfl
  have r3 : w1.cell? ⟨w.heap.size + 1, 3, none⟩ = some (.int .i64 a3) := by rw [cell_at T.out.row]; rfl
  have r4 : w1.cell? ⟨w.heap.size + 1, 4, none⟩ = some (.int .i64 a4) := by rw [cell_at T.out.row]; rfl
  have r5 : w1.cell? ⟨w.heap.size + 1, 5, none⟩ = some (.int .i64 a5) := by rw [cell_at T.out.row]; rfl
  have r6 : w1.cell? ⟨w.heap.size + 1, 6, none⟩ = some (.int .i64 a6) := by rw [cell_at T.out.row]; rfl
  have r7 : w1.cell? ⟨w.heap.size + 1, 7, none⟩ = some (.int .i64 a7) := by rw [cell_at T.out.row]; rfl
  cases x with
  | true =>
    go_wp2
    go_ret
    exact ⟨by simp [chkR, H0.out], T.out.below⟩
  | false =>
    go_wp2_with fail
    refine (wrong_b _ _ _).mono ?_
    rintro e w2 ⟨x, H1, rfl, B⟩
    have T := hid (T.out.next B.out)
    clear B o1 o2 o3 o4 r0 r1 r2 r3 r4 r5 r6 r7
    have o1 : w2.cell? ⟨w.heap.size, 1, none⟩ = some ((.string nm)) := by rw [cell_at T.out.op]; rfl
    have o2 : w2.cell? ⟨w.heap.size, 2, none⟩ = some ((.string tx)) := by rw [cell_at T.out.op]; rfl
    have o3 : w2.cell? ⟨w.heap.size, 3, none⟩ = some ((.int .i64 n)) := by rw [cell_at T.out.op]; rfl
    have o4 : w2.cell? ⟨w.heap.size, 4, none⟩ = some ((.int .i64 m)) := by rw [cell_at T.out.op]; rfl
    have r0 : w2.cell? ⟨w.heap.size + 1, 0, none⟩ = some (.int .i64 a0) := by rw [cell_at T.out.row]; rfl
    have r1 : w2.cell? ⟨w.heap.size + 1, 1, none⟩ = some (.int .i64 a1) := by rw [cell_at T.out.row]; rfl
    have r2 : w2.cell? ⟨w.heap.size + 1, 2, none⟩ = some (.int .i64 a2) := by rw [cell_at T.out.row]; rfl
    have r3 : w2.cell? ⟨w.heap.size + 1, 3, none⟩ = some (.int .i64 a3) := by rw [cell_at T.out.row]; rfl
    have r4 : w2.cell? ⟨w.heap.size + 1, 4, none⟩ = some (.int .i64 a4) := by rw [cell_at T.out.row]; rfl
    have r5 : w2.cell? ⟨w.heap.size + 1, 5, none⟩ = some (.int .i64 a5) := by rw [cell_at T.out.row]; rfl
    have r6 : w2.cell? ⟨w.heap.size + 1, 6, none⟩ = some (.int .i64 a6) := by rw [cell_at T.out.row]; rfl
    have r7 : w2.cell? ⟨w.heap.size + 1, 7, none⟩ = some (.int .i64 a7) := by rw [cell_at T.out.row]; rfl
    cases x with
    | true =>
      go_wp2
      go_ret
      exact ⟨by simp [chkR, H0.out, H1.out], T.out.below⟩
    | false =>
      go_wp2_with fail
      refine (wrong_b _ _ _).mono ?_
      rintro e w3 ⟨x, H2, rfl, B⟩
      have T := hid (T.out.next B.out)
      clear B o1 o2 o3 o4 r0 r1 r2 r3 r4 r5 r6 r7
      have o1 : w3.cell? ⟨w.heap.size, 1, none⟩ = some ((.string nm)) := by rw [cell_at T.out.op]; rfl
      have o2 : w3.cell? ⟨w.heap.size, 2, none⟩ = some ((.string tx)) := by rw [cell_at T.out.op]; rfl
      have o3 : w3.cell? ⟨w.heap.size, 3, none⟩ = some ((.int .i64 n)) := by rw [cell_at T.out.op]; rfl
      have o4 : w3.cell? ⟨w.heap.size, 4, none⟩ = some ((.int .i64 m)) := by rw [cell_at T.out.op]; rfl
      have r0 : w3.cell? ⟨w.heap.size + 1, 0, none⟩ = some (.int .i64 a0) := by rw [cell_at T.out.row]; rfl
      have r1 : w3.cell? ⟨w.heap.size + 1, 1, none⟩ = some (.int .i64 a1) := by rw [cell_at T.out.row]; rfl
      have r2 : w3.cell? ⟨w.heap.size + 1, 2, none⟩ = some (.int .i64 a2) := by rw [cell_at T.out.row]; rfl
      have r3 : w3.cell? ⟨w.heap.size + 1, 3, none⟩ = some (.int .i64 a3) := by rw [cell_at T.out.row]; rfl
      have r4 : w3.cell? ⟨w.heap.size + 1, 4, none⟩ = some (.int .i64 a4) := by rw [cell_at T.out.row]; rfl
      have r5 : w3.cell? ⟨w.heap.size + 1, 5, none⟩ = some (.int .i64 a5) := by rw [cell_at T.out.row]; rfl
      have r6 : w3.cell? ⟨w.heap.size + 1, 6, none⟩ = some (.int .i64 a6) := by rw [cell_at T.out.row]; rfl
      have r7 : w3.cell? ⟨w.heap.size + 1, 7, none⟩ = some (.int .i64 a7) := by rw [cell_at T.out.row]; rfl
      cases x with
      | true =>
        go_wp2
        go_ret
        exact ⟨by simp [chkR, H0.out, H1.out, H2.out], T.out.below⟩
      | false =>
        go_wp2_with fail
        refine (wrong_b _ _ _).mono ?_
        rintro e w4 ⟨x, H3, rfl, B⟩
        have T := hid (T.out.next B.out)
        clear B o1 o2 o3 o4 r0 r1 r2 r3 r4 r5 r6 r7
        have o1 : w4.cell? ⟨w.heap.size, 1, none⟩ = some ((.string nm)) := by rw [cell_at T.out.op]; rfl
        have o2 : w4.cell? ⟨w.heap.size, 2, none⟩ = some ((.string tx)) := by rw [cell_at T.out.op]; rfl
        have o3 : w4.cell? ⟨w.heap.size, 3, none⟩ = some ((.int .i64 n)) := by rw [cell_at T.out.op]; rfl
        have o4 : w4.cell? ⟨w.heap.size, 4, none⟩ = some ((.int .i64 m)) := by rw [cell_at T.out.op]; rfl
        have r0 : w4.cell? ⟨w.heap.size + 1, 0, none⟩ = some (.int .i64 a0) := by rw [cell_at T.out.row]; rfl
        have r1 : w4.cell? ⟨w.heap.size + 1, 1, none⟩ = some (.int .i64 a1) := by rw [cell_at T.out.row]; rfl
        have r2 : w4.cell? ⟨w.heap.size + 1, 2, none⟩ = some (.int .i64 a2) := by rw [cell_at T.out.row]; rfl
        have r3 : w4.cell? ⟨w.heap.size + 1, 3, none⟩ = some (.int .i64 a3) := by rw [cell_at T.out.row]; rfl
        have r4 : w4.cell? ⟨w.heap.size + 1, 4, none⟩ = some (.int .i64 a4) := by rw [cell_at T.out.row]; rfl
        have r5 : w4.cell? ⟨w.heap.size + 1, 5, none⟩ = some (.int .i64 a5) := by rw [cell_at T.out.row]; rfl
        have r6 : w4.cell? ⟨w.heap.size + 1, 6, none⟩ = some (.int .i64 a6) := by rw [cell_at T.out.row]; rfl
        have r7 : w4.cell? ⟨w.heap.size + 1, 7, none⟩ = some (.int .i64 a7) := by rw [cell_at T.out.row]; rfl
        cases x with
        | true =>
          go_wp2
          go_ret
          exact ⟨by simp [chkR, H0.out, H1.out, H2.out, H3.out], T.out.below⟩
        | false =>
          go_wp2_with fail
          refine (extra_b _ _ _).mono ?_
          rintro e w5 ⟨x, H4, rfl, B⟩
          have T := hid (T.out.next B.out)
          clear B o1 o2 o3 o4 r0 r1 r2 r3 r4 r5 r6 r7
          have o1 : w5.cell? ⟨w.heap.size, 1, none⟩ = some ((.string nm)) := by rw [cell_at T.out.op]; rfl
          have o2 : w5.cell? ⟨w.heap.size, 2, none⟩ = some ((.string tx)) := by rw [cell_at T.out.op]; rfl
          have o3 : w5.cell? ⟨w.heap.size, 3, none⟩ = some ((.int .i64 n)) := by rw [cell_at T.out.op]; rfl
          have o4 : w5.cell? ⟨w.heap.size, 4, none⟩ = some ((.int .i64 m)) := by rw [cell_at T.out.op]; rfl
          have r0 : w5.cell? ⟨w.heap.size + 1, 0, none⟩ = some (.int .i64 a0) := by rw [cell_at T.out.row]; rfl
          have r1 : w5.cell? ⟨w.heap.size + 1, 1, none⟩ = some (.int .i64 a1) := by rw [cell_at T.out.row]; rfl
          have r2 : w5.cell? ⟨w.heap.size + 1, 2, none⟩ = some (.int .i64 a2) := by rw [cell_at T.out.row]; rfl
          have r3 : w5.cell? ⟨w.heap.size + 1, 3, none⟩ = some (.int .i64 a3) := by rw [cell_at T.out.row]; rfl
          have r4 : w5.cell? ⟨w.heap.size + 1, 4, none⟩ = some (.int .i64 a4) := by rw [cell_at T.out.row]; rfl
          have r5 : w5.cell? ⟨w.heap.size + 1, 5, none⟩ = some (.int .i64 a5) := by rw [cell_at T.out.row]; rfl
          have r6 : w5.cell? ⟨w.heap.size + 1, 6, none⟩ = some (.int .i64 a6) := by rw [cell_at T.out.row]; rfl
          have r7 : w5.cell? ⟨w.heap.size + 1, 7, none⟩ = some (.int .i64 a7) := by rw [cell_at T.out.row]; rfl
          cases x with
          | true =>
            go_wp2
            go_ret
            exact ⟨by simp [chkR, H0.out, H1.out, H2.out, H3.out, H4.out], T.out.below⟩
          | false =>
            go_wp2_with fail
            refine (extra_b _ _ _).mono ?_
            rintro e w6 ⟨x, H5, rfl, B⟩
            have T := hid (T.out.next B.out)
            clear B o1 o2 o3 o4 r0 r1 r2 r3 r4 r5 r6 r7
            have o1 : w6.cell? ⟨w.heap.size, 1, none⟩ = some ((.string nm)) := by rw [cell_at T.out.op]; rfl
            have o2 : w6.cell? ⟨w.heap.size, 2, none⟩ = some ((.string tx)) := by rw [cell_at T.out.op]; rfl
            have o3 : w6.cell? ⟨w.heap.size, 3, none⟩ = some ((.int .i64 n)) := by rw [cell_at T.out.op]; rfl
            have o4 : w6.cell? ⟨w.heap.size, 4, none⟩ = some ((.int .i64 m)) := by rw [cell_at T.out.op]; rfl
            have r0 : w6.cell? ⟨w.heap.size + 1, 0, none⟩ = some (.int .i64 a0) := by rw [cell_at T.out.row]; rfl
            have r1 : w6.cell? ⟨w.heap.size + 1, 1, none⟩ = some (.int .i64 a1) := by rw [cell_at T.out.row]; rfl
            have r2 : w6.cell? ⟨w.heap.size + 1, 2, none⟩ = some (.int .i64 a2) := by rw [cell_at T.out.row]; rfl
            have r3 : w6.cell? ⟨w.heap.size + 1, 3, none⟩ = some (.int .i64 a3) := by rw [cell_at T.out.row]; rfl
            have r4 : w6.cell? ⟨w.heap.size + 1, 4, none⟩ = some (.int .i64 a4) := by rw [cell_at T.out.row]; rfl
            have r5 : w6.cell? ⟨w.heap.size + 1, 5, none⟩ = some (.int .i64 a5) := by rw [cell_at T.out.row]; rfl
            have r6 : w6.cell? ⟨w.heap.size + 1, 6, none⟩ = some (.int .i64 a6) := by rw [cell_at T.out.row]; rfl
            have r7 : w6.cell? ⟨w.heap.size + 1, 7, none⟩ = some (.int .i64 a7) := by rw [cell_at T.out.row]; rfl
            cases x with
            | true =>
              go_wp2
              go_ret
              exact ⟨by simp [chkR, H0.out, H1.out, H2.out, H3.out, H4.out, H5.out], T.out.below⟩
            | false =>
              go_wp2_with fail
              refine (extra_b _ _ _).mono ?_
              rintro e w7 ⟨x, H6, rfl, B⟩
              have T := hid (T.out.next B.out)
              clear B o1 o2 o3 o4 r0 r1 r2 r3 r4 r5 r6 r7
              have o1 : w7.cell? ⟨w.heap.size, 1, none⟩ = some ((.string nm)) := by rw [cell_at T.out.op]; rfl
              have o2 : w7.cell? ⟨w.heap.size, 2, none⟩ = some ((.string tx)) := by rw [cell_at T.out.op]; rfl
              have o3 : w7.cell? ⟨w.heap.size, 3, none⟩ = some ((.int .i64 n)) := by rw [cell_at T.out.op]; rfl
              have o4 : w7.cell? ⟨w.heap.size, 4, none⟩ = some ((.int .i64 m)) := by rw [cell_at T.out.op]; rfl
              have r0 : w7.cell? ⟨w.heap.size + 1, 0, none⟩ = some (.int .i64 a0) := by rw [cell_at T.out.row]; rfl
              have r1 : w7.cell? ⟨w.heap.size + 1, 1, none⟩ = some (.int .i64 a1) := by rw [cell_at T.out.row]; rfl
              have r2 : w7.cell? ⟨w.heap.size + 1, 2, none⟩ = some (.int .i64 a2) := by rw [cell_at T.out.row]; rfl
              have r3 : w7.cell? ⟨w.heap.size + 1, 3, none⟩ = some (.int .i64 a3) := by rw [cell_at T.out.row]; rfl
              have r4 : w7.cell? ⟨w.heap.size + 1, 4, none⟩ = some (.int .i64 a4) := by rw [cell_at T.out.row]; rfl
              have r5 : w7.cell? ⟨w.heap.size + 1, 5, none⟩ = some (.int .i64 a5) := by rw [cell_at T.out.row]; rfl
              have r6 : w7.cell? ⟨w.heap.size + 1, 6, none⟩ = some (.int .i64 a6) := by rw [cell_at T.out.row]; rfl
              have r7 : w7.cell? ⟨w.heap.size + 1, 7, none⟩ = some (.int .i64 a7) := by rw [cell_at T.out.row]; rfl
              cases x with
              | true =>
                go_wp2
                go_ret
                exact ⟨by simp [chkR, H0.out, H1.out, H2.out, H3.out, H4.out, H5.out, H6.out], T.out.below⟩
              | false =>
                go_wp2_with fail
                refine (extra_b _ _ _).mono ?_
                rintro e w8 ⟨x, H7, rfl, B⟩
                have T := hid (T.out.next B.out)
                clear B o1 o2 o3 o4 r0 r1 r2 r3 r4 r5 r6 r7
                have o1 : w8.cell? ⟨w.heap.size, 1, none⟩ = some ((.string nm)) := by rw [cell_at T.out.op]; rfl
                have o2 : w8.cell? ⟨w.heap.size, 2, none⟩ = some ((.string tx)) := by rw [cell_at T.out.op]; rfl
                have o3 : w8.cell? ⟨w.heap.size, 3, none⟩ = some ((.int .i64 n)) := by rw [cell_at T.out.op]; rfl
                have o4 : w8.cell? ⟨w.heap.size, 4, none⟩ = some ((.int .i64 m)) := by rw [cell_at T.out.op]; rfl
                have r0 : w8.cell? ⟨w.heap.size + 1, 0, none⟩ = some (.int .i64 a0) := by rw [cell_at T.out.row]; rfl
                have r1 : w8.cell? ⟨w.heap.size + 1, 1, none⟩ = some (.int .i64 a1) := by rw [cell_at T.out.row]; rfl
                have r2 : w8.cell? ⟨w.heap.size + 1, 2, none⟩ = some (.int .i64 a2) := by rw [cell_at T.out.row]; rfl
                have r3 : w8.cell? ⟨w.heap.size + 1, 3, none⟩ = some (.int .i64 a3) := by rw [cell_at T.out.row]; rfl
                have r4 : w8.cell? ⟨w.heap.size + 1, 4, none⟩ = some (.int .i64 a4) := by rw [cell_at T.out.row]; rfl
                have r5 : w8.cell? ⟨w.heap.size + 1, 5, none⟩ = some (.int .i64 a5) := by rw [cell_at T.out.row]; rfl
                have r6 : w8.cell? ⟨w.heap.size + 1, 6, none⟩ = some (.int .i64 a6) := by rw [cell_at T.out.row]; rfl
                have r7 : w8.cell? ⟨w.heap.size + 1, 7, none⟩ = some (.int .i64 a7) := by rw [cell_at T.out.row]; rfl
                cases x with
                | true =>
                  go_wp2
                  go_ret
                  exact ⟨by simp [chkR, H0.out, H1.out, H2.out, H3.out, H4.out, H5.out, H6.out, H7.out], T.out.below⟩
                | false =>
                  go_wp2
                  go_ret
                  exact ⟨by simp [chkR, H0.out, H1.out, H2.out, H3.out, H4.out, H5.out, H6.out, H7.out], T.out.below⟩
end Go.Proofs.YtdhkdniddjnigaaGreatDoor
