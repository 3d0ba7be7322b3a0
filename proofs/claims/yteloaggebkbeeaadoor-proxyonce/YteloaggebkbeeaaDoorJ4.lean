import Derived.Test.YteloaggebkbeeaaDoorJ3
namespace Go.Proofs.YteloaggebkbeeaaDoor
open Go.RowKit
set_option linter.unusedVariables false

def formN : List Int := [0,0,0,0,0,0,0,0, 1,16,0,0,0,0,0,0, 1,16,0,0,0,0,0,0, 1,16,0,64,0,0,0,0, 1,16,0,0,0,1099511627776,0,0, 1,16,1,16,0,0,0,0, 1,16,0,0,0,1099511627776,1,8, 1,16,0,0,0,0,0,0, 0,0,0,0,0,0,0,0]

/-- The table of forms, as the program's text lays it. -/
structure Tab (w : World) : Prop where
  lt : 0 < w.heap.size
  cell : ∀ i, i < 72 → w.cell? ⟨0, i, none⟩ = some (.int .i64 (formN.getD i 0))

theorem Tab.below {w w' : World} (h : Tab w) (hb : Below w.heap.size w w') : Tab w' :=
  ⟨Nat.lt_of_lt_of_le h.lt hb.size, fun i hi => cell_under hb h.lt (h.cell i hi)⟩
theorem Tab.fr {F : List Nat} {w w' : World} (h : Tab w) (hb : Fr F w w') (hF : 0 ∉ F) : Tab w' :=
  ⟨Nat.lt_of_lt_of_le h.lt hb.size, fun i hi => by have := h.cell i hi; simp only [World.cell?, hb.block 0 h.lt hF] at this ⊢; exact this⟩

abbrev spanV (a b : Int) : Value := .agg #[.int .i64 a, .int .i64 b]
def hs (b : Int) : Bool := decide (0 < b)
def hl (a b n : Int) : Bool := decide (a ≤ n) && decide (n ≤ b)
def wr (a b n : Int) : Bool := hs b && !hl a b n
def ex (b n : Int) : Bool := !hs b && decide (n ≠ 0)

theorem has_any {w : World} (a b : Int) : Calls Tryd.prog 77 #[spanV a b] w fun e w' => e = .returned (.bool (hs b)) ∧ Below w.heap.size w w' := by
  go_enter Tryd.func77, Tryd.ntmps77
  go_wp2
  go_ret
  exact ⟨rfl, ba _ _⟩

theorem holds_any {w : World} (a b n : Int) : Calls Tryd.prog 78 #[spanV a b, .int .i64 n] w fun e w' => e = .returned (.bool (hl a b n)) ∧ Below w.heap.size w w' := by
  by_cases h : a ≤ n
  · have e1 : decide (a ≤ n) = true := by simpa using h
    go_enter Tryd.func78, Tryd.ntmps78
    go_wp2
    go_ret
    exact ⟨by simp [hl, h], ba _ _⟩
  · have e1 : decide (a ≤ n) = false := by simpa using h
    go_enter Tryd.func78, Tryd.ntmps78
    go_wp2
    go_ret
    exact ⟨by simp [hl, e1], ba _ _⟩

theorem has_b {w : World} (a b : Int) : Calls Tryd.prog 77 #[spanV a b] w fun e w' => ∃ x, Hid (hs b = x) ∧ e = .returned (.bool x) ∧ Hid (Below w.heap.size w w') :=
  (has_any a b).mono fun e w' ⟨h, h'⟩ => ⟨_, hid rfl, h, h'⟩
theorem holds_b {w : World} (a b n : Int) : Calls Tryd.prog 78 #[spanV a b, .int .i64 n] w fun e w' => ∃ x, Hid (hl a b n = x) ∧ e = .returned (.bool x) ∧ Hid (Below w.heap.size w w') :=
  (holds_any a b n).mono fun e w' ⟨h, h'⟩ => ⟨_, hid rfl, h, h'⟩

theorem b2 {w w1 w2 : World} (h : Below w.heap.size w w1) (k : Below w1.heap.size w1 w2) : Below w.heap.size w w2 := h.trans (k.mono h.size)
end Go.Proofs.YteloaggebkbeeaaDoor

namespace Go.Proofs.YteloaggebkbeeaaDoor
open Go.RowKit
set_option linter.unusedVariables false

set_option maxRecDepth 1000000 in
theorem wrong_any {w : World} (a b n : Int) : Calls Tryd.prog 51 #[spanV a b, .int .i64 n] w fun e w' => e = .returned (.bool (wr a b n)) ∧ Below w.heap.size w w' := by
  go_enter Tryd.func51, Tryd.ntmps51
  go_wp2_with fail
  refine (has_b a b).mono ?_
  rintro e w1 ⟨x, H0, rfl, B1⟩
  have hh := heap_alloc_new w (.cells #[.int .i64 a, .int .i64 b] 86)
  have hh1 : w1.heap[w.heap.size]? = some (.cells #[.int .i64 a, .int .i64 b] 86) := by rw [B1.out.block _ (by simp)]; exact hh
  have c0 : w1.cell? ⟨w.heap.size, 0, none⟩ = some (.int .i64 a) := by rw [cell_at hh1]; rfl
  have c1 : w1.cell? ⟨w.heap.size, 1, none⟩ = some (.int .i64 b) := by rw [cell_at hh1]; rfl
  clear hh hh1
  have B2 := hid (b2 (ba w _) B1.out)
  clear B1
  cases x with
  | false =>
    go_wp2
    go_ret
    exact ⟨by simp [wr, H0.out], B2.out⟩
  | true =>
    go_wp2_with fail
    refine (holds_b a b n).mono ?_
    rintro e w2 ⟨x, H1, rfl, B3⟩
    have B4 := hid (b2 B2.out B3.out)
    clear B2 B3
    go_wp2
    go_ret
    exact ⟨by simp [wr, H0.out, H1.out], B4.out⟩

set_option maxRecDepth 1000000 in
theorem extra_any {w : World} (a b n : Int) : Calls Tryd.prog 52 #[spanV a b, .int .i64 n] w fun e w' => e = .returned (.bool (ex b n)) ∧ Below w.heap.size w w' := by
  go_enter Tryd.func52, Tryd.ntmps52
  go_wp2_with fail
  refine (has_b a b).mono ?_
  rintro e w1 ⟨x, H0, rfl, B1⟩
  have B2 := hid (b2 (ba w _) B1.out)
  clear B1
  cases x with
  | true =>
    go_wp2
    go_ret
    exact ⟨by simp [ex, H0.out], B2.out⟩
  | false =>
    go_wp2
    go_ret
    exact ⟨by simp [ex, H0.out, bne, BEq.beq], B2.out⟩

theorem wrong_b {w : World} (a b n : Int) : Calls Tryd.prog 51 #[spanV a b, .int .i64 n] w fun e w' => ∃ x, Hid (wr a b n = x) ∧ e = .returned (.bool x) ∧ Hid (Below w.heap.size w w') :=
  (wrong_any a b n).mono fun e w' ⟨h, h'⟩ => ⟨_, hid rfl, h, h'⟩
theorem extra_b {w : World} (a b n : Int) : Calls Tryd.prog 52 #[spanV a b, .int .i64 n] w fun e w' => ∃ x, Hid (ex b n = x) ∧ e = .returned (.bool x) ∧ Hid (Below w.heap.size w w') :=
  (extra_any a b n).mono fun e w' ⟨h, h'⟩ => ⟨_, hid rfl, h, h'⟩
end Go.Proofs.YteloaggebkbeeaaDoor

namespace Go.Proofs.YteloaggebkbeeaaDoor
open Go.RowKit
set_option linter.unusedVariables false

abbrev opV (k : Int) (nm tx : ByteArray) (n m : Int) : Value := .agg #[.int .i64 k, .string nm, .string tx, .int .i64 n, .int .i64 m]
abbrev opB (k : Int) (nm tx : ByteArray) (n m : Int) : Obj := .cells #[.int .i64 k, .string nm, .string tx, .int .i64 n, .int .i64 m] 77

/-- What Check tells of an op whose kind may be, by the row of its kind. -/
def chkR (a0 a1 a2 a3 a4 a5 a6 a7 : Int) (s t n m : Int) : Int :=
  if wr a0 a1 s then 51 else if wr a2 a3 t then 52 else if wr a4 a5 n then 53 else if wr a6 a7 m then 54
  else if ex a1 s then 55 else if ex a3 t then 55 else if ex a5 n then 55 else if ex a7 m then 55 else 0

/-- The op and the row of its kind lie in two blocks of their own. -/
structure Two (w w1 : World) (o f : Obj) : Prop where
  op : w1.heap[w.heap.size]? = some o
  row : w1.heap[w.heap.size + 1]? = some f
  lt : w.heap.size + 1 < w1.heap.size
  below : Below w.heap.size w w1

theorem Two.first (w : World) (o f : Obj) : Two w ((w.alloc o).alloc f) o f := by
  have h1 := heap_alloc_new w o
  have h2 := heap_alloc_new (w.alloc o) f
  have hs : (w.alloc o).heap.size = w.heap.size + 1 := by simp
  rw [hs] at h2
  refine ⟨?_, h2, by simp, b2 (ba w o) (ba _ f)⟩
  rw [(ba (w.alloc o) f).block _ (by simp)]; exact h1
theorem Two.next {w w1 w2 : World} {o f : Obj} (h : Two w w1 o f) (hb : Below w1.heap.size w1 w2) : Two w w2 o f :=
  ⟨by rw [hb.block _ (Nat.lt_of_succ_lt h.lt)]; exact h.op, by rw [hb.block _ h.lt]; exact h.row, Nat.lt_of_lt_of_le h.lt hb.size, b2 h.below hb⟩

set_option maxHeartbeats 3200000 in
set_option maxRecDepth 1000000 in
theorem check_row {w : World} (k : Nat) (hk1 : 1 ≤ k) (hk8 : k ≤ 8) (nm tx : ByteArray) (n m : Int) (a0 a1 a2 a3 a4 a5 a6 a7 : Int)
    (c0 : w.cell? ⟨0, k * 8, none⟩ = some (.int .i64 a0))
    (c1 : w.cell? ⟨0, k * 8 + 1, none⟩ = some (.int .i64 a1))
    (c2 : w.cell? ⟨0, k * 8 + 2, none⟩ = some (.int .i64 a2))
    (c3 : w.cell? ⟨0, k * 8 + 3, none⟩ = some (.int .i64 a3))
    (c4 : w.cell? ⟨0, k * 8 + 4, none⟩ = some (.int .i64 a4))
    (c5 : w.cell? ⟨0, k * 8 + 5, none⟩ = some (.int .i64 a5))
    (c6 : w.cell? ⟨0, k * 8 + 6, none⟩ = some (.int .i64 a6))
    (c7 : w.cell? ⟨0, k * 8 + 7, none⟩ = some (.int .i64 a7))
    (h0 : 0 < w.heap.size) :
    Calls Tryd.prog 23 #[opV k nm tx n m] w fun e w' => e = .returned (.int .i64 (chkR a0 a1 a2 a3 a4 a5 a6 a7 nm.size tx.size n m)) ∧ Below w.heap.size w w' := by
  have A0 := fun o => cell_under (ba w o) h0 c0
  have A1 := fun o => cell_under (ba w o) h0 c1
  have A2 := fun o => cell_under (ba w o) h0 c2
  have A3 := fun o => cell_under (ba w o) h0 c3
  have A4 := fun o => cell_under (ba w o) h0 c4
  have A5 := fun o => cell_under (ba w o) h0 c5
  have A6 := fun o => cell_under (ba w o) h0 c6
  have A7 := fun o => cell_under (ba w o) h0 c7
  clear c0 c1 c2 c3 c4 c5 c6 c7 h0
  go_enter Tryd.func23, Tryd.ntmps23
  go_wp2_with fail
  refine (wrong_b _ _ _).mono ?_
  rintro e w1 ⟨x, H0, rfl, B⟩
  have T := hid ((Two.first w _ _).next B.out)
  clear B A0 A1 A2 A3 A4 A5 A6 A7
  have o1 : w1.cell? ⟨w.heap.size, 1, none⟩ = some ((.string nm)) := by rw [cell_at T.out.op]; rfl
  have o2 : w1.cell? ⟨w.heap.size, 2, none⟩ = some ((.string tx)) := by rw [cell_at T.out.op]; rfl
  have o3 : w1.cell? ⟨w.heap.size, 3, none⟩ = some ((.int .i64 n)) := by rw [cell_at T.out.op]; rfl
  have o4 : w1.cell? ⟨w.heap.size, 4, none⟩ = some ((.int .i64 m)) := by rw [cell_at T.out.op]; rfl
  have r0 : w1.cell? ⟨w.heap.size + 1, 0, none⟩ = some (.int .i64 a0) := by rw [cell_at T.out.row]; rfl
  have r1 : w1.cell? ⟨w.heap.size + 1, 1, none⟩ = some (.int .i64 a1) := by rw [cell_at T.out.row]; rfl
  have r2 : w1.cell? ⟨w.heap.size + 1, 2, none⟩ = some (.int .i64 a2) := by rw [cell_at T.out.row]; rfl
  have r3 : w1.cell? ⟨w.heap.size + 1, 3, none⟩ = some (.int .i64 a3) := by rw [cell_at T.out.row]; rfl
  have r4 : w1.cell? ⟨w.heap.size + 1, 4, none⟩ = some (.int .i64 a4) := by rw [cell_at T.out.row]; rfl
  have r5 : w1.cell? ⟨w.heap.size + 1, 5, none⟩ = some (.int .i64 a5) := by rw [cell_at T.out.row]; rfl
  have r6 : w1.cell? ⟨w.heap.size + 1, 6, none⟩ = some (.int .i64 a6) := by rw [cell_at T.out.row]; rfl
  have r7 : w1.cell? ⟨w.heap.size + 1, 7, none⟩ = some (.int .i64 a7) := by rw [cell_at T.out.row]; rfl
  cases x with
  | true =>
    go_wp2
    go_ret
    exact ⟨by simp [chkR, H0.out], T.out.below⟩
  | false =>
    go_wp2_with fail
    refine (wrong_b _ _ _).mono ?_
    rintro e w2 ⟨x, H1, rfl, B⟩
    have T := hid (T.out.next B.out)
    clear B o1 o2 o3 o4 r0 r1 r2 r3 r4 r5 r6 r7
    have o1 : w2.cell? ⟨w.heap.size, 1, none⟩ = some ((.string nm)) := by rw [cell_at T.out.op]; rfl
    have o2 : w2.cell? ⟨w.heap.size, 2, none⟩ = some ((.string tx)) := by rw [cell_at T.out.op]; rfl
    have o3 : w2.cell? ⟨w.heap.size, 3, none⟩ = some ((.int .i64 n)) := by rw [cell_at T.out.op]; rfl
    have o4 : w2.cell? ⟨w.heap.size, 4, none⟩ = some ((.int .i64 m)) := by rw [cell_at T.out.op]; rfl
    have r0 : w2.cell? ⟨w.heap.size + 1, 0, none⟩ = some (.int .i64 a0) := by rw [cell_at T.out.row]; rfl
    have r1 : w2.cell? ⟨w.heap.size + 1, 1, none⟩ = some (.int .i64 a1) := by rw [cell_at T.out.row]; rfl
    have r2 : w2.cell? ⟨w.heap.size + 1, 2, none⟩ = some (.int .i64 a2) := by rw [cell_at T.out.row]; rfl
    have r3 : w2.cell? ⟨w.heap.size + 1, 3, none⟩ = some (.int .i64 a3) := by rw [cell_at T.out.row]; rfl
    have r4 : w2.cell? ⟨w.heap.size + 1, 4, none⟩ = some (.int .i64 a4) := by rw [cell_at T.out.row]; rfl
    have r5 : w2.cell? ⟨w.heap.size + 1, 5, none⟩ = some (.int .i64 a5) := by rw [cell_at T.out.row]; rfl
    have r6 : w2.cell? ⟨w.heap.size + 1, 6, none⟩ = some (.int .i64 a6) := by rw [cell_at T.out.row]; rfl
    have r7 : w2.cell? ⟨w.heap.size + 1, 7, none⟩ = some (.int .i64 a7) := by rw [cell_at T.out.row]; rfl
    cases x with
    | true =>
      go_wp2
      go_ret
      exact ⟨by simp [chkR, H0.out, H1.out], T.out.below⟩
    | false =>
      go_wp2_with fail
      refine (wrong_b _ _ _).mono ?_
      rintro e w3 ⟨x, H2, rfl, B⟩
      have T := hid (T.out.next B.out)
      clear B o1 o2 o3 o4 r0 r1 r2 r3 r4 r5 r6 r7
      have o1 : w3.cell? ⟨w.heap.size, 1, none⟩ = some ((.string nm)) := by rw [cell_at T.out.op]; rfl
      have o2 : w3.cell? ⟨w.heap.size, 2, none⟩ = some ((.string tx)) := by rw [cell_at T.out.op]; rfl
      have o3 : w3.cell? ⟨w.heap.size, 3, none⟩ = some ((.int .i64 n)) := by rw [cell_at T.out.op]; rfl
      have o4 : w3.cell? ⟨w.heap.size, 4, none⟩ = some ((.int .i64 m)) := by rw [cell_at T.out.op]; rfl
      have r0 : w3.cell? ⟨w.heap.size + 1, 0, none⟩ = some (.int .i64 a0) := by rw [cell_at T.out.row]; rfl
      have r1 : w3.cell? ⟨w.heap.size + 1, 1, none⟩ = some (.int .i64 a1) := by rw [cell_at T.out.row]; rfl
      have r2 : w3.cell? ⟨w.heap.size + 1, 2, none⟩ = some (.int .i64 a2) := by rw [cell_at T.out.row]; rfl
      have r3 : w3.cell? ⟨w.heap.size + 1, 3, none⟩ = some (.int .i64 a3) := by rw [cell_at T.out.row]; rfl
      have r4 : w3.cell? ⟨w.heap.size + 1, 4, none⟩ = some (.int .i64 a4) := by rw [cell_at T.out.row]; rfl
      have r5 : w3.cell? ⟨w.heap.size + 1, 5, none⟩ = some (.int .i64 a5) := by rw [cell_at T.out.row]; rfl
      have r6 : w3.cell? ⟨w.heap.size + 1, 6, none⟩ = some (.int .i64 a6) := by rw [cell_at T.out.row]; rfl
      have r7 : w3.cell? ⟨w.heap.size + 1, 7, none⟩ = some (.int .i64 a7) := by rw [cell_at T.out.row]; rfl
      cases x with
      | true =>
        go_wp2
        go_ret
        exact ⟨by simp [chkR, H0.out, H1.out, H2.out], T.out.below⟩
      | false =>
        go_wp2_with fail
        refine (wrong_b _ _ _).mono ?_
        rintro e w4 ⟨x, H3, rfl, B⟩
        have T := hid (T.out.next B.out)
        clear B o1 o2 o3 o4 r0 r1 r2 r3 r4 r5 r6 r7
        have o1 : w4.cell? ⟨w.heap.size, 1, none⟩ = some ((.string nm)) := by rw [cell_at T.out.op]; rfl
        have o2 : w4.cell? ⟨w.heap.size, 2, none⟩ = some ((.string tx)) := by rw [cell_at T.out.op]; rfl
        have o3 : w4.cell? ⟨w.heap.size, 3, none⟩ = some ((.int .i64 n)) := by rw [cell_at T.out.op]; rfl
        have o4 : w4.cell? ⟨w.heap.size, 4, none⟩ = some ((.int .i64 m)) := by rw [cell_at T.out.op]; rfl
        have r0 : w4.cell? ⟨w.heap.size + 1, 0, none⟩ = some (.int .i64 a0) := by rw [cell_at T.out.row]; rfl
        have r1 : w4.cell? ⟨w.heap.size + 1, 1, none⟩ = some (.int .i64 a1) := by rw [cell_at T.out.row]; rfl
        have r2 : w4.cell? ⟨w.heap.size + 1, 2, none⟩ = some (.int .i64 a2) := by rw [cell_at T.out.row]; rfl
        have r3 : w4.cell? ⟨w.heap.size + 1, 3, none⟩ = some (.int .i64 a3) := by rw [cell_at T.out.row]; rfl
        have r4 : w4.cell? ⟨w.heap.size + 1, 4, none⟩ = some (.int .i64 a4) := by rw [cell_at T.out.row]; rfl
        have r5 : w4.cell? ⟨w.heap.size + 1, 5, none⟩ = some (.int .i64 a5) := by rw [cell_at T.out.row]; rfl
        have r6 : w4.cell? ⟨w.heap.size + 1, 6, none⟩ = some (.int .i64 a6) := by rw [cell_at T.out.row]; rfl
        have r7 : w4.cell? ⟨w.heap.size + 1, 7, none⟩ = some (.int .i64 a7) := by rw [cell_at T.out.row]; rfl
        cases x with
        | true =>
          go_wp2
          go_ret
          exact ⟨by simp [chkR, H0.out, H1.out, H2.out, H3.out], T.out.below⟩
        | false =>
          go_wp2_with fail
          refine (extra_b _ _ _).mono ?_
          rintro e w5 ⟨x, H4, rfl, B⟩
          have T := hid (T.out.next B.out)
          clear B o1 o2 o3 o4 r0 r1 r2 r3 r4 r5 r6 r7
          have o1 : w5.cell? ⟨w.heap.size, 1, none⟩ = some ((.string nm)) := by rw [cell_at T.out.op]; rfl
          have o2 : w5.cell? ⟨w.heap.size, 2, none⟩ = some ((.string tx)) := by rw [cell_at T.out.op]; rfl
          have o3 : w5.cell? ⟨w.heap.size, 3, none⟩ = some ((.int .i64 n)) := by rw [cell_at T.out.op]; rfl
          have o4 : w5.cell? ⟨w.heap.size, 4, none⟩ = some ((.int .i64 m)) := by rw [cell_at T.out.op]; rfl
          have r0 : w5.cell? ⟨w.heap.size + 1, 0, none⟩ = some (.int .i64 a0) := by rw [cell_at T.out.row]; rfl
          have r1 : w5.cell? ⟨w.heap.size + 1, 1, none⟩ = some (.int .i64 a1) := by rw [cell_at T.out.row]; rfl
          have r2 : w5.cell? ⟨w.heap.size + 1, 2, none⟩ = some (.int .i64 a2) := by rw [cell_at T.out.row]; rfl
          have r3 : w5.cell? ⟨w.heap.size + 1, 3, none⟩ = some (.int .i64 a3) := by rw [cell_at T.out.row]; rfl
          have r4 : w5.cell? ⟨w.heap.size + 1, 4, none⟩ = some (.int .i64 a4) := by rw [cell_at T.out.row]; rfl
          have r5 : w5.cell? ⟨w.heap.size + 1, 5, none⟩ = some (.int .i64 a5) := by rw [cell_at T.out.row]; rfl
          have r6 : w5.cell? ⟨w.heap.size + 1, 6, none⟩ = some (.int .i64 a6) := by rw [cell_at T.out.row]; rfl
          have r7 : w5.cell? ⟨w.heap.size + 1, 7, none⟩ = some (.int .i64 a7) := by rw [cell_at T.out.row]; rfl
          cases x with
          | true =>
            go_wp2
            go_ret
            exact ⟨by simp [chkR, H0.out, H1.out, H2.out, H3.out, H4.out], T.out.below⟩
          | false =>
            go_wp2_with fail
            refine (extra_b _ _ _).mono ?_
            rintro e w6 ⟨x, H5, rfl, B⟩
            have T := hid (T.out.next B.out)
            clear B o1 o2 o3 o4 r0 r1 r2 r3 r4 r5 r6 r7
            have o1 : w6.cell? ⟨w.heap.size, 1, none⟩ = some ((.string nm)) := by rw [cell_at T.out.op]; rfl
            have o2 : w6.cell? ⟨w.heap.size, 2, none⟩ = some ((.string tx)) := by rw [cell_at T.out.op]; rfl
            have o3 : w6.cell? ⟨w.heap.size, 3, none⟩ = some ((.int .i64 n)) := by rw [cell_at T.out.op]; rfl
            have o4 : w6.cell? ⟨w.heap.size, 4, none⟩ = some ((.int .i64 m)) := by rw [cell_at T.out.op]; rfl
            have r0 : w6.cell? ⟨w.heap.size + 1, 0, none⟩ = some (.int .i64 a0) := by rw [cell_at T.out.row]; rfl
            have r1 : w6.cell? ⟨w.heap.size + 1, 1, none⟩ = some (.int .i64 a1) := by rw [cell_at T.out.row]; rfl
            have r2 : w6.cell? ⟨w.heap.size + 1, 2, none⟩ = some (.int .i64 a2) := by rw [cell_at T.out.row]; rfl
            have r3 : w6.cell? ⟨w.heap.size + 1, 3, none⟩ = some (.int .i64 a3) := by rw [cell_at T.out.row]; rfl
            have r4 : w6.cell? ⟨w.heap.size + 1, 4, none⟩ = some (.int .i64 a4) := by rw [cell_at T.out.row]; rfl
            have r5 : w6.cell? ⟨w.heap.size + 1, 5, none⟩ = some (.int .i64 a5) := by rw [cell_at T.out.row]; rfl
            have r6 : w6.cell? ⟨w.heap.size + 1, 6, none⟩ = some (.int .i64 a6) := by rw [cell_at T.out.row]; rfl
            have r7 : w6.cell? ⟨w.heap.size + 1, 7, none⟩ = some (.int .i64 a7) := by rw [cell_at T.out.row]; rfl
            cases x with
            | true =>
              go_wp2
              go_ret
              exact ⟨by simp [chkR, H0.out, H1.out, H2.out, H3.out, H4.out, H5.out], T.out.below⟩
            | false =>
              go_wp2_with fail
              refine (extra_b _ _ _).mono ?_
              rintro e w7 ⟨x, H6, rfl, B⟩
              have T := hid (T.out.next B.out)
              clear B o1 o2 o3 o4 r0 r1 r2 r3 r4 r5 r6 r7
              have o1 : w7.cell? ⟨w.heap.size, 1, none⟩ = some ((.string nm)) := by rw [cell_at T.out.op]; rfl
              have o2 : w7.cell? ⟨w.heap.size, 2, none⟩ = some ((.string tx)) := by rw [cell_at T.out.op]; rfl
              have o3 : w7.cell? ⟨w.heap.size, 3, none⟩ = some ((.int .i64 n)) := by rw [cell_at T.out.op]; rfl
              have o4 : w7.cell? ⟨w.heap.size, 4, none⟩ = some ((.int .i64 m)) := by rw [cell_at T.out.op]; rfl
              have r0 : w7.cell? ⟨w.heap.size + 1, 0, none⟩ = some (.int .i64 a0) := by rw [cell_at T.out.row]; rfl
              have r1 : w7.cell? ⟨w.heap.size + 1, 1, none⟩ = some (.int .i64 a1) := by rw [cell_at T.out.row]; rfl
              have r2 : w7.cell? ⟨w.heap.size + 1, 2, none⟩ = some (.int .i64 a2) := by rw [cell_at T.out.row]; rfl
              have r3 : w7.cell? ⟨w.heap.size + 1, 3, none⟩ = some (.int .i64 a3) := by rw [cell_at T.out.row]; rfl
              have r4 : w7.cell? ⟨w.heap.size + 1, 4, none⟩ = some (.int .i64 a4) := by rw [cell_at T.out.row]; rfl
              have r5 : w7.cell? ⟨w.heap.size + 1, 5, none⟩ = some (.int .i64 a5) := by rw [cell_at T.out.row]; rfl
              have r6 : w7.cell? ⟨w.heap.size + 1, 6, none⟩ = some (.int .i64 a6) := by rw [cell_at T.out.row]; rfl
              have r7 : w7.cell? ⟨w.heap.size + 1, 7, none⟩ = some (.int .i64 a7) := by rw [cell_at T.out.row]; rfl
              cases x with
              | true =>
                go_wp2
                go_ret
                exact ⟨by simp [chkR, H0.out, H1.out, H2.out, H3.out, H4.out, H5.out, H6.out], T.out.below⟩
              | false =>
                go_wp2_with fail
                refine (extra_b _ _ _).mono ?_
                rintro e w8 ⟨x, H7, rfl, B⟩
                have T := hid (T.out.next B.out)
                clear B o1 o2 o3 o4 r0 r1 r2 r3 r4 r5 r6 r7
                have o1 : w8.cell? ⟨w.heap.size, 1, none⟩ = some ((.string nm)) := by rw [cell_at T.out.op]; rfl
                have o2 : w8.cell? ⟨w.heap.size, 2, none⟩ = some ((.string tx)) := by rw [cell_at T.out.op]; rfl
                have o3 : w8.cell? ⟨w.heap.size, 3, none⟩ = some ((.int .i64 n)) := by rw [cell_at T.out.op]; rfl
                have o4 : w8.cell? ⟨w.heap.size, 4, none⟩ = some ((.int .i64 m)) := by rw [cell_at T.out.op]; rfl
                have r0 : w8.cell? ⟨w.heap.size + 1, 0, none⟩ = some (.int .i64 a0) := by rw [cell_at T.out.row]; rfl
                have r1 : w8.cell? ⟨w.heap.size + 1, 1, none⟩ = some (.int .i64 a1) := by rw [cell_at T.out.row]; rfl
                have r2 : w8.cell? ⟨w.heap.size + 1, 2, none⟩ = some (.int .i64 a2) := by rw [cell_at T.out.row]; rfl
                have r3 : w8.cell? ⟨w.heap.size + 1, 3, none⟩ = some (.int .i64 a3) := by rw [cell_at T.out.row]; rfl
                have r4 : w8.cell? ⟨w.heap.size + 1, 4, none⟩ = some (.int .i64 a4) := by rw [cell_at T.out.row]; rfl
                have r5 : w8.cell? ⟨w.heap.size + 1, 5, none⟩ = some (.int .i64 a5) := by rw [cell_at T.out.row]; rfl
                have r6 : w8.cell? ⟨w.heap.size + 1, 6, none⟩ = some (.int .i64 a6) := by rw [cell_at T.out.row]; rfl
                have r7 : w8.cell? ⟨w.heap.size + 1, 7, none⟩ = some (.int .i64 a7) := by rw [cell_at T.out.row]; rfl
                cases x with
                | true =>
                  go_wp2
                  go_ret
                  exact ⟨by simp [chkR, H0.out, H1.out, H2.out, H3.out, H4.out, H5.out, H6.out, H7.out], T.out.below⟩
                | false =>
                  go_wp2
                  go_ret
                  exact ⟨by simp [chkR, H0.out, H1.out, H2.out, H3.out, H4.out, H5.out, H6.out, H7.out], T.out.below⟩
end Go.Proofs.YteloaggebkbeeaaDoor
