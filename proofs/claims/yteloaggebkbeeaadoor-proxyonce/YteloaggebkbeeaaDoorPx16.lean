import Derived.Test.YteloaggebkbeeaaDoorJ19
namespace Go.Proofs.YteloaggebkbeeaaDoor
open Go.RowKit
set_option linter.unusedVariables false

set_option maxHeartbeats 3200000 in
set_option maxRecDepth 1000000 in
/-- Two requests that are alike. -/
theorem sameMsg_rq {w : World} (f t : Int) (y : Wt) : Calls Tryd.prog 17 #[.agg (rqM f t y).cells.toArray, .agg (rqM f t y).cells.toArray] w fun e w' => e = .returned (.bool true) ∧ Below w.heap.size w w' := by
  obtain ⟨b1, hb1⟩ : ∃ b, Hid (b = w.heap.size) := ⟨_, hid rfl⟩
  obtain ⟨b2', hb2⟩ : ∃ b, Hid (b = w.heap.size + 1) := ⟨_, hid rfl⟩
  have A2 : Hid (All (blkC b1 (rqM f t y).cells 41 :: blkC b2' (rqM f t y).cells 41 :: [inC w]) ((w.alloc (.cells (rqM f t y).cells.toArray 41)).alloc (.cells (rqM f t y).cells.toArray 41))) := hid (by
    have := (((All.came w).addBlk (rqM f t y).cells 41).addBlk (rqM f t y).cells 41).swap
    simp only [World.size_alloc] at this
    rw [hb1.out, hb2.out]
    exact this)
  obtain ⟨PC, hPC⟩ : ∃ PC, Hid (PC = (rqM f t y).cells.toArray) := ⟨_, hid rfl⟩
  rw [← hPC.out] at A2 ⊢
  have s1 : (y.onm.toList == y.onm.toList) = true := by simp
  have s2 : (y.otx.toList == y.otx.toList) = true := by simp
  go_enter Tryd.func17, Tryd.ntmps17
  go_upto_region 1 with fail
  simp only [← hb1.out]
  have e2 : b1 + 1 = b2' := by rw [hb1.out, hb2.out]
  simp only [e2]
  clear e2
  generalize (w.alloc (.cells PC 41)).alloc (.cells PC 41) = w2 at A2 ⊢
  have c0 : w2.cell? ⟨b1, 0, none⟩ = some (.int .i64 1) := by rw [cell_at A2.out.1.2.1]; rfl
  have d0 : w2.cell? ⟨b2', 0, none⟩ = some (.int .i64 1) := by rw [cell_at A2.out.tail.1.2.1]; rfl
  have c1 : w2.cell? ⟨b1, 1, none⟩ = some (.int .i64 f) := by rw [cell_at A2.out.1.2.1]; rfl
  have d1 : w2.cell? ⟨b2', 1, none⟩ = some (.int .i64 f) := by rw [cell_at A2.out.tail.1.2.1]; rfl
  have c2 : w2.cell? ⟨b1, 2, none⟩ = some (.int .i64 t) := by rw [cell_at A2.out.1.2.1]; rfl
  have d2 : w2.cell? ⟨b2', 2, none⟩ = some (.int .i64 t) := by rw [cell_at A2.out.tail.1.2.1]; rfl
  have c3 : w2.cell? ⟨b1, 3, none⟩ = some (.int .i64 0) := by rw [cell_at A2.out.1.2.1]; rfl
  have d3 : w2.cell? ⟨b2', 3, none⟩ = some (.int .i64 0) := by rw [cell_at A2.out.tail.1.2.1]; rfl
  have c4 : w2.cell? ⟨b1, 4, none⟩ = some (.int .i64 0) := by rw [cell_at A2.out.1.2.1]; rfl
  have d4 : w2.cell? ⟨b2', 4, none⟩ = some (.int .i64 0) := by rw [cell_at A2.out.tail.1.2.1]; rfl
  have c5 : w2.cell? ⟨b1, 5, none⟩ = some (.int .i64 0) := by rw [cell_at A2.out.1.2.1]; rfl
  have d5 : w2.cell? ⟨b2', 5, none⟩ = some (.int .i64 0) := by rw [cell_at A2.out.tail.1.2.1]; rfl
  have c6 : w2.cell? ⟨b1, 6, none⟩ = some (.int .i64 0) := by rw [cell_at A2.out.1.2.1]; rfl
  have d6 : w2.cell? ⟨b2', 6, none⟩ = some (.int .i64 0) := by rw [cell_at A2.out.tail.1.2.1]; rfl
  have c7 : w2.cell? ⟨b1, 7, none⟩ = some (.int .i64 0) := by rw [cell_at A2.out.1.2.1]; rfl
  have d7 : w2.cell? ⟨b2', 7, none⟩ = some (.int .i64 0) := by rw [cell_at A2.out.tail.1.2.1]; rfl
  have c8 : w2.cell? ⟨b1, 8, none⟩ = some (.int .i64 y.num) := by rw [cell_at A2.out.1.2.1]; rfl
  have d8 : w2.cell? ⟨b2', 8, none⟩ = some (.int .i64 y.num) := by rw [cell_at A2.out.tail.1.2.1]; rfl
  have c9 : w2.cell? ⟨b1, 9, none⟩ = some (.bool false) := by rw [cell_at A2.out.1.2.1]; rfl
  have d9 : w2.cell? ⟨b2', 9, none⟩ = some (.bool false) := by rw [cell_at A2.out.tail.1.2.1]; rfl
  have c10 : w2.cell? ⟨b1, 10, none⟩ = some (.int .i64 y.ok) := by rw [cell_at A2.out.1.2.1]; rfl
  have d10 : w2.cell? ⟨b2', 10, none⟩ = some (.int .i64 y.ok) := by rw [cell_at A2.out.tail.1.2.1]; rfl
  have c11 : w2.cell? ⟨b1, 11, none⟩ = some (.string y.onm) := by rw [cell_at A2.out.1.2.1]; rfl
  have d11 : w2.cell? ⟨b2', 11, none⟩ = some (.string y.onm) := by rw [cell_at A2.out.tail.1.2.1]; rfl
  have c12 : w2.cell? ⟨b1, 12, none⟩ = some (.string y.otx) := by rw [cell_at A2.out.1.2.1]; rfl
  have d12 : w2.cell? ⟨b2', 12, none⟩ = some (.string y.otx) := by rw [cell_at A2.out.tail.1.2.1]; rfl
  have c13 : w2.cell? ⟨b1, 13, none⟩ = some (.int .i64 y.on) := by rw [cell_at A2.out.1.2.1]; rfl
  have d13 : w2.cell? ⟨b2', 13, none⟩ = some (.int .i64 y.on) := by rw [cell_at A2.out.tail.1.2.1]; rfl
  have c14 : w2.cell? ⟨b1, 14, none⟩ = some (.int .i64 y.om) := by rw [cell_at A2.out.1.2.1]; rfl
  have d14 : w2.cell? ⟨b2', 14, none⟩ = some (.int .i64 y.om) := by rw [cell_at A2.out.tail.1.2.1]; rfl
  have c15 : w2.cell? ⟨b1, 15, none⟩ = some (.int .i64 0) := by rw [cell_at A2.out.1.2.1]; rfl
  have d15 : w2.cell? ⟨b2', 15, none⟩ = some (.int .i64 0) := by rw [cell_at A2.out.tail.1.2.1]; rfl
  have c16 : w2.cell? ⟨b1, 16, none⟩ = some (.int .i64 0) := by rw [cell_at A2.out.1.2.1]; rfl
  have d16 : w2.cell? ⟨b2', 16, none⟩ = some (.int .i64 0) := by rw [cell_at A2.out.tail.1.2.1]; rfl
  have c17 : w2.cell? ⟨b1, 17, none⟩ = some (.slice none 0 0) := by rw [cell_at A2.out.1.2.1]; rfl
  have d17 : w2.cell? ⟨b2', 17, none⟩ = some (.slice none 0 0) := by rw [cell_at A2.out.tail.1.2.1]; rfl
  have c18 : w2.cell? ⟨b1, 18, none⟩ = some (.slice none 0 0) := by rw [cell_at A2.out.1.2.1]; rfl
  have d18 : w2.cell? ⟨b2', 18, none⟩ = some (.slice none 0 0) := by rw [cell_at A2.out.tail.1.2.1]; rfl
  have c19 : w2.cell? ⟨b1, 19, none⟩ = some (.int .i64 0) := by rw [cell_at A2.out.1.2.1]; rfl
  have d19 : w2.cell? ⟨b2', 19, none⟩ = some (.int .i64 0) := by rw [cell_at A2.out.tail.1.2.1]; rfl
  have c20 : w2.cell? ⟨b1, 20, none⟩ = some (.int .i64 0) := by rw [cell_at A2.out.1.2.1]; rfl
  have d20 : w2.cell? ⟨b2', 20, none⟩ = some (.int .i64 0) := by rw [cell_at A2.out.tail.1.2.1]; rfl
  have c21 : w2.cell? ⟨b1, 21, none⟩ = some (.slice none 0 0) := by rw [cell_at A2.out.1.2.1]; rfl
  have d21 : w2.cell? ⟨b2', 21, none⟩ = some (.slice none 0 0) := by rw [cell_at A2.out.tail.1.2.1]; rfl
  have c22 : w2.cell? ⟨b1, 22, none⟩ = some (.slice none 0 0) := by rw [cell_at A2.out.1.2.1]; rfl
  have d22 : w2.cell? ⟨b2', 22, none⟩ = some (.slice none 0 0) := by rw [cell_at A2.out.tail.1.2.1]; rfl
  go_wp2
  go_ret
  exact ⟨rfl, A2.out.into (by simp)⟩
end Go.Proofs.YteloaggebkbeeaaDoor
