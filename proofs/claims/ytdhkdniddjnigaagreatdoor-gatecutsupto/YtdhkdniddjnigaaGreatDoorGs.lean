import Derived.Test.YtdhkdniddjnigaaGreatDoorJ15
namespace Go.Proofs.YtdhkdniddjnigaaGreatDoor
open Go.RowKit
set_option linter.unusedVariables false

/-- A message without lists. -/
def Ms.bare (x : Ms) : Prop := x.rl = 0 ∧ x.el = 0 ∧ x.sl = 0 ∧ x.xl = 0
set_option maxHeartbeats 6400000 in
set_option maxRecDepth 1000000 in
/-- A message is like itself. -/
theorem alike_any {w : World} {x : Ms} (hx : x.bare) : Calls Tryz.prog 35 #[.agg x.cells.toArray, .agg x.cells.toArray] w fun e w' => e = .returned (.bool true) ∧ Below w.heap.size w w' := by
  obtain ⟨b1, hb1⟩ : ∃ b, Hid (b = w.heap.size) := ⟨_, hid rfl⟩
  obtain ⟨b2', hb2⟩ : ∃ b, Hid (b = w.heap.size + 1) := ⟨_, hid rfl⟩
  have A2 : Hid (All (blkC b1 x.cells 51 :: blkC b2' x.cells 51 :: [inC w]) ((w.alloc (.cells x.cells.toArray 51)).alloc (.cells x.cells.toArray 51))) := hid (by
    have := (((All.came w).addBlk x.cells 51).addBlk x.cells 51).swap
    simp only [World.size_alloc] at this
    rw [hb1.out, hb2.out]
    exact this)
  obtain ⟨PC, hPC⟩ : ∃ PC, Hid (PC = x.cells.toArray) := ⟨_, hid rfl⟩
  rw [← hPC.out] at A2 ⊢
  have s1 : (x.onm.toList == x.onm.toList) = true := by simp
  have s2 : (x.otx.toList == x.otx.toList) = true := by simp
  have HX := hid hx
  clear hx
  go_enter Tryz.func35, Tryz.ntmps35
  go_upto_region 1 with fail
  simp only [← hb1.out]
  have e2 : b1 + 1 = b2' := by rw [hb1.out, hb2.out]
  simp only [e2]
  clear e2
  generalize (w.alloc (.cells PC 51)).alloc (.cells PC 51) = w2 at A2 ⊢
  have hx := HX.out
  unfold Ms.bare at hx
  have c0 : w2.cell? ⟨b1, 0, none⟩ = some (.int .i64 x.k) := by rw [cell_at A2.out.1.2.1]; rfl
  have d0 : w2.cell? ⟨b2', 0, none⟩ = some (.int .i64 x.k) := by rw [cell_at A2.out.tail.1.2.1]; rfl
  have c1 : w2.cell? ⟨b1, 1, none⟩ = some (.int .i64 x.f) := by rw [cell_at A2.out.1.2.1]; rfl
  have d1 : w2.cell? ⟨b2', 1, none⟩ = some (.int .i64 x.f) := by rw [cell_at A2.out.tail.1.2.1]; rfl
  have c2 : w2.cell? ⟨b1, 2, none⟩ = some (.int .i64 x.t) := by rw [cell_at A2.out.1.2.1]; rfl
  have d2 : w2.cell? ⟨b2', 2, none⟩ = some (.int .i64 x.t) := by rw [cell_at A2.out.tail.1.2.1]; rfl
  have c3 : w2.cell? ⟨b1, 3, none⟩ = some (.int .i64 x.v) := by rw [cell_at A2.out.1.2.1]; rfl
  have d3 : w2.cell? ⟨b2', 3, none⟩ = some (.int .i64 x.v) := by rw [cell_at A2.out.tail.1.2.1]; rfl
  have c4 : w2.cell? ⟨b1, 4, none⟩ = some (.int .i64 x.n) := by rw [cell_at A2.out.1.2.1]; rfl
  have d4 : w2.cell? ⟨b2', 4, none⟩ = some (.int .i64 x.n) := by rw [cell_at A2.out.tail.1.2.1]; rfl
  have c5 : w2.cell? ⟨b1, 5, none⟩ = some (.int .i64 x.c) := by rw [cell_at A2.out.1.2.1]; rfl
  have d5 : w2.cell? ⟨b2', 5, none⟩ = some (.int .i64 x.c) := by rw [cell_at A2.out.tail.1.2.1]; rfl
  have c6 : w2.cell? ⟨b1, 6, none⟩ = some (.int .i64 x.o) := by rw [cell_at A2.out.1.2.1]; rfl
  have d6 : w2.cell? ⟨b2', 6, none⟩ = some (.int .i64 x.o) := by rw [cell_at A2.out.tail.1.2.1]; rfl
  have c7 : w2.cell? ⟨b1, 7, none⟩ = some (.int .i64 x.l) := by rw [cell_at A2.out.1.2.1]; rfl
  have d7 : w2.cell? ⟨b2', 7, none⟩ = some (.int .i64 x.l) := by rw [cell_at A2.out.tail.1.2.1]; rfl
  have c8 : w2.cell? ⟨b1, 8, none⟩ = some (.int .i64 x.q) := by rw [cell_at A2.out.1.2.1]; rfl
  have d8 : w2.cell? ⟨b2', 8, none⟩ = some (.int .i64 x.q) := by rw [cell_at A2.out.tail.1.2.1]; rfl
  have c9 : w2.cell? ⟨b1, 9, none⟩ = some (.bool x.h) := by rw [cell_at A2.out.1.2.1]; rfl
  have d9 : w2.cell? ⟨b2', 9, none⟩ = some (.bool x.h) := by rw [cell_at A2.out.tail.1.2.1]; rfl
  have c10 : w2.cell? ⟨b1, 10, none⟩ = some (.int .i64 x.ok) := by rw [cell_at A2.out.1.2.1]; rfl
  have d10 : w2.cell? ⟨b2', 10, none⟩ = some (.int .i64 x.ok) := by rw [cell_at A2.out.tail.1.2.1]; rfl
  have c11 : w2.cell? ⟨b1, 11, none⟩ = some (.string x.onm) := by rw [cell_at A2.out.1.2.1]; rfl
  have d11 : w2.cell? ⟨b2', 11, none⟩ = some (.string x.onm) := by rw [cell_at A2.out.tail.1.2.1]; rfl
  have c12 : w2.cell? ⟨b1, 12, none⟩ = some (.string x.otx) := by rw [cell_at A2.out.1.2.1]; rfl
  have d12 : w2.cell? ⟨b2', 12, none⟩ = some (.string x.otx) := by rw [cell_at A2.out.tail.1.2.1]; rfl
  have c13 : w2.cell? ⟨b1, 13, none⟩ = some (.int .i64 x.on) := by rw [cell_at A2.out.1.2.1]; rfl
  have d13 : w2.cell? ⟨b2', 13, none⟩ = some (.int .i64 x.on) := by rw [cell_at A2.out.tail.1.2.1]; rfl
  have c14 : w2.cell? ⟨b1, 14, none⟩ = some (.int .i64 x.om) := by rw [cell_at A2.out.1.2.1]; rfl
  have d14 : w2.cell? ⟨b2', 14, none⟩ = some (.int .i64 x.om) := by rw [cell_at A2.out.tail.1.2.1]; rfl
  have c15 : w2.cell? ⟨b1, 15, none⟩ = some (.int .i64 x.rc) := by rw [cell_at A2.out.1.2.1]; rfl
  have d15 : w2.cell? ⟨b2', 15, none⟩ = some (.int .i64 x.rc) := by rw [cell_at A2.out.tail.1.2.1]; rfl
  have c16 : w2.cell? ⟨b1, 16, none⟩ = some (.int .i64 x.rn) := by rw [cell_at A2.out.1.2.1]; rfl
  have d16 : w2.cell? ⟨b2', 16, none⟩ = some (.int .i64 x.rn) := by rw [cell_at A2.out.tail.1.2.1]; rfl
  have c17 : w2.cell? ⟨b1, 17, none⟩ = some (.slice x.ra 0 x.rp) := by rw [show (.slice x.ra 0 x.rp : Value) = .slice x.ra x.rl x.rp by rw [hx.1], cell_at A2.out.1.2.1]; rfl
  have d17 : w2.cell? ⟨b2', 17, none⟩ = some (.slice x.ra 0 x.rp) := by rw [show (.slice x.ra 0 x.rp : Value) = .slice x.ra x.rl x.rp by rw [hx.1], cell_at A2.out.tail.1.2.1]; rfl
  have c18 : w2.cell? ⟨b1, 18, none⟩ = some (.slice x.ea 0 x.ep) := by rw [show (.slice x.ea 0 x.ep : Value) = .slice x.ea x.el x.ep by rw [hx.2.1], cell_at A2.out.1.2.1]; rfl
  have d18 : w2.cell? ⟨b2', 18, none⟩ = some (.slice x.ea 0 x.ep) := by rw [show (.slice x.ea 0 x.ep : Value) = .slice x.ea x.el x.ep by rw [hx.2.1], cell_at A2.out.tail.1.2.1]; rfl
  have c19 : w2.cell? ⟨b1, 19, none⟩ = some (.int .i64 x.cf) := by rw [cell_at A2.out.1.2.1]; rfl
  have d19 : w2.cell? ⟨b2', 19, none⟩ = some (.int .i64 x.cf) := by rw [cell_at A2.out.tail.1.2.1]; rfl
  have c20 : w2.cell? ⟨b1, 20, none⟩ = some (.int .i64 x.cb) := by rw [cell_at A2.out.1.2.1]; rfl
  have d20 : w2.cell? ⟨b2', 20, none⟩ = some (.int .i64 x.cb) := by rw [cell_at A2.out.tail.1.2.1]; rfl
  have c21 : w2.cell? ⟨b1, 21, none⟩ = some (.slice x.sa 0 x.sp) := by rw [show (.slice x.sa 0 x.sp : Value) = .slice x.sa x.sl x.sp by rw [hx.2.2.1], cell_at A2.out.1.2.1]; rfl
  have d21 : w2.cell? ⟨b2', 21, none⟩ = some (.slice x.sa 0 x.sp) := by rw [show (.slice x.sa 0 x.sp : Value) = .slice x.sa x.sl x.sp by rw [hx.2.2.1], cell_at A2.out.tail.1.2.1]; rfl
  have c22 : w2.cell? ⟨b1, 22, none⟩ = some (.slice x.xa 0 x.xp) := by rw [show (.slice x.xa 0 x.xp : Value) = .slice x.xa x.xl x.xp by rw [hx.2.2.2], cell_at A2.out.1.2.1]; rfl
  have d22 : w2.cell? ⟨b2', 22, none⟩ = some (.slice x.xa 0 x.xp) := by rw [show (.slice x.xa 0 x.xp : Value) = .slice x.xa x.xl x.xp by rw [hx.2.2.2], cell_at A2.out.tail.1.2.1]; rfl
  have B := hid (A2.out.into (w0 := w) (by simp))
  clear A2 hPC hx HX
  generalize x.k = x0 at *
  generalize x.f = x1 at *
  go_wp2
  go_ret
  exact ⟨rfl, B.out⟩
end Go.Proofs.YtdhkdniddjnigaaGreatDoor
