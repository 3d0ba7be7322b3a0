import Derived.Test.YtdhkdniddjnigaaGreatDoorMail5
import Derived.Deep.MidRow
namespace Go.Proofs.YtdhkdniddjnigaaGreatDoor
open Go.RowKit Go.Lib
set_option linter.unusedVariables false

abbrev Ms.V (m : Ms) : Value := .agg #[.int .i64 m.k, .int .i64 m.f, .int .i64 m.t, .int .i64 m.v, .int .i64 m.n, .int .i64 m.c, .int .i64 m.o, .int .i64 m.l, .int .i64 m.q, .bool m.h, .int .i64 m.ok, .string m.onm, .string m.otx, .int .i64 m.on, .int .i64 m.om, .int .i64 m.rc, .int .i64 m.rn, .slice m.ra m.rl m.rp, .slice m.ea m.el m.ep, .int .i64 m.cf, .int .i64 m.cb, .slice m.sa m.sl m.sp, .slice m.xa m.xl m.xp]
theorem MsAt.new (w : World) (m : Ms) : MsAt (w.alloc (.cells m.cells.toArray 51)) w.heap.size m := by
  intro j u hu
  rw [cell_at (heap_alloc_new w _)]
  simpa using hu
/-- The cells of a message. -/
def MsC (b : Nat) (m : Ms) (W : World) : Prop := W.cell? ⟨b, 0, none⟩ = some (.int .i64 m.k) ∧ W.cell? ⟨b, 1, none⟩ = some (.int .i64 m.f) ∧ W.cell? ⟨b, 2, none⟩ = some (.int .i64 m.t) ∧ W.cell? ⟨b, 3, none⟩ = some (.int .i64 m.v) ∧ W.cell? ⟨b, 4, none⟩ = some (.int .i64 m.n) ∧ W.cell? ⟨b, 5, none⟩ = some (.int .i64 m.c) ∧ W.cell? ⟨b, 6, none⟩ = some (.int .i64 m.o) ∧ W.cell? ⟨b, 7, none⟩ = some (.int .i64 m.l) ∧ W.cell? ⟨b, 8, none⟩ = some (.int .i64 m.q) ∧ W.cell? ⟨b, 9, none⟩ = some (.bool m.h) ∧ W.cell? ⟨b, 10, none⟩ = some (.int .i64 m.ok) ∧ W.cell? ⟨b, 11, none⟩ = some (.string m.onm) ∧ W.cell? ⟨b, 12, none⟩ = some (.string m.otx) ∧ W.cell? ⟨b, 13, none⟩ = some (.int .i64 m.on) ∧ W.cell? ⟨b, 14, none⟩ = some (.int .i64 m.om) ∧ W.cell? ⟨b, 15, none⟩ = some (.int .i64 m.rc) ∧ W.cell? ⟨b, 16, none⟩ = some (.int .i64 m.rn) ∧ W.cell? ⟨b, 17, none⟩ = some (.slice m.ra m.rl m.rp) ∧ W.cell? ⟨b, 18, none⟩ = some (.slice m.ea m.el m.ep) ∧ W.cell? ⟨b, 19, none⟩ = some (.int .i64 m.cf) ∧ W.cell? ⟨b, 20, none⟩ = some (.int .i64 m.cb) ∧ W.cell? ⟨b, 21, none⟩ = some (.slice m.sa m.sl m.sp) ∧ W.cell? ⟨b, 22, none⟩ = some (.slice m.xa m.xl m.xp)
theorem MsAt.all {W : World} {b : Nat} {m : Ms} (h : MsAt W b m) : MsC b m W := ⟨h 0 _ rfl, h 1 _ rfl, h 2 _ rfl, h 3 _ rfl, h 4 _ rfl, h 5 _ rfl, h 6 _ rfl, h 7 _ rfl, h 8 _ rfl, h 9 _ rfl, h 10 _ rfl, h 11 _ rfl, h 12 _ rfl, h 13 _ rfl, h 14 _ rfl, h 15 _ rfl, h 16 _ rfl, h 17 _ rfl, h 18 _ rfl, h 19 _ rfl, h 20 _ rfl, h 21 _ rfl, h 22 _ rfl⟩

end Go.Proofs.YtdhkdniddjnigaaGreatDoor
