import Derived.Test.YtdhkdniddjnigaaGreatDoorPx8a
import Derived.Deep.QuietTactic
import Derived.BigQuiet
namespace Go.Proofs.YtdhkdniddjnigaaGreatDoor
open Go.RowKit
set_option linter.unusedVariables false

set_option maxHeartbeats 800000 in
set_option maxRecDepth 1000000 in
theorem next34 {P : Nat} {x : Px} {b m n1 n2 : Int} {cs : List Comp} {w : World} (h : All (pxL P x b m n1 n2 ++ cs) w) (n : Int) (hn : 1 ≤ n) (hw : 0 ≤ x.who) (hw2 : x.who ≤ 7) (ha : 0 ≤ x.again) (ha2 : x.again ≤ 4611686018427387904) : Calls Tryz.prog 80 #[.pointer (some ⟨P, 13, none⟩), .int .i64 n] w fun e w' => e = .returned (.int .i64 ((x.who + x.again).tmod n)) ∧ All (pxL P { x with again := x.again + 1 } b m n1 n2 ++ cs) w' := by
  have c22 : w.cell? ⟨P, 22, none⟩ = some (.int .i64 x.who) := by rw [cell_at h.px]; rfl
  have c24 : w.cell? ⟨P, 24, none⟩ = some (.int .i64 x.again) := by rw [cell_at h.px]; rfl
  have f1 := free_at h.px 24
  have A := hid (h.setBlk 24 (.int .i64 (x.again + 1)))
  have d22 : Hid ((w.setCell ⟨P, 24, none⟩ (.int .i64 (x.again + 1))).cell? ⟨P, 22, none⟩ = some (.int .i64 x.who)) := hid (by rw [cell_at A.out.1.2.1]; rfl)
  have d24 : Hid ((w.setCell ⟨P, 24, none⟩ (.int .i64 (x.again + 1))).cell? ⟨P, 24, none⟩ = some (.int .i64 (x.again + 1))) := hid (by rw [cell_at A.out.1.2.1]; rfl)
  have e1 : IntKind.i64.wrap (x.again + 1) = x.again + 1 := by rw [IntKind.wrap_i64]; omega
  have e2 : IntKind.i64.wrap (x.who + (x.again + 1)) = x.who + (x.again + 1) := by rw [IntKind.wrap_i64]; omega
  have e3 : IntKind.i64.wrap (x.who + (x.again + 1) - 1) = x.who + x.again := by rw [IntKind.wrap_i64]; omega
  have n0 : n ≠ 0 := by omega
  have n1 : n ≠ -1 := by omega
  clear h hn hw hw2 ha ha2
  go_enter Tryz.func80, Tryz.ntmps80
  go_upto_region 2 with fail
  generalize w.setCell ⟨P, 24, none⟩ (.int .i64 (x.again + 1)) = w1 at A d22 d24 ⊢
  clear c22 c24 f1
  have d22 := d22.out
  have d24 := d24.out
  go_region
  go_wp2
  go_ret
  exact ⟨rfl, A.out.drew⟩
end Go.Proofs.YtdhkdniddjnigaaGreatDoor
