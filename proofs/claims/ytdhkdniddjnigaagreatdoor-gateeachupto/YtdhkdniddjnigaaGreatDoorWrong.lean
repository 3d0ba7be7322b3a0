import Derived.Test.YtdhkdniddjnigaaGreatDoorSpan
namespace Go.Proofs.YtdhkdniddjnigaaGreatDoor
open Go.RowKit
set_option linter.unusedVariables false

set_option maxRecDepth 1000000 in
theorem wrong_any {w : World} (a b n : Int) : Calls Tryz.prog 195 #[spanV a b, .int .i64 n] w fun e w' => e = .returned (.bool (wr a b n)) ∧ Below w.heap.size w w' := by
  go_enter Tryz.func195, Tryz.ntmps195
  go_wp2_with fail
  refine (has_b a b).mono ?_
  rintro e w1 ⟨x, H0, rfl, B1⟩
  have hh := heap_alloc_new w (.cells #[.int .i64 a, .int .i64 b] 241)
  have hh1 : w1.heap[w.heap.size]? = some (.cells #[.int .i64 a, .int .i64 b] 241) := by rw [B1.out.block _ (by simp)]; exact hh
  have c0 : w1.cell? ⟨w.heap.size, 0, none⟩ = some (.int .i64 a) := by rw [cell_at hh1]; rfl
  have c1 : w1.cell? ⟨w.heap.size, 1, none⟩ = some (.int .i64 b) := by rw [cell_at hh1]; rfl
  clear hh hh1
  have B2 := hid (b2 (ba w _) B1.out)
  clear B1
  cases x with
  | false =>
    go_wp2
    go_ret
    exact ⟨by simp [wr, H0.out], B2.out⟩
  | true =>
    go_wp2_with fail
    refine (holds_b a b n).mono ?_
    rintro e w2 ⟨x, H1, rfl, B3⟩
    have B4 := hid (b2 B2.out B3.out)
    clear B2 B3
    go_wp2
    go_ret
    exact ⟨by simp [wr, H0.out, H1.out], B4.out⟩

set_option maxRecDepth 1000000 in
theorem extra_any {w : World} (a b n : Int) : Calls Tryz.prog 196 #[spanV a b, .int .i64 n] w fun e w' => e = .returned (.bool (ex b n)) ∧ Below w.heap.size w w' := by
  go_enter Tryz.func196, Tryz.ntmps196
  go_wp2_with fail
  refine (has_b a b).mono ?_
  rintro e w1 ⟨x, H0, rfl, B1⟩
  have B2 := hid (b2 (ba w _) B1.out)
  clear B1
  cases x with
  | true =>
    go_wp2
    go_ret
    exact ⟨by simp [ex, H0.out], B2.out⟩
  | false =>
    go_wp2
    go_ret
    exact ⟨by simp [ex, H0.out, bne, BEq.beq], B2.out⟩

theorem wrong_b {w : World} (a b n : Int) : Calls Tryz.prog 195 #[spanV a b, .int .i64 n] w fun e w' => ∃ x, Hid (wr a b n = x) ∧ e = .returned (.bool x) ∧ Hid (Below w.heap.size w w') :=
  (wrong_any a b n).mono fun e w' ⟨h, h'⟩ => ⟨_, hid rfl, h, h'⟩
theorem extra_b {w : World} (a b n : Int) : Calls Tryz.prog 196 #[spanV a b, .int .i64 n] w fun e w' => ∃ x, Hid (ex b n = x) ∧ e = .returned (.bool x) ∧ Hid (Below w.heap.size w w') :=
  (extra_any a b n).mono fun e w' ⟨h, h'⟩ => ⟨_, hid rfl, h, h'⟩
end Go.Proofs.YtdhkdniddjnigaaGreatDoor
