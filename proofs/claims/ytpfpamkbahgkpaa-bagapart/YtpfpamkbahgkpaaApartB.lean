import Derived.Test.YtpfpamkbahgkpaaApart
namespace Go.Proofs.Ytpfpamkbahgkpaa
open Go.RowKit
set_option linter.unusedVariables false

set_option maxHeartbeats 800000 in
set_option maxRecDepth 1000000 in
theorem apart_room {f h t : List OpV} {v1 v2 v3 : Value} {r : Int} {w : World} (hf : OpsAt w v1 f) (hh : OpsAt w v2 h) (ht : OpsAt w v3 t) (hr : ¬ (1 ≤ r ∧ r ≤ 1024)) :
    Calls Try.prog 7 #[.agg #[.int .i64 r, v1, v2, v3]] w fun e w' => e = .returned (.bool true) ∧ Below w.heap.size w w' := by
  obtain ⟨o1, c1, e1, _⟩ := hf
  obtain ⟨o2, c2, e2, _⟩ := hh
  obtain ⟨o3, c3, e3, _⟩ := ht
  subst e1 e2 e3
  have C0 := hid (shown_any ((All.came w).addBlk [.int .i64 r, .slice o1 f.length c1, .slice o2 h.length c2, .slice o3 t.length c3] 65))
  have C1 := hid (fun w => New_no (w := w) hr)
  generalize f.length = n1 at *
  generalize h.length = n2 at *
  generalize t.length = n3 at *
  by_cases h1 : r < 1
  · clear hr
    go_enter Try.func7, Try.ntmps7
    go_wp2_with fail
    refine C0.out.mono ?_
    rintro e w0 ⟨rfl, A0⟩
    have k0 : w0.cell? ⟨w.heap.size, 0, none⟩ = some (.int .i64 r) := by rw [cell_at A0.1.2.1]; rfl
    have k1 : w0.cell? ⟨w.heap.size, 1, none⟩ = some (.slice o1 n1 c1) := by rw [cell_at A0.1.2.1]; rfl
    have k2 : w0.cell? ⟨w.heap.size, 2, none⟩ = some (.slice o2 n2 c2) := by rw [cell_at A0.1.2.1]; rfl
    have k3 : w0.cell? ⟨w.heap.size, 3, none⟩ = some (.slice o3 n3 c3) := by rw [cell_at A0.1.2.1]; rfl
    have BW := hid (A0.into (w0 := w) (by simp))
    clear A0 C0
    go_wp2_with (go_at_call 19; refine (C1.out _).mono ?_; rintro e w' ⟨rfl, rfl⟩)
    go_ret
    exact ⟨rfl, BW.out⟩
  · have h2 : 1024 < r := by omega
    clear hr
    go_enter Try.func7, Try.ntmps7
    go_wp2_with fail
    refine C0.out.mono ?_
    rintro e w0 ⟨rfl, A0⟩
    have k0 : w0.cell? ⟨w.heap.size, 0, none⟩ = some (.int .i64 r) := by rw [cell_at A0.1.2.1]; rfl
    have k1 : w0.cell? ⟨w.heap.size, 1, none⟩ = some (.slice o1 n1 c1) := by rw [cell_at A0.1.2.1]; rfl
    have k2 : w0.cell? ⟨w.heap.size, 2, none⟩ = some (.slice o2 n2 c2) := by rw [cell_at A0.1.2.1]; rfl
    have k3 : w0.cell? ⟨w.heap.size, 3, none⟩ = some (.slice o3 n3 c3) := by rw [cell_at A0.1.2.1]; rfl
    have BW := hid (A0.into (w0 := w) (by simp))
    clear A0 C0
    go_wp2_with (go_at_call 19; refine (C1.out _).mono ?_; rintro e w' ⟨rfl, rfl⟩)
    go_ret
    exact ⟨rfl, BW.out⟩
/-- THE LAW. -/
theorem apart_any {f h t : List OpV} {v1 v2 v3 : Value} {r : Int} {w : World} (hf : OpsAt w v1 f) (hh : OpsAt w v2 h) (ht : OpsAt w v3 t) (lf : f.length * 64 ≤ 140737488351232) (lh : h.length * 64 ≤ 140737488351232) (lt : t.length * 64 ≤ 140737488351232) :
    Calls Try.prog 7 #[.agg #[.int .i64 r, v1, v2, v3]] w fun e w' => e = .returned (.bool true) ∧ Below w.heap.size w w' := by
  by_cases hr : 1 ≤ r ∧ r ≤ 1024
  · exact apart_loop hf hh ht lf lh lt hr.1 hr.2
  · exact apart_room hf hh ht hr
end Go.Proofs.Ytpfpamkbahgkpaa
