import Derived.Test.YtdhkdniddjnigaaGreatDoorD1
namespace Go.Proofs.YtdhkdniddjnigaaGreatDoor
open Go.RowKit
set_option linter.unusedVariables false

/-- A part of a list of texts. -/
theorem cut_rt {w : World} {ao : Option Addr} {n c : Nat} {l : Ws} (h : Rt w (.slice ao n c) l) {lo hi : Nat} (h1 : lo ≤ hi) (h2 : hi ≤ l.length) : Rt w (sliced ao lo hi c 1) ((l.drop lo).take (hi - lo)) := by
  obtain ⟨ao', c', e, hc, hx⟩ := h
  simp only [Value.slice.injEq] at e
  obtain ⟨rfl, rfl, rfl⟩ := e
  have hl : ((l.drop lo).take (hi - lo)).length = hi - lo := by simp; omega
  refine ⟨_, _, by rw [hl]; rfl, by omega, ?_⟩
  by_cases h0 : lo = hi
  · left; subst h0; simp
  · right
    rcases hx with rfl | ⟨g, o, rfl, hg, hcell⟩
    · simp at h2; omega
    · have hne : c ≠ lo := by omega
      refine ⟨g, o + lo, by rw [if_neg hne]; simp [Addr.add_lit], hg, fun j hj => ?_⟩
      have hj' : lo + j < l.length := by rw [hl] at hj; omega
      have := hcell (lo + j) hj'
      rw [Nat.add_assoc, this]
      simp
theorem Tryz.elem28 (W : World) : (sizeOf (Tryz.prog.elem 43)).run Tryz.prog W = .ok 1 W := by kernel_rfl
set_option maxRecDepth 1000000 in
theorem cut_l {w : World} {ao : Option Addr} {c : Nat} {l : Ws} (h : Rt w (.slice ao l.length c) l) {a : Nat} (ha : a ≤ l.length) {x : Int} (hx : x = (a : Int)) : ∃ ao' c', (∀ W, (Instr.slice 43 (.slice ao l.length c) (some (.int .i64 x)) none none).run Tryz.prog W = .ok (.slice ao' (l.length - a) c') W) ∧ Rt w (.slice ao' (l.length - a) c') (l.drop a) := by
  have hr := cut_rt h (lo := a) (hi := l.length) ha (Nat.le_refl _)
  rw [List.take_of_length_le (by simp)] at hr
  refine ⟨_, _, fun W => ?_, hr⟩
  rw [run_slice_l W 43 ao l.length c Tryz.underlying43 .i64 x (by omega) (by omega), Tryz.elem28, hx, Int.toNat_natCast]
  rfl
set_option maxRecDepth 1000000 in
theorem cut_h {w : World} {ao : Option Addr} {n c : Nat} {l : Ws} (h : Rt w (.slice ao n c) l) {b : Nat} (hb : b ≤ l.length) {x : Int} (hx : x = (b : Int)) : ∃ ao' c', (∀ W, (Instr.slice 43 (.slice ao n c) none (some (.int .i64 x)) none).run Tryz.prog W = .ok (.slice ao' b c') W) ∧ Rt w (.slice ao' b c') (l.take b) := by
  have hc : l.length ≤ c := by obtain ⟨_, _, e, hc, _⟩ := h; simp only [Value.slice.injEq] at e; omega
  have hr := cut_rt h (lo := 0) (hi := b) (by omega) hb
  rw [List.drop_zero, Nat.sub_zero] at hr
  have e0 : sliced ao 0 b c 1 = .slice (if c = 0 then ao else ao.map (·.add (0 * 1))) b c := rfl
  rw [e0] at hr
  refine ⟨_, _, fun W => ?_, hr⟩
  rw [run_slice_h W 43 ao n c Tryz.underlying43 .i64 x (by omega) (by omega), Tryz.elem28, hx, Int.toNat_natCast]
  rfl
set_option maxRecDepth 1000000 in
theorem cut_lh {w : World} {ao : Option Addr} {n c : Nat} {l : Ws} (h : Rt w (.slice ao n c) l) {a b : Nat} (hb : a + b ≤ l.length) {x y : Int} (hx : x = (a : Int)) (hy : y = (a : Int) + b) : ∃ ao' c', (∀ W, (Instr.slice 43 (.slice ao n c) (some (.int .i64 x)) (some (.int .i64 y)) none).run Tryz.prog W = .ok (.slice ao' b c') W) ∧ Rt w (.slice ao' b c') ((l.drop a).take b) := by
  have hc : l.length ≤ c := by obtain ⟨_, _, e, hc, _⟩ := h; simp only [Value.slice.injEq] at e; omega
  have hr := cut_rt h (lo := a) (hi := a + b) (by omega) hb
  rw [Nat.add_sub_cancel_left] at hr
  have e0 : sliced ao a (a + b) c 1 = .slice (if c = a then ao else ao.map (·.add (a * 1))) b (c - a) := by unfold sliced; rw [Nat.add_sub_cancel_left]
  rw [e0] at hr
  refine ⟨_, _, fun W => ?_, hr⟩
  have ey : y.toNat = a + b := by omega
  rw [run_slice_lh W 43 ao n c Tryz.underlying43 .i64 .i64 x y (by omega) (by omega) (by omega), Tryz.elem28, ey, hx, Int.toNat_natCast]
  show Result.ok (sliced ao a (a + b) c 1) W = _
  rw [e0]

end Go.Proofs.YtdhkdniddjnigaaGreatDoor
