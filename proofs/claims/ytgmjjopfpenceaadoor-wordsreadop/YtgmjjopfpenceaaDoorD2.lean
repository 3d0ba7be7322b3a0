import Derived.Test.YtgmjjopfpenceaaDoorD1
namespace Go.Proofs.YtgmjjopfpenceaaDoor
open Go.RowKit
set_option linter.unusedVariables false

theorem perm3a {α : Type} (a b c : α) (cs : List α) : (a :: b :: c :: cs).Perm (c :: a :: b :: cs) := by
  refine List.Perm.trans ?_ (List.perm_middle (l₁ := [a, b]) (a := c) (l₂ := cs))
  exact List.Perm.refl _
/-- A part of a list of texts. -/
theorem cut_rt {w : World} {ao : Option Addr} {n c : Nat} {l : Ws} (h : Rt w (.slice ao n c) l) {lo hi : Nat} (h1 : lo ≤ hi) (h2 : hi ≤ l.length) : Rt w (sliced ao lo hi c 1) ((l.drop lo).take (hi - lo)) := by
  obtain ⟨ao', c', e, hc, hx⟩ := h
  simp only [Value.slice.injEq] at e
  obtain ⟨rfl, rfl, rfl⟩ := e
  have hl : ((l.drop lo).take (hi - lo)).length = hi - lo := by simp; omega
  refine ⟨_, _, by rw [hl]; rfl, by omega, ?_⟩
  by_cases h0 : lo = hi
  · left; subst h0; simp
  · right
    rcases hx with rfl | ⟨g, o, rfl, hg, hcell⟩
    · simp at h2; omega
    · have hne : c ≠ lo := by omega
      refine ⟨g, o + lo, by rw [if_neg hne]; simp [Addr.add_lit], hg, fun j hj => ?_⟩
      have hj' : lo + j < l.length := by rw [hl] at hj; omega
      have := hcell (lo + j) hj'
      rw [Nat.add_assoc, this]
      simp
theorem Tryd.elem28 (W : World) : (sizeOf (Tryd.prog.elem 28)).run Tryd.prog W = .ok 1 W := by kernel_rfl
theorem cut_l {w : World} {ao : Option Addr} {c : Nat} {l : Ws} (h : Rt w (.slice ao l.length c) l) {a : Nat} (ha : a ≤ l.length) {x : Int} (hx : x = (a : Int)) : ∃ ao' c', (∀ W, (Instr.slice 28 (.slice ao l.length c) (some (.int .i64 x)) none none).run Tryd.prog W = .ok (.slice ao' (l.length - a) c') W) ∧ Rt w (.slice ao' (l.length - a) c') (l.drop a) := by
  have hr := cut_rt h (lo := a) (hi := l.length) ha (Nat.le_refl _)
  rw [List.take_of_length_le (by simp)] at hr
  refine ⟨_, _, fun W => ?_, hr⟩
  rw [run_slice_l W 28 ao l.length c Tryd.underlying28 .i64 x (by omega) (by omega), Tryd.elem28, hx, Int.toNat_natCast]
  rfl
theorem cut_h {w : World} {ao : Option Addr} {n c : Nat} {l : Ws} (h : Rt w (.slice ao n c) l) {b : Nat} (hb : b ≤ l.length) {x : Int} (hx : x = (b : Int)) : ∃ ao' c', (∀ W, (Instr.slice 28 (.slice ao n c) none (some (.int .i64 x)) none).run Tryd.prog W = .ok (.slice ao' b c') W) ∧ Rt w (.slice ao' b c') (l.take b) := by
  have hc : l.length ≤ c := by obtain ⟨_, _, e, hc, _⟩ := h; simp only [Value.slice.injEq] at e; omega
  have hr := cut_rt h (lo := 0) (hi := b) (by omega) hb
  rw [List.drop_zero, Nat.sub_zero] at hr
  have e0 : sliced ao 0 b c 1 = .slice (if c = 0 then ao else ao.map (·.add (0 * 1))) b c := rfl
  rw [e0] at hr
  refine ⟨_, _, fun W => ?_, hr⟩
  rw [run_slice_h W 28 ao n c Tryd.underlying28 .i64 x (by omega) (by omega), Tryd.elem28, hx, Int.toNat_natCast]
  rfl
theorem cut_lh {w : World} {ao : Option Addr} {n c : Nat} {l : Ws} (h : Rt w (.slice ao n c) l) {a b : Nat} (hb : a + b ≤ l.length) {x y : Int} (hx : x = (a : Int)) (hy : y = (a : Int) + b) : ∃ ao' c', (∀ W, (Instr.slice 28 (.slice ao n c) (some (.int .i64 x)) (some (.int .i64 y)) none).run Tryd.prog W = .ok (.slice ao' b c') W) ∧ Rt w (.slice ao' b c') ((l.drop a).take b) := by
  have hc : l.length ≤ c := by obtain ⟨_, _, e, hc, _⟩ := h; simp only [Value.slice.injEq] at e; omega
  have hr := cut_rt h (lo := a) (hi := a + b) (by omega) hb
  rw [Nat.add_sub_cancel_left] at hr
  have e0 : sliced ao a (a + b) c 1 = .slice (if c = a then ao else ao.map (·.add (a * 1))) b (c - a) := by unfold sliced; rw [Nat.add_sub_cancel_left]
  rw [e0] at hr
  refine ⟨_, _, fun W => ?_, hr⟩
  have ey : y.toNat = a + b := by omega
  rw [run_slice_lh W 28 ao n c Tryd.underlying28 .i64 .i64 x y (by omega) (by omega) (by omega), Tryd.elem28, ey, hx, Int.toNat_natCast]
  show Result.ok (sliced ao a (a + b) c 1) W = _
  rw [e0]

end Go.Proofs.YtgmjjopfpenceaaDoor
