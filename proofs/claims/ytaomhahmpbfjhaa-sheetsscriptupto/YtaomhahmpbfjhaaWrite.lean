import Derived.Test.YtaomhahmpbfjhaaTree
namespace Go.Proofs.Ytaomhahmpbfjhaa
open Go.RowKit
set_option linter.unusedVariables false

/-- Eight nodes' cells. -/
def Shape (vs : List Value) : Prop := vs.length = 16 ∧ ∀ i, i < 8 → ∃ x a l c, vs[2 * i]? = some (.int .i64 x) ∧ vs[2 * i + 1]? = some (.slice a l c)

theorem Shape.list {vs : List Value} (h : Shape vs) : ∃ x0 a0 l0 c0 x1 a1 l1 c1 x2 a2 l2 c2 x3 a3 l3 c3 x4 a4 l4 c4 x5 a5 l5 c5 x6 a6 l6 c6 x7 a7 l7 c7, vs = [.int .i64 x0, .slice a0 l0 c0, .int .i64 x1, .slice a1 l1 c1, .int .i64 x2, .slice a2 l2 c2, .int .i64 x3, .slice a3 l3 c3, .int .i64 x4, .slice a4 l4 c4, .int .i64 x5, .slice a5 l5 c5, .int .i64 x6, .slice a6 l6 c6, .int .i64 x7, .slice a7 l7 c7] := by
  obtain ⟨hl, h⟩ := h
  obtain ⟨x0, a0, l0, c0, e0, f0⟩ := h 0 (by decide)
  obtain ⟨x1, a1, l1, c1, e1, f1⟩ := h 1 (by decide)
  obtain ⟨x2, a2, l2, c2, e2, f2⟩ := h 2 (by decide)
  obtain ⟨x3, a3, l3, c3, e3, f3⟩ := h 3 (by decide)
  obtain ⟨x4, a4, l4, c4, e4, f4⟩ := h 4 (by decide)
  obtain ⟨x5, a5, l5, c5, e5, f5⟩ := h 5 (by decide)
  obtain ⟨x6, a6, l6, c6, e6, f6⟩ := h 6 (by decide)
  obtain ⟨x7, a7, l7, c7, e7, f7⟩ := h 7 (by decide)
  match vs, hl with
  | [v0, v1, v2, v3, v4, v5, v6, v7, v8, v9, v10, v11, v12, v13, v14, v15], _ =>
    simp only [Nat.reduceMul, Nat.reduceAdd, List.getElem?_cons_zero, List.getElem?_cons_succ, Option.some.injEq] at e0 f0 e1 f1 e2 f2 e3 f3 e4 f4 e5 f5 e6 f6 e7 f7
    subst e0 f0 e1 f1 e2 f2 e3 f3 e4 f4 e5 f5 e6 f6 e7 f7
    exact ⟨_, _, _, _, _, _, _, _, _, _, _, _, _, _, _, _, _, _, _, _, _, _, _, _, _, _, _, _, _, _, _, _, rfl⟩

set_option maxHeartbeats 4000000 in
theorem write_any {w : World} {g o k p : Nat} {a : Int} {ao : Option Addr} {l c : Nat} {vs : List Value} (hk : k < 128) (hgw : g < w.heap.size) (hp : w.cell? ⟨g, o + 1 + k / 8, none⟩ = some (.pointer (some ⟨p, 0, none⟩))) (hf : w.frozen? ⟨g, o + 1 + k / 8, none⟩ = false)
    (hv : w.heap[p]? = some (.cells vs.toArray 90 (0, 0))) (hs : Shape vs) :
    Calls Try.prog 55 #[.pointer (some ⟨g, o, none⟩), .int .i64 (k : Int), .agg #[.int .i64 a, .slice ao l c]] w fun e w' => (∃ v, e = .returned v) ∧
      w' = ((w.setCell ⟨g, o + 1 + k / 8, none⟩ (.pointer (some ⟨w.heap.size + 1, 0, none⟩))).alloc (.cells #[.int .i64 a, .slice ao l c] 82)).alloc (.cells ((vs.set (k % 8 * 2) (.int .i64 a)).set (k % 8 * 2 + 1) (.slice ao l c)).toArray 90) := by
  have d := tdiv8 k
  have m := tmod8 k
  have hq : k / 8 < 16 := by omega
  have hr : k % 8 < 8 := by omega
  obtain ⟨q, hq'⟩ : ∃ q, Hid (q = k / 8) := ⟨_, hid rfl⟩
  obtain ⟨r, hr'⟩ : ∃ r, Hid (r = k % 8) := ⟨_, hid rfl⟩
  rw [← hq'.out] at d hp hq hf ⊢
  rw [← hr'.out] at m hr ⊢
  have b1 : (q : Int) < 16 := by omega
  have b2 : (r : Int) < 8 := by omega
  have hpw : p < w.heap.size := (Array.getElem?_eq_some_iff.1 hv).1
  obtain ⟨x0, a0, l0, c0, x1, a1, l1, c1, x2, a2, l2, c2, x3, a3, l3, c3, x4, a4, l4, c4, x5, a5, l5, c5, x6, a6, l6, c6, x7, a7, l7, c7, rfl⟩ := hs.list
  have h0 : w.cell? ⟨p, 0, none⟩ = some (.int .i64 x0) := cell_at hv 0
  have h1 : w.cell? ⟨p, 1, none⟩ = some (.slice a0 l0 c0) := cell_at hv 1
  have h2 : w.cell? ⟨p, 2, none⟩ = some (.int .i64 x1) := cell_at hv 2
  have h3 : w.cell? ⟨p, 3, none⟩ = some (.slice a1 l1 c1) := cell_at hv 3
  have h4 : w.cell? ⟨p, 4, none⟩ = some (.int .i64 x2) := cell_at hv 4
  have h5 : w.cell? ⟨p, 5, none⟩ = some (.slice a2 l2 c2) := cell_at hv 5
  have h6 : w.cell? ⟨p, 6, none⟩ = some (.int .i64 x3) := cell_at hv 6
  have h7 : w.cell? ⟨p, 7, none⟩ = some (.slice a3 l3 c3) := cell_at hv 7
  have h8 : w.cell? ⟨p, 8, none⟩ = some (.int .i64 x4) := cell_at hv 8
  have h9 : w.cell? ⟨p, 9, none⟩ = some (.slice a4 l4 c4) := cell_at hv 9
  have h10 : w.cell? ⟨p, 10, none⟩ = some (.int .i64 x5) := cell_at hv 10
  have h11 : w.cell? ⟨p, 11, none⟩ = some (.slice a5 l5 c5) := cell_at hv 11
  have h12 : w.cell? ⟨p, 12, none⟩ = some (.int .i64 x6) := cell_at hv 12
  have h13 : w.cell? ⟨p, 13, none⟩ = some (.slice a6 l6 c6) := cell_at hv 13
  have h14 : w.cell? ⟨p, 14, none⟩ = some (.int .i64 x7) := cell_at hv 14
  have h15 : w.cell? ⟨p, 15, none⟩ = some (.slice a7 l7 c7) := cell_at hv 15
  clear hv hs hq' hr' hk
  have hcs : r = 0 ∨ r = 1 ∨ r = 2 ∨ r = 3 ∨ r = 4 ∨ r = 5 ∨ r = 6 ∨ r = 7 := by omega
  clear b2 hr
  rcases hcs with rfl | rfl | rfl | rfl | rfl | rfl | rfl | rfl
  · have m : Int.tmod (k : Int) 8 = 0 := m
    go_enter Try.func55, Try.ntmps55
    go_wp2
    go_end0
    exact ⟨⟨_, rfl⟩, rfl⟩
  · have m : Int.tmod (k : Int) 8 = 1 := m
    go_enter Try.func55, Try.ntmps55
    go_wp2
    go_end0
    exact ⟨⟨_, rfl⟩, rfl⟩
  · have m : Int.tmod (k : Int) 8 = 2 := m
    go_enter Try.func55, Try.ntmps55
    go_wp2
    go_end0
    exact ⟨⟨_, rfl⟩, rfl⟩
  · have m : Int.tmod (k : Int) 8 = 3 := m
    go_enter Try.func55, Try.ntmps55
    go_wp2
    go_end0
    exact ⟨⟨_, rfl⟩, rfl⟩
  · have m : Int.tmod (k : Int) 8 = 4 := m
    go_enter Try.func55, Try.ntmps55
    go_wp2
    go_end0
    exact ⟨⟨_, rfl⟩, rfl⟩
  · have m : Int.tmod (k : Int) 8 = 5 := m
    go_enter Try.func55, Try.ntmps55
    go_wp2
    go_end0
    exact ⟨⟨_, rfl⟩, rfl⟩
  · have m : Int.tmod (k : Int) 8 = 6 := m
    go_enter Try.func55, Try.ntmps55
    go_wp2
    go_end0
    exact ⟨⟨_, rfl⟩, rfl⟩
  · have m : Int.tmod (k : Int) 8 = 7 := m
    go_enter Try.func55, Try.ntmps55
    go_wp2
    go_end0
    exact ⟨⟨_, rfl⟩, rfl⟩

end Go.Proofs.Ytaomhahmpbfjhaa
