import Derived.Test.YthjoppgomopkfaaRefB
namespace Go.Proofs.Ythjoppgomopkfaa
open Go.RowKit
set_option linter.unusedVariables false

set_option maxHeartbeats 800000 in
set_option maxRecDepth 1000000 in
theorem rAt_yes {p n b : Nat} {v : Value} {l : List Ent} {cs : List Comp} {w : World} (hA : All (refP p n b v l ++ cs) w) (ht : b + l.length ≤ 1099511627776) (hl : l.length ≤ 64) (o : Nat) (h1 : b < o) (h2 : o ≤ b + l.length) {x : Ent} (hx : l[o - b - 1]? = some x) : Calls Try.prog 27 #[.pointer (some ⟨p, 0, none⟩), .int .i64 (o : Int)] w fun e w' => e = .returned (.tuple #[x.V, .bool true]) ∧ Below w.heap.size w w' := by
  obtain ⟨ao, c, rfl, hc⟩ := owns7_form hA.refRow
  obtain ⟨g, rfl, hg, hr⟩ := owns7 hA.refRow hx
  have hpl : p < w.heap.size := (Array.getElem?_eq_some_iff.1 hA.ref).1
  have H1 := hid (rhas_any (hA.ref.later (ba w (.cells #[.int .i64 0, .int .i64 0, .int .i64 0, .string ⟨#[]⟩, .string ⟨#[]⟩, .int .i64 0, .int .i64 0] 39))) ht o)
  rw [decide_eq_true (by omega)] at H1
  have A0 : Hid (All [blkC w.heap.size Ent.zero.cells 39, inC w] (w.alloc (.cells #[.int .i64 0, .int .i64 0, .int .i64 0, .string ⟨#[]⟩, .string ⟨#[]⟩, .int .i64 0, .int .i64 0] 39))) := hid ((All.came w).addBlk Ent.zero.cells 39)
  have F : Hid (∀ W, All [blkC w.heap.size Ent.zero.cells 39, inC w] W → RefAt W p n b (.slice (some ⟨g, 0, none⟩) l.length c) ∧ entAt W g ((o - b - 1) * 7) x ∧ (∀ j, W.frozen? ⟨w.heap.size, j, none⟩ = false) ∧ entAt W w.heap.size 0 Ent.zero) := hid (fun W A => ⟨hA.ref.later (A.into (w0 := w) (by simp)), entAt_of (fun j v hv => cell_under (A.into (w0 := w) (by simp)) hg (hr j v hv)), fun j => free_at A.1.2.1 j, entAt_of (range_one A.1.2.1)⟩)
  have n1 : p ≠ w.heap.size := by omega
  have n2 : g ≠ w.heap.size := by omega
  have n3 : w.heap.size ≠ p := by omega
  have n4 : w.heap.size ≠ g := by omega
  generalize hi : o - b - 1 = i at *
  have ei : Hid ((o : Int) - (b : Int) - 1 = (i : Int)) := hid (by omega)
  have hw1 : IntKind.i64.wrap ((o : Int) - (b : Int)) = (o : Int) - (b : Int) := by simp [IntKind.wrap, IntKind.bits, IntKind.signed]; omega
  have hw2 : IntKind.i64.wrap ((o : Int) - (b : Int) - 1) = (i : Int) := by simp [IntKind.wrap, IntKind.bits, IntKind.signed]; omega
  have hil : (i : Int) < (l.length : Int) := by have := (List.getElem?_eq_some_iff.1 hx).1; omega
  have hw3 : IntKind.i64.wrap (IntKind.i64.wrap ((o : Int) - (b : Int)) - 1) = (i : Int) := by rw [hw1, hw2]
  clear hA hr hx hi ht h1 h2 hc hl ei hw1 hw2
  go_enter Try.func27, Try.ntmps27
  go_wp2_with fail
  refine H1.out.mono ?_
  rintro e w1 ⟨rfl, hb1⟩
  have A2 := hid (A0.out.later hb1)
  obtain ⟨hra, ⟨x1, x2, x3, x4, x5, x6, x7⟩, hf, y1, y2, y3, y4, y5, y6, y7⟩ := F.out _ A2.out
  have c1 := hra.c1
  have c2 := hra.c2
  have A3 : Hid (All [blkC w.heap.size x.cells 39, inC w] (w1.setCells w.heap.size 0 x.cells).drew) := hid (All.setBlks x.cells Ent.zero.cells w1 0 A2.out).drew
  rw [set7] at A3
  simp only [Nat.zero_add] at A3
  clear H1 A0 A2 hb1 hra F
  generalize hKK : w.heap.size = K at *
  clear hKK hg hpl
  have hf0 := hf 0; have hf1 := hf 1; have hf2 := hf 2; have hf3 := hf 3; have hf4 := hf 4; have hf5 := hf 5; have hf6 := hf 6; clear hf
  go_upto_region 3 with fail
  go_region_held3 (fun W => W.cell? ⟨p, 2, none⟩ = some (.slice (some ⟨g, 0, none⟩) l.length c) ∧ W.cell? ⟨p, 1, none⟩ = some (.int .i64 (b : Int)) ∧ W.cell? ⟨g, i * 7, none⟩ = some (.int .i64 x.c) ∧ W.cell? ⟨g, i * 7 + 1, none⟩ = some (.int .i64 x.n) ∧ W.cell? ⟨g, i * 7 + 2, none⟩ = some (.int .i64 x.k) ∧ W.cell? ⟨g, i * 7 + 3, none⟩ = some (.string x.nm) ∧ W.cell? ⟨g, i * 7 + 4, none⟩ = some (.string x.tx) ∧ W.cell? ⟨g, i * 7 + 5, none⟩ = some (.int .i64 x.m) ∧ W.cell? ⟨g, i * 7 + 6, none⟩ = some (.int .i64 x.q)) (go_keep) (fail)
  clear c1 c2 x1 x2 x3 x4 x5 x6 x7 y1 y2 y3 y4 y5 y6 y7
  go_wp2
  have hz := A3.out.1.2.1
  have hB := A3.out.into (w0 := w) (by simp)
  refine ret_entB (fn := Try.f27) (b := K) (x := x) rfl rfl rfl hz rfl ?_
  exact ⟨rfl, hB⟩
end Go.Proofs.Ythjoppgomopkfaa
