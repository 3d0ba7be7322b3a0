import Derived.Test.YthjoppgomopkfaaLog2
namespace Go.Proofs.Ythjoppgomopkfaa
open Go.RowKit
set_option linter.unusedVariables false

theorem New_no {w : World} (r : Int) (hr : ¬ (1 ≤ r ∧ r ≤ 64)) : Calls Try.prog 6 #[.int .i64 r] w fun e w' => e = .returned (.tuple #[.pointer none, .int .i64 90]) ∧ w' = w := by
  by_cases h1 : r < 1
  · have e1 : decide (r < 1) = true := decide_eq_true h1
    go_enter Try.func6, Try.ntmps6
    go_wp2
    go_ret2
    exact ⟨rfl, rfl⟩
  · have e1 : decide (r < 1) = false := decide_eq_false h1
    have h2 : 64 < r := by omega
    have e2 : decide (64 < r) = true := decide_eq_true h2
    go_enter Try.func6, Try.ntmps6
    go_wp2
    go_ret2
    exact ⟨rfl, rfl⟩

set_option maxRecDepth 1000000 in
theorem New_ok {cs : List Comp} {w : World} (hA : All cs w) (n : Nat) (h0 : 0 < n) (hn : n ≤ 64) : Calls Try.prog 6 #[.int .i64 (n : Int)] w fun e w' => ∃ g h, e = .returned (.tuple #[.pointer (some ⟨g, 0, none⟩), .int .i64 0]) ∧ All (logP g h 0 0 n (List.replicate n Ent.zero) ++ cs) w' := by
  have H1 := hid (newRing_any hA n hn)
  have e1 : decide ((n : Int) < 1) = false := decide_eq_false (by omega)
  have e2 : decide ((64 : Int) < (n : Int)) = false := decide_eq_false (by omega)
  have i1 : ¬ ((n : Int) < 1) := by omega
  have i2 : ¬ ((64 : Int) < (n : Int)) := by omega
  clear hA
  go_enter Try.func6, Try.ntmps6
  go_wp2_with fail
  refine H1.out.mono ?_
  rintro e w1 ⟨h, rfl, A1⟩
  have A2 := hid (A1.addBlk (headV 0 0 h n) 65)
  clear A1 H1
  go_wp2
  go_ret2
  exact ⟨_, h, rfl, A2.out⟩

theorem ret_entB {fn : Func} {p u : Tmp} (hf : fn.results = #[.cell p 39, .tmp u]) {R : Ending → World → Prop} {a : Act} {w : World} {b : Nat} {x : Ent} {v : Value} (ht : a.tmps.getD p undef = .pointer (some ⟨b, 0, none⟩)) (hu : a.tmps.getD u undef = v) (hg : w.heap[b]? = some (.cells x.cells.toArray 39 (0, 0))) (hd : a.defers = []) (hR : R (.returned (.tuple #[x.V, v])) w) : bodyPost Try.prog fn R .ret a w := by
  refine bodyPost_ret (v := .tuple #[x.V, v]) ?_ hd hR
  rw [results_cell_tmp hf, ht, hu]
  have e1 : (asAddr (.pointer (some ⟨b, 0, none⟩))).run Try.prog w = .ok ⟨b, 0, none⟩ w := rfl
  rw [e1]
  show ((loadVar 39 ⟨b, 0, none⟩).run Try.prog w).andThen _ = _
  rw [ent_at (range_one hg)]
  rfl

set_option maxRecDepth 1000000 in
theorem At_no {w : World} {g b o h n : Nat} (hd : HeadAt w g b o h n) (k : Int) (hk : ¬ ((b : Int) < k ∧ k ≤ (o : Int))) : Calls Try.prog 25 #[.pointer (some ⟨g, 0, none⟩), .int .i64 k] w fun e w' => e = .returned (.tuple #[Ent.zero.V, .bool false]) ∧ Below w.heap.size w w' := by
  have H1 := hid (has_any (hd.later (ba w (.cells #[.int .i64 0, .int .i64 0, .int .i64 0, .string ⟨#[]⟩, .string ⟨#[]⟩, .int .i64 0, .int .i64 0] 39))) k)
  rw [decide_eq_false hk] at H1
  clear hd hk
  go_enter Try.func25, Try.ntmps25
  go_wp2_with fail
  refine H1.out.mono ?_
  rintro e w1 ⟨rfl, rfl⟩
  go_wp2
  refine ret_entB (fn := Try.f25) (b := w.heap.size) (x := Ent.zero) rfl rfl rfl (heap_alloc_new w _) rfl ?_
  exact ⟨rfl, ba w _⟩

set_option maxRecDepth 1000000 in
theorem At_yes {g h b n : Nat} {l ps : List Ent} {w : World} (hd : HeadAt w g b (b + l.length) h n) (hr : w.heap[h]? = some (.cells (flatE ps).toArray 39 (0, 0))) (k : LogOk b n l ps) (o : Nat) (h1 : b < o) (h2 : o ≤ b + l.length) {x : Ent} (hx : l[o - b - 1]? = some x) : Calls Try.prog 25 #[.pointer (some ⟨g, 0, none⟩), .int .i64 (o : Int)] w fun e w' => e = .returned (.tuple #[x.V, .bool true]) ∧ Below w.heap.size w w' := by
  have hp : ps[o % n]? = some x := by
    obtain ⟨e, he, hq⟩ := k.at h1 h2
    rw [hx] at he
    cases he
    exact hq
  have hhl : h < w.heap.size := (Array.getElem?_eq_some_iff.1 hr).1
  have hgl : g < w.heap.size := (Array.getElem?_eq_some_iff.1 hd).1
  have H1 := hid (has_any (hd.later (ba w (.cells #[.int .i64 0, .int .i64 0, .int .i64 0, .string ⟨#[]⟩, .string ⟨#[]⟩, .int .i64 0, .int .i64 0] 39))) o)
  rw [decide_eq_true (by omega)] at H1
  have H2 := hid (get_any (w := w.alloc (.cells #[.int .i64 0, .int .i64 0, .int .i64 0, .string ⟨#[]⟩, .string ⟨#[]⟩, .int .i64 0, .int .i64 0] 39)) (k := o) (((ba w _).block h hhl).trans hr) k.len k.pos k.le (by have := k.top; omega) hp)
  have c2 := hd.c2
  have n1 : g ≠ w.heap.size := by omega
  have n2 : w.heap.size ≠ g := by omega
  have A0 : Hid (All [blkC w.heap.size Ent.zero.cells 39, inC w] (w.alloc (.cells #[.int .i64 0, .int .i64 0, .int .i64 0, .string ⟨#[]⟩, .string ⟨#[]⟩, .int .i64 0, .int .i64 0] 39))) := hid ((All.came w).addBlk Ent.zero.cells 39)
  clear hd hr k hx hp
  go_enter Try.func25, Try.ntmps25
  go_wp2_with fail
  refine H1.out.mono ?_
  rintro e w1 ⟨rfl, rfl⟩
  go_wp2_with fail
  refine H2.out.mono ?_
  rintro e w2 ⟨rfl, hb⟩
  have A2 := hid (A0.out.later hb)
  have A3 : Hid (All [blkC w.heap.size x.cells 39, inC w] (w2.setCells w.heap.size 0 x.cells)) := hid (All.setBlks x.cells Ent.zero.cells w2 0 A2.out)
  rw [set7] at A3
  simp only [Nat.zero_add] at A3
  obtain ⟨s1, s2, s3, s4, s5, s6, s7⟩ := entAt_of (range_one A2.out.1.2.1)
  have hf : ∀ j, w2.frozen? ⟨w.heap.size, j, none⟩ = false := fun j => free_at A2.out.1.2.1 j
  clear H1 H2 A0 A2 hb
  go_wp2
  have hz := A3.out.1.2.1
  have hB := A3.out.into (w0 := w) (by simp)
  refine ret_entB (fn := Try.f25) (b := w.heap.size) (x := x) rfl rfl rfl hz rfl ?_
  exact ⟨rfl, hB⟩
end Go.Proofs.Ythjoppgomopkfaa
