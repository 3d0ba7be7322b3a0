import Derived.Test.YthjoppgomopkfaaRing
namespace Go.Proofs.Ythjoppgomopkfaa
open Go.RowKit
set_option linter.unusedVariables false

theorem made_ents (n : Nat) : madeCells Ent.zero.cells.toArray (n * 7) = (flatE (List.replicate n Ent.zero)).toArray := by
  apply Array.ext
  · simp [size_madeCells, flatE_len]
  · intro i h1 h2
    have hi : i < n * 7 := by simpa [size_madeCells] using h1
    have hd : i / 7 < n := by omega
    have hm : i % 7 < 7 := Nat.mod_lt _ (by omega)
    have := flatE_at (l := List.replicate n Ent.zero) (i := i / 7) (e := Ent.zero) (by simp [hd]) (j := i % 7) hm
    rw [show i / 7 * 7 + i % 7 = i by omega] at this
    have e1 : (flatE (List.replicate n Ent.zero))[i]'(by rw [flatE_len]; simpa using hi) = Ent.zero.cells[i % 7]'(by rw [Ent.len]; exact hm) := by
      apply Option.some.inj
      rw [← List.getElem?_eq_getElem, ← List.getElem?_eq_getElem]; exact this
    simp only [List.getElem_toArray, e1]
    have hs : Ent.zero.cells.toArray.size = 7 := rfl
    simp only [madeCells, Array.getElem_map, Array.getElem_range, hs]
    rw [getElem!_pos Ent.zero.cells.toArray (i % 7) (by rw [hs]; exact hm)]
    simp

theorem make_ents {w : World} (n : Nat) (hn : n * 72 ≤ 281474976710656) : (Instr.makeSlice 40 (.int .i64 n) (.int .i64 n)).run Try.prog w = .ok (.slice (some ⟨w.heap.size, 0, none⟩) n n) (w.alloc (.cells (flatE (List.replicate n Ent.zero)).toArray 39)) := by
  obtain ⟨i0, hi, hz0, hz1, hz2⟩ := info_parts Try.info39
  have h := run_make (P := Try.prog) w 40 39 i0 (.agg Ent.zero.cells.toArray) Try.underlying40 hi hz0 .i64 .i64 n n (by omega) (by omega) (by rw [hz2]; omega) (by omega)
  rw [hz1, Int.toNat_natCast] at h
  rw [h]
  have : (Value.agg Ent.zero.cells.toArray).cells = Ent.zero.cells.toArray := rfl
  rw [this, made_ents]

set_option maxRecDepth 1000000 in
theorem newRing_any {cs : List Comp} {w : World} (hA : All cs w) (n : Nat) (hn : n ≤ 64) : Calls Try.prog 26 #[.int .i64 (n : Int)] w fun e w' => ∃ h, e = .returned (.agg #[.slice (some ⟨h, 0, none⟩) n n]) ∧ All (blkC h (flatE (List.replicate n Ent.zero)) 39 :: cs) w' := by
  have M := fun w => make_ents (w := w) n (by omega)
  have A3 : Hid (All (blkC (w.heap.size + 1) (flatE (List.replicate n Ent.zero)) 39 :: blkC w.heap.size [.slice (some ⟨w.heap.size + 1, 0, none⟩) n n] 62 :: cs) ((w.alloc (.cells #[.slice (some ⟨w.heap.size + 1, 0, none⟩) n n] 62)).alloc (.cells (flatE (List.replicate n Ent.zero)).toArray 39))) := hid (by
    have A2 := (hA.addBlk [.slice (some ⟨w.heap.size + 1, 0, none⟩) n n] 62).addBlk (flatE (List.replicate n Ent.zero)) 39
    simpa using A2)
  clear hA
  go_enter Try.func26, Try.ntmps26
  go_wp2
  refine bodyPost_ret (v := .agg #[.slice (some ⟨w.heap.size + 1, 0, none⟩) n n]) (results_cell_row (fn := Try.f26) rfl _ _ w.heap.size 62 #[.slice (some ⟨w.heap.size + 1, 0, none⟩) n n] (0, 0) _ rfl A3.out.tail.1.2.1 Try.underlying62 rfl (by kernel_rfl)) rfl ?_
  exact ⟨_, rfl, A3.out.swap.tail⟩

set_option maxRecDepth 1000000 in
/-- A thing is laid into its place. -/
theorem put_any {h n k : Nat} {ps : List Ent} {cs : List Comp} {w : World} (hA : All (blkC h (flatE ps) 39 :: cs) w) (hl : ps.length = n) (hn : 0 < n) (hn' : n ≤ 64) (hk : k ≤ 1099511627776) (x : Ent) : Calls Try.prog 47 #[.agg #[.slice (some ⟨h, 0, none⟩) n n], .int .i64 (k : Int), x.V] w fun e w' => e = .returned (.tuple #[]) ∧ All (blkC h (flatE (ps.set (k % n) x)) 39 :: cs) w' := by
  have hm := Nat.mod_lt k hn
  have hh : h < w.heap.size := hA.1.2.2 h (by simp [blkC])
  have HP := hid (fun w => place_any (w := w) (some ⟨h, 0, none⟩) n n k hn hn' hk)
  have A0 : Hid (All (blkC (w.heap.size + 1) x.cells 39 :: blkC w.heap.size [.slice (some ⟨h, 0, none⟩) n n] 62 :: blkC h (flatE ps) 39 :: cs) ((w.alloc (.cells #[.slice (some ⟨h, 0, none⟩) n n] 62)).alloc (.cells x.cells.toArray 39))) := hid (by
    have A2 := (hA.addBlk [.slice (some ⟨h, 0, none⟩) n n] 62).addBlk x.cells 39
    simpa using A2)
  clear hA
  have s0 := A0.out.tail.1.2.1
  have s1 := entAt_of (range_one (A0.out.1.2.1))
  have s0 : ((w.alloc (.cells #[.slice (some ⟨h, 0, none⟩) n n] 62)).alloc (.cells x.cells.toArray 39)).cell? ⟨w.heap.size, 0, none⟩ = some (.slice (some ⟨h, 0, none⟩) n n) := by rw [cell_at s0]; rfl
  have hi : Hid (k % n < n) := hid hm
  have F : Hid (∀ W, All (blkC (w.heap.size + 1) x.cells 39 :: blkC w.heap.size [.slice (some ⟨h, 0, none⟩) n n] 62 :: blkC h (flatE ps) 39 :: cs) W → entAt W (w.heap.size + 1) 0 x ∧ W.cell? ⟨w.heap.size, 0, none⟩ = some (.slice (some ⟨h, 0, none⟩) n n) ∧ (∀ j, W.frozen? ⟨h, j, none⟩ = false) ∧ (∃ y, entAt W h (k % n * 7) y)) := hid (fun W A => ⟨entAt_of (range_one A.1.2.1), by rw [cell_at A.tail.1.2.1]; rfl, fun j => free_at A.tail.tail.1.2.1 j, ⟨_, entAt_of (range_of A.tail.tail.1.2.1 (List.getElem?_eq_getElem (by rw [hl]; exact hm)))⟩⟩)
  have HL := hid hl
  have n1 : h ≠ w.heap.size := by omega
  have n2 : h ≠ w.heap.size + 1 := by omega
  have n3 : w.heap.size ≠ h := by omega
  have n4 : w.heap.size + 1 ≠ h := by omega
  generalize hmk : k % n = m at *
  have hmi : (m : Int) < (n : Int) := by omega
  have HM := hid hmk
  clear hmk hh hl
  go_enter Try.func47, Try.ntmps47
  go_upto_region 1 with fail
  have eW : ((w.alloc (.cells #[.slice (some ⟨h, 0, none⟩) n n] 62)).alloc (.cells #[.int .i64 x.c, .int .i64 x.n, .int .i64 x.k, .string x.nm, .string x.tx, .int .i64 x.m, .int .i64 x.q] 39)) = ((w.alloc (.cells #[.slice (some ⟨h, 0, none⟩) n n] 62)).alloc (.cells x.cells.toArray 39)) := rfl
  rw [eW]
  generalize ((w.alloc (.cells #[.slice (some ⟨h, 0, none⟩) n n] 62)).alloc (.cells x.cells.toArray 39)) = w1 at *
  generalize w.heap.size = K at *
  clear eW
  unfold entAt at s1
  obtain ⟨s1, s2, s3, s4, s5, s6, s7⟩ := s1
  go_region_held3 (fun W => W.cell? ⟨K, 0, none⟩ = some (.slice (some ⟨h, 0, none⟩) n n) ∧ W.cell? ⟨K + 1, 0, none⟩ = some (.int .i64 x.c) ∧ W.cell? ⟨K + 1, 1, none⟩ = some (.int .i64 x.n) ∧ W.cell? ⟨K + 1, 2, none⟩ = some (.int .i64 x.k) ∧ W.cell? ⟨K + 1, 3, none⟩ = some (.string x.nm) ∧ W.cell? ⟨K + 1, 4, none⟩ = some (.string x.tx) ∧ W.cell? ⟨K + 1, 5, none⟩ = some (.int .i64 x.m) ∧ W.cell? ⟨K + 1, 6, none⟩ = some (.int .i64 x.q)) (go_keep) (first | (go_at_call 48; refine (HP.out _).mono ?_; rintro e w2 ⟨rfl, hb⟩; have A2 := hid (A0.out.drew.later hb); obtain ⟨⟨s1, s2, s3, s4, s5, s6, s7⟩, s0, hf, y, y0, y1, y2, y3, y4, y5, y6⟩ := F.out _ A2.out))
  go_wp2
  go_end0
  refine ⟨rfl, ?_⟩
  have A4 := All.setBlks x.cells (flatE ps) _ (m * 7) A2.out.tail.tail
  rw [flatE_set ps m x (by rw [HL.out]; exact hm)] at A4
  exact A4

set_option maxRecDepth 1000000 in
/-- A place is freed. -/
theorem free_any {h n k : Nat} {ps : List Ent} {cs : List Comp} {w : World} (hA : All (blkC h (flatE ps) 39 :: cs) w) (hl : ps.length = n) (hn : 0 < n) (hn' : n ≤ 64) (hk : k ≤ 1099511627776) : Calls Try.prog 41 #[.agg #[.slice (some ⟨h, 0, none⟩) n n], .int .i64 (k : Int)] w fun e w' => e = .returned (.tuple #[]) ∧ All (blkC h (flatE (ps.set (k % n) Ent.zero)) 39 :: cs) w' := by
  have A0 : Hid (All (blkC h (flatE ps) 39 :: cs) ((w.alloc (.cells #[.slice (some ⟨h, 0, none⟩) n n] 62)).alloc (.cells #[.int .i64 0, .int .i64 0, .int .i64 0, .string ⟨#[]⟩, .string ⟨#[]⟩, .int .i64 0, .int .i64 0] 39))) := hid ((hA.alloc _).alloc _)
  have HP := hid (put_any A0.out hl hn hn' hk Ent.zero)
  clear hA A0
  go_enter Try.func41, Try.ntmps41
  go_wp2_with fail
  refine HP.out.mono ?_
  rintro e w1 ⟨rfl, A1⟩
  have A1 := hid A1
  go_wp2
  go_end0
  exact ⟨rfl, A1.out⟩

theorem ret_ent {fn : Func} {p : Tmp} (hf : fn.results = #[.cell p 39]) {R : Ending → World → Prop} {a : Act} {w : World} {b : Nat} {x : Ent} (ht : a.tmps.getD p undef = .pointer (some ⟨b, 0, none⟩)) (hg : w.heap[b]? = some (.cells x.cells.toArray 39 (0, 0))) (hd : a.defers = []) (hR : R (.returned x.V) w) : bodyPost Try.prog fn R .ret a w :=
  bodyPost_ret (v := .agg x.cells.toArray) (results_cell_row hf _ _ b 39 x.cells.toArray (0, 0) _ ht hg Try.underlying39 rfl size39) hd hR

set_option maxRecDepth 1000000 in
/-- The thing in a place. -/
theorem get_any {h n k : Nat} {ps : List Ent} {w : World} (hg : w.heap[h]? = some (.cells (flatE ps).toArray 39 (0, 0))) (hl : ps.length = n) (hn : 0 < n) (hn' : n ≤ 64) (hk : k ≤ 1099511627776) {x : Ent} (hx : ps[k % n]? = some x) : Calls Try.prog 43 #[.agg #[.slice (some ⟨h, 0, none⟩) n n], .int .i64 (k : Int)] w fun e w' => e = .returned x.V ∧ Below w.heap.size w w' := by
  have hm := Nat.mod_lt k hn
  have hh : h < w.heap.size := (Array.getElem?_eq_some_iff.1 hg).1
  have HP := hid (fun w => place_any (w := w) (some ⟨h, 0, none⟩) n n k hn hn' hk)
  have A0 : Hid (All [blkC (w.heap.size + 1) Ent.zero.cells 39, blkC w.heap.size [.slice (some ⟨h, 0, none⟩) n n] 62, inC w] ((w.alloc (.cells #[.slice (some ⟨h, 0, none⟩) n n] 62)).alloc (.cells #[.int .i64 0, .int .i64 0, .int .i64 0, .string ⟨#[]⟩, .string ⟨#[]⟩, .int .i64 0, .int .i64 0] 39))) := hid (by
    have A2 : All [blkC (w.heap.size + 1) Ent.zero.cells 39, blkC w.heap.size [.slice (some ⟨h, 0, none⟩) n n] 62, inC w] ((w.alloc (.cells #[.slice (some ⟨h, 0, none⟩) n n] 62)).alloc (.cells Ent.zero.cells.toArray 39)) := by
      simpa using ((All.came w).addBlk [.slice (some ⟨h, 0, none⟩) n n] 62).addBlk Ent.zero.cells 39
    exact A2)
  have F : Hid (∀ W, All [blkC (w.heap.size + 1) Ent.zero.cells 39, blkC w.heap.size [.slice (some ⟨h, 0, none⟩) n n] 62, inC w] W → entAt W (w.heap.size + 1) 0 Ent.zero ∧ W.cell? ⟨w.heap.size, 0, none⟩ = some (.slice (some ⟨h, 0, none⟩) n n) ∧ (∀ j, W.frozen? ⟨w.heap.size + 1, j, none⟩ = false) ∧ entAt W h (k % n * 7) x) := hid (fun W A => ⟨entAt_of (range_one A.1.2.1), by rw [cell_at A.tail.1.2.1]; rfl, fun j => free_at A.1.2.1 j, entAt_of (range_of (((A.into (w0 := w) (by simp)).block h hh).trans hg) hx)⟩)
  obtain ⟨_, s0, _, y0, y1, y2, y3, y4, y5, y6⟩ := F.out _ A0.out
  have n1 : h ≠ w.heap.size := by omega
  have n2 : h ≠ w.heap.size + 1 := by omega
  have n3 : w.heap.size ≠ h := by omega
  have n4 : w.heap.size + 1 ≠ h := by omega
  generalize hmk : k % n = m at *
  have hmi : (m : Int) < (n : Int) := by omega
  clear hmk hh hl hg hx
  go_enter Try.func43, Try.ntmps43
  go_upto_region 1 with fail
  generalize hw1 : ((w.alloc (.cells #[.slice (some ⟨h, 0, none⟩) n n] 62)).alloc (.cells #[.int .i64 0, .int .i64 0, .int .i64 0, .string ⟨#[]⟩, .string ⟨#[]⟩, .int .i64 0, .int .i64 0] 39)) = w1 at *
  generalize hK : w.heap.size = K at *
  clear hw1
  go_region_held3 (fun W => W.cell? ⟨K, 0, none⟩ = some (.slice (some ⟨h, 0, none⟩) n n) ∧ W.cell? ⟨h, m * 7, none⟩ = some (.int .i64 x.c) ∧ W.cell? ⟨h, m * 7 + 1, none⟩ = some (.int .i64 x.n) ∧ W.cell? ⟨h, m * 7 + 2, none⟩ = some (.int .i64 x.k) ∧ W.cell? ⟨h, m * 7 + 3, none⟩ = some (.string x.nm) ∧ W.cell? ⟨h, m * 7 + 4, none⟩ = some (.string x.tx) ∧ W.cell? ⟨h, m * 7 + 5, none⟩ = some (.int .i64 x.m) ∧ W.cell? ⟨h, m * 7 + 6, none⟩ = some (.int .i64 x.q)) (go_keep) (first | (go_at_call 48; refine (HP.out _).mono ?_; rintro e w2 ⟨rfl, hb⟩; have A2 := hid (A0.out.drew.later hb); obtain ⟨⟨s1, s2, s3, s4, s5, s6, s7⟩, s0, hf, y0, y1, y2, y3, y4, y5, y6⟩ := F.out _ A2.out))
  have A3 : Hid (All (blkC (K + 1) x.cells 39 :: [blkC K [.slice (some ⟨h, 0, none⟩) n n] 62, inC w]) (w2.setCells (K + 1) 0 x.cells)) := hid (All.setBlks x.cells Ent.zero.cells w2 0 A2.out)
  clear s0 s1 s2 s3 s4 s5 s6 s7 y0 y1 y2 y3 y4 y5 y6
  rw [set7] at A3
  simp only [Nat.zero_add] at A3
  go_wp2
  have hz := A3.out.1.2.1
  have hB := A3.out.into (w0 := w) (by simp)
  refine ret_ent (fn := Try.f43) (b := K + 1) (x := x) rfl rfl hz rfl ?_
  exact ⟨rfl, hB⟩
end Go.Proofs.Ythjoppgomopkfaa
