import Derived.Test.YthjoppgomopkfaaAppE
import Derived.Test.YthjoppgomopkfaaLog
namespace Go.Proofs.Ythjoppgomopkfaa
open Go.RowKit
set_option linter.unusedVariables false

theorem All.rowSet {e : TypeId} {size g n c : Nat} {N : Nat} {cs : List Comp} : ∀ (us vs : List Value) (w : World) (o : Nat), All (rowC e size (.slice (some ⟨g, 0, none⟩) n c) N vs :: cs) w → All (rowC e size (.slice (some ⟨g, 0, none⟩) n c) N (setAll vs o us) :: cs) (w.setCells g o us)
  | [], vs, w, o, h => h
  | u :: us, vs, w, o, h => by
    rw [World.setCells]
    refine All.rowSet us (vs.set o u) _ (o + 1) ?_
    have ho : w.ownsRow 0 e size (.slice (some ⟨g, 0, none⟩) n c) N vs := h.1.2.1
    have hn : n = N := by
      rcases ho.2 with ⟨h1, _⟩ | ⟨g', cap, cur, h1, _⟩
      · cases h1
      · simp only [Value.slice.injEq] at h1; exact h1.2.1
    subst hn
    have hs := (World.ownsRow.stored ho o u).1
    refine h.turn (Fr.setCell w g o _) (rowC_good _ _ _ _ _) hs (Gr.refl _ _) (fun k' hk' => ?_)
    have := h.1.2.2 k' hk'
    simpa [World.setCell] using this
theorem All.entSet {g n c : Nat} {l : List Ent} {cs : List Comp} {w : World} (h : All (entC (.slice (some ⟨g, 0, none⟩) n c) l :: cs) w) (i : Nat) (hi : i < l.length) (x : Ent) : All (entC (.slice (some ⟨g, 0, none⟩) n c) (l.set i x) :: cs) (w.setCells g (i * 7) x.cells) := by
  have := All.rowSet x.cells (flatE l) w (i * 7) h
  rw [flatE_set l i x hi] at this
  show All (rowC 39 7 _ (l.set i x).length _ :: cs) _
  rw [List.length_set]
  exact this

/-- The mark that is written all over a list. -/
def mark (n : Nat) : Ent := ⟨-7, -1 - (n : Int), 0, ⟨#[]⟩, ⟨#[]⟩, 0, 0⟩
theorem size69 : (Try.prog.info? 69).map (·.size) = some 8 := by kernel_rfl

theorem ret_row8 {fn : Func} {p : Tmp} (hf : fn.results = #[.cell p 69]) {R : Ending → World → Prop} {a : Act} {w : World} {b : Nat} {cs : List Value} (hl : cs.length = 8) (ht : a.tmps.getD p undef = .pointer (some ⟨b, 0, none⟩)) (hg : w.heap[b]? = some (.cells cs.toArray 69 (0, 0))) (hd : a.defers = []) (hR : R (.returned (.agg cs.toArray)) w) : bodyPost Try.prog fn R .ret a w :=
  bodyPost_ret (v := .agg cs.toArray) (results_cell_row hf _ _ b 69 cs.toArray (0, 0) _ ht hg Try.underlying69 rfl (by rw [List.size_toArray, hl]; exact size69)) hd hR

theorem mk_set (n i : Nat) (l : List Ent) (hi : i < l.length) : (List.replicate i (mark n) ++ l.drop i).set i (mark n) = List.replicate (i + 1) (mark n) ++ l.drop (i + 1) := by
  rw [List.set_append_right _ _ (by simp), List.length_replicate, Nat.sub_self, List.drop_eq_getElem_cons hi, List.set_cons_zero, List.replicate_succ', List.append_assoc]
  rfl

set_option maxHeartbeats 1600000 in
set_option maxRecDepth 1000000 in
theorem hold_any {v : Value} {l : List Ent} {cs : List Comp} {w : World} (hA : All (entC v l :: cs) w) (n : Nat) (hn : n ≤ 1099511627776) (hl : (l.length + 5) * 72 ≤ 140737488355328) : Calls Try.prog 31 #[v, .int .i64 (n : Int)] w fun e w' => ∃ ao c, e = .returned (.agg #[.slice ao (l.length + 5) c, .int .i64 (-7), .int .i64 (-1 - (n : Int)), .int .i64 0, .string ⟨#[]⟩, .string ⟨#[]⟩, .int .i64 0, .int .i64 0]) ∧ All (entC (.slice ao (l.length + 5) c) (List.replicate (l.length + 5) (mark n)) :: cs) w' := by
  obtain ⟨ao, c, rfl, hc⟩ := owns7_form hA.1.2.1
  have A0 : Hid (All (entC (.slice ao l.length c) (List.replicate 0 (mark n) ++ l.drop 0) :: blkC (w.heap.size + 1) (mark n).cells 39 :: blkC w.heap.size [.slice none 0 0, .int .i64 0, .int .i64 0, .int .i64 0, .string ⟨#[]⟩, .string ⟨#[]⟩, .int .i64 0, .int .i64 0] 69 :: cs) ((w.alloc (.cells #[.slice none 0 0, .int .i64 0, .int .i64 0, .int .i64 0, .string ⟨#[]⟩, .string ⟨#[]⟩, .int .i64 0, .int .i64 0] 69)).alloc (.cells (mark n).cells.toArray 39))) := hid (by
    have A2 := (hA.addBlk [.slice none 0 0, .int .i64 0, .int .i64 0, .int .i64 0, .string ⟨#[]⟩, .string ⟨#[]⟩, .int .i64 0, .int .i64 0] 69).addBlk (mark n).cells 39
    simp only [World.size_alloc] at A2
    simp only [List.replicate_zero, List.nil_append, List.drop_zero]
    exact A2.cab)
  obtain ⟨z, hz⟩ : ∃ z : Int, z = -1 - (n : Int) := ⟨_, rfl⟩
  have EW : Hid ((w.alloc (.cells #[.slice none 0 0, .int .i64 0, .int .i64 0, .int .i64 0, .string ⟨#[]⟩, .string ⟨#[]⟩, .int .i64 0, .int .i64 0] 69)).alloc (.cells #[.int .i64 (-7), .int .i64 (-1 - (n : Int)), .int .i64 0, .string ⟨#[]⟩, .string ⟨#[]⟩, .int .i64 0, .int .i64 0] 39) = (w.alloc (.cells #[.slice none 0 0, .int .i64 0, .int .i64 0, .int .i64 0, .string ⟨#[]⟩, .string ⟨#[]⟩, .int .i64 0, .int .i64 0] 69)).alloc (.cells (mark n).cells.toArray 39)) := hid rfl
  clear hA
  go_enter Try.func31, Try.ntmps31
  go_wp2
  rw [EW.out]
  generalize ((w.alloc (.cells #[.slice none 0 0, .int .i64 0, .int .i64 0, .int .i64 0, .string ⟨#[]⟩, .string ⟨#[]⟩, .int .i64 0, .int .i64 0] 69)).alloc (.cells (mark n).cells.toArray 39)) = w1 at A0 ⊢
  generalize w.heap.size = K at A0 ⊢
  clear EW
  go_loopw [12] (fun iv wr => ∃ (i : Nat), i ≤ l.length ∧ iv = .int .i64 (i : Int) ∧ Hid (All (entC (.slice ao l.length c) (List.replicate i (mark n) ++ l.drop i) :: blkC (K + 1) (mark n).cells 39 :: blkC K [.slice none 0 0, .int .i64 0, .int .i64 0, .int .i64 0, .string ⟨#[]⟩, .string ⟨#[]⟩, .int .i64 0, .int .i64 0] 69 :: cs) wr)) (fun iv _ => l.length - (intOf iv).toNat)
  case atStart => exact ⟨0, by omega, rfl, A0⟩
  case round =>
    clear A0
    obtain ⟨i, hi, rfl, A1⟩ := hrel
    have hll : (List.replicate i (mark n) ++ l.drop i).length = l.length := by simp; omega
    by_cases hlt : i < l.length
    · have m1 : decide ((i : Int) < (l.length : Int)) = true := decide_eq_true (by omega)
      have m2 : (i : Int) < (l.length : Int) := by omega
      obtain ⟨x, hx⟩ : ∃ x, (List.replicate i (mark n) ++ l.drop i)[i]? = some x := ⟨_, List.getElem?_eq_getElem (by omega)⟩
      obtain ⟨g, rfl, hg, hrx⟩ := owns7 A1.out.1.2.1 hx
      obtain ⟨y1, y2, y3, y4, y5, y6, y7⟩ := entAt_of hrx
      obtain ⟨z1, z2, z3, z4, z5, z6, z7⟩ := entAt_of (range_one A1.out.tail.1.2.1)
      have ff : ∀ j, wr.frozen? ⟨g, j, none⟩ = false := by
        have ho : wr.ownsRow 0 39 7 (.slice (some ⟨g, 0, none⟩) l.length c) (List.replicate i (mark n) ++ l.drop i).length (flatE (List.replicate i (mark n) ++ l.drop i)) := A1.out.1.2.1
        rcases ho.2 with ⟨h1, _⟩ | ⟨g', cap, cur, h1, _, hgg, _⟩
        · cases h1
        · simp only [Value.slice.injEq, Option.some.injEq, Addr.mk.injEq, and_true] at h1
          obtain ⟨rfl, _⟩ := h1
          exact fun j => free_at hgg j
      have f0 := ff (i * 7); have f1 := ff (i * 7 + 1); have f2 := ff (i * 7 + 2); have f3 := ff (i * 7 + 3); have f4 := ff (i * 7 + 4); have f5 := ff (i * 7 + 5); have f6 := ff (i * 7 + 6)
      have A2 : Hid (All (entC (.slice (some ⟨g, 0, none⟩) l.length c) (List.replicate (i + 1) (mark n) ++ l.drop (i + 1)) :: blkC (K + 1) (mark n).cells 39 :: blkC K [.slice none 0 0, .int .i64 0, .int .i64 0, .int .i64 0, .string ⟨#[]⟩, .string ⟨#[]⟩, .int .i64 0, .int .i64 0] 69 :: cs) (wr.setCells g (i * 7) (mark n).cells)) := hid (by
        have := A1.out.entSet i (by omega) (mark n)
        rw [mk_set n i l hlt] at this
        exact this)
      rw [set7] at A2
      simp only [mark] at z1 z2 z3 z4 z5 z6 z7
      have E2 : Hid ((((((((wr.setCell ⟨g, i * 7, none⟩ (.int .i64 (mark n).c)).setCell ⟨g, i * 7 + 1, none⟩ (.int .i64 (mark n).n)).setCell ⟨g, i * 7 + 2, none⟩ (.int .i64 (mark n).k)).setCell ⟨g, i * 7 + 3, none⟩ (.string (mark n).nm)).setCell ⟨g, i * 7 + 4, none⟩ (.string (mark n).tx)).setCell ⟨g, i * 7 + 5, none⟩ (.int .i64 (mark n).m)).setCell ⟨g, i * 7 + 6, none⟩ (.int .i64 (mark n).q)) = (((((((wr.setCell ⟨g, i * 7, none⟩ (.int .i64 (-7))).setCell ⟨g, i * 7 + 1, none⟩ (.int .i64 (-1 - (n : Int)))).setCell ⟨g, i * 7 + 2, none⟩ (.int .i64 0)).setCell ⟨g, i * 7 + 3, none⟩ (.string ⟨#[]⟩)).setCell ⟨g, i * 7 + 4, none⟩ (.string ⟨#[]⟩)).setCell ⟨g, i * 7 + 5, none⟩ (.int .i64 0)).setCell ⟨g, i * 7 + 6, none⟩ (.int .i64 0))) := hid rfl
      rw [E2.out] at A2
      clear A1 hrx hx ff E2
      go_wp2
      go_roundw
      case rel => exact ⟨i + 1, by omega, by go_num, A2⟩
      case measure => simp [intOf]; omega
    · have m1 : decide ((i : Int) < (l.length : Int)) = false := decide_eq_false (by omega)
      have m2 : ¬ (i : Int) < (l.length : Int) := by omega
      have A2 : Hid (All (entC (.slice ao (l.length + 0) c) (List.replicate (l.length + 0) (mark n)) :: blkC (K + 1) (mark n).cells 39 :: blkC K [.slice none 0 0, .int .i64 0, .int .i64 0, .int .i64 0, .string ⟨#[]⟩, .string ⟨#[]⟩, .int .i64 0, .int .i64 0] 69 :: cs) wr) := hid (by
        have h := A1.out
        rw [show i = l.length by omega, List.drop_of_length_le (Nat.le_refl _), List.append_nil] at h
        exact h)
      clear A1
      go_wp2_with fail
      generalize hj3 : Value.int IntKind.i64 (i : Int) = j3
      clear hj3 m1 m2 hlt hi hll
      go_loopw [0, 20] (fun ov iv wr => ∃ (j : Nat), j ≤ 5 ∧ iv = .int .i64 (j : Int) ∧ Hid ((∃ oa oc, ov = .slice oa (l.length + j) oc) ∧ All (entC ov (List.replicate (l.length + j) (mark n)) :: blkC (K + 1) (mark n).cells 39 :: blkC K [.slice none 0 0, .int .i64 0, .int .i64 0, .int .i64 0, .string ⟨#[]⟩, .string ⟨#[]⟩, .int .i64 0, .int .i64 0] 69 :: cs) wr)) (fun _ iv _ => 5 - (intOf iv).toNat)
      case atStart => exact ⟨0, by omega, rfl, hid ⟨⟨_, _, rfl⟩, A2.out⟩⟩
      case round =>
        clear A2
        obtain ⟨j, hj, rfl, A3⟩ := hrel
        obtain ⟨⟨oa, oc, rfl⟩, A3'⟩ := A3.out
        have A3 := hid A3'
        clear A3'
        obtain ⟨z1, z2, z3, z4, z5, z6, z7⟩ := entAt_of (range_one A3.out.tail.1.2.1)
        simp only [mark] at z1 z2 z3 z4 z5 z6 z7
        by_cases hj5 : j < 5
        · have q1 : decide ((j : Int) < 5) = true := decide_eq_true (by omega)
          have q2 : (j : Int) < 5 := by omega
          have A4 := hid (A3.out.alloc (.cells (mark n).cells.toArray 39))
          have hKK : (wr.alloc (.cells (mark n).cells.toArray 39)).heap[wr.heap.size]? = some (.cells (mark n).cells.toArray 39 (0, 0)) := heap_alloc_new wr _
          have hLL : (List.replicate (l.length + j) (mark n)).length = l.length + j := List.length_replicate
          have hlen : ((List.replicate (l.length + j) (mark n)).length + 1) * 72 ≤ 140737488355328 := by omega
          generalize hRL : List.replicate (l.length + j) (mark n) = RL at A4 hLL hlen
          generalize hMK : mark n = M at A4 hKK
          obtain ⟨ao4, c4, w4, hr4, B4⟩ := app_one A4.out hKK hlen
          subst hMK hRL
          rw [hLL] at hr4 B4
          clear hKK hLL hlen
          have EC : Hid ((mark n).cells.toArray = #[.int .i64 (-7), .int .i64 (-1 - (n : Int)), .int .i64 0, .string ⟨#[]⟩, .string ⟨#[]⟩, .int .i64 0, .int .i64 0]) := hid rfl
          rw [EC.out] at hr4
          have HR4 := hid hr4
          have A5 : Hid (All (entC (.slice ao4 (l.length + (j + 1)) c4) (List.replicate (l.length + (j + 1)) (mark n)) :: blkC (K + 1) (mark n).cells 39 :: blkC K [.slice none 0 0, .int .i64 0, .int .i64 0, .int .i64 0, .string ⟨#[]⟩, .string ⟨#[]⟩, .int .i64 0, .int .i64 0] 69 :: cs) w4) := hid (by
            rw [← List.replicate_succ'] at B4
            exact B4)
          clear A3 A4 hr4 B4
          go_wp2_with (at_builtin; refine wpList_append_run rfl (.tmp 22) (.tmp 24) 40 rfl _ _ _ _ rfl rfl HR4.out ?_)
          go_roundw
          case rel => exact ⟨j + 1, by omega, by go_num, hid ⟨⟨_, _, rfl⟩, A5.out⟩⟩
          case measure => simp [intOf]; omega
        · have q1 : decide ((j : Int) < 5) = false := decide_eq_false (by omega)
          have q2 : ¬ (j : Int) < 5 := by omega
          have hj' : Hid (j = 5) := hid (by omega)
          have A5 := hid A3.out
          rw [hj'.out] at A5 ⊢
          have A7 : Hid (All (blkC K [.slice oa (l.length + 5) oc, .int .i64 (-7), .int .i64 (-1 - (n : Int)), .int .i64 0, .string ⟨#[]⟩, .string ⟨#[]⟩, .int .i64 0, .int .i64 0] 69 :: blkC (K + 1) (mark n).cells 39 :: entC (.slice oa (l.length + 5) oc) (List.replicate (l.length + 5) (mark n)) :: cs) ((((((((wr.setCell ⟨K, 0, none⟩ (.slice oa (l.length + 5) oc)).setCell ⟨K, 1, none⟩ (.int .i64 (-7))).setCell ⟨K, 2, none⟩ (.int .i64 (-1 - (n : Int)))).setCell ⟨K, 3, none⟩ (.int .i64 0)).setCell ⟨K, 4, none⟩ (.string ⟨#[]⟩)).setCell ⟨K, 5, none⟩ (.string ⟨#[]⟩)).setCell ⟨K, 6, none⟩ (.int .i64 0)).setCell ⟨K, 7, none⟩ (.int .i64 0))) := hid ((((((((A5.out.cba.setBlk 0 _).setBlk 1 _).setBlk 2 _).setBlk 3 _).setBlk 4 _).setBlk 5 _).setBlk 6 _).setBlk 7 _)
          have eK := A5.out.cba.1.2.1
          have x0 : wr.cell? ⟨K, 0, none⟩ = some (.slice none 0 0) := by rw [cell_at eK]; rfl
          have x1 : wr.cell? ⟨K, 1, none⟩ = some (.int .i64 0) := by rw [cell_at eK]; rfl
          have x2 : wr.cell? ⟨K, 2, none⟩ = some (.int .i64 0) := by rw [cell_at eK]; rfl
          have x3 : wr.cell? ⟨K, 3, none⟩ = some (.int .i64 0) := by rw [cell_at eK]; rfl
          have x4 : wr.cell? ⟨K, 4, none⟩ = some (.string ⟨#[]⟩) := by rw [cell_at eK]; rfl
          have x5 : wr.cell? ⟨K, 5, none⟩ = some (.string ⟨#[]⟩) := by rw [cell_at eK]; rfl
          have x6 : wr.cell? ⟨K, 6, none⟩ = some (.int .i64 0) := by rw [cell_at eK]; rfl
          have x7 : wr.cell? ⟨K, 7, none⟩ = some (.int .i64 0) := by rw [cell_at eK]; rfl
          have g0 := free_at eK 0; have g1 := free_at eK 1; have g2 := free_at eK 2; have g3 := free_at eK 3; have g4 := free_at eK 4; have g5 := free_at eK 5; have g6 := free_at eK 6; have g7 := free_at eK 7
          clear A3 A5 eK
          go_wp2
          have hz := A7.out.1.2.1
          refine ret_row8 (fn := Try.f31) (b := K) rfl rfl rfl hz rfl ?_
          exact ⟨oa, oc, rfl, A7.out.tail.tail⟩
end Go.Proofs.Ythjoppgomopkfaa
