import Derived.Test.YtfeppannfcbakaaGreatDoorEw1
namespace Go.Proofs.YtfeppannfcbakaaGreatDoor
open Go.RowKit
set_option linter.unusedVariables false
set_option maxRecDepth 100000

theorem ret_ev1 {fn : Func} (hf : fn.results = #[.cell 2 36]) {R : Ending → World → Prop} {a : Act} {w : World} {b : Nat} {EC : List Value} (ht : a.tmps.getD 2 undef = ptr b) (hg : w.heap[b]? = some (.cells EC.toArray 36 (0, 0))) (hs : EC.length = 33) (hd : a.defers = []) (hR : R (.returned (.agg EC.toArray)) w) : bodyPost Tryz.prog fn R .ret a w := by
  refine bodyPost_ret (v := .agg EC.toArray) ?_ hd hR
  have hp : a.tmps[2]?.getD undef = ptr b := by rw [← ht]; simp
  simp [results, hf, hp, asAddr, run_loadVar_row w b 36 36 EC.toArray (0, 0) _ hg Tryz.underlying36 rfl (by rw [List.size_toArray, hs]; kernel_rfl)]
theorem blk_get {B i : Nat} {C : List Value} {t : TypeId} {cs : List Comp} {w : World} {v : Value} (A : All (blkC B C t :: cs) w) (h : C[i]? = some v) : w.cell? ⟨B, i, none⟩ = some v ∧ w.frozen? ⟨B, i, none⟩ = false ∧ B < w.heap.size :=
  ⟨cell_in A (List.mem_cons_self) h, free_at (A.blk (List.mem_cons_self)) _, (A.mem (List.mem_cons_self)).2.2 B (by simp [blkC])⟩
theorem blk_there {B o n : Nat} {C : List Value} {t : TypeId} {cs : List Comp} {w : World} (A : All (blkC B C t :: cs) w) (h : o + n ≤ C.length) : w.there B o n := fun q hq => by
  have hb := A.blk (g := B) (vs := C) (t := t) (List.mem_cons_self)
  refine ⟨?_, free_at hb _⟩
  rw [cell_at hb, List.getElem?_toArray, List.getElem?_eq_getElem (by omega)]
  rfl
set_option maxHeartbeats 6400000 in
set_option maxRecDepth 1000000 in
theorem left_any (e : Ev) (w : World) : Calls Tryz.prog 95 #[.agg e.cells.toArray] w fun r w' => r = .returned (.agg e.left.cells.toArray) ∧ Below w.heap.size w w' := by
  have A0 := hid (((All.came w).addBlk e.cells 36).addBlk (Ev.zero 0).cells 36).swap
  rw [alloc_size] at A0
  have I36 : Hid ((Tryz.prog.info? 36).map (·.size) = some e.left.cells.toArray.size) := hid (by kernel_rfl)
  have O36 : Hid (e.left.cells.toArray.all (·.oneCell') = true) := hid (by kernel_rfl)
  have Z36 : Hid ((Ev.zero 0).cells.toArray.size = e.left.cells.toArray.size) := hid rfl
  go_enter Tryz.func95, Tryz.ntmps95
  go_upto_region 1 with fail
  change Code.wp _ _ _ _ ((w.alloc (.cells e.cells.toArray 36)).alloc (.cells (Ev.zero 0).cells.toArray 36))
  generalize (w.alloc (.cells e.cells.toArray 36)).alloc (.cells (Ev.zero 0).cells.toArray 36) = w0 at *
  by_cases hk : e.k = 1
  · as_aux_lemma =>
      obtain ⟨p0, q0, r0⟩ := blk_get (i := 1) (v := .int .i64 e.a) A0.out rfl
      go_upto_region 2 with fail
      have K1 := hid (A0.out.setBlk 1 (.int .i64 0))
      generalize w0.setCell ⟨w.heap.size, 1, none⟩ (.int .i64 0) = w1 at *
      clear p0 q0 r0 A0
      obtain ⟨zz, _, _⟩ := blk_get (i := 0) (v := .int .i64 e.k) K1.out rfl
      rw [hk] at zz
      go_upto_region 4 with fail
      clear zz
      obtain ⟨p1, q1, r1⟩ := blk_get (i := 5) (v := .int .i64 e.cd) K1.out rfl
      go_upto_region 31 with fail
      have K2 := hid (K1.out.setBlk 5 (.int .i64 0))
      generalize w1.setCell ⟨w.heap.size, 5, none⟩ (.int .i64 0) = w2 at *
      clear p1 q1 r1 K1
      have hK : kindT e.k = [.int 1, .cod 5] := by rw [hk]; rfl
      have EL : ((e.cells.set 1 (.int .i64 0)).set 5 (.int .i64 0)) = e.left.cells := by rw [Ev.left_cells, hK]; rfl
      rw [EL] at K2
      clear EL hK
      have HB := hid (K2.out.blk (g := w.heap.size) (vs := e.left.cells) (t := 36) (List.mem_cons_self))
      have HG := hid (K2.out.blk (g := w.heap.size + 1) (vs := (Ev.zero 0).cells) (t := 36) (List.mem_cons_of_mem _ (List.mem_cons_self)))
      have KF := hid (K2.out.swap.setRow (vs' := e.left.cells))
      go_wp2_with (first | (refine wpList_load_row rfl 36 _ rfl w.heap.size rfl 36 e.left.cells.toArray (0, 0) _ HB.out Tryz.underlying36 rfl I36.out ?_) | (refine wpList_store_row rfl 36 _ _ rfl (w.heap.size + 1) e.left.cells.toArray rfl rfl 36 _ HG.out I36.out Z36.out O36.out ?_))
      exact ret_ev1 rfl rfl KF.out.1.2.1 rfl rfl ⟨rfl, KF.out.tail.tail.into (List.mem_cons_self)⟩
  have n1 : (e.k == 1) = false := by simpa using hk
  clear hk
  by_cases hk : e.k = 2
  · as_aux_lemma =>
      obtain ⟨p0, q0, r0⟩ := blk_get (i := 1) (v := .int .i64 e.a) A0.out rfl
      go_upto_region 2 with fail
      have K1 := hid (A0.out.setBlk 1 (.int .i64 0))
      generalize w0.setCell ⟨w.heap.size, 1, none⟩ (.int .i64 0) = w1 at *
      clear p0 q0 r0 A0
      obtain ⟨zz, _, _⟩ := blk_get (i := 0) (v := .int .i64 e.k) K1.out rfl
      rw [hk] at zz
      go_upto_region 6 with fail
      clear zz
      obtain ⟨p1, q1, r1⟩ := blk_get (i := 2) (v := .int .i64 e.nb) K1.out rfl
      go_upto_region 7 with fail
      have K2 := hid (K1.out.setBlk 2 (.int .i64 0))
      generalize w1.setCell ⟨w.heap.size, 2, none⟩ (.int .i64 0) = w2 at *
      clear p1 q1 r1 K1
      have T2 := hid (blk_there (o := 7) (n := 5) K2.out (Nat.le_of_ble_eq_true rfl))
      have I2 : Hid ((Tryz.prog.info? 24).map (·.size) = some (#[.int .i64 0, .string ⟨#[]⟩, .string ⟨#[]⟩, .int .i64 0, .int .i64 0] : Array Value).size) := hid (by kernel_rfl)
      have O2 : Hid ((#[.int .i64 0, .string ⟨#[]⟩, .string ⟨#[]⟩, .int .i64 0, .int .i64 0] : Array Value).all (·.oneCell') = true) := hid (by kernel_rfl)
      go_upto_region 31 with (refine wpList_store_mid rfl 24 _ _ rfl w.heap.size 7 #[.int .i64 0, .string ⟨#[]⟩, .string ⟨#[]⟩, .int .i64 0, .int .i64 0] rfl rfl T2.out I2.out O2.out ?_)
      have K3 : Hid (All (blkC w.heap.size (((((((e.cells.set 1 (.int .i64 0)).set 2 (.int .i64 0)).set 7 (.int .i64 0)).set 8 (.string ⟨#[]⟩)).set 9 (.string ⟨#[]⟩)).set 10 (.int .i64 0)).set 11 (.int .i64 0)) 36 :: blkC (w.heap.size + 1) (Ev.zero 0).cells 36 :: [inC w]) (w2.setCells w.heap.size 7 [.int .i64 0, .string ⟨#[]⟩, .string ⟨#[]⟩, .int .i64 0, .int .i64 0])) := hid (((((K2.out.setBlk 7 (.int .i64 0)).setBlk 8 (.string ⟨#[]⟩)).setBlk 9 (.string ⟨#[]⟩)).setBlk 10 (.int .i64 0)).setBlk 11 (.int .i64 0))
      generalize w2.setCells w.heap.size 7 [.int .i64 0, .string ⟨#[]⟩, .string ⟨#[]⟩, .int .i64 0, .int .i64 0] = w3 at *
      clear T2 I2 O2 K2
      have hK : kindT e.k = [.int 1, .int 2, .op 7] := by rw [hk]; rfl
      have EL : (((((((e.cells.set 1 (.int .i64 0)).set 2 (.int .i64 0)).set 7 (.int .i64 0)).set 8 (.string ⟨#[]⟩)).set 9 (.string ⟨#[]⟩)).set 10 (.int .i64 0)).set 11 (.int .i64 0)) = e.left.cells := by rw [Ev.left_cells, hK]; rfl
      rw [EL] at K3
      clear EL hK
      have HB := hid (K3.out.blk (g := w.heap.size) (vs := e.left.cells) (t := 36) (List.mem_cons_self))
      have HG := hid (K3.out.blk (g := w.heap.size + 1) (vs := (Ev.zero 0).cells) (t := 36) (List.mem_cons_of_mem _ (List.mem_cons_self)))
      have KF := hid (K3.out.swap.setRow (vs' := e.left.cells))
      go_wp2_with (first | (refine wpList_load_row rfl 36 _ rfl w.heap.size rfl 36 e.left.cells.toArray (0, 0) _ HB.out Tryz.underlying36 rfl I36.out ?_) | (refine wpList_store_row rfl 36 _ _ rfl (w.heap.size + 1) e.left.cells.toArray rfl rfl 36 _ HG.out I36.out Z36.out O36.out ?_))
      exact ret_ev1 rfl rfl KF.out.1.2.1 rfl rfl ⟨rfl, KF.out.tail.tail.into (List.mem_cons_self)⟩
  have n2 : (e.k == 2) = false := by simpa using hk
  clear hk
  by_cases hk : e.k = 3
  · as_aux_lemma =>
      obtain ⟨p0, q0, r0⟩ := blk_get (i := 1) (v := .int .i64 e.a) A0.out rfl
      go_upto_region 2 with fail
      have K1 := hid (A0.out.setBlk 1 (.int .i64 0))
      generalize w0.setCell ⟨w.heap.size, 1, none⟩ (.int .i64 0) = w1 at *
      clear p0 q0 r0 A0
      obtain ⟨zz, _, _⟩ := blk_get (i := 0) (v := .int .i64 e.k) K1.out rfl
      rw [hk] at zz
      go_upto_region 9 with fail
      clear zz
      obtain ⟨p1, q1, r1⟩ := blk_get (i := 2) (v := .int .i64 e.nb) K1.out rfl
      go_upto_region 10 with fail
      have K2 := hid (K1.out.setBlk 2 (.int .i64 0))
      generalize w1.setCell ⟨w.heap.size, 2, none⟩ (.int .i64 0) = w2 at *
      clear p1 q1 r1 K1
      obtain ⟨p2, q2, r2⟩ := blk_get (i := 4) (v := .int .i64 e.wh) K2.out rfl
      go_upto_region 11 with fail
      have K3 := hid (K2.out.setBlk 4 (.int .i64 0))
      generalize w2.setCell ⟨w.heap.size, 4, none⟩ (.int .i64 0) = w3 at *
      clear p2 q2 r2 K2
      have T3 := hid (blk_there (o := 7) (n := 5) K3.out (Nat.le_of_ble_eq_true rfl))
      have I3 : Hid ((Tryz.prog.info? 24).map (·.size) = some (#[.int .i64 0, .string ⟨#[]⟩, .string ⟨#[]⟩, .int .i64 0, .int .i64 0] : Array Value).size) := hid (by kernel_rfl)
      have O3 : Hid ((#[.int .i64 0, .string ⟨#[]⟩, .string ⟨#[]⟩, .int .i64 0, .int .i64 0] : Array Value).all (·.oneCell') = true) := hid (by kernel_rfl)
      go_upto_region 31 with (refine wpList_store_mid rfl 24 _ _ rfl w.heap.size 7 #[.int .i64 0, .string ⟨#[]⟩, .string ⟨#[]⟩, .int .i64 0, .int .i64 0] rfl rfl T3.out I3.out O3.out ?_)
      have K4 : Hid (All (blkC w.heap.size ((((((((e.cells.set 1 (.int .i64 0)).set 2 (.int .i64 0)).set 4 (.int .i64 0)).set 7 (.int .i64 0)).set 8 (.string ⟨#[]⟩)).set 9 (.string ⟨#[]⟩)).set 10 (.int .i64 0)).set 11 (.int .i64 0)) 36 :: blkC (w.heap.size + 1) (Ev.zero 0).cells 36 :: [inC w]) (w3.setCells w.heap.size 7 [.int .i64 0, .string ⟨#[]⟩, .string ⟨#[]⟩, .int .i64 0, .int .i64 0])) := hid (((((K3.out.setBlk 7 (.int .i64 0)).setBlk 8 (.string ⟨#[]⟩)).setBlk 9 (.string ⟨#[]⟩)).setBlk 10 (.int .i64 0)).setBlk 11 (.int .i64 0))
      generalize w3.setCells w.heap.size 7 [.int .i64 0, .string ⟨#[]⟩, .string ⟨#[]⟩, .int .i64 0, .int .i64 0] = w4 at *
      clear T3 I3 O3 K3
      have hK : kindT e.k = [.int 1, .int 2, .int 4, .op 7] := by rw [hk]; rfl
      have EL : ((((((((e.cells.set 1 (.int .i64 0)).set 2 (.int .i64 0)).set 4 (.int .i64 0)).set 7 (.int .i64 0)).set 8 (.string ⟨#[]⟩)).set 9 (.string ⟨#[]⟩)).set 10 (.int .i64 0)).set 11 (.int .i64 0)) = e.left.cells := by rw [Ev.left_cells, hK]; rfl
      rw [EL] at K4
      clear EL hK
      have HB := hid (K4.out.blk (g := w.heap.size) (vs := e.left.cells) (t := 36) (List.mem_cons_self))
      have HG := hid (K4.out.blk (g := w.heap.size + 1) (vs := (Ev.zero 0).cells) (t := 36) (List.mem_cons_of_mem _ (List.mem_cons_self)))
      have KF := hid (K4.out.swap.setRow (vs' := e.left.cells))
      go_wp2_with (first | (refine wpList_load_row rfl 36 _ rfl w.heap.size rfl 36 e.left.cells.toArray (0, 0) _ HB.out Tryz.underlying36 rfl I36.out ?_) | (refine wpList_store_row rfl 36 _ _ rfl (w.heap.size + 1) e.left.cells.toArray rfl rfl 36 _ HG.out I36.out Z36.out O36.out ?_))
      exact ret_ev1 rfl rfl KF.out.1.2.1 rfl rfl ⟨rfl, KF.out.tail.tail.into (List.mem_cons_self)⟩
  have n3 : (e.k == 3) = false := by simpa using hk
  clear hk
  by_cases hk : e.k = 4
  · as_aux_lemma =>
      obtain ⟨p0, q0, r0⟩ := blk_get (i := 1) (v := .int .i64 e.a) A0.out rfl
      go_upto_region 2 with fail
      have K1 := hid (A0.out.setBlk 1 (.int .i64 0))
      generalize w0.setCell ⟨w.heap.size, 1, none⟩ (.int .i64 0) = w1 at *
      clear p0 q0 r0 A0
      obtain ⟨zz, _, _⟩ := blk_get (i := 0) (v := .int .i64 e.k) K1.out rfl
      rw [hk] at zz
      go_upto_region 13 with fail
      clear zz
      obtain ⟨p1, q1, r1⟩ := blk_get (i := 2) (v := .int .i64 e.nb) K1.out rfl
      go_upto_region 14 with fail
      have K2 := hid (K1.out.setBlk 2 (.int .i64 0))
      generalize w1.setCell ⟨w.heap.size, 2, none⟩ (.int .i64 0) = w2 at *
      clear p1 q1 r1 K1
      obtain ⟨p2, q2, r2⟩ := blk_get (i := 3) (v := .int .i64 e.nm) K2.out rfl
      go_upto_region 15 with fail
      have K3 := hid (K2.out.setBlk 3 (.int .i64 0))
      generalize w2.setCell ⟨w.heap.size, 3, none⟩ (.int .i64 0) = w3 at *
      clear p2 q2 r2 K2
      have T3 := hid (blk_there (o := 19) (n := 3) K3.out (Nat.le_of_ble_eq_true rfl))
      have I3 : Hid ((Tryz.prog.info? 29).map (·.size) = some (#[.int .i64 0, .int .i64 0, .slice none 0 0] : Array Value).size) := hid (by kernel_rfl)
      have O3 : Hid ((#[.int .i64 0, .int .i64 0, .slice none 0 0] : Array Value).all (·.oneCell') = true) := hid (by kernel_rfl)
      go_upto_region 31 with (refine wpList_store_mid rfl 29 _ _ rfl w.heap.size 19 #[.int .i64 0, .int .i64 0, .slice none 0 0] rfl rfl T3.out I3.out O3.out ?_)
      have K4 : Hid (All (blkC w.heap.size ((((((e.cells.set 1 (.int .i64 0)).set 2 (.int .i64 0)).set 3 (.int .i64 0)).set 19 (.int .i64 0)).set 20 (.int .i64 0)).set 21 (.slice none 0 0)) 36 :: blkC (w.heap.size + 1) (Ev.zero 0).cells 36 :: [inC w]) (w3.setCells w.heap.size 19 [.int .i64 0, .int .i64 0, .slice none 0 0])) := hid (((K3.out.setBlk 19 (.int .i64 0)).setBlk 20 (.int .i64 0)).setBlk 21 (.slice none 0 0))
      generalize w3.setCells w.heap.size 19 [.int .i64 0, .int .i64 0, .slice none 0 0] = w4 at *
      clear T3 I3 O3 K3
      have hK : kindT e.k = [.int 1, .int 2, .int 3, .res 19] := by rw [hk]; rfl
      have EL : ((((((e.cells.set 1 (.int .i64 0)).set 2 (.int .i64 0)).set 3 (.int .i64 0)).set 19 (.int .i64 0)).set 20 (.int .i64 0)).set 21 (.slice none 0 0)) = e.left.cells := by rw [Ev.left_cells, hK]; rfl
      rw [EL] at K4
      clear EL hK
      have HB := hid (K4.out.blk (g := w.heap.size) (vs := e.left.cells) (t := 36) (List.mem_cons_self))
      have HG := hid (K4.out.blk (g := w.heap.size + 1) (vs := (Ev.zero 0).cells) (t := 36) (List.mem_cons_of_mem _ (List.mem_cons_self)))
      have KF := hid (K4.out.swap.setRow (vs' := e.left.cells))
      go_wp2_with (first | (refine wpList_load_row rfl 36 _ rfl w.heap.size rfl 36 e.left.cells.toArray (0, 0) _ HB.out Tryz.underlying36 rfl I36.out ?_) | (refine wpList_store_row rfl 36 _ _ rfl (w.heap.size + 1) e.left.cells.toArray rfl rfl 36 _ HG.out I36.out Z36.out O36.out ?_))
      exact ret_ev1 rfl rfl KF.out.1.2.1 rfl rfl ⟨rfl, KF.out.tail.tail.into (List.mem_cons_self)⟩
  have n4 : (e.k == 4) = false := by simpa using hk
  clear hk
  by_cases hk : e.k = 5
  · as_aux_lemma =>
      obtain ⟨p0, q0, r0⟩ := blk_get (i := 1) (v := .int .i64 e.a) A0.out rfl
      go_upto_region 2 with fail
      have K1 := hid (A0.out.setBlk 1 (.int .i64 0))
      generalize w0.setCell ⟨w.heap.size, 1, none⟩ (.int .i64 0) = w1 at *
      clear p0 q0 r0 A0
      obtain ⟨zz, _, _⟩ := blk_get (i := 0) (v := .int .i64 e.k) K1.out rfl
      rw [hk] at zz
      go_upto_region 17 with fail
      clear zz
      obtain ⟨p1, q1, r1⟩ := blk_get (i := 2) (v := .int .i64 e.nb) K1.out rfl
      go_upto_region 18 with fail
      have K2 := hid (K1.out.setBlk 2 (.int .i64 0))
      generalize w1.setCell ⟨w.heap.size, 2, none⟩ (.int .i64 0) = w2 at *
      clear p1 q1 r1 K1
      obtain ⟨p2, q2, r2⟩ := blk_get (i := 3) (v := .int .i64 e.nm) K2.out rfl
      go_upto_region 19 with fail
      have K3 := hid (K2.out.setBlk 3 (.int .i64 0))
      generalize w2.setCell ⟨w.heap.size, 3, none⟩ (.int .i64 0) = w3 at *
      clear p2 q2 r2 K2
      obtain ⟨p3, q3, r3⟩ := blk_get (i := 4) (v := .int .i64 e.wh) K3.out rfl
      go_upto_region 20 with fail
      have K4 := hid (K3.out.setBlk 4 (.int .i64 0))
      generalize w3.setCell ⟨w.heap.size, 4, none⟩ (.int .i64 0) = w4 at *
      clear p3 q3 r3 K3
      have T4 := hid (blk_there (o := 19) (n := 3) K4.out (Nat.le_of_ble_eq_true rfl))
      have I4 : Hid ((Tryz.prog.info? 29).map (·.size) = some (#[.int .i64 0, .int .i64 0, .slice none 0 0] : Array Value).size) := hid (by kernel_rfl)
      have O4 : Hid ((#[.int .i64 0, .int .i64 0, .slice none 0 0] : Array Value).all (·.oneCell') = true) := hid (by kernel_rfl)
      go_upto_region 31 with (refine wpList_store_mid rfl 29 _ _ rfl w.heap.size 19 #[.int .i64 0, .int .i64 0, .slice none 0 0] rfl rfl T4.out I4.out O4.out ?_)
      have K5 : Hid (All (blkC w.heap.size (((((((e.cells.set 1 (.int .i64 0)).set 2 (.int .i64 0)).set 3 (.int .i64 0)).set 4 (.int .i64 0)).set 19 (.int .i64 0)).set 20 (.int .i64 0)).set 21 (.slice none 0 0)) 36 :: blkC (w.heap.size + 1) (Ev.zero 0).cells 36 :: [inC w]) (w4.setCells w.heap.size 19 [.int .i64 0, .int .i64 0, .slice none 0 0])) := hid (((K4.out.setBlk 19 (.int .i64 0)).setBlk 20 (.int .i64 0)).setBlk 21 (.slice none 0 0))
      generalize w4.setCells w.heap.size 19 [.int .i64 0, .int .i64 0, .slice none 0 0] = w5 at *
      clear T4 I4 O4 K4
      have hK : kindT e.k = [.int 1, .int 2, .int 3, .int 4, .res 19] := by rw [hk]; rfl
      have EL : (((((((e.cells.set 1 (.int .i64 0)).set 2 (.int .i64 0)).set 3 (.int .i64 0)).set 4 (.int .i64 0)).set 19 (.int .i64 0)).set 20 (.int .i64 0)).set 21 (.slice none 0 0)) = e.left.cells := by rw [Ev.left_cells, hK]; rfl
      rw [EL] at K5
      clear EL hK
      have HB := hid (K5.out.blk (g := w.heap.size) (vs := e.left.cells) (t := 36) (List.mem_cons_self))
      have HG := hid (K5.out.blk (g := w.heap.size + 1) (vs := (Ev.zero 0).cells) (t := 36) (List.mem_cons_of_mem _ (List.mem_cons_self)))
      have KF := hid (K5.out.swap.setRow (vs' := e.left.cells))
      go_wp2_with (first | (refine wpList_load_row rfl 36 _ rfl w.heap.size rfl 36 e.left.cells.toArray (0, 0) _ HB.out Tryz.underlying36 rfl I36.out ?_) | (refine wpList_store_row rfl 36 _ _ rfl (w.heap.size + 1) e.left.cells.toArray rfl rfl 36 _ HG.out I36.out Z36.out O36.out ?_))
      exact ret_ev1 rfl rfl KF.out.1.2.1 rfl rfl ⟨rfl, KF.out.tail.tail.into (List.mem_cons_self)⟩
  have n5 : (e.k == 5) = false := by simpa using hk
  clear hk
  by_cases hk : e.k = 6
  · as_aux_lemma =>
      obtain ⟨p0, q0, r0⟩ := blk_get (i := 1) (v := .int .i64 e.a) A0.out rfl
      go_upto_region 2 with fail
      have K1 := hid (A0.out.setBlk 1 (.int .i64 0))
      generalize w0.setCell ⟨w.heap.size, 1, none⟩ (.int .i64 0) = w1 at *
      clear p0 q0 r0 A0
      obtain ⟨zz, _, _⟩ := blk_get (i := 0) (v := .int .i64 e.k) K1.out rfl
      rw [hk] at zz
      go_upto_region 22 with fail
      clear zz
      obtain ⟨p1, q1, r1⟩ := blk_get (i := 3) (v := .int .i64 e.nm) K1.out rfl
      go_upto_region 23 with fail
      have K2 := hid (K1.out.setBlk 3 (.int .i64 0))
      generalize w1.setCell ⟨w.heap.size, 3, none⟩ (.int .i64 0) = w2 at *
      clear p1 q1 r1 K1
      obtain ⟨p2, q2, r2⟩ := blk_get (i := 6) (v := .bool e.fr) K2.out rfl
      go_upto_region 24 with fail
      have K3 := hid (K2.out.setBlk 6 (.bool false))
      generalize w2.setCell ⟨w.heap.size, 6, none⟩ (.bool false) = w3 at *
      clear p2 q2 r2 K2
      have T3 := hid (blk_there (o := 12) (n := 7) K3.out (Nat.le_of_ble_eq_true rfl))
      have I3 : Hid ((Tryz.prog.info? 26).map (·.size) = some (#[.int .i64 0, .int .i64 0, .int .i64 0, .string ⟨#[]⟩, .string ⟨#[]⟩, .int .i64 0, .int .i64 0] : Array Value).size) := hid (by kernel_rfl)
      have O3 : Hid ((#[.int .i64 0, .int .i64 0, .int .i64 0, .string ⟨#[]⟩, .string ⟨#[]⟩, .int .i64 0, .int .i64 0] : Array Value).all (·.oneCell') = true) := hid (by kernel_rfl)
      go_upto_region 25 with (refine wpList_store_mid rfl 26 _ _ rfl w.heap.size 12 #[.int .i64 0, .int .i64 0, .int .i64 0, .string ⟨#[]⟩, .string ⟨#[]⟩, .int .i64 0, .int .i64 0] rfl rfl T3.out I3.out O3.out ?_)
      have K4 : Hid (All (blkC w.heap.size ((((((((((e.cells.set 1 (.int .i64 0)).set 3 (.int .i64 0)).set 6 (.bool false)).set 12 (.int .i64 0)).set 13 (.int .i64 0)).set 14 (.int .i64 0)).set 15 (.string ⟨#[]⟩)).set 16 (.string ⟨#[]⟩)).set 17 (.int .i64 0)).set 18 (.int .i64 0)) 36 :: blkC (w.heap.size + 1) (Ev.zero 0).cells 36 :: [inC w]) (w3.setCells w.heap.size 12 [.int .i64 0, .int .i64 0, .int .i64 0, .string ⟨#[]⟩, .string ⟨#[]⟩, .int .i64 0, .int .i64 0])) := hid (((((((K3.out.setBlk 12 (.int .i64 0)).setBlk 13 (.int .i64 0)).setBlk 14 (.int .i64 0)).setBlk 15 (.string ⟨#[]⟩)).setBlk 16 (.string ⟨#[]⟩)).setBlk 17 (.int .i64 0)).setBlk 18 (.int .i64 0))
      generalize w3.setCells w.heap.size 12 [.int .i64 0, .int .i64 0, .int .i64 0, .string ⟨#[]⟩, .string ⟨#[]⟩, .int .i64 0, .int .i64 0] = w4 at *
      clear T3 I3 O3 K3
      have T4 := hid (blk_there (o := 19) (n := 3) K4.out (Nat.le_of_ble_eq_true rfl))
      have I4 : Hid ((Tryz.prog.info? 29).map (·.size) = some (#[.int .i64 0, .int .i64 0, .slice none 0 0] : Array Value).size) := hid (by kernel_rfl)
      have O4 : Hid ((#[.int .i64 0, .int .i64 0, .slice none 0 0] : Array Value).all (·.oneCell') = true) := hid (by kernel_rfl)
      go_upto_region 31 with (refine wpList_store_mid rfl 29 _ _ rfl w.heap.size 19 #[.int .i64 0, .int .i64 0, .slice none 0 0] rfl rfl T4.out I4.out O4.out ?_)
      have K5 : Hid (All (blkC w.heap.size (((((((((((((e.cells.set 1 (.int .i64 0)).set 3 (.int .i64 0)).set 6 (.bool false)).set 12 (.int .i64 0)).set 13 (.int .i64 0)).set 14 (.int .i64 0)).set 15 (.string ⟨#[]⟩)).set 16 (.string ⟨#[]⟩)).set 17 (.int .i64 0)).set 18 (.int .i64 0)).set 19 (.int .i64 0)).set 20 (.int .i64 0)).set 21 (.slice none 0 0)) 36 :: blkC (w.heap.size + 1) (Ev.zero 0).cells 36 :: [inC w]) (w4.setCells w.heap.size 19 [.int .i64 0, .int .i64 0, .slice none 0 0])) := hid (((K4.out.setBlk 19 (.int .i64 0)).setBlk 20 (.int .i64 0)).setBlk 21 (.slice none 0 0))
      generalize w4.setCells w.heap.size 19 [.int .i64 0, .int .i64 0, .slice none 0 0] = w5 at *
      clear T4 I4 O4 K4
      have hK : kindT e.k = [.int 1, .int 3, .fre 6, .int 12, .int 13, .op 14, .res 19] := by rw [hk]; rfl
      have EL : (((((((((((((e.cells.set 1 (.int .i64 0)).set 3 (.int .i64 0)).set 6 (.bool false)).set 12 (.int .i64 0)).set 13 (.int .i64 0)).set 14 (.int .i64 0)).set 15 (.string ⟨#[]⟩)).set 16 (.string ⟨#[]⟩)).set 17 (.int .i64 0)).set 18 (.int .i64 0)).set 19 (.int .i64 0)).set 20 (.int .i64 0)).set 21 (.slice none 0 0)) = e.left.cells := by rw [Ev.left_cells, hK]; rfl
      rw [EL] at K5
      clear EL hK
      have HB := hid (K5.out.blk (g := w.heap.size) (vs := e.left.cells) (t := 36) (List.mem_cons_self))
      have HG := hid (K5.out.blk (g := w.heap.size + 1) (vs := (Ev.zero 0).cells) (t := 36) (List.mem_cons_of_mem _ (List.mem_cons_self)))
      have KF := hid (K5.out.swap.setRow (vs' := e.left.cells))
      go_wp2_with (first | (refine wpList_load_row rfl 36 _ rfl w.heap.size rfl 36 e.left.cells.toArray (0, 0) _ HB.out Tryz.underlying36 rfl I36.out ?_) | (refine wpList_store_row rfl 36 _ _ rfl (w.heap.size + 1) e.left.cells.toArray rfl rfl 36 _ HG.out I36.out Z36.out O36.out ?_))
      exact ret_ev1 rfl rfl KF.out.1.2.1 rfl rfl ⟨rfl, KF.out.tail.tail.into (List.mem_cons_self)⟩
  have n6 : (e.k == 6) = false := by simpa using hk
  clear hk
  by_cases hk : e.k = 7
  · as_aux_lemma =>
      obtain ⟨p0, q0, r0⟩ := blk_get (i := 1) (v := .int .i64 e.a) A0.out rfl
      go_upto_region 2 with fail
      have K1 := hid (A0.out.setBlk 1 (.int .i64 0))
      generalize w0.setCell ⟨w.heap.size, 1, none⟩ (.int .i64 0) = w1 at *
      clear p0 q0 r0 A0
      obtain ⟨zz, _, _⟩ := blk_get (i := 0) (v := .int .i64 e.k) K1.out rfl
      rw [hk] at zz
      go_upto_region 28 with fail
      clear zz
      have T1 := hid (blk_there (o := 22) (n := 8) K1.out (Nat.le_of_ble_eq_true rfl))
      have I1 : Hid ((Tryz.prog.info? 31).map (·.size) = some (#[.int .i64 0, .int .i64 0, .int .i64 0, .int .i64 0, .int .i64 0, .int .i64 0, .int .i64 0, .int .i64 0] : Array Value).size) := hid (by kernel_rfl)
      have O1 : Hid ((#[.int .i64 0, .int .i64 0, .int .i64 0, .int .i64 0, .int .i64 0, .int .i64 0, .int .i64 0, .int .i64 0] : Array Value).all (·.oneCell') = true) := hid (by kernel_rfl)
      go_upto_region 31 with (refine wpList_store_mid rfl 31 _ _ rfl w.heap.size 22 #[.int .i64 0, .int .i64 0, .int .i64 0, .int .i64 0, .int .i64 0, .int .i64 0, .int .i64 0, .int .i64 0] rfl rfl T1.out I1.out O1.out ?_)
      have K2 : Hid (All (blkC w.heap.size (((((((((e.cells.set 1 (.int .i64 0)).set 22 (.int .i64 0)).set 23 (.int .i64 0)).set 24 (.int .i64 0)).set 25 (.int .i64 0)).set 26 (.int .i64 0)).set 27 (.int .i64 0)).set 28 (.int .i64 0)).set 29 (.int .i64 0)) 36 :: blkC (w.heap.size + 1) (Ev.zero 0).cells 36 :: [inC w]) (w1.setCells w.heap.size 22 [.int .i64 0, .int .i64 0, .int .i64 0, .int .i64 0, .int .i64 0, .int .i64 0, .int .i64 0, .int .i64 0])) := hid ((((((((K1.out.setBlk 22 (.int .i64 0)).setBlk 23 (.int .i64 0)).setBlk 24 (.int .i64 0)).setBlk 25 (.int .i64 0)).setBlk 26 (.int .i64 0)).setBlk 27 (.int .i64 0)).setBlk 28 (.int .i64 0)).setBlk 29 (.int .i64 0))
      generalize w1.setCells w.heap.size 22 [.int .i64 0, .int .i64 0, .int .i64 0, .int .i64 0, .int .i64 0, .int .i64 0, .int .i64 0, .int .i64 0] = w2 at *
      clear T1 I1 O1 K1
      have hK : kindT e.k = [.int 1, .look 22] := by rw [hk]; rfl
      have EL : (((((((((e.cells.set 1 (.int .i64 0)).set 22 (.int .i64 0)).set 23 (.int .i64 0)).set 24 (.int .i64 0)).set 25 (.int .i64 0)).set 26 (.int .i64 0)).set 27 (.int .i64 0)).set 28 (.int .i64 0)).set 29 (.int .i64 0)) = e.left.cells := by rw [Ev.left_cells, hK]; rfl
      rw [EL] at K2
      clear EL hK
      have HB := hid (K2.out.blk (g := w.heap.size) (vs := e.left.cells) (t := 36) (List.mem_cons_self))
      have HG := hid (K2.out.blk (g := w.heap.size + 1) (vs := (Ev.zero 0).cells) (t := 36) (List.mem_cons_of_mem _ (List.mem_cons_self)))
      have KF := hid (K2.out.swap.setRow (vs' := e.left.cells))
      go_wp2_with (first | (refine wpList_load_row rfl 36 _ rfl w.heap.size rfl 36 e.left.cells.toArray (0, 0) _ HB.out Tryz.underlying36 rfl I36.out ?_) | (refine wpList_store_row rfl 36 _ _ rfl (w.heap.size + 1) e.left.cells.toArray rfl rfl 36 _ HG.out I36.out Z36.out O36.out ?_))
      exact ret_ev1 rfl rfl KF.out.1.2.1 rfl rfl ⟨rfl, KF.out.tail.tail.into (List.mem_cons_self)⟩
  have n7 : (e.k == 7) = false := by simpa using hk
  clear hk
  by_cases hk : e.k = 10
  · as_aux_lemma =>
      obtain ⟨p0, q0, r0⟩ := blk_get (i := 1) (v := .int .i64 e.a) A0.out rfl
      go_upto_region 2 with fail
      have K1 := hid (A0.out.setBlk 1 (.int .i64 0))
      generalize w0.setCell ⟨w.heap.size, 1, none⟩ (.int .i64 0) = w1 at *
      clear p0 q0 r0 A0
      obtain ⟨zz, _, _⟩ := blk_get (i := 0) (v := .int .i64 e.k) K1.out rfl
      rw [hk] at zz
      go_upto_region 28 with fail
      clear zz
      have T1 := hid (blk_there (o := 22) (n := 8) K1.out (Nat.le_of_ble_eq_true rfl))
      have I1 : Hid ((Tryz.prog.info? 31).map (·.size) = some (#[.int .i64 0, .int .i64 0, .int .i64 0, .int .i64 0, .int .i64 0, .int .i64 0, .int .i64 0, .int .i64 0] : Array Value).size) := hid (by kernel_rfl)
      have O1 : Hid ((#[.int .i64 0, .int .i64 0, .int .i64 0, .int .i64 0, .int .i64 0, .int .i64 0, .int .i64 0, .int .i64 0] : Array Value).all (·.oneCell') = true) := hid (by kernel_rfl)
      go_upto_region 31 with (refine wpList_store_mid rfl 31 _ _ rfl w.heap.size 22 #[.int .i64 0, .int .i64 0, .int .i64 0, .int .i64 0, .int .i64 0, .int .i64 0, .int .i64 0, .int .i64 0] rfl rfl T1.out I1.out O1.out ?_)
      have K2 : Hid (All (blkC w.heap.size (((((((((e.cells.set 1 (.int .i64 0)).set 22 (.int .i64 0)).set 23 (.int .i64 0)).set 24 (.int .i64 0)).set 25 (.int .i64 0)).set 26 (.int .i64 0)).set 27 (.int .i64 0)).set 28 (.int .i64 0)).set 29 (.int .i64 0)) 36 :: blkC (w.heap.size + 1) (Ev.zero 0).cells 36 :: [inC w]) (w1.setCells w.heap.size 22 [.int .i64 0, .int .i64 0, .int .i64 0, .int .i64 0, .int .i64 0, .int .i64 0, .int .i64 0, .int .i64 0])) := hid ((((((((K1.out.setBlk 22 (.int .i64 0)).setBlk 23 (.int .i64 0)).setBlk 24 (.int .i64 0)).setBlk 25 (.int .i64 0)).setBlk 26 (.int .i64 0)).setBlk 27 (.int .i64 0)).setBlk 28 (.int .i64 0)).setBlk 29 (.int .i64 0))
      generalize w1.setCells w.heap.size 22 [.int .i64 0, .int .i64 0, .int .i64 0, .int .i64 0, .int .i64 0, .int .i64 0, .int .i64 0, .int .i64 0] = w2 at *
      clear T1 I1 O1 K1
      have hK : kindT e.k = [.int 1, .look 22] := by rw [hk]; rfl
      have EL : (((((((((e.cells.set 1 (.int .i64 0)).set 22 (.int .i64 0)).set 23 (.int .i64 0)).set 24 (.int .i64 0)).set 25 (.int .i64 0)).set 26 (.int .i64 0)).set 27 (.int .i64 0)).set 28 (.int .i64 0)).set 29 (.int .i64 0)) = e.left.cells := by rw [Ev.left_cells, hK]; rfl
      rw [EL] at K2
      clear EL hK
      have HB := hid (K2.out.blk (g := w.heap.size) (vs := e.left.cells) (t := 36) (List.mem_cons_self))
      have HG := hid (K2.out.blk (g := w.heap.size + 1) (vs := (Ev.zero 0).cells) (t := 36) (List.mem_cons_of_mem _ (List.mem_cons_self)))
      have KF := hid (K2.out.swap.setRow (vs' := e.left.cells))
      go_wp2_with (first | (refine wpList_load_row rfl 36 _ rfl w.heap.size rfl 36 e.left.cells.toArray (0, 0) _ HB.out Tryz.underlying36 rfl I36.out ?_) | (refine wpList_store_row rfl 36 _ _ rfl (w.heap.size + 1) e.left.cells.toArray rfl rfl 36 _ HG.out I36.out Z36.out O36.out ?_))
      exact ret_ev1 rfl rfl KF.out.1.2.1 rfl rfl ⟨rfl, KF.out.tail.tail.into (List.mem_cons_self)⟩
  have n10 : (e.k == 10) = false := by simpa using hk
  clear hk
  by_cases hk : e.k = 11
  · as_aux_lemma =>
      obtain ⟨p0, q0, r0⟩ := blk_get (i := 1) (v := .int .i64 e.a) A0.out rfl
      go_upto_region 2 with fail
      have K1 := hid (A0.out.setBlk 1 (.int .i64 0))
      generalize w0.setCell ⟨w.heap.size, 1, none⟩ (.int .i64 0) = w1 at *
      clear p0 q0 r0 A0
      obtain ⟨zz, _, _⟩ := blk_get (i := 0) (v := .int .i64 e.k) K1.out rfl
      rw [hk] at zz
      go_upto_region 30 with fail
      clear zz
      have T1 := hid (blk_there (o := 30) (n := 3) K1.out (Nat.le_of_ble_eq_true rfl))
      have I1 : Hid ((Tryz.prog.info? 34).map (·.size) = some (#[.int .i64 0, .int .i64 0, .slice none 0 0] : Array Value).size) := hid (by kernel_rfl)
      have O1 : Hid ((#[.int .i64 0, .int .i64 0, .slice none 0 0] : Array Value).all (·.oneCell') = true) := hid (by kernel_rfl)
      go_upto_region 31 with (refine wpList_store_mid rfl 34 _ _ rfl w.heap.size 30 #[.int .i64 0, .int .i64 0, .slice none 0 0] rfl rfl T1.out I1.out O1.out ?_)
      have K2 : Hid (All (blkC w.heap.size ((((e.cells.set 1 (.int .i64 0)).set 30 (.int .i64 0)).set 31 (.int .i64 0)).set 32 (.slice none 0 0)) 36 :: blkC (w.heap.size + 1) (Ev.zero 0).cells 36 :: [inC w]) (w1.setCells w.heap.size 30 [.int .i64 0, .int .i64 0, .slice none 0 0])) := hid (((K1.out.setBlk 30 (.int .i64 0)).setBlk 31 (.int .i64 0)).setBlk 32 (.slice none 0 0))
      generalize w1.setCells w.heap.size 30 [.int .i64 0, .int .i64 0, .slice none 0 0] = w2 at *
      clear T1 I1 O1 K1
      have hK : kindT e.k = [.int 1, .sht 30] := by rw [hk]; rfl
      have EL : ((((e.cells.set 1 (.int .i64 0)).set 30 (.int .i64 0)).set 31 (.int .i64 0)).set 32 (.slice none 0 0)) = e.left.cells := by rw [Ev.left_cells, hK]; rfl
      rw [EL] at K2
      clear EL hK
      have HB := hid (K2.out.blk (g := w.heap.size) (vs := e.left.cells) (t := 36) (List.mem_cons_self))
      have HG := hid (K2.out.blk (g := w.heap.size + 1) (vs := (Ev.zero 0).cells) (t := 36) (List.mem_cons_of_mem _ (List.mem_cons_self)))
      have KF := hid (K2.out.swap.setRow (vs' := e.left.cells))
      go_wp2_with (first | (refine wpList_load_row rfl 36 _ rfl w.heap.size rfl 36 e.left.cells.toArray (0, 0) _ HB.out Tryz.underlying36 rfl I36.out ?_) | (refine wpList_store_row rfl 36 _ _ rfl (w.heap.size + 1) e.left.cells.toArray rfl rfl 36 _ HG.out I36.out Z36.out O36.out ?_))
      exact ret_ev1 rfl rfl KF.out.1.2.1 rfl rfl ⟨rfl, KF.out.tail.tail.into (List.mem_cons_self)⟩
  have n11 : (e.k == 11) = false := by simpa using hk
  clear hk
  obtain ⟨p0, q0, r0⟩ := blk_get (i := 1) (v := .int .i64 e.a) A0.out rfl
  go_upto_region 2 with fail
  have K1 := hid (A0.out.setBlk 1 (.int .i64 0))
  generalize w0.setCell ⟨w.heap.size, 1, none⟩ (.int .i64 0) = w1 at *
  clear p0 q0 r0 A0
  obtain ⟨zz, _, _⟩ := blk_get (i := 0) (v := .int .i64 e.k) K1.out rfl
  go_upto_region 31 with fail
  clear zz
  have hK : kindT e.k = [.int 1] := by simp only [beq_eq_false_iff_ne, ne_eq] at n1 n2 n3 n4 n5 n6 n7 n10 n11; unfold kindT; simp [n1, n2, n3, n4, n5, n6, n7, n10, n11]
  have EL : (e.cells.set 1 (.int .i64 0)) = e.left.cells := by rw [Ev.left_cells, hK]; rfl
  rw [EL] at K1
  clear EL hK
  have HB := hid (K1.out.blk (g := w.heap.size) (vs := e.left.cells) (t := 36) (List.mem_cons_self))
  have HG := hid (K1.out.blk (g := w.heap.size + 1) (vs := (Ev.zero 0).cells) (t := 36) (List.mem_cons_of_mem _ (List.mem_cons_self)))
  have KF := hid (K1.out.swap.setRow (vs' := e.left.cells))
  go_wp2_with (first | (refine wpList_load_row rfl 36 _ rfl w.heap.size rfl 36 e.left.cells.toArray (0, 0) _ HB.out Tryz.underlying36 rfl I36.out ?_) | (refine wpList_store_row rfl 36 _ _ rfl (w.heap.size + 1) e.left.cells.toArray rfl rfl 36 _ HG.out I36.out Z36.out O36.out ?_))
  exact ret_ev1 rfl rfl KF.out.1.2.1 rfl rfl ⟨rfl, KF.out.tail.tail.into (List.mem_cons_self)⟩
end Go.Proofs.YtfeppannfcbakaaGreatDoor
