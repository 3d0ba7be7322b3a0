import Derived.Test.YtdhkdniddjnigaaGreatDoorPx2
namespace Go.Proofs.YtdhkdniddjnigaaGreatDoor
open Go.RowKit
set_option linter.unusedVariables false

theorem begR_busy {P : Nat} {x : Px} {b m n1 n2 : Int} {cs : List Comp} {w : World} (h : All (pxL P x b m n1 n2 ++ cs) w) (hw : x.rq.wts = true) (v : Value) (hv : ∃ k nm tx a d, v = opV k nm tx a d) : Calls Tryz.prog 212 #[.pointer (some ⟨P, 4, none⟩), v] w fun e w' => e = .returned (.int .i64 141) ∧ All (pxL P x b m n1 n2 ++ cs) w' := by
  obtain ⟨k, nm, tx, a, d, rfl⟩ := hv
  have c5 : w.cell? ⟨P, 5, none⟩ = some (.bool x.rq.wts) := by rw [cell_at h.px]; rfl
  rw [hw] at c5
  have hP : P < w.heap.size := h.1.2.2 P (by simp [blkC])
  have A := hid (h.alloc (.cells #[.int .i64 k, .string nm, .string tx, .int .i64 a, .int .i64 d] 42))
  clear h hw
  go_enter Tryz.func212, Tryz.ntmps212
  go_wp2
  go_ret
  exact ⟨rfl, A.out⟩
theorem begR_end {P : Nat} {x : Px} {b m n1 n2 : Int} {cs : List Comp} {w : World} (h : All (pxL P x b m n1 n2 ++ cs) w) (hw : x.rq.wts = false) (hn : x.rq.num = 1099511627776) (v : Value) (hv : ∃ k nm tx a d, v = opV k nm tx a d) : Calls Tryz.prog 212 #[.pointer (some ⟨P, 4, none⟩), v] w fun e w' => e = .returned (.int .i64 142) ∧ All (pxL P x b m n1 n2 ++ cs) w' := by
  obtain ⟨k, nm, tx, a, d, rfl⟩ := hv
  have c4 : w.cell? ⟨P, 4, none⟩ = some (.int .i64 x.rq.num) := by rw [cell_at h.px]; rfl
  have c5 : w.cell? ⟨P, 5, none⟩ = some (.bool x.rq.wts) := by rw [cell_at h.px]; rfl
  rw [hw] at c5
  rw [hn] at c4
  have hP : P < w.heap.size := h.1.2.2 P (by simp [blkC])
  have A := hid (h.alloc (.cells #[.int .i64 k, .string nm, .string tx, .int .i64 a, .int .i64 d] 42))
  clear h hw hn
  go_enter Tryz.func212, Tryz.ntmps212
  go_wp2
  go_ret
  exact ⟨rfl, A.out⟩
set_option maxHeartbeats 1600000 in
set_option maxRecDepth 1000000 in
theorem begR_ok {P : Nat} {x : Px} {b m n1 n2 : Int} {cs : List Comp} {w : World} (h : All (pxL P x b m n1 n2 ++ cs) w) (hw : x.rq.wts = false) (hn : 0 ≤ x.rq.num) (hn2 : x.rq.num < 1099511627776) (h1 : 1 ≤ n1) (h2 : n1 ≤ m) (h3 : m ≤ 1024) (k : Int) (nm tx : ByteArray) (a d : Int) : Calls Tryz.prog 212 #[.pointer (some ⟨P, 4, none⟩), opV k nm tx a d] w fun e w' => e = .returned (.int .i64 0) ∧ All (pxL P { x with rq := { x.rq with num := x.rq.num + 1, wts := true, ok := k, onm := nm, otx := tx, on := a, om := d, left := n1 } } b m (min (2 * n1) m) n2 ++ cs) w' := by
  have hP : P < w.heap.size := h.1.2.2 P (by simp [blkC])
  have c4 : w.cell? ⟨P, 4, none⟩ = some (.int .i64 x.rq.num) := by rw [cell_at h.px]; rfl
  have c5 : w.cell? ⟨P, 5, none⟩ = some (.bool x.rq.wts) := by rw [cell_at h.px]; rfl
  rw [hw] at c5
  have f0 := free_at h.px 4
  have A := (h.addBlk [.int .i64 k, .string nm, .string tx, .int .i64 a, .int .i64 d] 42).swap
  obtain ⟨H, hH⟩ : ∃ H, Hid (H = w.heap.size) := ⟨_, hid rfl⟩
  rw [← hH.out] at A
  have A1 := hid (A.setBlk 4 (.int .i64 (x.rq.num + 1)))
  have e1 : IntKind.i64.wrap (x.rq.num + 1) = x.rq.num + 1 := by rw [IntKind.wrap_i64]; omega
  have e2 : (x.rq.num == 1099511627776) = false := by simp; omega
  have H1 := hid h1
  have H2 := hid h2
  have H3 := hid h3
  have hw := hid hw
  clear h hn hn2 A h1 h2 h3
  go_enter Tryz.func212, Tryz.ntmps212
  go_upto_region 6 with fail
  rw [← hH.out]
  have A1 : Hid (All (blkC P (x.cells.set 4 (.int .i64 (x.rq.num + 1))) 111 :: blkC H [.int .i64 k, .string nm, .string tx, .int .i64 a, .int .i64 d] 42 :: (boC x.rq.pb b m n1 :: boC x.qu.pb b m n2 :: cs)) ((w.setCell ⟨P, 4, none⟩ (.int .i64 (x.rq.num + 1))).alloc (.cells #[.int .i64 k, .string nm, .string tx, .int .i64 a, .int .i64 d] 42))) := hid (by rw [← World.setCell_alloc_past _ _ _ _ hP]; exact A1.out)
  generalize (w.setCell ⟨P, 4, none⟩ (.int .i64 (x.rq.num + 1))).alloc (.cells #[.int .i64 k, .string nm, .string tx, .int .i64 a, .int .i64 d] 42) = w1 at A1 ⊢
  clear c4 c5 f0
  have SF : Hid (∀ W Z X Y cs', Z[12]? = some (.pointer (some ⟨x.rq.pb, 0, none⟩)) → All (blkC P Z 111 :: blkC H [.int .i64 k, .string nm, .string tx, .int .i64 a, .int .i64 d] 42 :: X :: Y :: cs') W → W.cell? ⟨H, 0, none⟩ = some (.int .i64 k) ∧ W.cell? ⟨H, 1, none⟩ = some (.string nm) ∧ W.cell? ⟨H, 2, none⟩ = some (.string tx) ∧ W.cell? ⟨H, 3, none⟩ = some (.int .i64 a) ∧ W.cell? ⟨H, 4, none⟩ = some (.int .i64 d) ∧ W.cell? ⟨P, 12, none⟩ = some (.pointer (some ⟨x.rq.pb, 0, none⟩))) := hid (fun W Z X Y cs' hZ hW => by
    refine ⟨?_, ?_, ?_, ?_, ?_, ?_⟩
    · rw [cell_at hW.tail.1.2.1]; rfl
    · rw [cell_at hW.tail.1.2.1]; rfl
    · rw [cell_at hW.tail.1.2.1]; rfl
    · rw [cell_at hW.tail.1.2.1]; rfl
    · rw [cell_at hW.tail.1.2.1]; rfl
    · rw [cell_at hW.1.2.1]; simpa using hZ)
  have A2 := hid A1.out.drew
  have p0 := hid (SF.out _ _ _ _ _ rfl A2.out)
  have N := hid (next53 (A2.out.perm (List.perm_middle (l₁ := [blkC P (x.cells.set 4 (.int .i64 (x.rq.num + 1))) 111, blkC H [.int .i64 k, .string nm, .string tx, .int .i64 a, .int .i64 d] 42]))) H1.out H2.out H3.out)
  go_region_held3 (fun W => W.cell? ⟨H, 0, none⟩ = some (.int .i64 k) ∧ W.cell? ⟨H, 1, none⟩ = some (.string nm) ∧ W.cell? ⟨H, 2, none⟩ = some (.string tx) ∧ W.cell? ⟨H, 3, none⟩ = some (.int .i64 a) ∧ W.cell? ⟨H, 4, none⟩ = some (.int .i64 d) ∧ W.cell? ⟨P, 12, none⟩ = some (.pointer (some ⟨x.rq.pb, 0, none⟩))) (first | with_reducible exact p0.out | with_reducible exact p1.out | with_reducible exact p2.out | with_reducible exact p3.out | with_reducible exact p4.out)
    (first
      | (go_at_call 118; refine N.out.mono ?_; rintro e w2 ⟨rfl, hw2⟩; have A3 := hid (hw2.perm (List.perm_middle (l₁ := [blkC P (x.cells.set 4 (.int .i64 (x.rq.num + 1))) 111, blkC H [.int .i64 k, .string nm, .string tx, .int .i64 a, .int .i64 d] 42])).symm); have p1 := hid (SF.out _ _ _ _ _ rfl A3.out); have d5 : w2.cell? ⟨P, 5, none⟩ = some (.bool false) := (by rw [cell_at A3.out.1.2.1, ← hw.out]; rfl); have g5 : w2.frozen? ⟨P, 5, none⟩ = false := free_at A3.out.1.2.1 5; have d6 : w2.cell? ⟨P, 6, none⟩ = some (.int .i64 x.rq.ok) := (by rw [cell_at A3.out.1.2.1]; rfl); have g6 : w2.frozen? ⟨P, 6, none⟩ = false := free_at A3.out.1.2.1 6; have d7 : w2.cell? ⟨P, 7, none⟩ = some (.string x.rq.onm) := (by rw [cell_at A3.out.1.2.1]; rfl); have g7 : w2.frozen? ⟨P, 7, none⟩ = false := free_at A3.out.1.2.1 7; have d8 : w2.cell? ⟨P, 8, none⟩ = some (.string x.rq.otx) := (by rw [cell_at A3.out.1.2.1]; rfl); have g8 : w2.frozen? ⟨P, 8, none⟩ = false := free_at A3.out.1.2.1 8; have d9 : w2.cell? ⟨P, 9, none⟩ = some (.int .i64 x.rq.on) := (by rw [cell_at A3.out.1.2.1]; rfl); have g9 : w2.frozen? ⟨P, 9, none⟩ = false := free_at A3.out.1.2.1 9; have d10 : w2.cell? ⟨P, 10, none⟩ = some (.int .i64 x.rq.om) := (by rw [cell_at A3.out.1.2.1]; rfl); have g10 : w2.frozen? ⟨P, 10, none⟩ = false := free_at A3.out.1.2.1 10; have d11 : w2.cell? ⟨P, 11, none⟩ = some (.int .i64 x.rq.left) := (by rw [cell_at A3.out.1.2.1]; rfl); have g11 : w2.frozen? ⟨P, 11, none⟩ = false := free_at A3.out.1.2.1 11; have A4 := hid (A3.out.setBlk 5 (.bool true)); have p2 := hid (SF.out _ _ _ _ _ rfl A4.out); have A5 := hid (((((A4.out.setBlk 6 (.int .i64 k)).setBlk 7 (.string nm)).setBlk 8 (.string tx)).setBlk 9 (.int .i64 a)).setBlk 10 (.int .i64 d)); have p3 := hid (SF.out _ _ _ _ _ rfl A5.out); have A6 := hid (A5.out.setBlk 11 (.int .i64 n1)); have p4 := hid (SF.out _ _ _ _ _ rfl A6.out); clear hw2))
  have A7 := hid (A6.out.swap.tail)
  generalize ((((((w2.setCell ⟨P, 5, none⟩ (.bool true)).setCell ⟨P, 6, none⟩ (.int .i64 k)).setCell ⟨P, 7, none⟩ (.string nm)).setCell ⟨P, 8, none⟩ (.string tx)).setCell ⟨P, 9, none⟩ (.int .i64 a)).setCell ⟨P, 10, none⟩ (.int .i64 d)).setCell ⟨P, 11, none⟩ (.int .i64 n1) = w3 at A7 ⊢
  clear p0 p1 p2 p3 p4 A6 A5 A4 A3 A2 A1 SF N d5 g5 d6 g6 d7 g7 d8 g8 d9 g9 d10 g10 d11 g11
  go_wp2
  go_ret
  exact ⟨rfl, A7.out⟩

theorem begQ_busy {P : Nat} {x : Px} {b m n1 n2 : Int} {cs : List Comp} {w : World} (h : All (pxL P x b m n1 n2 ++ cs) w) (hw : x.qu.wts = true) (v : Value) (hv : ∃ k nm tx a d, v = opV k nm tx a d) : Calls Tryz.prog 212 #[.pointer (some ⟨P, 13, none⟩), v] w fun e w' => e = .returned (.int .i64 141) ∧ All (pxL P x b m n1 n2 ++ cs) w' := by
  obtain ⟨k, nm, tx, a, d, rfl⟩ := hv
  have c14 : w.cell? ⟨P, 14, none⟩ = some (.bool x.qu.wts) := by rw [cell_at h.px]; rfl
  rw [hw] at c14
  have hP : P < w.heap.size := h.1.2.2 P (by simp [blkC])
  have A := hid (h.alloc (.cells #[.int .i64 k, .string nm, .string tx, .int .i64 a, .int .i64 d] 42))
  clear h hw
  go_enter Tryz.func212, Tryz.ntmps212
  go_wp2
  go_ret
  exact ⟨rfl, A.out⟩
theorem begQ_end {P : Nat} {x : Px} {b m n1 n2 : Int} {cs : List Comp} {w : World} (h : All (pxL P x b m n1 n2 ++ cs) w) (hw : x.qu.wts = false) (hn : x.qu.num = 1099511627776) (v : Value) (hv : ∃ k nm tx a d, v = opV k nm tx a d) : Calls Tryz.prog 212 #[.pointer (some ⟨P, 13, none⟩), v] w fun e w' => e = .returned (.int .i64 142) ∧ All (pxL P x b m n1 n2 ++ cs) w' := by
  obtain ⟨k, nm, tx, a, d, rfl⟩ := hv
  have c13 : w.cell? ⟨P, 13, none⟩ = some (.int .i64 x.qu.num) := by rw [cell_at h.px]; rfl
  have c14 : w.cell? ⟨P, 14, none⟩ = some (.bool x.qu.wts) := by rw [cell_at h.px]; rfl
  rw [hw] at c14
  rw [hn] at c13
  have hP : P < w.heap.size := h.1.2.2 P (by simp [blkC])
  have A := hid (h.alloc (.cells #[.int .i64 k, .string nm, .string tx, .int .i64 a, .int .i64 d] 42))
  clear h hw hn
  go_enter Tryz.func212, Tryz.ntmps212
  go_wp2
  go_ret
  exact ⟨rfl, A.out⟩
set_option maxHeartbeats 1600000 in
set_option maxRecDepth 1000000 in
theorem begQ_ok {P : Nat} {x : Px} {b m n1 n2 : Int} {cs : List Comp} {w : World} (h : All (pxL P x b m n1 n2 ++ cs) w) (hw : x.qu.wts = false) (hn : 0 ≤ x.qu.num) (hn2 : x.qu.num < 1099511627776) (h1 : 1 ≤ n2) (h2 : n2 ≤ m) (h3 : m ≤ 1024) (k : Int) (nm tx : ByteArray) (a d : Int) : Calls Tryz.prog 212 #[.pointer (some ⟨P, 13, none⟩), opV k nm tx a d] w fun e w' => e = .returned (.int .i64 0) ∧ All (pxL P { x with qu := { x.qu with num := x.qu.num + 1, wts := true, ok := k, onm := nm, otx := tx, on := a, om := d, left := n2 } } b m n1 (min (2 * n2) m) ++ cs) w' := by
  have hP : P < w.heap.size := h.1.2.2 P (by simp [blkC])
  have c13 : w.cell? ⟨P, 13, none⟩ = some (.int .i64 x.qu.num) := by rw [cell_at h.px]; rfl
  have c14 : w.cell? ⟨P, 14, none⟩ = some (.bool x.qu.wts) := by rw [cell_at h.px]; rfl
  rw [hw] at c14
  have f0 := free_at h.px 13
  have A := (h.addBlk [.int .i64 k, .string nm, .string tx, .int .i64 a, .int .i64 d] 42).swap
  obtain ⟨H, hH⟩ : ∃ H, Hid (H = w.heap.size) := ⟨_, hid rfl⟩
  rw [← hH.out] at A
  have A1 := hid (A.setBlk 13 (.int .i64 (x.qu.num + 1)))
  have e1 : IntKind.i64.wrap (x.qu.num + 1) = x.qu.num + 1 := by rw [IntKind.wrap_i64]; omega
  have e2 : (x.qu.num == 1099511627776) = false := by simp; omega
  have H1 := hid h1
  have H2 := hid h2
  have H3 := hid h3
  have hw := hid hw
  clear h hn hn2 A h1 h2 h3
  go_enter Tryz.func212, Tryz.ntmps212
  go_upto_region 6 with fail
  rw [← hH.out]
  have A1 : Hid (All (blkC P (x.cells.set 13 (.int .i64 (x.qu.num + 1))) 111 :: blkC H [.int .i64 k, .string nm, .string tx, .int .i64 a, .int .i64 d] 42 :: (boC x.rq.pb b m n1 :: boC x.qu.pb b m n2 :: cs)) ((w.setCell ⟨P, 13, none⟩ (.int .i64 (x.qu.num + 1))).alloc (.cells #[.int .i64 k, .string nm, .string tx, .int .i64 a, .int .i64 d] 42))) := hid (by rw [← World.setCell_alloc_past _ _ _ _ hP]; exact A1.out)
  generalize (w.setCell ⟨P, 13, none⟩ (.int .i64 (x.qu.num + 1))).alloc (.cells #[.int .i64 k, .string nm, .string tx, .int .i64 a, .int .i64 d] 42) = w1 at A1 ⊢
  clear c13 c14 f0
  have SF : Hid (∀ W Z X Y cs', Z[21]? = some (.pointer (some ⟨x.qu.pb, 0, none⟩)) → All (blkC P Z 111 :: blkC H [.int .i64 k, .string nm, .string tx, .int .i64 a, .int .i64 d] 42 :: X :: Y :: cs') W → W.cell? ⟨H, 0, none⟩ = some (.int .i64 k) ∧ W.cell? ⟨H, 1, none⟩ = some (.string nm) ∧ W.cell? ⟨H, 2, none⟩ = some (.string tx) ∧ W.cell? ⟨H, 3, none⟩ = some (.int .i64 a) ∧ W.cell? ⟨H, 4, none⟩ = some (.int .i64 d) ∧ W.cell? ⟨P, 21, none⟩ = some (.pointer (some ⟨x.qu.pb, 0, none⟩))) := hid (fun W Z X Y cs' hZ hW => by
    refine ⟨?_, ?_, ?_, ?_, ?_, ?_⟩
    · rw [cell_at hW.tail.1.2.1]; rfl
    · rw [cell_at hW.tail.1.2.1]; rfl
    · rw [cell_at hW.tail.1.2.1]; rfl
    · rw [cell_at hW.tail.1.2.1]; rfl
    · rw [cell_at hW.tail.1.2.1]; rfl
    · rw [cell_at hW.1.2.1]; simpa using hZ)
  have A2 := hid A1.out.drew
  have p0 := hid (SF.out _ _ _ _ _ rfl A2.out)
  have N := hid (next53 (A2.out.perm (List.perm_middle (l₁ := [blkC P (x.cells.set 13 (.int .i64 (x.qu.num + 1))) 111, blkC H [.int .i64 k, .string nm, .string tx, .int .i64 a, .int .i64 d] 42, boC x.rq.pb b m n1]))) H1.out H2.out H3.out)
  go_region_held3 (fun W => W.cell? ⟨H, 0, none⟩ = some (.int .i64 k) ∧ W.cell? ⟨H, 1, none⟩ = some (.string nm) ∧ W.cell? ⟨H, 2, none⟩ = some (.string tx) ∧ W.cell? ⟨H, 3, none⟩ = some (.int .i64 a) ∧ W.cell? ⟨H, 4, none⟩ = some (.int .i64 d) ∧ W.cell? ⟨P, 21, none⟩ = some (.pointer (some ⟨x.qu.pb, 0, none⟩))) (first | with_reducible exact p0.out | with_reducible exact p1.out | with_reducible exact p2.out | with_reducible exact p3.out | with_reducible exact p4.out)
    (first
      | (go_at_call 118; refine N.out.mono ?_; rintro e w2 ⟨rfl, hw2⟩; have A3 := hid (hw2.perm (List.perm_middle (l₁ := [blkC P (x.cells.set 13 (.int .i64 (x.qu.num + 1))) 111, blkC H [.int .i64 k, .string nm, .string tx, .int .i64 a, .int .i64 d] 42, boC x.rq.pb b m n1])).symm); have p1 := hid (SF.out _ _ _ _ _ rfl A3.out); have d14 : w2.cell? ⟨P, 14, none⟩ = some (.bool false) := (by rw [cell_at A3.out.1.2.1, ← hw.out]; rfl); have g14 : w2.frozen? ⟨P, 14, none⟩ = false := free_at A3.out.1.2.1 14; have d15 : w2.cell? ⟨P, 15, none⟩ = some (.int .i64 x.qu.ok) := (by rw [cell_at A3.out.1.2.1]; rfl); have g15 : w2.frozen? ⟨P, 15, none⟩ = false := free_at A3.out.1.2.1 15; have d16 : w2.cell? ⟨P, 16, none⟩ = some (.string x.qu.onm) := (by rw [cell_at A3.out.1.2.1]; rfl); have g16 : w2.frozen? ⟨P, 16, none⟩ = false := free_at A3.out.1.2.1 16; have d17 : w2.cell? ⟨P, 17, none⟩ = some (.string x.qu.otx) := (by rw [cell_at A3.out.1.2.1]; rfl); have g17 : w2.frozen? ⟨P, 17, none⟩ = false := free_at A3.out.1.2.1 17; have d18 : w2.cell? ⟨P, 18, none⟩ = some (.int .i64 x.qu.on) := (by rw [cell_at A3.out.1.2.1]; rfl); have g18 : w2.frozen? ⟨P, 18, none⟩ = false := free_at A3.out.1.2.1 18; have d19 : w2.cell? ⟨P, 19, none⟩ = some (.int .i64 x.qu.om) := (by rw [cell_at A3.out.1.2.1]; rfl); have g19 : w2.frozen? ⟨P, 19, none⟩ = false := free_at A3.out.1.2.1 19; have d20 : w2.cell? ⟨P, 20, none⟩ = some (.int .i64 x.qu.left) := (by rw [cell_at A3.out.1.2.1]; rfl); have g20 : w2.frozen? ⟨P, 20, none⟩ = false := free_at A3.out.1.2.1 20; have A4 := hid (A3.out.setBlk 14 (.bool true)); have p2 := hid (SF.out _ _ _ _ _ rfl A4.out); have A5 := hid (((((A4.out.setBlk 15 (.int .i64 k)).setBlk 16 (.string nm)).setBlk 17 (.string tx)).setBlk 18 (.int .i64 a)).setBlk 19 (.int .i64 d)); have p3 := hid (SF.out _ _ _ _ _ rfl A5.out); have A6 := hid (A5.out.setBlk 20 (.int .i64 n2)); have p4 := hid (SF.out _ _ _ _ _ rfl A6.out); clear hw2))
  have A7 := hid (A6.out.swap.tail)
  generalize ((((((w2.setCell ⟨P, 14, none⟩ (.bool true)).setCell ⟨P, 15, none⟩ (.int .i64 k)).setCell ⟨P, 16, none⟩ (.string nm)).setCell ⟨P, 17, none⟩ (.string tx)).setCell ⟨P, 18, none⟩ (.int .i64 a)).setCell ⟨P, 19, none⟩ (.int .i64 d)).setCell ⟨P, 20, none⟩ (.int .i64 n2) = w3 at A7 ⊢
  clear p0 p1 p2 p3 p4 A6 A5 A4 A3 A2 A1 SF N d14 g14 d15 g15 d16 g16 d17 g17 d18 g18 d19 g19 d20 g20
  go_wp2
  go_ret
  exact ⟨rfl, A7.out⟩
end Go.Proofs.YtdhkdniddjnigaaGreatDoor
