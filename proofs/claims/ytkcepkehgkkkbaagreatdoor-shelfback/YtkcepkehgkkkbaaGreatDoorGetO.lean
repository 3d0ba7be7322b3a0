import Derived.Test.YtkcepkehgkkkbaaGreatDoorJ42
namespace Go.Proofs.YtkcepkehgkkkbaaGreatDoor
open Go.RowKit
set_option linter.unusedVariables false

set_option maxHeartbeats 3200000 in
set_option maxRecDepth 1000000 in
theorem get0 {b : Nat} {D : Option Nat} {rv : Value} {r : Rst} {cs : List Comp} {w : World} (h : All (rdC b D rv r :: cs) w) (ht : ∀ w', All cs w' → Tab w') (hp : r.size ≤ 140737488355328) (hk : r.numV 8 = 0) :
    Calls Tryz.prog 12 #[.pointer (some ⟨b, 0, none⟩)] w fun e w' => e = .returned (gotV ((r.num 8).fail (chkA 0 (ByteArray.size emp) (ByteArray.size emp) 0 0)) 0 emp emp 0 0) ∧ ∃ rv', All (rdC b D rv' ((r.num 8).fail (chkA 0 (ByteArray.size emp) (ByteArray.size emp) 0 0)) :: cs) w' := by
  have A := hid (h.addBlk [.int .i64 0, .string ⟨#[]⟩, .string ⟨#[]⟩, .int .i64 0, .int .i64 0] 35).swap
  have HT := hid ht
  have HK := hid hk
  have P1 := hid (num_size r 8)
  clear h ht hk
  generalize h5 : (r.num 8) = r5
  have H5 := hid h5
  clear h5
  generalize hck : chkA 0 (ByteArray.size emp) (ByteArray.size emp) 0 0 = ck
  have Hck := hid hck
  clear hck
  generalize hRR : r5.fail ck = R
  have HRR := hid hRR
  clear hRR
  go_enter Tryz.func12, Tryz.ntmps12
  go_wp2_with fail
  refine (numRd A.out hp 8).mono ?_
  rw [HK.out]
  rintro e w1 ⟨rfl, rv1, A1⟩
  have A := hid A1
  clear A1 HK
  have TB := HT.out _ A.out.tail.tail
  have t0 : w1.cell? ⟨0, 0, none⟩ = some (.int .i64 0) := TB.cell 0 (by omega)
  have t1 : w1.cell? ⟨0, 1, none⟩ = some (.int .i64 0) := TB.cell 1 (by omega)
  have t2 : w1.cell? ⟨0, 2, none⟩ = some (.int .i64 0) := TB.cell 2 (by omega)
  have t3 : w1.cell? ⟨0, 3, none⟩ = some (.int .i64 0) := TB.cell 3 (by omega)
  have t4 : w1.cell? ⟨0, 4, none⟩ = some (.int .i64 0) := TB.cell 4 (by omega)
  have t5 : w1.cell? ⟨0, 5, none⟩ = some (.int .i64 0) := TB.cell 5 (by omega)
  have t6 : w1.cell? ⟨0, 6, none⟩ = some (.int .i64 0) := TB.cell 6 (by omega)
  have t7 : w1.cell? ⟨0, 7, none⟩ = some (.int .i64 0) := TB.cell 7 (by omega)
  have tlt := TB.lt
  have A2 := (A.out.addBlk [.int .i64 0, .string emp, .string emp, .int .i64 0, .int .i64 0] 35).addBlk [.int .i64 0, .int .i64 0, .int .i64 0, .int .i64 0, .int .i64 0, .int .i64 0, .int .i64 0, .int .i64 0] 103
  have hsz : (w1.alloc (.cells [.int .i64 0, .string emp, .string emp, .int .i64 0, .int .i64 0].toArray 35)).heap.size = w1.heap.size + 1 := by simp
  rw [hsz] at A2
  clear A TB hsz
  generalize hO : w1.heap.size = o at A2 tlt
  have A := hid (A2.perm (ds := rdC b D rv1 (r.num 8) :: blkC (o + 1) [.int .i64 0, .int .i64 0, .int .i64 0, .int .i64 0, .int .i64 0, .int .i64 0, .int .i64 0, .int .i64 0] 103 :: blkC o [.int .i64 0, .string emp, .string emp, .int .i64 0, .int .i64 0] 35 :: blkC w.heap.size [.int .i64 0, .string ⟨#[]⟩, .string ⟨#[]⟩, .int .i64 0, .int .i64 0] 35 :: cs) (List.perm_middle (l₁ := [blkC (o + 1) [.int .i64 0, .int .i64 0, .int .i64 0, .int .i64 0, .int .i64 0, .int .i64 0, .int .i64 0, .int .i64 0] 103, blkC o [.int .i64 0, .string emp, .string emp, .int .i64 0, .int .i64 0] 35])))
  clear A2
  go_wp2_with fail
  refine (has_any 0 0).mono ?_
  rintro e w2 ⟨rfl, Bh⟩
  rw [show hs 0 = false by decide +kernel]
  have A := hid (A.out.later Bh)
  clear Bh hO t0 t1 t2 t3 t4 t5 t6 t7 tlt
  have hb := A.out.blk (g := o + 1) (vs := [.int .i64 0, .int .i64 0, .int .i64 0, .int .i64 0, .int .i64 0, .int .i64 0, .int .i64 0, .int .i64 0]) (t := 103) mem2
  have r2 : w2.cell? ⟨o + 1, 2, none⟩ = some (.int .i64 0) := by rw [cell_at hb]; rfl
  have r3 : w2.cell? ⟨o + 1, 3, none⟩ = some (.int .i64 0) := by rw [cell_at hb]; rfl
  clear hb
  go_wp2_with fail
  refine (has_any 0 0).mono ?_
  rintro e w3 ⟨rfl, Bh⟩
  rw [show hs 0 = false by decide +kernel]
  have A := hid (A.out.later Bh)
  clear Bh r2 r3
  have hb := A.out.blk (g := o + 1) (vs := [.int .i64 0, .int .i64 0, .int .i64 0, .int .i64 0, .int .i64 0, .int .i64 0, .int .i64 0, .int .i64 0]) (t := 103) mem2
  have r4 : w3.cell? ⟨o + 1, 4, none⟩ = some (.int .i64 0) := by rw [cell_at hb]; rfl
  have r5 : w3.cell? ⟨o + 1, 5, none⟩ = some (.int .i64 0) := by rw [cell_at hb]; rfl
  clear hb
  go_wp2_with fail
  refine (has_any 0 0).mono ?_
  rintro e w4 ⟨rfl, Bh⟩
  rw [show hs 0 = false by decide +kernel]
  have A := hid (A.out.later Bh)
  clear Bh r4 r5
  have hb := A.out.blk (g := o + 1) (vs := [.int .i64 0, .int .i64 0, .int .i64 0, .int .i64 0, .int .i64 0, .int .i64 0, .int .i64 0, .int .i64 0]) (t := 103) mem2
  have r6 : w4.cell? ⟨o + 1, 6, none⟩ = some (.int .i64 0) := by rw [cell_at hb]; rfl
  have r7 : w4.cell? ⟨o + 1, 7, none⟩ = some (.int .i64 0) := by rw [cell_at hb]; rfl
  clear hb
  go_wp2_with fail
  refine (has_any 0 0).mono ?_
  rintro e w5 ⟨rfl, Bh⟩
  rw [show hs 0 = false by decide +kernel]
  have A := hid (A.out.later Bh)
  clear Bh r6 r7
  rw [H5.out] at A
  clear H5
  have hb := A.out.blk (g := o) (vs := [.int .i64 0, .string emp, .string emp, .int .i64 0, .int .i64 0]) (t := 35) mem3
  have o0 : w5.cell? ⟨o, 0, none⟩ = some (.int .i64 0) := by rw [cell_at hb]; rfl
  have o1 : w5.cell? ⟨o, 1, none⟩ = some (.string emp) := by rw [cell_at hb]; rfl
  have o2 : w5.cell? ⟨o, 2, none⟩ = some (.string emp) := by rw [cell_at hb]; rfl
  have o3 : w5.cell? ⟨o, 3, none⟩ = some (.int .i64 0) := by rw [cell_at hb]; rfl
  have o4 : w5.cell? ⟨o, 4, none⟩ = some (.int .i64 0) := by rw [cell_at hb]; rfl
  clear hb
  go_wp2_with fail
  refine (check_any (HT.out _ A.out.tail.tail.tail.tail) 0 emp emp 0 0).mono ?_
  rw [Hck.out]
  rintro e w6 ⟨rfl, Bh⟩
  have A := hid (A.out.later Bh)
  clear Bh o0 o1 o2 o3 o4
  go_wp2_with fail
  refine (failRd A.out ck).mono ?_
  rw [HRR.out]
  rintro e w7 ⟨rfl, rv7, A1⟩
  have A := hid A1
  clear A1
  go_wp2_with fail
  refine (wholeRd A.out).mono ?_
  rintro e wz ⟨rfl, A1⟩
  have A := hid (A1.perm (ds := blkC w.heap.size [.int .i64 0, .string ⟨#[]⟩, .string ⟨#[]⟩, .int .i64 0, .int .i64 0] 35 :: rdC b D rv7 R :: blkC (o + 1) [.int .i64 0, .int .i64 0, .int .i64 0, .int .i64 0, .int .i64 0, .int .i64 0, .int .i64 0, .int .i64 0] 103 :: blkC o [.int .i64 0, .string emp, .string emp, .int .i64 0, .int .i64 0] 35 :: cs) (List.perm_middle (l₁ := [rdC b D rv7 R, blkC (o + 1) [.int .i64 0, .int .i64 0, .int .i64 0, .int .i64 0, .int .i64 0, .int .i64 0, .int .i64 0, .int .i64 0] 103, blkC o [.int .i64 0, .string emp, .string emp, .int .i64 0, .int .i64 0] 35])))
  clear A1 HT HRR Hck P1
  by_cases her : R.err = 0
  · have e1 : (R.err == 0) = true := by rw [beq_iff_eq]; exact her
    rw [e1]
    have her := hid her
    clear e1
    have hb := A.out.blk (g := w.heap.size) (vs := [.int .i64 0, .string ⟨#[]⟩, .string ⟨#[]⟩, .int .i64 0, .int .i64 0]) (t := 35) List.mem_cons_self
    have z0 : wz.cell? ⟨w.heap.size, 0, none⟩ = some (.int .i64 0) := by rw [cell_at hb]; rfl
    have zf0 : wz.frozen? ⟨w.heap.size, 0, none⟩ = false := free_at hb 0
    have z1 : wz.cell? ⟨w.heap.size, 1, none⟩ = some (.string ⟨#[]⟩) := by rw [cell_at hb]; rfl
    have zf1 : wz.frozen? ⟨w.heap.size, 1, none⟩ = false := free_at hb 1
    have z2 : wz.cell? ⟨w.heap.size, 2, none⟩ = some (.string ⟨#[]⟩) := by rw [cell_at hb]; rfl
    have zf2 : wz.frozen? ⟨w.heap.size, 2, none⟩ = false := free_at hb 2
    have z3 : wz.cell? ⟨w.heap.size, 3, none⟩ = some (.int .i64 0) := by rw [cell_at hb]; rfl
    have zf3 : wz.frozen? ⟨w.heap.size, 3, none⟩ = false := free_at hb 3
    have z4 : wz.cell? ⟨w.heap.size, 4, none⟩ = some (.int .i64 0) := by rw [cell_at hb]; rfl
    have zf4 : wz.frozen? ⟨w.heap.size, 4, none⟩ = false := free_at hb 4
    clear hb
    have hb := A.out.blk (g := o) (vs := [.int .i64 0, .string emp, .string emp, .int .i64 0, .int .i64 0]) (t := 35) mem4
    have o0 : wz.cell? ⟨o, 0, none⟩ = some (.int .i64 0) := by rw [cell_at hb]; rfl
    have o1 : wz.cell? ⟨o, 1, none⟩ = some (.string emp) := by rw [cell_at hb]; rfl
    have o2 : wz.cell? ⟨o, 2, none⟩ = some (.string emp) := by rw [cell_at hb]; rfl
    have o3 : wz.cell? ⟨o, 3, none⟩ = some (.int .i64 0) := by rw [cell_at hb]; rfl
    have o4 : wz.cell? ⟨o, 4, none⟩ = some (.int .i64 0) := by rw [cell_at hb]; rfl
    clear hb
    have A := hid ((((((A.out.setBlk 0 (.int .i64 0)).setBlk 1 (.string emp)).setBlk 2 (.string emp)).setBlk 3 (.int .i64 0)).setBlk 4 (.int .i64 0)))
    go_wp2
    refine bodyPost_ret (v := opV 0 emp emp 0 0) (res26 (b := w.heap.size) rfl A.out.1.2.1) rfl ?_
    refine ⟨by rw [gotV, if_pos her.out], rv7, ?_⟩
    exact ((A.out.tail).swap.tail).swap.tail
  · have e1 : (R.err == 0) = false := by rw [beq_eq_false_iff_ne]; exact her
    rw [e1]
    have her := hid her
    clear e1
    have hb := A.out.blk (g := w.heap.size) (vs := [.int .i64 0, .string ⟨#[]⟩, .string ⟨#[]⟩, .int .i64 0, .int .i64 0]) (t := 35) List.mem_cons_self
    have z0 : wz.cell? ⟨w.heap.size, 0, none⟩ = some (.int .i64 0) := by rw [cell_at hb]; rfl
    have zf0 : wz.frozen? ⟨w.heap.size, 0, none⟩ = false := free_at hb 0
    have z1 : wz.cell? ⟨w.heap.size, 1, none⟩ = some (.string ⟨#[]⟩) := by rw [cell_at hb]; rfl
    have zf1 : wz.frozen? ⟨w.heap.size, 1, none⟩ = false := free_at hb 1
    have z2 : wz.cell? ⟨w.heap.size, 2, none⟩ = some (.string ⟨#[]⟩) := by rw [cell_at hb]; rfl
    have zf2 : wz.frozen? ⟨w.heap.size, 2, none⟩ = false := free_at hb 2
    have z3 : wz.cell? ⟨w.heap.size, 3, none⟩ = some (.int .i64 0) := by rw [cell_at hb]; rfl
    have zf3 : wz.frozen? ⟨w.heap.size, 3, none⟩ = false := free_at hb 3
    have z4 : wz.cell? ⟨w.heap.size, 4, none⟩ = some (.int .i64 0) := by rw [cell_at hb]; rfl
    have zf4 : wz.frozen? ⟨w.heap.size, 4, none⟩ = false := free_at hb 4
    clear hb
    have A := hid ((((((A.out.setBlk 0 (.int .i64 0)).setBlk 1 (.string emp)).setBlk 2 (.string emp)).setBlk 3 (.int .i64 0)).setBlk 4 (.int .i64 0)))
    go_wp2
    refine bodyPost_ret (v := opV 0 emp emp 0 0) (res26 (b := w.heap.size) rfl A.out.1.2.1) rfl ?_
    refine ⟨by rw [gotV, if_neg her.out], rv7, ?_⟩
    exact ((A.out.tail).swap.tail).swap.tail

set_option maxHeartbeats 3200000 in
set_option maxRecDepth 1000000 in
theorem get1 {b : Nat} {D : Option Nat} {rv : Value} {r : Rst} {cs : List Comp} {w : World} (h : All (rdC b D rv r :: cs) w) (ht : ∀ w', All cs w' → Tab w') (hp : r.size ≤ 140737488355328) (hk : r.numV 8 = 1) :
    Calls Tryz.prog 12 #[.pointer (some ⟨b, 0, none⟩)] w fun e w' => e = .returned (gotV (((r.num 8).txt 16).fail (chkA 1 (ByteArray.size ((r.num 8).txtV 16)) (ByteArray.size emp) 0 0)) 1 ((r.num 8).txtV 16) emp 0 0) ∧ ∃ rv', All (rdC b D rv' (((r.num 8).txt 16).fail (chkA 1 (ByteArray.size ((r.num 8).txtV 16)) (ByteArray.size emp) 0 0)) :: cs) w' := by
  have A := hid (h.addBlk [.int .i64 0, .string ⟨#[]⟩, .string ⟨#[]⟩, .int .i64 0, .int .i64 0] 35).swap
  have HT := hid ht
  have HK := hid hk
  have P1 := hid (num_size r 8)
  clear h ht hk
  generalize hnm : ((r.num 8).txtV 16) = nm
  have Hnm := hid hnm
  clear hnm
  generalize h5 : ((r.num 8).txt 16) = r5
  have H5 := hid h5
  clear h5
  generalize hck : chkA 1 (ByteArray.size nm) (ByteArray.size emp) 0 0 = ck
  have Hck := hid hck
  clear hck
  generalize hRR : r5.fail ck = R
  have HRR := hid hRR
  clear hRR
  go_enter Tryz.func12, Tryz.ntmps12
  go_wp2_with fail
  refine (numRd A.out hp 8).mono ?_
  rw [HK.out]
  rintro e w1 ⟨rfl, rv1, A1⟩
  have A := hid A1
  clear A1 HK
  have TB := HT.out _ A.out.tail.tail
  have t0 : w1.cell? ⟨0, 8, none⟩ = some (.int .i64 1) := TB.cell 8 (by omega)
  have t1 : w1.cell? ⟨0, 9, none⟩ = some (.int .i64 16) := TB.cell 9 (by omega)
  have t2 : w1.cell? ⟨0, 10, none⟩ = some (.int .i64 0) := TB.cell 10 (by omega)
  have t3 : w1.cell? ⟨0, 11, none⟩ = some (.int .i64 0) := TB.cell 11 (by omega)
  have t4 : w1.cell? ⟨0, 12, none⟩ = some (.int .i64 0) := TB.cell 12 (by omega)
  have t5 : w1.cell? ⟨0, 13, none⟩ = some (.int .i64 0) := TB.cell 13 (by omega)
  have t6 : w1.cell? ⟨0, 14, none⟩ = some (.int .i64 0) := TB.cell 14 (by omega)
  have t7 : w1.cell? ⟨0, 15, none⟩ = some (.int .i64 0) := TB.cell 15 (by omega)
  have tlt := TB.lt
  have A2 := (A.out.addBlk [.int .i64 1, .string emp, .string emp, .int .i64 0, .int .i64 0] 35).addBlk [.int .i64 1, .int .i64 16, .int .i64 0, .int .i64 0, .int .i64 0, .int .i64 0, .int .i64 0, .int .i64 0] 103
  have hsz : (w1.alloc (.cells [.int .i64 1, .string emp, .string emp, .int .i64 0, .int .i64 0].toArray 35)).heap.size = w1.heap.size + 1 := by simp
  rw [hsz] at A2
  clear A TB hsz
  generalize hO : w1.heap.size = o at A2 tlt
  have A := hid (A2.perm (ds := rdC b D rv1 (r.num 8) :: blkC (o + 1) [.int .i64 1, .int .i64 16, .int .i64 0, .int .i64 0, .int .i64 0, .int .i64 0, .int .i64 0, .int .i64 0] 103 :: blkC o [.int .i64 1, .string emp, .string emp, .int .i64 0, .int .i64 0] 35 :: blkC w.heap.size [.int .i64 0, .string ⟨#[]⟩, .string ⟨#[]⟩, .int .i64 0, .int .i64 0] 35 :: cs) (List.perm_middle (l₁ := [blkC (o + 1) [.int .i64 1, .int .i64 16, .int .i64 0, .int .i64 0, .int .i64 0, .int .i64 0, .int .i64 0, .int .i64 0] 103, blkC o [.int .i64 1, .string emp, .string emp, .int .i64 0, .int .i64 0] 35])))
  clear A2
  go_wp2_with fail
  refine (has_any 1 16).mono ?_
  rintro e w2 ⟨rfl, Bh⟩
  rw [show hs 16 = true by decide +kernel]
  have A := hid (A.out.later Bh)
  clear Bh hO t0 t1 t2 t3 t4 t5 t6 t7 tlt
  have hb := A.out.blk (g := o + 1) (vs := [.int .i64 1, .int .i64 16, .int .i64 0, .int .i64 0, .int .i64 0, .int .i64 0, .int .i64 0, .int .i64 0]) (t := 103) mem2
  have q : w2.cell? ⟨o + 1, 1, none⟩ = some (.int .i64 16) := by rw [cell_at hb]; rfl
  clear hb
  go_wp2_with fail
  refine (textRd A.out (by have := P1.out; unfold Rst.size at *; omega) 16).mono ?_
  rw [Hnm.out]
  rintro e w3 ⟨rfl, rv3, A1⟩
  have P1 := hid (Nat.le_trans (txt_size (r.num 8) 16) P1.out)
  have A := hid (A1.perm (ds := blkC o [.int .i64 1, .string emp, .string emp, .int .i64 0, .int .i64 0] 35 :: rdC b D rv3 ((r.num 8).txt 16) :: blkC (o + 1) [.int .i64 1, .int .i64 16, .int .i64 0, .int .i64 0, .int .i64 0, .int .i64 0, .int .i64 0, .int .i64 0] 103 :: blkC w.heap.size [.int .i64 0, .string ⟨#[]⟩, .string ⟨#[]⟩, .int .i64 0, .int .i64 0] 35 :: cs) (List.perm_middle (l₁ := [rdC b D rv3 ((r.num 8).txt 16), blkC (o + 1) [.int .i64 1, .int .i64 16, .int .i64 0, .int .i64 0, .int .i64 0, .int .i64 0, .int .i64 0, .int .i64 0] 103])))
  clear A1 q
  have hb := A.out.blk (g := o) (vs := [.int .i64 1, .string emp, .string emp, .int .i64 0, .int .i64 0]) (t := 35) List.mem_cons_self
  have q : w3.cell? ⟨o, 1, none⟩ = some (.string emp) := by rw [cell_at hb]; rfl
  have qf : w3.frozen? ⟨o, 1, none⟩ = false := free_at hb 1
  clear hb
  have A := hid (show All (blkC o [.int .i64 1, .string nm, .string emp, .int .i64 0, .int .i64 0] 35 :: rdC b D rv3 ((r.num 8).txt 16) :: blkC (o + 1) [.int .i64 1, .int .i64 16, .int .i64 0, .int .i64 0, .int .i64 0, .int .i64 0, .int .i64 0, .int .i64 0] 103 :: blkC w.heap.size [.int .i64 0, .string ⟨#[]⟩, .string ⟨#[]⟩, .int .i64 0, .int .i64 0] 35 :: cs) (w3.setCell ⟨o, 1, none⟩ (.string nm)) from A.out.setBlk 1 (.string nm))
  have A := hid (A.out.perm (ds := rdC b D rv3 ((r.num 8).txt 16) :: blkC (o + 1) [.int .i64 1, .int .i64 16, .int .i64 0, .int .i64 0, .int .i64 0, .int .i64 0, .int .i64 0, .int .i64 0] 103 :: blkC o [.int .i64 1, .string nm, .string emp, .int .i64 0, .int .i64 0] 35 :: blkC w.heap.size [.int .i64 0, .string ⟨#[]⟩, .string ⟨#[]⟩, .int .i64 0, .int .i64 0] 35 :: cs) (List.perm_middle (l₁ := [rdC b D rv3 ((r.num 8).txt 16), blkC (o + 1) [.int .i64 1, .int .i64 16, .int .i64 0, .int .i64 0, .int .i64 0, .int .i64 0, .int .i64 0, .int .i64 0] 103])).symm)
  generalize hG : w3.setCell ⟨o, 1, none⟩ (.string nm) = w4 at A
  have hb := A.out.blk (g := o + 1) (vs := [.int .i64 1, .int .i64 16, .int .i64 0, .int .i64 0, .int .i64 0, .int .i64 0, .int .i64 0, .int .i64 0]) (t := 103) mem2
  have r2 : w4.cell? ⟨o + 1, 2, none⟩ = some (.int .i64 0) := by rw [cell_at hb]; rfl
  have r3 : w4.cell? ⟨o + 1, 3, none⟩ = some (.int .i64 0) := by rw [cell_at hb]; rfl
  clear hb
  go_wp2_with fail
  refine (has_any 0 0).mono ?_
  rintro e w5 ⟨rfl, Bh⟩
  rw [show hs 0 = false by decide +kernel]
  have A := hid (A.out.later Bh)
  clear Bh r2 r3
  have hb := A.out.blk (g := o + 1) (vs := [.int .i64 1, .int .i64 16, .int .i64 0, .int .i64 0, .int .i64 0, .int .i64 0, .int .i64 0, .int .i64 0]) (t := 103) mem2
  have r4 : w5.cell? ⟨o + 1, 4, none⟩ = some (.int .i64 0) := by rw [cell_at hb]; rfl
  have r5 : w5.cell? ⟨o + 1, 5, none⟩ = some (.int .i64 0) := by rw [cell_at hb]; rfl
  clear hb
  go_wp2_with fail
  refine (has_any 0 0).mono ?_
  rintro e w6 ⟨rfl, Bh⟩
  rw [show hs 0 = false by decide +kernel]
  have A := hid (A.out.later Bh)
  clear Bh r4 r5
  have hb := A.out.blk (g := o + 1) (vs := [.int .i64 1, .int .i64 16, .int .i64 0, .int .i64 0, .int .i64 0, .int .i64 0, .int .i64 0, .int .i64 0]) (t := 103) mem2
  have r6 : w6.cell? ⟨o + 1, 6, none⟩ = some (.int .i64 0) := by rw [cell_at hb]; rfl
  have r7 : w6.cell? ⟨o + 1, 7, none⟩ = some (.int .i64 0) := by rw [cell_at hb]; rfl
  clear hb
  go_wp2_with fail
  refine (has_any 0 0).mono ?_
  rintro e w7 ⟨rfl, Bh⟩
  rw [show hs 0 = false by decide +kernel]
  have A := hid (A.out.later Bh)
  clear Bh r6 r7
  rw [H5.out] at A
  clear H5
  have hb := A.out.blk (g := o) (vs := [.int .i64 1, .string nm, .string emp, .int .i64 0, .int .i64 0]) (t := 35) mem3
  have o0 : w7.cell? ⟨o, 0, none⟩ = some (.int .i64 1) := by rw [cell_at hb]; rfl
  have o1 : w7.cell? ⟨o, 1, none⟩ = some (.string nm) := by rw [cell_at hb]; rfl
  have o2 : w7.cell? ⟨o, 2, none⟩ = some (.string emp) := by rw [cell_at hb]; rfl
  have o3 : w7.cell? ⟨o, 3, none⟩ = some (.int .i64 0) := by rw [cell_at hb]; rfl
  have o4 : w7.cell? ⟨o, 4, none⟩ = some (.int .i64 0) := by rw [cell_at hb]; rfl
  clear hb
  go_wp2_with fail
  refine (check_any (HT.out _ A.out.tail.tail.tail.tail) 1 nm emp 0 0).mono ?_
  rw [Hck.out]
  rintro e w8 ⟨rfl, Bh⟩
  have A := hid (A.out.later Bh)
  clear Bh o0 o1 o2 o3 o4
  go_wp2_with fail
  refine (failRd A.out ck).mono ?_
  rw [HRR.out]
  rintro e w9 ⟨rfl, rv9, A1⟩
  have A := hid A1
  clear A1
  go_wp2_with fail
  refine (wholeRd A.out).mono ?_
  rintro e wz ⟨rfl, A1⟩
  have A := hid (A1.perm (ds := blkC w.heap.size [.int .i64 0, .string ⟨#[]⟩, .string ⟨#[]⟩, .int .i64 0, .int .i64 0] 35 :: rdC b D rv9 R :: blkC (o + 1) [.int .i64 1, .int .i64 16, .int .i64 0, .int .i64 0, .int .i64 0, .int .i64 0, .int .i64 0, .int .i64 0] 103 :: blkC o [.int .i64 1, .string nm, .string emp, .int .i64 0, .int .i64 0] 35 :: cs) (List.perm_middle (l₁ := [rdC b D rv9 R, blkC (o + 1) [.int .i64 1, .int .i64 16, .int .i64 0, .int .i64 0, .int .i64 0, .int .i64 0, .int .i64 0, .int .i64 0] 103, blkC o [.int .i64 1, .string nm, .string emp, .int .i64 0, .int .i64 0] 35])))
  clear A1 HT HRR Hck P1
  by_cases her : R.err = 0
  · have e1 : (R.err == 0) = true := by rw [beq_iff_eq]; exact her
    rw [e1]
    have her := hid her
    clear e1
    have hb := A.out.blk (g := w.heap.size) (vs := [.int .i64 0, .string ⟨#[]⟩, .string ⟨#[]⟩, .int .i64 0, .int .i64 0]) (t := 35) List.mem_cons_self
    have z0 : wz.cell? ⟨w.heap.size, 0, none⟩ = some (.int .i64 0) := by rw [cell_at hb]; rfl
    have zf0 : wz.frozen? ⟨w.heap.size, 0, none⟩ = false := free_at hb 0
    have z1 : wz.cell? ⟨w.heap.size, 1, none⟩ = some (.string ⟨#[]⟩) := by rw [cell_at hb]; rfl
    have zf1 : wz.frozen? ⟨w.heap.size, 1, none⟩ = false := free_at hb 1
    have z2 : wz.cell? ⟨w.heap.size, 2, none⟩ = some (.string ⟨#[]⟩) := by rw [cell_at hb]; rfl
    have zf2 : wz.frozen? ⟨w.heap.size, 2, none⟩ = false := free_at hb 2
    have z3 : wz.cell? ⟨w.heap.size, 3, none⟩ = some (.int .i64 0) := by rw [cell_at hb]; rfl
    have zf3 : wz.frozen? ⟨w.heap.size, 3, none⟩ = false := free_at hb 3
    have z4 : wz.cell? ⟨w.heap.size, 4, none⟩ = some (.int .i64 0) := by rw [cell_at hb]; rfl
    have zf4 : wz.frozen? ⟨w.heap.size, 4, none⟩ = false := free_at hb 4
    clear hb
    have hb := A.out.blk (g := o) (vs := [.int .i64 1, .string nm, .string emp, .int .i64 0, .int .i64 0]) (t := 35) mem4
    have o0 : wz.cell? ⟨o, 0, none⟩ = some (.int .i64 1) := by rw [cell_at hb]; rfl
    have o1 : wz.cell? ⟨o, 1, none⟩ = some (.string nm) := by rw [cell_at hb]; rfl
    have o2 : wz.cell? ⟨o, 2, none⟩ = some (.string emp) := by rw [cell_at hb]; rfl
    have o3 : wz.cell? ⟨o, 3, none⟩ = some (.int .i64 0) := by rw [cell_at hb]; rfl
    have o4 : wz.cell? ⟨o, 4, none⟩ = some (.int .i64 0) := by rw [cell_at hb]; rfl
    clear hb
    have A := hid ((((((A.out.setBlk 0 (.int .i64 1)).setBlk 1 (.string nm)).setBlk 2 (.string emp)).setBlk 3 (.int .i64 0)).setBlk 4 (.int .i64 0)))
    go_wp2
    refine bodyPost_ret (v := opV 1 nm emp 0 0) (res26 (b := w.heap.size) rfl A.out.1.2.1) rfl ?_
    refine ⟨by rw [gotV, if_pos her.out], rv9, ?_⟩
    exact ((A.out.tail).swap.tail).swap.tail
  · have e1 : (R.err == 0) = false := by rw [beq_eq_false_iff_ne]; exact her
    rw [e1]
    have her := hid her
    clear e1
    have hb := A.out.blk (g := w.heap.size) (vs := [.int .i64 0, .string ⟨#[]⟩, .string ⟨#[]⟩, .int .i64 0, .int .i64 0]) (t := 35) List.mem_cons_self
    have z0 : wz.cell? ⟨w.heap.size, 0, none⟩ = some (.int .i64 0) := by rw [cell_at hb]; rfl
    have zf0 : wz.frozen? ⟨w.heap.size, 0, none⟩ = false := free_at hb 0
    have z1 : wz.cell? ⟨w.heap.size, 1, none⟩ = some (.string ⟨#[]⟩) := by rw [cell_at hb]; rfl
    have zf1 : wz.frozen? ⟨w.heap.size, 1, none⟩ = false := free_at hb 1
    have z2 : wz.cell? ⟨w.heap.size, 2, none⟩ = some (.string ⟨#[]⟩) := by rw [cell_at hb]; rfl
    have zf2 : wz.frozen? ⟨w.heap.size, 2, none⟩ = false := free_at hb 2
    have z3 : wz.cell? ⟨w.heap.size, 3, none⟩ = some (.int .i64 0) := by rw [cell_at hb]; rfl
    have zf3 : wz.frozen? ⟨w.heap.size, 3, none⟩ = false := free_at hb 3
    have z4 : wz.cell? ⟨w.heap.size, 4, none⟩ = some (.int .i64 0) := by rw [cell_at hb]; rfl
    have zf4 : wz.frozen? ⟨w.heap.size, 4, none⟩ = false := free_at hb 4
    clear hb
    have A := hid ((((((A.out.setBlk 0 (.int .i64 0)).setBlk 1 (.string emp)).setBlk 2 (.string emp)).setBlk 3 (.int .i64 0)).setBlk 4 (.int .i64 0)))
    go_wp2
    refine bodyPost_ret (v := opV 0 emp emp 0 0) (res26 (b := w.heap.size) rfl A.out.1.2.1) rfl ?_
    refine ⟨by rw [gotV, if_neg her.out], rv9, ?_⟩
    exact ((A.out.tail).swap.tail).swap.tail

set_option maxHeartbeats 3200000 in
set_option maxRecDepth 1000000 in
theorem get2 {b : Nat} {D : Option Nat} {rv : Value} {r : Rst} {cs : List Comp} {w : World} (h : All (rdC b D rv r :: cs) w) (ht : ∀ w', All cs w' → Tab w') (hp : r.size ≤ 140737488355328) (hk : r.numV 8 = 2) :
    Calls Tryz.prog 12 #[.pointer (some ⟨b, 0, none⟩)] w fun e w' => e = .returned (gotV (((r.num 8).txt 16).fail (chkA 2 (ByteArray.size ((r.num 8).txtV 16)) (ByteArray.size emp) 0 0)) 2 ((r.num 8).txtV 16) emp 0 0) ∧ ∃ rv', All (rdC b D rv' (((r.num 8).txt 16).fail (chkA 2 (ByteArray.size ((r.num 8).txtV 16)) (ByteArray.size emp) 0 0)) :: cs) w' := by
  have A := hid (h.addBlk [.int .i64 0, .string ⟨#[]⟩, .string ⟨#[]⟩, .int .i64 0, .int .i64 0] 35).swap
  have HT := hid ht
  have HK := hid hk
  have P1 := hid (num_size r 8)
  clear h ht hk
  generalize hnm : ((r.num 8).txtV 16) = nm
  have Hnm := hid hnm
  clear hnm
  generalize h5 : ((r.num 8).txt 16) = r5
  have H5 := hid h5
  clear h5
  generalize hck : chkA 2 (ByteArray.size nm) (ByteArray.size emp) 0 0 = ck
  have Hck := hid hck
  clear hck
  generalize hRR : r5.fail ck = R
  have HRR := hid hRR
  clear hRR
  go_enter Tryz.func12, Tryz.ntmps12
  go_wp2_with fail
  refine (numRd A.out hp 8).mono ?_
  rw [HK.out]
  rintro e w1 ⟨rfl, rv1, A1⟩
  have A := hid A1
  clear A1 HK
  have TB := HT.out _ A.out.tail.tail
  have t0 : w1.cell? ⟨0, 16, none⟩ = some (.int .i64 1) := TB.cell 16 (by omega)
  have t1 : w1.cell? ⟨0, 17, none⟩ = some (.int .i64 16) := TB.cell 17 (by omega)
  have t2 : w1.cell? ⟨0, 18, none⟩ = some (.int .i64 0) := TB.cell 18 (by omega)
  have t3 : w1.cell? ⟨0, 19, none⟩ = some (.int .i64 0) := TB.cell 19 (by omega)
  have t4 : w1.cell? ⟨0, 20, none⟩ = some (.int .i64 0) := TB.cell 20 (by omega)
  have t5 : w1.cell? ⟨0, 21, none⟩ = some (.int .i64 0) := TB.cell 21 (by omega)
  have t6 : w1.cell? ⟨0, 22, none⟩ = some (.int .i64 0) := TB.cell 22 (by omega)
  have t7 : w1.cell? ⟨0, 23, none⟩ = some (.int .i64 0) := TB.cell 23 (by omega)
  have tlt := TB.lt
  have A2 := (A.out.addBlk [.int .i64 2, .string emp, .string emp, .int .i64 0, .int .i64 0] 35).addBlk [.int .i64 1, .int .i64 16, .int .i64 0, .int .i64 0, .int .i64 0, .int .i64 0, .int .i64 0, .int .i64 0] 103
  have hsz : (w1.alloc (.cells [.int .i64 2, .string emp, .string emp, .int .i64 0, .int .i64 0].toArray 35)).heap.size = w1.heap.size + 1 := by simp
  rw [hsz] at A2
  clear A TB hsz
  generalize hO : w1.heap.size = o at A2 tlt
  have A := hid (A2.perm (ds := rdC b D rv1 (r.num 8) :: blkC (o + 1) [.int .i64 1, .int .i64 16, .int .i64 0, .int .i64 0, .int .i64 0, .int .i64 0, .int .i64 0, .int .i64 0] 103 :: blkC o [.int .i64 2, .string emp, .string emp, .int .i64 0, .int .i64 0] 35 :: blkC w.heap.size [.int .i64 0, .string ⟨#[]⟩, .string ⟨#[]⟩, .int .i64 0, .int .i64 0] 35 :: cs) (List.perm_middle (l₁ := [blkC (o + 1) [.int .i64 1, .int .i64 16, .int .i64 0, .int .i64 0, .int .i64 0, .int .i64 0, .int .i64 0, .int .i64 0] 103, blkC o [.int .i64 2, .string emp, .string emp, .int .i64 0, .int .i64 0] 35])))
  clear A2
  go_wp2_with fail
  refine (has_any 1 16).mono ?_
  rintro e w2 ⟨rfl, Bh⟩
  rw [show hs 16 = true by decide +kernel]
  have A := hid (A.out.later Bh)
  clear Bh hO t0 t1 t2 t3 t4 t5 t6 t7 tlt
  have hb := A.out.blk (g := o + 1) (vs := [.int .i64 1, .int .i64 16, .int .i64 0, .int .i64 0, .int .i64 0, .int .i64 0, .int .i64 0, .int .i64 0]) (t := 103) mem2
  have q : w2.cell? ⟨o + 1, 1, none⟩ = some (.int .i64 16) := by rw [cell_at hb]; rfl
  clear hb
  go_wp2_with fail
  refine (textRd A.out (by have := P1.out; unfold Rst.size at *; omega) 16).mono ?_
  rw [Hnm.out]
  rintro e w3 ⟨rfl, rv3, A1⟩
  have P1 := hid (Nat.le_trans (txt_size (r.num 8) 16) P1.out)
  have A := hid (A1.perm (ds := blkC o [.int .i64 2, .string emp, .string emp, .int .i64 0, .int .i64 0] 35 :: rdC b D rv3 ((r.num 8).txt 16) :: blkC (o + 1) [.int .i64 1, .int .i64 16, .int .i64 0, .int .i64 0, .int .i64 0, .int .i64 0, .int .i64 0, .int .i64 0] 103 :: blkC w.heap.size [.int .i64 0, .string ⟨#[]⟩, .string ⟨#[]⟩, .int .i64 0, .int .i64 0] 35 :: cs) (List.perm_middle (l₁ := [rdC b D rv3 ((r.num 8).txt 16), blkC (o + 1) [.int .i64 1, .int .i64 16, .int .i64 0, .int .i64 0, .int .i64 0, .int .i64 0, .int .i64 0, .int .i64 0] 103])))
  clear A1 q
  have hb := A.out.blk (g := o) (vs := [.int .i64 2, .string emp, .string emp, .int .i64 0, .int .i64 0]) (t := 35) List.mem_cons_self
  have q : w3.cell? ⟨o, 1, none⟩ = some (.string emp) := by rw [cell_at hb]; rfl
  have qf : w3.frozen? ⟨o, 1, none⟩ = false := free_at hb 1
  clear hb
  have A := hid (show All (blkC o [.int .i64 2, .string nm, .string emp, .int .i64 0, .int .i64 0] 35 :: rdC b D rv3 ((r.num 8).txt 16) :: blkC (o + 1) [.int .i64 1, .int .i64 16, .int .i64 0, .int .i64 0, .int .i64 0, .int .i64 0, .int .i64 0, .int .i64 0] 103 :: blkC w.heap.size [.int .i64 0, .string ⟨#[]⟩, .string ⟨#[]⟩, .int .i64 0, .int .i64 0] 35 :: cs) (w3.setCell ⟨o, 1, none⟩ (.string nm)) from A.out.setBlk 1 (.string nm))
  have A := hid (A.out.perm (ds := rdC b D rv3 ((r.num 8).txt 16) :: blkC (o + 1) [.int .i64 1, .int .i64 16, .int .i64 0, .int .i64 0, .int .i64 0, .int .i64 0, .int .i64 0, .int .i64 0] 103 :: blkC o [.int .i64 2, .string nm, .string emp, .int .i64 0, .int .i64 0] 35 :: blkC w.heap.size [.int .i64 0, .string ⟨#[]⟩, .string ⟨#[]⟩, .int .i64 0, .int .i64 0] 35 :: cs) (List.perm_middle (l₁ := [rdC b D rv3 ((r.num 8).txt 16), blkC (o + 1) [.int .i64 1, .int .i64 16, .int .i64 0, .int .i64 0, .int .i64 0, .int .i64 0, .int .i64 0, .int .i64 0] 103])).symm)
  generalize hG : w3.setCell ⟨o, 1, none⟩ (.string nm) = w4 at A
  have hb := A.out.blk (g := o + 1) (vs := [.int .i64 1, .int .i64 16, .int .i64 0, .int .i64 0, .int .i64 0, .int .i64 0, .int .i64 0, .int .i64 0]) (t := 103) mem2
  have r2 : w4.cell? ⟨o + 1, 2, none⟩ = some (.int .i64 0) := by rw [cell_at hb]; rfl
  have r3 : w4.cell? ⟨o + 1, 3, none⟩ = some (.int .i64 0) := by rw [cell_at hb]; rfl
  clear hb
  go_wp2_with fail
  refine (has_any 0 0).mono ?_
  rintro e w5 ⟨rfl, Bh⟩
  rw [show hs 0 = false by decide +kernel]
  have A := hid (A.out.later Bh)
  clear Bh r2 r3
  have hb := A.out.blk (g := o + 1) (vs := [.int .i64 1, .int .i64 16, .int .i64 0, .int .i64 0, .int .i64 0, .int .i64 0, .int .i64 0, .int .i64 0]) (t := 103) mem2
  have r4 : w5.cell? ⟨o + 1, 4, none⟩ = some (.int .i64 0) := by rw [cell_at hb]; rfl
  have r5 : w5.cell? ⟨o + 1, 5, none⟩ = some (.int .i64 0) := by rw [cell_at hb]; rfl
  clear hb
  go_wp2_with fail
  refine (has_any 0 0).mono ?_
  rintro e w6 ⟨rfl, Bh⟩
  rw [show hs 0 = false by decide +kernel]
  have A := hid (A.out.later Bh)
  clear Bh r4 r5
  have hb := A.out.blk (g := o + 1) (vs := [.int .i64 1, .int .i64 16, .int .i64 0, .int .i64 0, .int .i64 0, .int .i64 0, .int .i64 0, .int .i64 0]) (t := 103) mem2
  have r6 : w6.cell? ⟨o + 1, 6, none⟩ = some (.int .i64 0) := by rw [cell_at hb]; rfl
  have r7 : w6.cell? ⟨o + 1, 7, none⟩ = some (.int .i64 0) := by rw [cell_at hb]; rfl
  clear hb
  go_wp2_with fail
  refine (has_any 0 0).mono ?_
  rintro e w7 ⟨rfl, Bh⟩
  rw [show hs 0 = false by decide +kernel]
  have A := hid (A.out.later Bh)
  clear Bh r6 r7
  rw [H5.out] at A
  clear H5
  have hb := A.out.blk (g := o) (vs := [.int .i64 2, .string nm, .string emp, .int .i64 0, .int .i64 0]) (t := 35) mem3
  have o0 : w7.cell? ⟨o, 0, none⟩ = some (.int .i64 2) := by rw [cell_at hb]; rfl
  have o1 : w7.cell? ⟨o, 1, none⟩ = some (.string nm) := by rw [cell_at hb]; rfl
  have o2 : w7.cell? ⟨o, 2, none⟩ = some (.string emp) := by rw [cell_at hb]; rfl
  have o3 : w7.cell? ⟨o, 3, none⟩ = some (.int .i64 0) := by rw [cell_at hb]; rfl
  have o4 : w7.cell? ⟨o, 4, none⟩ = some (.int .i64 0) := by rw [cell_at hb]; rfl
  clear hb
  go_wp2_with fail
  refine (check_any (HT.out _ A.out.tail.tail.tail.tail) 2 nm emp 0 0).mono ?_
  rw [Hck.out]
  rintro e w8 ⟨rfl, Bh⟩
  have A := hid (A.out.later Bh)
  clear Bh o0 o1 o2 o3 o4
  go_wp2_with fail
  refine (failRd A.out ck).mono ?_
  rw [HRR.out]
  rintro e w9 ⟨rfl, rv9, A1⟩
  have A := hid A1
  clear A1
  go_wp2_with fail
  refine (wholeRd A.out).mono ?_
  rintro e wz ⟨rfl, A1⟩
  have A := hid (A1.perm (ds := blkC w.heap.size [.int .i64 0, .string ⟨#[]⟩, .string ⟨#[]⟩, .int .i64 0, .int .i64 0] 35 :: rdC b D rv9 R :: blkC (o + 1) [.int .i64 1, .int .i64 16, .int .i64 0, .int .i64 0, .int .i64 0, .int .i64 0, .int .i64 0, .int .i64 0] 103 :: blkC o [.int .i64 2, .string nm, .string emp, .int .i64 0, .int .i64 0] 35 :: cs) (List.perm_middle (l₁ := [rdC b D rv9 R, blkC (o + 1) [.int .i64 1, .int .i64 16, .int .i64 0, .int .i64 0, .int .i64 0, .int .i64 0, .int .i64 0, .int .i64 0] 103, blkC o [.int .i64 2, .string nm, .string emp, .int .i64 0, .int .i64 0] 35])))
  clear A1 HT HRR Hck P1
  by_cases her : R.err = 0
  · have e1 : (R.err == 0) = true := by rw [beq_iff_eq]; exact her
    rw [e1]
    have her := hid her
    clear e1
    have hb := A.out.blk (g := w.heap.size) (vs := [.int .i64 0, .string ⟨#[]⟩, .string ⟨#[]⟩, .int .i64 0, .int .i64 0]) (t := 35) List.mem_cons_self
    have z0 : wz.cell? ⟨w.heap.size, 0, none⟩ = some (.int .i64 0) := by rw [cell_at hb]; rfl
    have zf0 : wz.frozen? ⟨w.heap.size, 0, none⟩ = false := free_at hb 0
    have z1 : wz.cell? ⟨w.heap.size, 1, none⟩ = some (.string ⟨#[]⟩) := by rw [cell_at hb]; rfl
    have zf1 : wz.frozen? ⟨w.heap.size, 1, none⟩ = false := free_at hb 1
    have z2 : wz.cell? ⟨w.heap.size, 2, none⟩ = some (.string ⟨#[]⟩) := by rw [cell_at hb]; rfl
    have zf2 : wz.frozen? ⟨w.heap.size, 2, none⟩ = false := free_at hb 2
    have z3 : wz.cell? ⟨w.heap.size, 3, none⟩ = some (.int .i64 0) := by rw [cell_at hb]; rfl
    have zf3 : wz.frozen? ⟨w.heap.size, 3, none⟩ = false := free_at hb 3
    have z4 : wz.cell? ⟨w.heap.size, 4, none⟩ = some (.int .i64 0) := by rw [cell_at hb]; rfl
    have zf4 : wz.frozen? ⟨w.heap.size, 4, none⟩ = false := free_at hb 4
    clear hb
    have hb := A.out.blk (g := o) (vs := [.int .i64 2, .string nm, .string emp, .int .i64 0, .int .i64 0]) (t := 35) mem4
    have o0 : wz.cell? ⟨o, 0, none⟩ = some (.int .i64 2) := by rw [cell_at hb]; rfl
    have o1 : wz.cell? ⟨o, 1, none⟩ = some (.string nm) := by rw [cell_at hb]; rfl
    have o2 : wz.cell? ⟨o, 2, none⟩ = some (.string emp) := by rw [cell_at hb]; rfl
    have o3 : wz.cell? ⟨o, 3, none⟩ = some (.int .i64 0) := by rw [cell_at hb]; rfl
    have o4 : wz.cell? ⟨o, 4, none⟩ = some (.int .i64 0) := by rw [cell_at hb]; rfl
    clear hb
    have A := hid ((((((A.out.setBlk 0 (.int .i64 2)).setBlk 1 (.string nm)).setBlk 2 (.string emp)).setBlk 3 (.int .i64 0)).setBlk 4 (.int .i64 0)))
    go_wp2
    refine bodyPost_ret (v := opV 2 nm emp 0 0) (res26 (b := w.heap.size) rfl A.out.1.2.1) rfl ?_
    refine ⟨by rw [gotV, if_pos her.out], rv9, ?_⟩
    exact ((A.out.tail).swap.tail).swap.tail
  · have e1 : (R.err == 0) = false := by rw [beq_eq_false_iff_ne]; exact her
    rw [e1]
    have her := hid her
    clear e1
    have hb := A.out.blk (g := w.heap.size) (vs := [.int .i64 0, .string ⟨#[]⟩, .string ⟨#[]⟩, .int .i64 0, .int .i64 0]) (t := 35) List.mem_cons_self
    have z0 : wz.cell? ⟨w.heap.size, 0, none⟩ = some (.int .i64 0) := by rw [cell_at hb]; rfl
    have zf0 : wz.frozen? ⟨w.heap.size, 0, none⟩ = false := free_at hb 0
    have z1 : wz.cell? ⟨w.heap.size, 1, none⟩ = some (.string ⟨#[]⟩) := by rw [cell_at hb]; rfl
    have zf1 : wz.frozen? ⟨w.heap.size, 1, none⟩ = false := free_at hb 1
    have z2 : wz.cell? ⟨w.heap.size, 2, none⟩ = some (.string ⟨#[]⟩) := by rw [cell_at hb]; rfl
    have zf2 : wz.frozen? ⟨w.heap.size, 2, none⟩ = false := free_at hb 2
    have z3 : wz.cell? ⟨w.heap.size, 3, none⟩ = some (.int .i64 0) := by rw [cell_at hb]; rfl
    have zf3 : wz.frozen? ⟨w.heap.size, 3, none⟩ = false := free_at hb 3
    have z4 : wz.cell? ⟨w.heap.size, 4, none⟩ = some (.int .i64 0) := by rw [cell_at hb]; rfl
    have zf4 : wz.frozen? ⟨w.heap.size, 4, none⟩ = false := free_at hb 4
    clear hb
    have A := hid ((((((A.out.setBlk 0 (.int .i64 0)).setBlk 1 (.string emp)).setBlk 2 (.string emp)).setBlk 3 (.int .i64 0)).setBlk 4 (.int .i64 0)))
    go_wp2
    refine bodyPost_ret (v := opV 0 emp emp 0 0) (res26 (b := w.heap.size) rfl A.out.1.2.1) rfl ?_
    refine ⟨by rw [gotV, if_neg her.out], rv9, ?_⟩
    exact ((A.out.tail).swap.tail).swap.tail

set_option maxHeartbeats 3200000 in
set_option maxRecDepth 1000000 in
theorem get3 {b : Nat} {D : Option Nat} {rv : Value} {r : Rst} {cs : List Comp} {w : World} (h : All (rdC b D rv r :: cs) w) (ht : ∀ w', All cs w' → Tab w') (hp : r.size ≤ 140737488355328) (hk : r.numV 8 = 3) :
    Calls Tryz.prog 12 #[.pointer (some ⟨b, 0, none⟩)] w fun e w' => e = .returned (gotV ((((r.num 8).txt 16).txt 64).fail (chkA 3 (ByteArray.size ((r.num 8).txtV 16)) (ByteArray.size (((r.num 8).txt 16).txtV 64)) 0 0)) 3 ((r.num 8).txtV 16) (((r.num 8).txt 16).txtV 64) 0 0) ∧ ∃ rv', All (rdC b D rv' ((((r.num 8).txt 16).txt 64).fail (chkA 3 (ByteArray.size ((r.num 8).txtV 16)) (ByteArray.size (((r.num 8).txt 16).txtV 64)) 0 0)) :: cs) w' := by
  have A := hid (h.addBlk [.int .i64 0, .string ⟨#[]⟩, .string ⟨#[]⟩, .int .i64 0, .int .i64 0] 35).swap
  have HT := hid ht
  have HK := hid hk
  have P1 := hid (num_size r 8)
  clear h ht hk
  generalize hnm : ((r.num 8).txtV 16) = nm
  have Hnm := hid hnm
  clear hnm
  generalize htx : (((r.num 8).txt 16).txtV 64) = tx
  have Htx := hid htx
  clear htx
  generalize h5 : (((r.num 8).txt 16).txt 64) = r5
  have H5 := hid h5
  clear h5
  generalize hck : chkA 3 (ByteArray.size nm) (ByteArray.size tx) 0 0 = ck
  have Hck := hid hck
  clear hck
  generalize hRR : r5.fail ck = R
  have HRR := hid hRR
  clear hRR
  go_enter Tryz.func12, Tryz.ntmps12
  go_wp2_with fail
  refine (numRd A.out hp 8).mono ?_
  rw [HK.out]
  rintro e w1 ⟨rfl, rv1, A1⟩
  have A := hid A1
  clear A1 HK
  have TB := HT.out _ A.out.tail.tail
  have t0 : w1.cell? ⟨0, 24, none⟩ = some (.int .i64 1) := TB.cell 24 (by omega)
  have t1 : w1.cell? ⟨0, 25, none⟩ = some (.int .i64 16) := TB.cell 25 (by omega)
  have t2 : w1.cell? ⟨0, 26, none⟩ = some (.int .i64 0) := TB.cell 26 (by omega)
  have t3 : w1.cell? ⟨0, 27, none⟩ = some (.int .i64 64) := TB.cell 27 (by omega)
  have t4 : w1.cell? ⟨0, 28, none⟩ = some (.int .i64 0) := TB.cell 28 (by omega)
  have t5 : w1.cell? ⟨0, 29, none⟩ = some (.int .i64 0) := TB.cell 29 (by omega)
  have t6 : w1.cell? ⟨0, 30, none⟩ = some (.int .i64 0) := TB.cell 30 (by omega)
  have t7 : w1.cell? ⟨0, 31, none⟩ = some (.int .i64 0) := TB.cell 31 (by omega)
  have tlt := TB.lt
  have A2 := (A.out.addBlk [.int .i64 3, .string emp, .string emp, .int .i64 0, .int .i64 0] 35).addBlk [.int .i64 1, .int .i64 16, .int .i64 0, .int .i64 64, .int .i64 0, .int .i64 0, .int .i64 0, .int .i64 0] 103
  have hsz : (w1.alloc (.cells [.int .i64 3, .string emp, .string emp, .int .i64 0, .int .i64 0].toArray 35)).heap.size = w1.heap.size + 1 := by simp
  rw [hsz] at A2
  clear A TB hsz
  generalize hO : w1.heap.size = o at A2 tlt
  have A := hid (A2.perm (ds := rdC b D rv1 (r.num 8) :: blkC (o + 1) [.int .i64 1, .int .i64 16, .int .i64 0, .int .i64 64, .int .i64 0, .int .i64 0, .int .i64 0, .int .i64 0] 103 :: blkC o [.int .i64 3, .string emp, .string emp, .int .i64 0, .int .i64 0] 35 :: blkC w.heap.size [.int .i64 0, .string ⟨#[]⟩, .string ⟨#[]⟩, .int .i64 0, .int .i64 0] 35 :: cs) (List.perm_middle (l₁ := [blkC (o + 1) [.int .i64 1, .int .i64 16, .int .i64 0, .int .i64 64, .int .i64 0, .int .i64 0, .int .i64 0, .int .i64 0] 103, blkC o [.int .i64 3, .string emp, .string emp, .int .i64 0, .int .i64 0] 35])))
  clear A2
  go_wp2_with fail
  refine (has_any 1 16).mono ?_
  rintro e w2 ⟨rfl, Bh⟩
  rw [show hs 16 = true by decide +kernel]
  have A := hid (A.out.later Bh)
  clear Bh hO t0 t1 t2 t3 t4 t5 t6 t7 tlt
  have hb := A.out.blk (g := o + 1) (vs := [.int .i64 1, .int .i64 16, .int .i64 0, .int .i64 64, .int .i64 0, .int .i64 0, .int .i64 0, .int .i64 0]) (t := 103) mem2
  have q : w2.cell? ⟨o + 1, 1, none⟩ = some (.int .i64 16) := by rw [cell_at hb]; rfl
  clear hb
  go_wp2_with fail
  refine (textRd A.out (by have := P1.out; unfold Rst.size at *; omega) 16).mono ?_
  rw [Hnm.out]
  rintro e w3 ⟨rfl, rv3, A1⟩
  have P1 := hid (Nat.le_trans (txt_size (r.num 8) 16) P1.out)
  have A := hid (A1.perm (ds := blkC o [.int .i64 3, .string emp, .string emp, .int .i64 0, .int .i64 0] 35 :: rdC b D rv3 ((r.num 8).txt 16) :: blkC (o + 1) [.int .i64 1, .int .i64 16, .int .i64 0, .int .i64 64, .int .i64 0, .int .i64 0, .int .i64 0, .int .i64 0] 103 :: blkC w.heap.size [.int .i64 0, .string ⟨#[]⟩, .string ⟨#[]⟩, .int .i64 0, .int .i64 0] 35 :: cs) (List.perm_middle (l₁ := [rdC b D rv3 ((r.num 8).txt 16), blkC (o + 1) [.int .i64 1, .int .i64 16, .int .i64 0, .int .i64 64, .int .i64 0, .int .i64 0, .int .i64 0, .int .i64 0] 103])))
  clear A1 q
  have hb := A.out.blk (g := o) (vs := [.int .i64 3, .string emp, .string emp, .int .i64 0, .int .i64 0]) (t := 35) List.mem_cons_self
  have q : w3.cell? ⟨o, 1, none⟩ = some (.string emp) := by rw [cell_at hb]; rfl
  have qf : w3.frozen? ⟨o, 1, none⟩ = false := free_at hb 1
  clear hb
  have A := hid (show All (blkC o [.int .i64 3, .string nm, .string emp, .int .i64 0, .int .i64 0] 35 :: rdC b D rv3 ((r.num 8).txt 16) :: blkC (o + 1) [.int .i64 1, .int .i64 16, .int .i64 0, .int .i64 64, .int .i64 0, .int .i64 0, .int .i64 0, .int .i64 0] 103 :: blkC w.heap.size [.int .i64 0, .string ⟨#[]⟩, .string ⟨#[]⟩, .int .i64 0, .int .i64 0] 35 :: cs) (w3.setCell ⟨o, 1, none⟩ (.string nm)) from A.out.setBlk 1 (.string nm))
  have A := hid (A.out.perm (ds := rdC b D rv3 ((r.num 8).txt 16) :: blkC (o + 1) [.int .i64 1, .int .i64 16, .int .i64 0, .int .i64 64, .int .i64 0, .int .i64 0, .int .i64 0, .int .i64 0] 103 :: blkC o [.int .i64 3, .string nm, .string emp, .int .i64 0, .int .i64 0] 35 :: blkC w.heap.size [.int .i64 0, .string ⟨#[]⟩, .string ⟨#[]⟩, .int .i64 0, .int .i64 0] 35 :: cs) (List.perm_middle (l₁ := [rdC b D rv3 ((r.num 8).txt 16), blkC (o + 1) [.int .i64 1, .int .i64 16, .int .i64 0, .int .i64 64, .int .i64 0, .int .i64 0, .int .i64 0, .int .i64 0] 103])).symm)
  generalize hG : w3.setCell ⟨o, 1, none⟩ (.string nm) = w4 at A
  have hb := A.out.blk (g := o + 1) (vs := [.int .i64 1, .int .i64 16, .int .i64 0, .int .i64 64, .int .i64 0, .int .i64 0, .int .i64 0, .int .i64 0]) (t := 103) mem2
  have r2 : w4.cell? ⟨o + 1, 2, none⟩ = some (.int .i64 0) := by rw [cell_at hb]; rfl
  have r3 : w4.cell? ⟨o + 1, 3, none⟩ = some (.int .i64 64) := by rw [cell_at hb]; rfl
  clear hb
  go_wp2_with fail
  refine (has_any 0 64).mono ?_
  rintro e w5 ⟨rfl, Bh⟩
  rw [show hs 64 = true by decide +kernel]
  have A := hid (A.out.later Bh)
  clear Bh r2 r3
  have hb := A.out.blk (g := o + 1) (vs := [.int .i64 1, .int .i64 16, .int .i64 0, .int .i64 64, .int .i64 0, .int .i64 0, .int .i64 0, .int .i64 0]) (t := 103) mem2
  have q : w5.cell? ⟨o + 1, 3, none⟩ = some (.int .i64 64) := by rw [cell_at hb]; rfl
  clear hb
  go_wp2_with fail
  refine (textRd A.out (by have := P1.out; unfold Rst.size at *; omega) 64).mono ?_
  rw [Htx.out]
  rintro e w6 ⟨rfl, rv6, A1⟩
  have P1 := hid (Nat.le_trans (txt_size ((r.num 8).txt 16) 64) P1.out)
  have A := hid (A1.perm (ds := blkC o [.int .i64 3, .string nm, .string emp, .int .i64 0, .int .i64 0] 35 :: rdC b D rv6 (((r.num 8).txt 16).txt 64) :: blkC (o + 1) [.int .i64 1, .int .i64 16, .int .i64 0, .int .i64 64, .int .i64 0, .int .i64 0, .int .i64 0, .int .i64 0] 103 :: blkC w.heap.size [.int .i64 0, .string ⟨#[]⟩, .string ⟨#[]⟩, .int .i64 0, .int .i64 0] 35 :: cs) (List.perm_middle (l₁ := [rdC b D rv6 (((r.num 8).txt 16).txt 64), blkC (o + 1) [.int .i64 1, .int .i64 16, .int .i64 0, .int .i64 64, .int .i64 0, .int .i64 0, .int .i64 0, .int .i64 0] 103])))
  clear A1 q
  have hb := A.out.blk (g := o) (vs := [.int .i64 3, .string nm, .string emp, .int .i64 0, .int .i64 0]) (t := 35) List.mem_cons_self
  have q : w6.cell? ⟨o, 2, none⟩ = some (.string emp) := by rw [cell_at hb]; rfl
  have qf : w6.frozen? ⟨o, 2, none⟩ = false := free_at hb 2
  clear hb
  have A := hid (show All (blkC o [.int .i64 3, .string nm, .string tx, .int .i64 0, .int .i64 0] 35 :: rdC b D rv6 (((r.num 8).txt 16).txt 64) :: blkC (o + 1) [.int .i64 1, .int .i64 16, .int .i64 0, .int .i64 64, .int .i64 0, .int .i64 0, .int .i64 0, .int .i64 0] 103 :: blkC w.heap.size [.int .i64 0, .string ⟨#[]⟩, .string ⟨#[]⟩, .int .i64 0, .int .i64 0] 35 :: cs) (w6.setCell ⟨o, 2, none⟩ (.string tx)) from A.out.setBlk 2 (.string tx))
  have A := hid (A.out.perm (ds := rdC b D rv6 (((r.num 8).txt 16).txt 64) :: blkC (o + 1) [.int .i64 1, .int .i64 16, .int .i64 0, .int .i64 64, .int .i64 0, .int .i64 0, .int .i64 0, .int .i64 0] 103 :: blkC o [.int .i64 3, .string nm, .string tx, .int .i64 0, .int .i64 0] 35 :: blkC w.heap.size [.int .i64 0, .string ⟨#[]⟩, .string ⟨#[]⟩, .int .i64 0, .int .i64 0] 35 :: cs) (List.perm_middle (l₁ := [rdC b D rv6 (((r.num 8).txt 16).txt 64), blkC (o + 1) [.int .i64 1, .int .i64 16, .int .i64 0, .int .i64 64, .int .i64 0, .int .i64 0, .int .i64 0, .int .i64 0] 103])).symm)
  generalize hG : w6.setCell ⟨o, 2, none⟩ (.string tx) = w7 at A
  have hb := A.out.blk (g := o + 1) (vs := [.int .i64 1, .int .i64 16, .int .i64 0, .int .i64 64, .int .i64 0, .int .i64 0, .int .i64 0, .int .i64 0]) (t := 103) mem2
  have r4 : w7.cell? ⟨o + 1, 4, none⟩ = some (.int .i64 0) := by rw [cell_at hb]; rfl
  have r5 : w7.cell? ⟨o + 1, 5, none⟩ = some (.int .i64 0) := by rw [cell_at hb]; rfl
  clear hb
  go_wp2_with fail
  refine (has_any 0 0).mono ?_
  rintro e w8 ⟨rfl, Bh⟩
  rw [show hs 0 = false by decide +kernel]
  have A := hid (A.out.later Bh)
  clear Bh r4 r5
  have hb := A.out.blk (g := o + 1) (vs := [.int .i64 1, .int .i64 16, .int .i64 0, .int .i64 64, .int .i64 0, .int .i64 0, .int .i64 0, .int .i64 0]) (t := 103) mem2
  have r6 : w8.cell? ⟨o + 1, 6, none⟩ = some (.int .i64 0) := by rw [cell_at hb]; rfl
  have r7 : w8.cell? ⟨o + 1, 7, none⟩ = some (.int .i64 0) := by rw [cell_at hb]; rfl
  clear hb
  go_wp2_with fail
  refine (has_any 0 0).mono ?_
  rintro e w9 ⟨rfl, Bh⟩
  rw [show hs 0 = false by decide +kernel]
  have A := hid (A.out.later Bh)
  clear Bh r6 r7
  rw [H5.out] at A
  clear H5
  have hb := A.out.blk (g := o) (vs := [.int .i64 3, .string nm, .string tx, .int .i64 0, .int .i64 0]) (t := 35) mem3
  have o0 : w9.cell? ⟨o, 0, none⟩ = some (.int .i64 3) := by rw [cell_at hb]; rfl
  have o1 : w9.cell? ⟨o, 1, none⟩ = some (.string nm) := by rw [cell_at hb]; rfl
  have o2 : w9.cell? ⟨o, 2, none⟩ = some (.string tx) := by rw [cell_at hb]; rfl
  have o3 : w9.cell? ⟨o, 3, none⟩ = some (.int .i64 0) := by rw [cell_at hb]; rfl
  have o4 : w9.cell? ⟨o, 4, none⟩ = some (.int .i64 0) := by rw [cell_at hb]; rfl
  clear hb
  go_wp2_with fail
  refine (check_any (HT.out _ A.out.tail.tail.tail.tail) 3 nm tx 0 0).mono ?_
  rw [Hck.out]
  rintro e w10 ⟨rfl, Bh⟩
  have A := hid (A.out.later Bh)
  clear Bh o0 o1 o2 o3 o4
  go_wp2_with fail
  refine (failRd A.out ck).mono ?_
  rw [HRR.out]
  rintro e w11 ⟨rfl, rv11, A1⟩
  have A := hid A1
  clear A1
  go_wp2_with fail
  refine (wholeRd A.out).mono ?_
  rintro e wz ⟨rfl, A1⟩
  have A := hid (A1.perm (ds := blkC w.heap.size [.int .i64 0, .string ⟨#[]⟩, .string ⟨#[]⟩, .int .i64 0, .int .i64 0] 35 :: rdC b D rv11 R :: blkC (o + 1) [.int .i64 1, .int .i64 16, .int .i64 0, .int .i64 64, .int .i64 0, .int .i64 0, .int .i64 0, .int .i64 0] 103 :: blkC o [.int .i64 3, .string nm, .string tx, .int .i64 0, .int .i64 0] 35 :: cs) (List.perm_middle (l₁ := [rdC b D rv11 R, blkC (o + 1) [.int .i64 1, .int .i64 16, .int .i64 0, .int .i64 64, .int .i64 0, .int .i64 0, .int .i64 0, .int .i64 0] 103, blkC o [.int .i64 3, .string nm, .string tx, .int .i64 0, .int .i64 0] 35])))
  clear A1 HT HRR Hck P1
  by_cases her : R.err = 0
  · have e1 : (R.err == 0) = true := by rw [beq_iff_eq]; exact her
    rw [e1]
    have her := hid her
    clear e1
    have hb := A.out.blk (g := w.heap.size) (vs := [.int .i64 0, .string ⟨#[]⟩, .string ⟨#[]⟩, .int .i64 0, .int .i64 0]) (t := 35) List.mem_cons_self
    have z0 : wz.cell? ⟨w.heap.size, 0, none⟩ = some (.int .i64 0) := by rw [cell_at hb]; rfl
    have zf0 : wz.frozen? ⟨w.heap.size, 0, none⟩ = false := free_at hb 0
    have z1 : wz.cell? ⟨w.heap.size, 1, none⟩ = some (.string ⟨#[]⟩) := by rw [cell_at hb]; rfl
    have zf1 : wz.frozen? ⟨w.heap.size, 1, none⟩ = false := free_at hb 1
    have z2 : wz.cell? ⟨w.heap.size, 2, none⟩ = some (.string ⟨#[]⟩) := by rw [cell_at hb]; rfl
    have zf2 : wz.frozen? ⟨w.heap.size, 2, none⟩ = false := free_at hb 2
    have z3 : wz.cell? ⟨w.heap.size, 3, none⟩ = some (.int .i64 0) := by rw [cell_at hb]; rfl
    have zf3 : wz.frozen? ⟨w.heap.size, 3, none⟩ = false := free_at hb 3
    have z4 : wz.cell? ⟨w.heap.size, 4, none⟩ = some (.int .i64 0) := by rw [cell_at hb]; rfl
    have zf4 : wz.frozen? ⟨w.heap.size, 4, none⟩ = false := free_at hb 4
    clear hb
    have hb := A.out.blk (g := o) (vs := [.int .i64 3, .string nm, .string tx, .int .i64 0, .int .i64 0]) (t := 35) mem4
    have o0 : wz.cell? ⟨o, 0, none⟩ = some (.int .i64 3) := by rw [cell_at hb]; rfl
    have o1 : wz.cell? ⟨o, 1, none⟩ = some (.string nm) := by rw [cell_at hb]; rfl
    have o2 : wz.cell? ⟨o, 2, none⟩ = some (.string tx) := by rw [cell_at hb]; rfl
    have o3 : wz.cell? ⟨o, 3, none⟩ = some (.int .i64 0) := by rw [cell_at hb]; rfl
    have o4 : wz.cell? ⟨o, 4, none⟩ = some (.int .i64 0) := by rw [cell_at hb]; rfl
    clear hb
    have A := hid ((((((A.out.setBlk 0 (.int .i64 3)).setBlk 1 (.string nm)).setBlk 2 (.string tx)).setBlk 3 (.int .i64 0)).setBlk 4 (.int .i64 0)))
    go_wp2
    refine bodyPost_ret (v := opV 3 nm tx 0 0) (res26 (b := w.heap.size) rfl A.out.1.2.1) rfl ?_
    refine ⟨by rw [gotV, if_pos her.out], rv11, ?_⟩
    exact ((A.out.tail).swap.tail).swap.tail
  · have e1 : (R.err == 0) = false := by rw [beq_eq_false_iff_ne]; exact her
    rw [e1]
    have her := hid her
    clear e1
    have hb := A.out.blk (g := w.heap.size) (vs := [.int .i64 0, .string ⟨#[]⟩, .string ⟨#[]⟩, .int .i64 0, .int .i64 0]) (t := 35) List.mem_cons_self
    have z0 : wz.cell? ⟨w.heap.size, 0, none⟩ = some (.int .i64 0) := by rw [cell_at hb]; rfl
    have zf0 : wz.frozen? ⟨w.heap.size, 0, none⟩ = false := free_at hb 0
    have z1 : wz.cell? ⟨w.heap.size, 1, none⟩ = some (.string ⟨#[]⟩) := by rw [cell_at hb]; rfl
    have zf1 : wz.frozen? ⟨w.heap.size, 1, none⟩ = false := free_at hb 1
    have z2 : wz.cell? ⟨w.heap.size, 2, none⟩ = some (.string ⟨#[]⟩) := by rw [cell_at hb]; rfl
    have zf2 : wz.frozen? ⟨w.heap.size, 2, none⟩ = false := free_at hb 2
    have z3 : wz.cell? ⟨w.heap.size, 3, none⟩ = some (.int .i64 0) := by rw [cell_at hb]; rfl
    have zf3 : wz.frozen? ⟨w.heap.size, 3, none⟩ = false := free_at hb 3
    have z4 : wz.cell? ⟨w.heap.size, 4, none⟩ = some (.int .i64 0) := by rw [cell_at hb]; rfl
    have zf4 : wz.frozen? ⟨w.heap.size, 4, none⟩ = false := free_at hb 4
    clear hb
    have A := hid ((((((A.out.setBlk 0 (.int .i64 0)).setBlk 1 (.string emp)).setBlk 2 (.string emp)).setBlk 3 (.int .i64 0)).setBlk 4 (.int .i64 0)))
    go_wp2
    refine bodyPost_ret (v := opV 0 emp emp 0 0) (res26 (b := w.heap.size) rfl A.out.1.2.1) rfl ?_
    refine ⟨by rw [gotV, if_neg her.out], rv11, ?_⟩
    exact ((A.out.tail).swap.tail).swap.tail

set_option maxHeartbeats 3200000 in
set_option maxRecDepth 1000000 in
theorem get4 {b : Nat} {D : Option Nat} {rv : Value} {r : Rst} {cs : List Comp} {w : World} (h : All (rdC b D rv r :: cs) w) (ht : ∀ w', All cs w' → Tab w') (hp : r.size ≤ 140737488355328) (hk : r.numV 8 = 4) :
    Calls Tryz.prog 12 #[.pointer (some ⟨b, 0, none⟩)] w fun e w' => e = .returned (gotV ((((r.num 8).txt 16).num 1099511627776).fail (chkA 4 (ByteArray.size ((r.num 8).txtV 16)) (ByteArray.size emp) (((r.num 8).txt 16).numV 1099511627776) 0)) 4 ((r.num 8).txtV 16) emp (((r.num 8).txt 16).numV 1099511627776) 0) ∧ ∃ rv', All (rdC b D rv' ((((r.num 8).txt 16).num 1099511627776).fail (chkA 4 (ByteArray.size ((r.num 8).txtV 16)) (ByteArray.size emp) (((r.num 8).txt 16).numV 1099511627776) 0)) :: cs) w' := by
  have A := hid (h.addBlk [.int .i64 0, .string ⟨#[]⟩, .string ⟨#[]⟩, .int .i64 0, .int .i64 0] 35).swap
  have HT := hid ht
  have HK := hid hk
  have P1 := hid (num_size r 8)
  clear h ht hk
  generalize hnm : ((r.num 8).txtV 16) = nm
  have Hnm := hid hnm
  clear hnm
  generalize hn : (((r.num 8).txt 16).numV 1099511627776) = n
  have Hn := hid hn
  clear hn
  generalize h5 : (((r.num 8).txt 16).num 1099511627776) = r5
  have H5 := hid h5
  clear h5
  generalize hck : chkA 4 (ByteArray.size nm) (ByteArray.size emp) n 0 = ck
  have Hck := hid hck
  clear hck
  generalize hRR : r5.fail ck = R
  have HRR := hid hRR
  clear hRR
  go_enter Tryz.func12, Tryz.ntmps12
  go_wp2_with fail
  refine (numRd A.out hp 8).mono ?_
  rw [HK.out]
  rintro e w1 ⟨rfl, rv1, A1⟩
  have A := hid A1
  clear A1 HK
  have TB := HT.out _ A.out.tail.tail
  have t0 : w1.cell? ⟨0, 32, none⟩ = some (.int .i64 1) := TB.cell 32 (by omega)
  have t1 : w1.cell? ⟨0, 33, none⟩ = some (.int .i64 16) := TB.cell 33 (by omega)
  have t2 : w1.cell? ⟨0, 34, none⟩ = some (.int .i64 0) := TB.cell 34 (by omega)
  have t3 : w1.cell? ⟨0, 35, none⟩ = some (.int .i64 0) := TB.cell 35 (by omega)
  have t4 : w1.cell? ⟨0, 36, none⟩ = some (.int .i64 0) := TB.cell 36 (by omega)
  have t5 : w1.cell? ⟨0, 37, none⟩ = some (.int .i64 1099511627776) := TB.cell 37 (by omega)
  have t6 : w1.cell? ⟨0, 38, none⟩ = some (.int .i64 0) := TB.cell 38 (by omega)
  have t7 : w1.cell? ⟨0, 39, none⟩ = some (.int .i64 0) := TB.cell 39 (by omega)
  have tlt := TB.lt
  have A2 := (A.out.addBlk [.int .i64 4, .string emp, .string emp, .int .i64 0, .int .i64 0] 35).addBlk [.int .i64 1, .int .i64 16, .int .i64 0, .int .i64 0, .int .i64 0, .int .i64 1099511627776, .int .i64 0, .int .i64 0] 103
  have hsz : (w1.alloc (.cells [.int .i64 4, .string emp, .string emp, .int .i64 0, .int .i64 0].toArray 35)).heap.size = w1.heap.size + 1 := by simp
  rw [hsz] at A2
  clear A TB hsz
  generalize hO : w1.heap.size = o at A2 tlt
  have A := hid (A2.perm (ds := rdC b D rv1 (r.num 8) :: blkC (o + 1) [.int .i64 1, .int .i64 16, .int .i64 0, .int .i64 0, .int .i64 0, .int .i64 1099511627776, .int .i64 0, .int .i64 0] 103 :: blkC o [.int .i64 4, .string emp, .string emp, .int .i64 0, .int .i64 0] 35 :: blkC w.heap.size [.int .i64 0, .string ⟨#[]⟩, .string ⟨#[]⟩, .int .i64 0, .int .i64 0] 35 :: cs) (List.perm_middle (l₁ := [blkC (o + 1) [.int .i64 1, .int .i64 16, .int .i64 0, .int .i64 0, .int .i64 0, .int .i64 1099511627776, .int .i64 0, .int .i64 0] 103, blkC o [.int .i64 4, .string emp, .string emp, .int .i64 0, .int .i64 0] 35])))
  clear A2
  go_wp2_with fail
  refine (has_any 1 16).mono ?_
  rintro e w2 ⟨rfl, Bh⟩
  rw [show hs 16 = true by decide +kernel]
  have A := hid (A.out.later Bh)
  clear Bh hO t0 t1 t2 t3 t4 t5 t6 t7 tlt
  have hb := A.out.blk (g := o + 1) (vs := [.int .i64 1, .int .i64 16, .int .i64 0, .int .i64 0, .int .i64 0, .int .i64 1099511627776, .int .i64 0, .int .i64 0]) (t := 103) mem2
  have q : w2.cell? ⟨o + 1, 1, none⟩ = some (.int .i64 16) := by rw [cell_at hb]; rfl
  clear hb
  go_wp2_with fail
  refine (textRd A.out (by have := P1.out; unfold Rst.size at *; omega) 16).mono ?_
  rw [Hnm.out]
  rintro e w3 ⟨rfl, rv3, A1⟩
  have P1 := hid (Nat.le_trans (txt_size (r.num 8) 16) P1.out)
  have A := hid (A1.perm (ds := blkC o [.int .i64 4, .string emp, .string emp, .int .i64 0, .int .i64 0] 35 :: rdC b D rv3 ((r.num 8).txt 16) :: blkC (o + 1) [.int .i64 1, .int .i64 16, .int .i64 0, .int .i64 0, .int .i64 0, .int .i64 1099511627776, .int .i64 0, .int .i64 0] 103 :: blkC w.heap.size [.int .i64 0, .string ⟨#[]⟩, .string ⟨#[]⟩, .int .i64 0, .int .i64 0] 35 :: cs) (List.perm_middle (l₁ := [rdC b D rv3 ((r.num 8).txt 16), blkC (o + 1) [.int .i64 1, .int .i64 16, .int .i64 0, .int .i64 0, .int .i64 0, .int .i64 1099511627776, .int .i64 0, .int .i64 0] 103])))
  clear A1 q
  have hb := A.out.blk (g := o) (vs := [.int .i64 4, .string emp, .string emp, .int .i64 0, .int .i64 0]) (t := 35) List.mem_cons_self
  have q : w3.cell? ⟨o, 1, none⟩ = some (.string emp) := by rw [cell_at hb]; rfl
  have qf : w3.frozen? ⟨o, 1, none⟩ = false := free_at hb 1
  clear hb
  have A := hid (show All (blkC o [.int .i64 4, .string nm, .string emp, .int .i64 0, .int .i64 0] 35 :: rdC b D rv3 ((r.num 8).txt 16) :: blkC (o + 1) [.int .i64 1, .int .i64 16, .int .i64 0, .int .i64 0, .int .i64 0, .int .i64 1099511627776, .int .i64 0, .int .i64 0] 103 :: blkC w.heap.size [.int .i64 0, .string ⟨#[]⟩, .string ⟨#[]⟩, .int .i64 0, .int .i64 0] 35 :: cs) (w3.setCell ⟨o, 1, none⟩ (.string nm)) from A.out.setBlk 1 (.string nm))
  have A := hid (A.out.perm (ds := rdC b D rv3 ((r.num 8).txt 16) :: blkC (o + 1) [.int .i64 1, .int .i64 16, .int .i64 0, .int .i64 0, .int .i64 0, .int .i64 1099511627776, .int .i64 0, .int .i64 0] 103 :: blkC o [.int .i64 4, .string nm, .string emp, .int .i64 0, .int .i64 0] 35 :: blkC w.heap.size [.int .i64 0, .string ⟨#[]⟩, .string ⟨#[]⟩, .int .i64 0, .int .i64 0] 35 :: cs) (List.perm_middle (l₁ := [rdC b D rv3 ((r.num 8).txt 16), blkC (o + 1) [.int .i64 1, .int .i64 16, .int .i64 0, .int .i64 0, .int .i64 0, .int .i64 1099511627776, .int .i64 0, .int .i64 0] 103])).symm)
  generalize hG : w3.setCell ⟨o, 1, none⟩ (.string nm) = w4 at A
  have hb := A.out.blk (g := o + 1) (vs := [.int .i64 1, .int .i64 16, .int .i64 0, .int .i64 0, .int .i64 0, .int .i64 1099511627776, .int .i64 0, .int .i64 0]) (t := 103) mem2
  have r2 : w4.cell? ⟨o + 1, 2, none⟩ = some (.int .i64 0) := by rw [cell_at hb]; rfl
  have r3 : w4.cell? ⟨o + 1, 3, none⟩ = some (.int .i64 0) := by rw [cell_at hb]; rfl
  clear hb
  go_wp2_with fail
  refine (has_any 0 0).mono ?_
  rintro e w5 ⟨rfl, Bh⟩
  rw [show hs 0 = false by decide +kernel]
  have A := hid (A.out.later Bh)
  clear Bh r2 r3
  have hb := A.out.blk (g := o + 1) (vs := [.int .i64 1, .int .i64 16, .int .i64 0, .int .i64 0, .int .i64 0, .int .i64 1099511627776, .int .i64 0, .int .i64 0]) (t := 103) mem2
  have r4 : w5.cell? ⟨o + 1, 4, none⟩ = some (.int .i64 0) := by rw [cell_at hb]; rfl
  have r5 : w5.cell? ⟨o + 1, 5, none⟩ = some (.int .i64 1099511627776) := by rw [cell_at hb]; rfl
  clear hb
  go_wp2_with fail
  refine (has_any 0 1099511627776).mono ?_
  rintro e w6 ⟨rfl, Bh⟩
  rw [show hs 1099511627776 = true by decide +kernel]
  have A := hid (A.out.later Bh)
  clear Bh r4 r5
  have hb := A.out.blk (g := o + 1) (vs := [.int .i64 1, .int .i64 16, .int .i64 0, .int .i64 0, .int .i64 0, .int .i64 1099511627776, .int .i64 0, .int .i64 0]) (t := 103) mem2
  have q : w6.cell? ⟨o + 1, 5, none⟩ = some (.int .i64 1099511627776) := by rw [cell_at hb]; rfl
  clear hb
  go_wp2_with fail
  refine (numRd A.out (by have := P1.out; unfold Rst.size at *; omega) 1099511627776).mono ?_
  rw [Hn.out]
  rintro e w7 ⟨rfl, rv7, A1⟩
  have P1 := hid (Nat.le_trans (num_size ((r.num 8).txt 16) 1099511627776) P1.out)
  have A := hid (A1.perm (ds := blkC o [.int .i64 4, .string nm, .string emp, .int .i64 0, .int .i64 0] 35 :: rdC b D rv7 (((r.num 8).txt 16).num 1099511627776) :: blkC (o + 1) [.int .i64 1, .int .i64 16, .int .i64 0, .int .i64 0, .int .i64 0, .int .i64 1099511627776, .int .i64 0, .int .i64 0] 103 :: blkC w.heap.size [.int .i64 0, .string ⟨#[]⟩, .string ⟨#[]⟩, .int .i64 0, .int .i64 0] 35 :: cs) (List.perm_middle (l₁ := [rdC b D rv7 (((r.num 8).txt 16).num 1099511627776), blkC (o + 1) [.int .i64 1, .int .i64 16, .int .i64 0, .int .i64 0, .int .i64 0, .int .i64 1099511627776, .int .i64 0, .int .i64 0] 103])))
  clear A1 q
  have hb := A.out.blk (g := o) (vs := [.int .i64 4, .string nm, .string emp, .int .i64 0, .int .i64 0]) (t := 35) List.mem_cons_self
  have q : w7.cell? ⟨o, 3, none⟩ = some (.int .i64 0) := by rw [cell_at hb]; rfl
  have qf : w7.frozen? ⟨o, 3, none⟩ = false := free_at hb 3
  clear hb
  have A := hid (show All (blkC o [.int .i64 4, .string nm, .string emp, .int .i64 n, .int .i64 0] 35 :: rdC b D rv7 (((r.num 8).txt 16).num 1099511627776) :: blkC (o + 1) [.int .i64 1, .int .i64 16, .int .i64 0, .int .i64 0, .int .i64 0, .int .i64 1099511627776, .int .i64 0, .int .i64 0] 103 :: blkC w.heap.size [.int .i64 0, .string ⟨#[]⟩, .string ⟨#[]⟩, .int .i64 0, .int .i64 0] 35 :: cs) (w7.setCell ⟨o, 3, none⟩ (.int .i64 n)) from A.out.setBlk 3 (.int .i64 n))
  have A := hid (A.out.perm (ds := rdC b D rv7 (((r.num 8).txt 16).num 1099511627776) :: blkC (o + 1) [.int .i64 1, .int .i64 16, .int .i64 0, .int .i64 0, .int .i64 0, .int .i64 1099511627776, .int .i64 0, .int .i64 0] 103 :: blkC o [.int .i64 4, .string nm, .string emp, .int .i64 n, .int .i64 0] 35 :: blkC w.heap.size [.int .i64 0, .string ⟨#[]⟩, .string ⟨#[]⟩, .int .i64 0, .int .i64 0] 35 :: cs) (List.perm_middle (l₁ := [rdC b D rv7 (((r.num 8).txt 16).num 1099511627776), blkC (o + 1) [.int .i64 1, .int .i64 16, .int .i64 0, .int .i64 0, .int .i64 0, .int .i64 1099511627776, .int .i64 0, .int .i64 0] 103])).symm)
  generalize hG : w7.setCell ⟨o, 3, none⟩ (.int .i64 n) = w8 at A
  have hb := A.out.blk (g := o + 1) (vs := [.int .i64 1, .int .i64 16, .int .i64 0, .int .i64 0, .int .i64 0, .int .i64 1099511627776, .int .i64 0, .int .i64 0]) (t := 103) mem2
  have r6 : w8.cell? ⟨o + 1, 6, none⟩ = some (.int .i64 0) := by rw [cell_at hb]; rfl
  have r7 : w8.cell? ⟨o + 1, 7, none⟩ = some (.int .i64 0) := by rw [cell_at hb]; rfl
  clear hb
  go_wp2_with fail
  refine (has_any 0 0).mono ?_
  rintro e w9 ⟨rfl, Bh⟩
  rw [show hs 0 = false by decide +kernel]
  have A := hid (A.out.later Bh)
  clear Bh r6 r7
  rw [H5.out] at A
  clear H5
  have hb := A.out.blk (g := o) (vs := [.int .i64 4, .string nm, .string emp, .int .i64 n, .int .i64 0]) (t := 35) mem3
  have o0 : w9.cell? ⟨o, 0, none⟩ = some (.int .i64 4) := by rw [cell_at hb]; rfl
  have o1 : w9.cell? ⟨o, 1, none⟩ = some (.string nm) := by rw [cell_at hb]; rfl
  have o2 : w9.cell? ⟨o, 2, none⟩ = some (.string emp) := by rw [cell_at hb]; rfl
  have o3 : w9.cell? ⟨o, 3, none⟩ = some (.int .i64 n) := by rw [cell_at hb]; rfl
  have o4 : w9.cell? ⟨o, 4, none⟩ = some (.int .i64 0) := by rw [cell_at hb]; rfl
  clear hb
  go_wp2_with fail
  refine (check_any (HT.out _ A.out.tail.tail.tail.tail) 4 nm emp n 0).mono ?_
  rw [Hck.out]
  rintro e w10 ⟨rfl, Bh⟩
  have A := hid (A.out.later Bh)
  clear Bh o0 o1 o2 o3 o4
  go_wp2_with fail
  refine (failRd A.out ck).mono ?_
  rw [HRR.out]
  rintro e w11 ⟨rfl, rv11, A1⟩
  have A := hid A1
  clear A1
  go_wp2_with fail
  refine (wholeRd A.out).mono ?_
  rintro e wz ⟨rfl, A1⟩
  have A := hid (A1.perm (ds := blkC w.heap.size [.int .i64 0, .string ⟨#[]⟩, .string ⟨#[]⟩, .int .i64 0, .int .i64 0] 35 :: rdC b D rv11 R :: blkC (o + 1) [.int .i64 1, .int .i64 16, .int .i64 0, .int .i64 0, .int .i64 0, .int .i64 1099511627776, .int .i64 0, .int .i64 0] 103 :: blkC o [.int .i64 4, .string nm, .string emp, .int .i64 n, .int .i64 0] 35 :: cs) (List.perm_middle (l₁ := [rdC b D rv11 R, blkC (o + 1) [.int .i64 1, .int .i64 16, .int .i64 0, .int .i64 0, .int .i64 0, .int .i64 1099511627776, .int .i64 0, .int .i64 0] 103, blkC o [.int .i64 4, .string nm, .string emp, .int .i64 n, .int .i64 0] 35])))
  clear A1 HT HRR Hck P1
  by_cases her : R.err = 0
  · have e1 : (R.err == 0) = true := by rw [beq_iff_eq]; exact her
    rw [e1]
    have her := hid her
    clear e1
    have hb := A.out.blk (g := w.heap.size) (vs := [.int .i64 0, .string ⟨#[]⟩, .string ⟨#[]⟩, .int .i64 0, .int .i64 0]) (t := 35) List.mem_cons_self
    have z0 : wz.cell? ⟨w.heap.size, 0, none⟩ = some (.int .i64 0) := by rw [cell_at hb]; rfl
    have zf0 : wz.frozen? ⟨w.heap.size, 0, none⟩ = false := free_at hb 0
    have z1 : wz.cell? ⟨w.heap.size, 1, none⟩ = some (.string ⟨#[]⟩) := by rw [cell_at hb]; rfl
    have zf1 : wz.frozen? ⟨w.heap.size, 1, none⟩ = false := free_at hb 1
    have z2 : wz.cell? ⟨w.heap.size, 2, none⟩ = some (.string ⟨#[]⟩) := by rw [cell_at hb]; rfl
    have zf2 : wz.frozen? ⟨w.heap.size, 2, none⟩ = false := free_at hb 2
    have z3 : wz.cell? ⟨w.heap.size, 3, none⟩ = some (.int .i64 0) := by rw [cell_at hb]; rfl
    have zf3 : wz.frozen? ⟨w.heap.size, 3, none⟩ = false := free_at hb 3
    have z4 : wz.cell? ⟨w.heap.size, 4, none⟩ = some (.int .i64 0) := by rw [cell_at hb]; rfl
    have zf4 : wz.frozen? ⟨w.heap.size, 4, none⟩ = false := free_at hb 4
    clear hb
    have hb := A.out.blk (g := o) (vs := [.int .i64 4, .string nm, .string emp, .int .i64 n, .int .i64 0]) (t := 35) mem4
    have o0 : wz.cell? ⟨o, 0, none⟩ = some (.int .i64 4) := by rw [cell_at hb]; rfl
    have o1 : wz.cell? ⟨o, 1, none⟩ = some (.string nm) := by rw [cell_at hb]; rfl
    have o2 : wz.cell? ⟨o, 2, none⟩ = some (.string emp) := by rw [cell_at hb]; rfl
    have o3 : wz.cell? ⟨o, 3, none⟩ = some (.int .i64 n) := by rw [cell_at hb]; rfl
    have o4 : wz.cell? ⟨o, 4, none⟩ = some (.int .i64 0) := by rw [cell_at hb]; rfl
    clear hb
    have A := hid ((((((A.out.setBlk 0 (.int .i64 4)).setBlk 1 (.string nm)).setBlk 2 (.string emp)).setBlk 3 (.int .i64 n)).setBlk 4 (.int .i64 0)))
    go_wp2
    refine bodyPost_ret (v := opV 4 nm emp n 0) (res26 (b := w.heap.size) rfl A.out.1.2.1) rfl ?_
    refine ⟨by rw [gotV, if_pos her.out], rv11, ?_⟩
    exact ((A.out.tail).swap.tail).swap.tail
  · have e1 : (R.err == 0) = false := by rw [beq_eq_false_iff_ne]; exact her
    rw [e1]
    have her := hid her
    clear e1
    have hb := A.out.blk (g := w.heap.size) (vs := [.int .i64 0, .string ⟨#[]⟩, .string ⟨#[]⟩, .int .i64 0, .int .i64 0]) (t := 35) List.mem_cons_self
    have z0 : wz.cell? ⟨w.heap.size, 0, none⟩ = some (.int .i64 0) := by rw [cell_at hb]; rfl
    have zf0 : wz.frozen? ⟨w.heap.size, 0, none⟩ = false := free_at hb 0
    have z1 : wz.cell? ⟨w.heap.size, 1, none⟩ = some (.string ⟨#[]⟩) := by rw [cell_at hb]; rfl
    have zf1 : wz.frozen? ⟨w.heap.size, 1, none⟩ = false := free_at hb 1
    have z2 : wz.cell? ⟨w.heap.size, 2, none⟩ = some (.string ⟨#[]⟩) := by rw [cell_at hb]; rfl
    have zf2 : wz.frozen? ⟨w.heap.size, 2, none⟩ = false := free_at hb 2
    have z3 : wz.cell? ⟨w.heap.size, 3, none⟩ = some (.int .i64 0) := by rw [cell_at hb]; rfl
    have zf3 : wz.frozen? ⟨w.heap.size, 3, none⟩ = false := free_at hb 3
    have z4 : wz.cell? ⟨w.heap.size, 4, none⟩ = some (.int .i64 0) := by rw [cell_at hb]; rfl
    have zf4 : wz.frozen? ⟨w.heap.size, 4, none⟩ = false := free_at hb 4
    clear hb
    have A := hid ((((((A.out.setBlk 0 (.int .i64 0)).setBlk 1 (.string emp)).setBlk 2 (.string emp)).setBlk 3 (.int .i64 0)).setBlk 4 (.int .i64 0)))
    go_wp2
    refine bodyPost_ret (v := opV 0 emp emp 0 0) (res26 (b := w.heap.size) rfl A.out.1.2.1) rfl ?_
    refine ⟨by rw [gotV, if_neg her.out], rv11, ?_⟩
    exact ((A.out.tail).swap.tail).swap.tail

set_option maxHeartbeats 3200000 in
set_option maxRecDepth 1000000 in
theorem get5 {b : Nat} {D : Option Nat} {rv : Value} {r : Rst} {cs : List Comp} {w : World} (h : All (rdC b D rv r :: cs) w) (ht : ∀ w', All cs w' → Tab w') (hp : r.size ≤ 140737488355328) (hk : r.numV 8 = 5) :
    Calls Tryz.prog 12 #[.pointer (some ⟨b, 0, none⟩)] w fun e w' => e = .returned (gotV ((((r.num 8).txt 16).txt 16).fail (chkA 5 (ByteArray.size ((r.num 8).txtV 16)) (ByteArray.size (((r.num 8).txt 16).txtV 16)) 0 0)) 5 ((r.num 8).txtV 16) (((r.num 8).txt 16).txtV 16) 0 0) ∧ ∃ rv', All (rdC b D rv' ((((r.num 8).txt 16).txt 16).fail (chkA 5 (ByteArray.size ((r.num 8).txtV 16)) (ByteArray.size (((r.num 8).txt 16).txtV 16)) 0 0)) :: cs) w' := by
  have A := hid (h.addBlk [.int .i64 0, .string ⟨#[]⟩, .string ⟨#[]⟩, .int .i64 0, .int .i64 0] 35).swap
  have HT := hid ht
  have HK := hid hk
  have P1 := hid (num_size r 8)
  clear h ht hk
  generalize hnm : ((r.num 8).txtV 16) = nm
  have Hnm := hid hnm
  clear hnm
  generalize htx : (((r.num 8).txt 16).txtV 16) = tx
  have Htx := hid htx
  clear htx
  generalize h5 : (((r.num 8).txt 16).txt 16) = r5
  have H5 := hid h5
  clear h5
  generalize hck : chkA 5 (ByteArray.size nm) (ByteArray.size tx) 0 0 = ck
  have Hck := hid hck
  clear hck
  generalize hRR : r5.fail ck = R
  have HRR := hid hRR
  clear hRR
  go_enter Tryz.func12, Tryz.ntmps12
  go_wp2_with fail
  refine (numRd A.out hp 8).mono ?_
  rw [HK.out]
  rintro e w1 ⟨rfl, rv1, A1⟩
  have A := hid A1
  clear A1 HK
  have TB := HT.out _ A.out.tail.tail
  have t0 : w1.cell? ⟨0, 40, none⟩ = some (.int .i64 1) := TB.cell 40 (by omega)
  have t1 : w1.cell? ⟨0, 41, none⟩ = some (.int .i64 16) := TB.cell 41 (by omega)
  have t2 : w1.cell? ⟨0, 42, none⟩ = some (.int .i64 1) := TB.cell 42 (by omega)
  have t3 : w1.cell? ⟨0, 43, none⟩ = some (.int .i64 16) := TB.cell 43 (by omega)
  have t4 : w1.cell? ⟨0, 44, none⟩ = some (.int .i64 0) := TB.cell 44 (by omega)
  have t5 : w1.cell? ⟨0, 45, none⟩ = some (.int .i64 0) := TB.cell 45 (by omega)
  have t6 : w1.cell? ⟨0, 46, none⟩ = some (.int .i64 0) := TB.cell 46 (by omega)
  have t7 : w1.cell? ⟨0, 47, none⟩ = some (.int .i64 0) := TB.cell 47 (by omega)
  have tlt := TB.lt
  have A2 := (A.out.addBlk [.int .i64 5, .string emp, .string emp, .int .i64 0, .int .i64 0] 35).addBlk [.int .i64 1, .int .i64 16, .int .i64 1, .int .i64 16, .int .i64 0, .int .i64 0, .int .i64 0, .int .i64 0] 103
  have hsz : (w1.alloc (.cells [.int .i64 5, .string emp, .string emp, .int .i64 0, .int .i64 0].toArray 35)).heap.size = w1.heap.size + 1 := by simp
  rw [hsz] at A2
  clear A TB hsz
  generalize hO : w1.heap.size = o at A2 tlt
  have A := hid (A2.perm (ds := rdC b D rv1 (r.num 8) :: blkC (o + 1) [.int .i64 1, .int .i64 16, .int .i64 1, .int .i64 16, .int .i64 0, .int .i64 0, .int .i64 0, .int .i64 0] 103 :: blkC o [.int .i64 5, .string emp, .string emp, .int .i64 0, .int .i64 0] 35 :: blkC w.heap.size [.int .i64 0, .string ⟨#[]⟩, .string ⟨#[]⟩, .int .i64 0, .int .i64 0] 35 :: cs) (List.perm_middle (l₁ := [blkC (o + 1) [.int .i64 1, .int .i64 16, .int .i64 1, .int .i64 16, .int .i64 0, .int .i64 0, .int .i64 0, .int .i64 0] 103, blkC o [.int .i64 5, .string emp, .string emp, .int .i64 0, .int .i64 0] 35])))
  clear A2
  go_wp2_with fail
  refine (has_any 1 16).mono ?_
  rintro e w2 ⟨rfl, Bh⟩
  rw [show hs 16 = true by decide +kernel]
  have A := hid (A.out.later Bh)
  clear Bh hO t0 t1 t2 t3 t4 t5 t6 t7 tlt
  have hb := A.out.blk (g := o + 1) (vs := [.int .i64 1, .int .i64 16, .int .i64 1, .int .i64 16, .int .i64 0, .int .i64 0, .int .i64 0, .int .i64 0]) (t := 103) mem2
  have q : w2.cell? ⟨o + 1, 1, none⟩ = some (.int .i64 16) := by rw [cell_at hb]; rfl
  clear hb
  go_wp2_with fail
  refine (textRd A.out (by have := P1.out; unfold Rst.size at *; omega) 16).mono ?_
  rw [Hnm.out]
  rintro e w3 ⟨rfl, rv3, A1⟩
  have P1 := hid (Nat.le_trans (txt_size (r.num 8) 16) P1.out)
  have A := hid (A1.perm (ds := blkC o [.int .i64 5, .string emp, .string emp, .int .i64 0, .int .i64 0] 35 :: rdC b D rv3 ((r.num 8).txt 16) :: blkC (o + 1) [.int .i64 1, .int .i64 16, .int .i64 1, .int .i64 16, .int .i64 0, .int .i64 0, .int .i64 0, .int .i64 0] 103 :: blkC w.heap.size [.int .i64 0, .string ⟨#[]⟩, .string ⟨#[]⟩, .int .i64 0, .int .i64 0] 35 :: cs) (List.perm_middle (l₁ := [rdC b D rv3 ((r.num 8).txt 16), blkC (o + 1) [.int .i64 1, .int .i64 16, .int .i64 1, .int .i64 16, .int .i64 0, .int .i64 0, .int .i64 0, .int .i64 0] 103])))
  clear A1 q
  have hb := A.out.blk (g := o) (vs := [.int .i64 5, .string emp, .string emp, .int .i64 0, .int .i64 0]) (t := 35) List.mem_cons_self
  have q : w3.cell? ⟨o, 1, none⟩ = some (.string emp) := by rw [cell_at hb]; rfl
  have qf : w3.frozen? ⟨o, 1, none⟩ = false := free_at hb 1
  clear hb
  have A := hid (show All (blkC o [.int .i64 5, .string nm, .string emp, .int .i64 0, .int .i64 0] 35 :: rdC b D rv3 ((r.num 8).txt 16) :: blkC (o + 1) [.int .i64 1, .int .i64 16, .int .i64 1, .int .i64 16, .int .i64 0, .int .i64 0, .int .i64 0, .int .i64 0] 103 :: blkC w.heap.size [.int .i64 0, .string ⟨#[]⟩, .string ⟨#[]⟩, .int .i64 0, .int .i64 0] 35 :: cs) (w3.setCell ⟨o, 1, none⟩ (.string nm)) from A.out.setBlk 1 (.string nm))
  have A := hid (A.out.perm (ds := rdC b D rv3 ((r.num 8).txt 16) :: blkC (o + 1) [.int .i64 1, .int .i64 16, .int .i64 1, .int .i64 16, .int .i64 0, .int .i64 0, .int .i64 0, .int .i64 0] 103 :: blkC o [.int .i64 5, .string nm, .string emp, .int .i64 0, .int .i64 0] 35 :: blkC w.heap.size [.int .i64 0, .string ⟨#[]⟩, .string ⟨#[]⟩, .int .i64 0, .int .i64 0] 35 :: cs) (List.perm_middle (l₁ := [rdC b D rv3 ((r.num 8).txt 16), blkC (o + 1) [.int .i64 1, .int .i64 16, .int .i64 1, .int .i64 16, .int .i64 0, .int .i64 0, .int .i64 0, .int .i64 0] 103])).symm)
  generalize hG : w3.setCell ⟨o, 1, none⟩ (.string nm) = w4 at A
  have hb := A.out.blk (g := o + 1) (vs := [.int .i64 1, .int .i64 16, .int .i64 1, .int .i64 16, .int .i64 0, .int .i64 0, .int .i64 0, .int .i64 0]) (t := 103) mem2
  have r2 : w4.cell? ⟨o + 1, 2, none⟩ = some (.int .i64 1) := by rw [cell_at hb]; rfl
  have r3 : w4.cell? ⟨o + 1, 3, none⟩ = some (.int .i64 16) := by rw [cell_at hb]; rfl
  clear hb
  go_wp2_with fail
  refine (has_any 1 16).mono ?_
  rintro e w5 ⟨rfl, Bh⟩
  rw [show hs 16 = true by decide +kernel]
  have A := hid (A.out.later Bh)
  clear Bh r2 r3
  have hb := A.out.blk (g := o + 1) (vs := [.int .i64 1, .int .i64 16, .int .i64 1, .int .i64 16, .int .i64 0, .int .i64 0, .int .i64 0, .int .i64 0]) (t := 103) mem2
  have q : w5.cell? ⟨o + 1, 3, none⟩ = some (.int .i64 16) := by rw [cell_at hb]; rfl
  clear hb
  go_wp2_with fail
  refine (textRd A.out (by have := P1.out; unfold Rst.size at *; omega) 16).mono ?_
  rw [Htx.out]
  rintro e w6 ⟨rfl, rv6, A1⟩
  have P1 := hid (Nat.le_trans (txt_size ((r.num 8).txt 16) 16) P1.out)
  have A := hid (A1.perm (ds := blkC o [.int .i64 5, .string nm, .string emp, .int .i64 0, .int .i64 0] 35 :: rdC b D rv6 (((r.num 8).txt 16).txt 16) :: blkC (o + 1) [.int .i64 1, .int .i64 16, .int .i64 1, .int .i64 16, .int .i64 0, .int .i64 0, .int .i64 0, .int .i64 0] 103 :: blkC w.heap.size [.int .i64 0, .string ⟨#[]⟩, .string ⟨#[]⟩, .int .i64 0, .int .i64 0] 35 :: cs) (List.perm_middle (l₁ := [rdC b D rv6 (((r.num 8).txt 16).txt 16), blkC (o + 1) [.int .i64 1, .int .i64 16, .int .i64 1, .int .i64 16, .int .i64 0, .int .i64 0, .int .i64 0, .int .i64 0] 103])))
  clear A1 q
  have hb := A.out.blk (g := o) (vs := [.int .i64 5, .string nm, .string emp, .int .i64 0, .int .i64 0]) (t := 35) List.mem_cons_self
  have q : w6.cell? ⟨o, 2, none⟩ = some (.string emp) := by rw [cell_at hb]; rfl
  have qf : w6.frozen? ⟨o, 2, none⟩ = false := free_at hb 2
  clear hb
  have A := hid (show All (blkC o [.int .i64 5, .string nm, .string tx, .int .i64 0, .int .i64 0] 35 :: rdC b D rv6 (((r.num 8).txt 16).txt 16) :: blkC (o + 1) [.int .i64 1, .int .i64 16, .int .i64 1, .int .i64 16, .int .i64 0, .int .i64 0, .int .i64 0, .int .i64 0] 103 :: blkC w.heap.size [.int .i64 0, .string ⟨#[]⟩, .string ⟨#[]⟩, .int .i64 0, .int .i64 0] 35 :: cs) (w6.setCell ⟨o, 2, none⟩ (.string tx)) from A.out.setBlk 2 (.string tx))
  have A := hid (A.out.perm (ds := rdC b D rv6 (((r.num 8).txt 16).txt 16) :: blkC (o + 1) [.int .i64 1, .int .i64 16, .int .i64 1, .int .i64 16, .int .i64 0, .int .i64 0, .int .i64 0, .int .i64 0] 103 :: blkC o [.int .i64 5, .string nm, .string tx, .int .i64 0, .int .i64 0] 35 :: blkC w.heap.size [.int .i64 0, .string ⟨#[]⟩, .string ⟨#[]⟩, .int .i64 0, .int .i64 0] 35 :: cs) (List.perm_middle (l₁ := [rdC b D rv6 (((r.num 8).txt 16).txt 16), blkC (o + 1) [.int .i64 1, .int .i64 16, .int .i64 1, .int .i64 16, .int .i64 0, .int .i64 0, .int .i64 0, .int .i64 0] 103])).symm)
  generalize hG : w6.setCell ⟨o, 2, none⟩ (.string tx) = w7 at A
  have hb := A.out.blk (g := o + 1) (vs := [.int .i64 1, .int .i64 16, .int .i64 1, .int .i64 16, .int .i64 0, .int .i64 0, .int .i64 0, .int .i64 0]) (t := 103) mem2
  have r4 : w7.cell? ⟨o + 1, 4, none⟩ = some (.int .i64 0) := by rw [cell_at hb]; rfl
  have r5 : w7.cell? ⟨o + 1, 5, none⟩ = some (.int .i64 0) := by rw [cell_at hb]; rfl
  clear hb
  go_wp2_with fail
  refine (has_any 0 0).mono ?_
  rintro e w8 ⟨rfl, Bh⟩
  rw [show hs 0 = false by decide +kernel]
  have A := hid (A.out.later Bh)
  clear Bh r4 r5
  have hb := A.out.blk (g := o + 1) (vs := [.int .i64 1, .int .i64 16, .int .i64 1, .int .i64 16, .int .i64 0, .int .i64 0, .int .i64 0, .int .i64 0]) (t := 103) mem2
  have r6 : w8.cell? ⟨o + 1, 6, none⟩ = some (.int .i64 0) := by rw [cell_at hb]; rfl
  have r7 : w8.cell? ⟨o + 1, 7, none⟩ = some (.int .i64 0) := by rw [cell_at hb]; rfl
  clear hb
  go_wp2_with fail
  refine (has_any 0 0).mono ?_
  rintro e w9 ⟨rfl, Bh⟩
  rw [show hs 0 = false by decide +kernel]
  have A := hid (A.out.later Bh)
  clear Bh r6 r7
  rw [H5.out] at A
  clear H5
  have hb := A.out.blk (g := o) (vs := [.int .i64 5, .string nm, .string tx, .int .i64 0, .int .i64 0]) (t := 35) mem3
  have o0 : w9.cell? ⟨o, 0, none⟩ = some (.int .i64 5) := by rw [cell_at hb]; rfl
  have o1 : w9.cell? ⟨o, 1, none⟩ = some (.string nm) := by rw [cell_at hb]; rfl
  have o2 : w9.cell? ⟨o, 2, none⟩ = some (.string tx) := by rw [cell_at hb]; rfl
  have o3 : w9.cell? ⟨o, 3, none⟩ = some (.int .i64 0) := by rw [cell_at hb]; rfl
  have o4 : w9.cell? ⟨o, 4, none⟩ = some (.int .i64 0) := by rw [cell_at hb]; rfl
  clear hb
  go_wp2_with fail
  refine (check_any (HT.out _ A.out.tail.tail.tail.tail) 5 nm tx 0 0).mono ?_
  rw [Hck.out]
  rintro e w10 ⟨rfl, Bh⟩
  have A := hid (A.out.later Bh)
  clear Bh o0 o1 o2 o3 o4
  go_wp2_with fail
  refine (failRd A.out ck).mono ?_
  rw [HRR.out]
  rintro e w11 ⟨rfl, rv11, A1⟩
  have A := hid A1
  clear A1
  go_wp2_with fail
  refine (wholeRd A.out).mono ?_
  rintro e wz ⟨rfl, A1⟩
  have A := hid (A1.perm (ds := blkC w.heap.size [.int .i64 0, .string ⟨#[]⟩, .string ⟨#[]⟩, .int .i64 0, .int .i64 0] 35 :: rdC b D rv11 R :: blkC (o + 1) [.int .i64 1, .int .i64 16, .int .i64 1, .int .i64 16, .int .i64 0, .int .i64 0, .int .i64 0, .int .i64 0] 103 :: blkC o [.int .i64 5, .string nm, .string tx, .int .i64 0, .int .i64 0] 35 :: cs) (List.perm_middle (l₁ := [rdC b D rv11 R, blkC (o + 1) [.int .i64 1, .int .i64 16, .int .i64 1, .int .i64 16, .int .i64 0, .int .i64 0, .int .i64 0, .int .i64 0] 103, blkC o [.int .i64 5, .string nm, .string tx, .int .i64 0, .int .i64 0] 35])))
  clear A1 HT HRR Hck P1
  by_cases her : R.err = 0
  · have e1 : (R.err == 0) = true := by rw [beq_iff_eq]; exact her
    rw [e1]
    have her := hid her
    clear e1
    have hb := A.out.blk (g := w.heap.size) (vs := [.int .i64 0, .string ⟨#[]⟩, .string ⟨#[]⟩, .int .i64 0, .int .i64 0]) (t := 35) List.mem_cons_self
    have z0 : wz.cell? ⟨w.heap.size, 0, none⟩ = some (.int .i64 0) := by rw [cell_at hb]; rfl
    have zf0 : wz.frozen? ⟨w.heap.size, 0, none⟩ = false := free_at hb 0
    have z1 : wz.cell? ⟨w.heap.size, 1, none⟩ = some (.string ⟨#[]⟩) := by rw [cell_at hb]; rfl
    have zf1 : wz.frozen? ⟨w.heap.size, 1, none⟩ = false := free_at hb 1
    have z2 : wz.cell? ⟨w.heap.size, 2, none⟩ = some (.string ⟨#[]⟩) := by rw [cell_at hb]; rfl
    have zf2 : wz.frozen? ⟨w.heap.size, 2, none⟩ = false := free_at hb 2
    have z3 : wz.cell? ⟨w.heap.size, 3, none⟩ = some (.int .i64 0) := by rw [cell_at hb]; rfl
    have zf3 : wz.frozen? ⟨w.heap.size, 3, none⟩ = false := free_at hb 3
    have z4 : wz.cell? ⟨w.heap.size, 4, none⟩ = some (.int .i64 0) := by rw [cell_at hb]; rfl
    have zf4 : wz.frozen? ⟨w.heap.size, 4, none⟩ = false := free_at hb 4
    clear hb
    have hb := A.out.blk (g := o) (vs := [.int .i64 5, .string nm, .string tx, .int .i64 0, .int .i64 0]) (t := 35) mem4
    have o0 : wz.cell? ⟨o, 0, none⟩ = some (.int .i64 5) := by rw [cell_at hb]; rfl
    have o1 : wz.cell? ⟨o, 1, none⟩ = some (.string nm) := by rw [cell_at hb]; rfl
    have o2 : wz.cell? ⟨o, 2, none⟩ = some (.string tx) := by rw [cell_at hb]; rfl
    have o3 : wz.cell? ⟨o, 3, none⟩ = some (.int .i64 0) := by rw [cell_at hb]; rfl
    have o4 : wz.cell? ⟨o, 4, none⟩ = some (.int .i64 0) := by rw [cell_at hb]; rfl
    clear hb
    have A := hid ((((((A.out.setBlk 0 (.int .i64 5)).setBlk 1 (.string nm)).setBlk 2 (.string tx)).setBlk 3 (.int .i64 0)).setBlk 4 (.int .i64 0)))
    go_wp2
    refine bodyPost_ret (v := opV 5 nm tx 0 0) (res26 (b := w.heap.size) rfl A.out.1.2.1) rfl ?_
    refine ⟨by rw [gotV, if_pos her.out], rv11, ?_⟩
    exact ((A.out.tail).swap.tail).swap.tail
  · have e1 : (R.err == 0) = false := by rw [beq_eq_false_iff_ne]; exact her
    rw [e1]
    have her := hid her
    clear e1
    have hb := A.out.blk (g := w.heap.size) (vs := [.int .i64 0, .string ⟨#[]⟩, .string ⟨#[]⟩, .int .i64 0, .int .i64 0]) (t := 35) List.mem_cons_self
    have z0 : wz.cell? ⟨w.heap.size, 0, none⟩ = some (.int .i64 0) := by rw [cell_at hb]; rfl
    have zf0 : wz.frozen? ⟨w.heap.size, 0, none⟩ = false := free_at hb 0
    have z1 : wz.cell? ⟨w.heap.size, 1, none⟩ = some (.string ⟨#[]⟩) := by rw [cell_at hb]; rfl
    have zf1 : wz.frozen? ⟨w.heap.size, 1, none⟩ = false := free_at hb 1
    have z2 : wz.cell? ⟨w.heap.size, 2, none⟩ = some (.string ⟨#[]⟩) := by rw [cell_at hb]; rfl
    have zf2 : wz.frozen? ⟨w.heap.size, 2, none⟩ = false := free_at hb 2
    have z3 : wz.cell? ⟨w.heap.size, 3, none⟩ = some (.int .i64 0) := by rw [cell_at hb]; rfl
    have zf3 : wz.frozen? ⟨w.heap.size, 3, none⟩ = false := free_at hb 3
    have z4 : wz.cell? ⟨w.heap.size, 4, none⟩ = some (.int .i64 0) := by rw [cell_at hb]; rfl
    have zf4 : wz.frozen? ⟨w.heap.size, 4, none⟩ = false := free_at hb 4
    clear hb
    have A := hid ((((((A.out.setBlk 0 (.int .i64 0)).setBlk 1 (.string emp)).setBlk 2 (.string emp)).setBlk 3 (.int .i64 0)).setBlk 4 (.int .i64 0)))
    go_wp2
    refine bodyPost_ret (v := opV 0 emp emp 0 0) (res26 (b := w.heap.size) rfl A.out.1.2.1) rfl ?_
    refine ⟨by rw [gotV, if_neg her.out], rv11, ?_⟩
    exact ((A.out.tail).swap.tail).swap.tail

set_option maxHeartbeats 3200000 in
set_option maxRecDepth 1000000 in
theorem get6 {b : Nat} {D : Option Nat} {rv : Value} {r : Rst} {cs : List Comp} {w : World} (h : All (rdC b D rv r :: cs) w) (ht : ∀ w', All cs w' → Tab w') (hp : r.size ≤ 140737488355328) (hk : r.numV 8 = 6) :
    Calls Tryz.prog 12 #[.pointer (some ⟨b, 0, none⟩)] w fun e w' => e = .returned (gotV (((((r.num 8).txt 16).num 1099511627776).num 8).fail (chkA 6 (ByteArray.size ((r.num 8).txtV 16)) (ByteArray.size emp) (((r.num 8).txt 16).numV 1099511627776) ((((r.num 8).txt 16).num 1099511627776).numV 8))) 6 ((r.num 8).txtV 16) emp (((r.num 8).txt 16).numV 1099511627776) ((((r.num 8).txt 16).num 1099511627776).numV 8)) ∧ ∃ rv', All (rdC b D rv' (((((r.num 8).txt 16).num 1099511627776).num 8).fail (chkA 6 (ByteArray.size ((r.num 8).txtV 16)) (ByteArray.size emp) (((r.num 8).txt 16).numV 1099511627776) ((((r.num 8).txt 16).num 1099511627776).numV 8))) :: cs) w' := by
  have A := hid (h.addBlk [.int .i64 0, .string ⟨#[]⟩, .string ⟨#[]⟩, .int .i64 0, .int .i64 0] 35).swap
  have HT := hid ht
  have HK := hid hk
  have P1 := hid (num_size r 8)
  clear h ht hk
  generalize hnm : ((r.num 8).txtV 16) = nm
  have Hnm := hid hnm
  clear hnm
  generalize hn : (((r.num 8).txt 16).numV 1099511627776) = n
  have Hn := hid hn
  clear hn
  generalize hm : ((((r.num 8).txt 16).num 1099511627776).numV 8) = m
  have Hm := hid hm
  clear hm
  generalize h5 : ((((r.num 8).txt 16).num 1099511627776).num 8) = r5
  have H5 := hid h5
  clear h5
  generalize hck : chkA 6 (ByteArray.size nm) (ByteArray.size emp) n m = ck
  have Hck := hid hck
  clear hck
  generalize hRR : r5.fail ck = R
  have HRR := hid hRR
  clear hRR
  go_enter Tryz.func12, Tryz.ntmps12
  go_wp2_with fail
  refine (numRd A.out hp 8).mono ?_
  rw [HK.out]
  rintro e w1 ⟨rfl, rv1, A1⟩
  have A := hid A1
  clear A1 HK
  have TB := HT.out _ A.out.tail.tail
  have t0 : w1.cell? ⟨0, 48, none⟩ = some (.int .i64 1) := TB.cell 48 (by omega)
  have t1 : w1.cell? ⟨0, 49, none⟩ = some (.int .i64 16) := TB.cell 49 (by omega)
  have t2 : w1.cell? ⟨0, 50, none⟩ = some (.int .i64 0) := TB.cell 50 (by omega)
  have t3 : w1.cell? ⟨0, 51, none⟩ = some (.int .i64 0) := TB.cell 51 (by omega)
  have t4 : w1.cell? ⟨0, 52, none⟩ = some (.int .i64 0) := TB.cell 52 (by omega)
  have t5 : w1.cell? ⟨0, 53, none⟩ = some (.int .i64 1099511627776) := TB.cell 53 (by omega)
  have t6 : w1.cell? ⟨0, 54, none⟩ = some (.int .i64 1) := TB.cell 54 (by omega)
  have t7 : w1.cell? ⟨0, 55, none⟩ = some (.int .i64 8) := TB.cell 55 (by omega)
  have tlt := TB.lt
  have A2 := (A.out.addBlk [.int .i64 6, .string emp, .string emp, .int .i64 0, .int .i64 0] 35).addBlk [.int .i64 1, .int .i64 16, .int .i64 0, .int .i64 0, .int .i64 0, .int .i64 1099511627776, .int .i64 1, .int .i64 8] 103
  have hsz : (w1.alloc (.cells [.int .i64 6, .string emp, .string emp, .int .i64 0, .int .i64 0].toArray 35)).heap.size = w1.heap.size + 1 := by simp
  rw [hsz] at A2
  clear A TB hsz
  generalize hO : w1.heap.size = o at A2 tlt
  have A := hid (A2.perm (ds := rdC b D rv1 (r.num 8) :: blkC (o + 1) [.int .i64 1, .int .i64 16, .int .i64 0, .int .i64 0, .int .i64 0, .int .i64 1099511627776, .int .i64 1, .int .i64 8] 103 :: blkC o [.int .i64 6, .string emp, .string emp, .int .i64 0, .int .i64 0] 35 :: blkC w.heap.size [.int .i64 0, .string ⟨#[]⟩, .string ⟨#[]⟩, .int .i64 0, .int .i64 0] 35 :: cs) (List.perm_middle (l₁ := [blkC (o + 1) [.int .i64 1, .int .i64 16, .int .i64 0, .int .i64 0, .int .i64 0, .int .i64 1099511627776, .int .i64 1, .int .i64 8] 103, blkC o [.int .i64 6, .string emp, .string emp, .int .i64 0, .int .i64 0] 35])))
  clear A2
  go_wp2_with fail
  refine (has_any 1 16).mono ?_
  rintro e w2 ⟨rfl, Bh⟩
  rw [show hs 16 = true by decide +kernel]
  have A := hid (A.out.later Bh)
  clear Bh hO t0 t1 t2 t3 t4 t5 t6 t7 tlt
  have hb := A.out.blk (g := o + 1) (vs := [.int .i64 1, .int .i64 16, .int .i64 0, .int .i64 0, .int .i64 0, .int .i64 1099511627776, .int .i64 1, .int .i64 8]) (t := 103) mem2
  have q : w2.cell? ⟨o + 1, 1, none⟩ = some (.int .i64 16) := by rw [cell_at hb]; rfl
  clear hb
  go_wp2_with fail
  refine (textRd A.out (by have := P1.out; unfold Rst.size at *; omega) 16).mono ?_
  rw [Hnm.out]
  rintro e w3 ⟨rfl, rv3, A1⟩
  have P1 := hid (Nat.le_trans (txt_size (r.num 8) 16) P1.out)
  have A := hid (A1.perm (ds := blkC o [.int .i64 6, .string emp, .string emp, .int .i64 0, .int .i64 0] 35 :: rdC b D rv3 ((r.num 8).txt 16) :: blkC (o + 1) [.int .i64 1, .int .i64 16, .int .i64 0, .int .i64 0, .int .i64 0, .int .i64 1099511627776, .int .i64 1, .int .i64 8] 103 :: blkC w.heap.size [.int .i64 0, .string ⟨#[]⟩, .string ⟨#[]⟩, .int .i64 0, .int .i64 0] 35 :: cs) (List.perm_middle (l₁ := [rdC b D rv3 ((r.num 8).txt 16), blkC (o + 1) [.int .i64 1, .int .i64 16, .int .i64 0, .int .i64 0, .int .i64 0, .int .i64 1099511627776, .int .i64 1, .int .i64 8] 103])))
  clear A1 q
  have hb := A.out.blk (g := o) (vs := [.int .i64 6, .string emp, .string emp, .int .i64 0, .int .i64 0]) (t := 35) List.mem_cons_self
  have q : w3.cell? ⟨o, 1, none⟩ = some (.string emp) := by rw [cell_at hb]; rfl
  have qf : w3.frozen? ⟨o, 1, none⟩ = false := free_at hb 1
  clear hb
  have A := hid (show All (blkC o [.int .i64 6, .string nm, .string emp, .int .i64 0, .int .i64 0] 35 :: rdC b D rv3 ((r.num 8).txt 16) :: blkC (o + 1) [.int .i64 1, .int .i64 16, .int .i64 0, .int .i64 0, .int .i64 0, .int .i64 1099511627776, .int .i64 1, .int .i64 8] 103 :: blkC w.heap.size [.int .i64 0, .string ⟨#[]⟩, .string ⟨#[]⟩, .int .i64 0, .int .i64 0] 35 :: cs) (w3.setCell ⟨o, 1, none⟩ (.string nm)) from A.out.setBlk 1 (.string nm))
  have A := hid (A.out.perm (ds := rdC b D rv3 ((r.num 8).txt 16) :: blkC (o + 1) [.int .i64 1, .int .i64 16, .int .i64 0, .int .i64 0, .int .i64 0, .int .i64 1099511627776, .int .i64 1, .int .i64 8] 103 :: blkC o [.int .i64 6, .string nm, .string emp, .int .i64 0, .int .i64 0] 35 :: blkC w.heap.size [.int .i64 0, .string ⟨#[]⟩, .string ⟨#[]⟩, .int .i64 0, .int .i64 0] 35 :: cs) (List.perm_middle (l₁ := [rdC b D rv3 ((r.num 8).txt 16), blkC (o + 1) [.int .i64 1, .int .i64 16, .int .i64 0, .int .i64 0, .int .i64 0, .int .i64 1099511627776, .int .i64 1, .int .i64 8] 103])).symm)
  generalize hG : w3.setCell ⟨o, 1, none⟩ (.string nm) = w4 at A
  have hb := A.out.blk (g := o + 1) (vs := [.int .i64 1, .int .i64 16, .int .i64 0, .int .i64 0, .int .i64 0, .int .i64 1099511627776, .int .i64 1, .int .i64 8]) (t := 103) mem2
  have r2 : w4.cell? ⟨o + 1, 2, none⟩ = some (.int .i64 0) := by rw [cell_at hb]; rfl
  have r3 : w4.cell? ⟨o + 1, 3, none⟩ = some (.int .i64 0) := by rw [cell_at hb]; rfl
  clear hb
  go_wp2_with fail
  refine (has_any 0 0).mono ?_
  rintro e w5 ⟨rfl, Bh⟩
  rw [show hs 0 = false by decide +kernel]
  have A := hid (A.out.later Bh)
  clear Bh r2 r3
  have hb := A.out.blk (g := o + 1) (vs := [.int .i64 1, .int .i64 16, .int .i64 0, .int .i64 0, .int .i64 0, .int .i64 1099511627776, .int .i64 1, .int .i64 8]) (t := 103) mem2
  have r4 : w5.cell? ⟨o + 1, 4, none⟩ = some (.int .i64 0) := by rw [cell_at hb]; rfl
  have r5 : w5.cell? ⟨o + 1, 5, none⟩ = some (.int .i64 1099511627776) := by rw [cell_at hb]; rfl
  clear hb
  go_wp2_with fail
  refine (has_any 0 1099511627776).mono ?_
  rintro e w6 ⟨rfl, Bh⟩
  rw [show hs 1099511627776 = true by decide +kernel]
  have A := hid (A.out.later Bh)
  clear Bh r4 r5
  have hb := A.out.blk (g := o + 1) (vs := [.int .i64 1, .int .i64 16, .int .i64 0, .int .i64 0, .int .i64 0, .int .i64 1099511627776, .int .i64 1, .int .i64 8]) (t := 103) mem2
  have q : w6.cell? ⟨o + 1, 5, none⟩ = some (.int .i64 1099511627776) := by rw [cell_at hb]; rfl
  clear hb
  go_wp2_with fail
  refine (numRd A.out (by have := P1.out; unfold Rst.size at *; omega) 1099511627776).mono ?_
  rw [Hn.out]
  rintro e w7 ⟨rfl, rv7, A1⟩
  have P1 := hid (Nat.le_trans (num_size ((r.num 8).txt 16) 1099511627776) P1.out)
  have A := hid (A1.perm (ds := blkC o [.int .i64 6, .string nm, .string emp, .int .i64 0, .int .i64 0] 35 :: rdC b D rv7 (((r.num 8).txt 16).num 1099511627776) :: blkC (o + 1) [.int .i64 1, .int .i64 16, .int .i64 0, .int .i64 0, .int .i64 0, .int .i64 1099511627776, .int .i64 1, .int .i64 8] 103 :: blkC w.heap.size [.int .i64 0, .string ⟨#[]⟩, .string ⟨#[]⟩, .int .i64 0, .int .i64 0] 35 :: cs) (List.perm_middle (l₁ := [rdC b D rv7 (((r.num 8).txt 16).num 1099511627776), blkC (o + 1) [.int .i64 1, .int .i64 16, .int .i64 0, .int .i64 0, .int .i64 0, .int .i64 1099511627776, .int .i64 1, .int .i64 8] 103])))
  clear A1 q
  have hb := A.out.blk (g := o) (vs := [.int .i64 6, .string nm, .string emp, .int .i64 0, .int .i64 0]) (t := 35) List.mem_cons_self
  have q : w7.cell? ⟨o, 3, none⟩ = some (.int .i64 0) := by rw [cell_at hb]; rfl
  have qf : w7.frozen? ⟨o, 3, none⟩ = false := free_at hb 3
  clear hb
  have A := hid (show All (blkC o [.int .i64 6, .string nm, .string emp, .int .i64 n, .int .i64 0] 35 :: rdC b D rv7 (((r.num 8).txt 16).num 1099511627776) :: blkC (o + 1) [.int .i64 1, .int .i64 16, .int .i64 0, .int .i64 0, .int .i64 0, .int .i64 1099511627776, .int .i64 1, .int .i64 8] 103 :: blkC w.heap.size [.int .i64 0, .string ⟨#[]⟩, .string ⟨#[]⟩, .int .i64 0, .int .i64 0] 35 :: cs) (w7.setCell ⟨o, 3, none⟩ (.int .i64 n)) from A.out.setBlk 3 (.int .i64 n))
  have A := hid (A.out.perm (ds := rdC b D rv7 (((r.num 8).txt 16).num 1099511627776) :: blkC (o + 1) [.int .i64 1, .int .i64 16, .int .i64 0, .int .i64 0, .int .i64 0, .int .i64 1099511627776, .int .i64 1, .int .i64 8] 103 :: blkC o [.int .i64 6, .string nm, .string emp, .int .i64 n, .int .i64 0] 35 :: blkC w.heap.size [.int .i64 0, .string ⟨#[]⟩, .string ⟨#[]⟩, .int .i64 0, .int .i64 0] 35 :: cs) (List.perm_middle (l₁ := [rdC b D rv7 (((r.num 8).txt 16).num 1099511627776), blkC (o + 1) [.int .i64 1, .int .i64 16, .int .i64 0, .int .i64 0, .int .i64 0, .int .i64 1099511627776, .int .i64 1, .int .i64 8] 103])).symm)
  generalize hG : w7.setCell ⟨o, 3, none⟩ (.int .i64 n) = w8 at A
  have hb := A.out.blk (g := o + 1) (vs := [.int .i64 1, .int .i64 16, .int .i64 0, .int .i64 0, .int .i64 0, .int .i64 1099511627776, .int .i64 1, .int .i64 8]) (t := 103) mem2
  have r6 : w8.cell? ⟨o + 1, 6, none⟩ = some (.int .i64 1) := by rw [cell_at hb]; rfl
  have r7 : w8.cell? ⟨o + 1, 7, none⟩ = some (.int .i64 8) := by rw [cell_at hb]; rfl
  clear hb
  go_wp2_with fail
  refine (has_any 1 8).mono ?_
  rintro e w9 ⟨rfl, Bh⟩
  rw [show hs 8 = true by decide +kernel]
  have A := hid (A.out.later Bh)
  clear Bh r6 r7
  have hb := A.out.blk (g := o + 1) (vs := [.int .i64 1, .int .i64 16, .int .i64 0, .int .i64 0, .int .i64 0, .int .i64 1099511627776, .int .i64 1, .int .i64 8]) (t := 103) mem2
  have q : w9.cell? ⟨o + 1, 7, none⟩ = some (.int .i64 8) := by rw [cell_at hb]; rfl
  clear hb
  go_wp2_with fail
  refine (numRd A.out (by have := P1.out; unfold Rst.size at *; omega) 8).mono ?_
  rw [Hm.out]
  rintro e w10 ⟨rfl, rv10, A1⟩
  have P1 := hid (Nat.le_trans (num_size (((r.num 8).txt 16).num 1099511627776) 8) P1.out)
  have A := hid (A1.perm (ds := blkC o [.int .i64 6, .string nm, .string emp, .int .i64 n, .int .i64 0] 35 :: rdC b D rv10 ((((r.num 8).txt 16).num 1099511627776).num 8) :: blkC (o + 1) [.int .i64 1, .int .i64 16, .int .i64 0, .int .i64 0, .int .i64 0, .int .i64 1099511627776, .int .i64 1, .int .i64 8] 103 :: blkC w.heap.size [.int .i64 0, .string ⟨#[]⟩, .string ⟨#[]⟩, .int .i64 0, .int .i64 0] 35 :: cs) (List.perm_middle (l₁ := [rdC b D rv10 ((((r.num 8).txt 16).num 1099511627776).num 8), blkC (o + 1) [.int .i64 1, .int .i64 16, .int .i64 0, .int .i64 0, .int .i64 0, .int .i64 1099511627776, .int .i64 1, .int .i64 8] 103])))
  clear A1 q
  have hb := A.out.blk (g := o) (vs := [.int .i64 6, .string nm, .string emp, .int .i64 n, .int .i64 0]) (t := 35) List.mem_cons_self
  have q : w10.cell? ⟨o, 4, none⟩ = some (.int .i64 0) := by rw [cell_at hb]; rfl
  have qf : w10.frozen? ⟨o, 4, none⟩ = false := free_at hb 4
  clear hb
  have A := hid (show All (blkC o [.int .i64 6, .string nm, .string emp, .int .i64 n, .int .i64 m] 35 :: rdC b D rv10 ((((r.num 8).txt 16).num 1099511627776).num 8) :: blkC (o + 1) [.int .i64 1, .int .i64 16, .int .i64 0, .int .i64 0, .int .i64 0, .int .i64 1099511627776, .int .i64 1, .int .i64 8] 103 :: blkC w.heap.size [.int .i64 0, .string ⟨#[]⟩, .string ⟨#[]⟩, .int .i64 0, .int .i64 0] 35 :: cs) (w10.setCell ⟨o, 4, none⟩ (.int .i64 m)) from A.out.setBlk 4 (.int .i64 m))
  have A := hid (A.out.perm (ds := rdC b D rv10 ((((r.num 8).txt 16).num 1099511627776).num 8) :: blkC (o + 1) [.int .i64 1, .int .i64 16, .int .i64 0, .int .i64 0, .int .i64 0, .int .i64 1099511627776, .int .i64 1, .int .i64 8] 103 :: blkC o [.int .i64 6, .string nm, .string emp, .int .i64 n, .int .i64 m] 35 :: blkC w.heap.size [.int .i64 0, .string ⟨#[]⟩, .string ⟨#[]⟩, .int .i64 0, .int .i64 0] 35 :: cs) (List.perm_middle (l₁ := [rdC b D rv10 ((((r.num 8).txt 16).num 1099511627776).num 8), blkC (o + 1) [.int .i64 1, .int .i64 16, .int .i64 0, .int .i64 0, .int .i64 0, .int .i64 1099511627776, .int .i64 1, .int .i64 8] 103])).symm)
  generalize hG : w10.setCell ⟨o, 4, none⟩ (.int .i64 m) = w11 at A
  rw [H5.out] at A
  clear H5
  have hb := A.out.blk (g := o) (vs := [.int .i64 6, .string nm, .string emp, .int .i64 n, .int .i64 m]) (t := 35) mem3
  have o0 : w11.cell? ⟨o, 0, none⟩ = some (.int .i64 6) := by rw [cell_at hb]; rfl
  have o1 : w11.cell? ⟨o, 1, none⟩ = some (.string nm) := by rw [cell_at hb]; rfl
  have o2 : w11.cell? ⟨o, 2, none⟩ = some (.string emp) := by rw [cell_at hb]; rfl
  have o3 : w11.cell? ⟨o, 3, none⟩ = some (.int .i64 n) := by rw [cell_at hb]; rfl
  have o4 : w11.cell? ⟨o, 4, none⟩ = some (.int .i64 m) := by rw [cell_at hb]; rfl
  clear hb
  go_wp2_with fail
  refine (check_any (HT.out _ A.out.tail.tail.tail.tail) 6 nm emp n m).mono ?_
  rw [Hck.out]
  rintro e w12 ⟨rfl, Bh⟩
  have A := hid (A.out.later Bh)
  clear Bh o0 o1 o2 o3 o4
  go_wp2_with fail
  refine (failRd A.out ck).mono ?_
  rw [HRR.out]
  rintro e w13 ⟨rfl, rv13, A1⟩
  have A := hid A1
  clear A1
  go_wp2_with fail
  refine (wholeRd A.out).mono ?_
  rintro e wz ⟨rfl, A1⟩
  have A := hid (A1.perm (ds := blkC w.heap.size [.int .i64 0, .string ⟨#[]⟩, .string ⟨#[]⟩, .int .i64 0, .int .i64 0] 35 :: rdC b D rv13 R :: blkC (o + 1) [.int .i64 1, .int .i64 16, .int .i64 0, .int .i64 0, .int .i64 0, .int .i64 1099511627776, .int .i64 1, .int .i64 8] 103 :: blkC o [.int .i64 6, .string nm, .string emp, .int .i64 n, .int .i64 m] 35 :: cs) (List.perm_middle (l₁ := [rdC b D rv13 R, blkC (o + 1) [.int .i64 1, .int .i64 16, .int .i64 0, .int .i64 0, .int .i64 0, .int .i64 1099511627776, .int .i64 1, .int .i64 8] 103, blkC o [.int .i64 6, .string nm, .string emp, .int .i64 n, .int .i64 m] 35])))
  clear A1 HT HRR Hck P1
  by_cases her : R.err = 0
  · have e1 : (R.err == 0) = true := by rw [beq_iff_eq]; exact her
    rw [e1]
    have her := hid her
    clear e1
    have hb := A.out.blk (g := w.heap.size) (vs := [.int .i64 0, .string ⟨#[]⟩, .string ⟨#[]⟩, .int .i64 0, .int .i64 0]) (t := 35) List.mem_cons_self
    have z0 : wz.cell? ⟨w.heap.size, 0, none⟩ = some (.int .i64 0) := by rw [cell_at hb]; rfl
    have zf0 : wz.frozen? ⟨w.heap.size, 0, none⟩ = false := free_at hb 0
    have z1 : wz.cell? ⟨w.heap.size, 1, none⟩ = some (.string ⟨#[]⟩) := by rw [cell_at hb]; rfl
    have zf1 : wz.frozen? ⟨w.heap.size, 1, none⟩ = false := free_at hb 1
    have z2 : wz.cell? ⟨w.heap.size, 2, none⟩ = some (.string ⟨#[]⟩) := by rw [cell_at hb]; rfl
    have zf2 : wz.frozen? ⟨w.heap.size, 2, none⟩ = false := free_at hb 2
    have z3 : wz.cell? ⟨w.heap.size, 3, none⟩ = some (.int .i64 0) := by rw [cell_at hb]; rfl
    have zf3 : wz.frozen? ⟨w.heap.size, 3, none⟩ = false := free_at hb 3
    have z4 : wz.cell? ⟨w.heap.size, 4, none⟩ = some (.int .i64 0) := by rw [cell_at hb]; rfl
    have zf4 : wz.frozen? ⟨w.heap.size, 4, none⟩ = false := free_at hb 4
    clear hb
    have hb := A.out.blk (g := o) (vs := [.int .i64 6, .string nm, .string emp, .int .i64 n, .int .i64 m]) (t := 35) mem4
    have o0 : wz.cell? ⟨o, 0, none⟩ = some (.int .i64 6) := by rw [cell_at hb]; rfl
    have o1 : wz.cell? ⟨o, 1, none⟩ = some (.string nm) := by rw [cell_at hb]; rfl
    have o2 : wz.cell? ⟨o, 2, none⟩ = some (.string emp) := by rw [cell_at hb]; rfl
    have o3 : wz.cell? ⟨o, 3, none⟩ = some (.int .i64 n) := by rw [cell_at hb]; rfl
    have o4 : wz.cell? ⟨o, 4, none⟩ = some (.int .i64 m) := by rw [cell_at hb]; rfl
    clear hb
    have A := hid ((((((A.out.setBlk 0 (.int .i64 6)).setBlk 1 (.string nm)).setBlk 2 (.string emp)).setBlk 3 (.int .i64 n)).setBlk 4 (.int .i64 m)))
    go_wp2
    refine bodyPost_ret (v := opV 6 nm emp n m) (res26 (b := w.heap.size) rfl A.out.1.2.1) rfl ?_
    refine ⟨by rw [gotV, if_pos her.out], rv13, ?_⟩
    exact ((A.out.tail).swap.tail).swap.tail
  · have e1 : (R.err == 0) = false := by rw [beq_eq_false_iff_ne]; exact her
    rw [e1]
    have her := hid her
    clear e1
    have hb := A.out.blk (g := w.heap.size) (vs := [.int .i64 0, .string ⟨#[]⟩, .string ⟨#[]⟩, .int .i64 0, .int .i64 0]) (t := 35) List.mem_cons_self
    have z0 : wz.cell? ⟨w.heap.size, 0, none⟩ = some (.int .i64 0) := by rw [cell_at hb]; rfl
    have zf0 : wz.frozen? ⟨w.heap.size, 0, none⟩ = false := free_at hb 0
    have z1 : wz.cell? ⟨w.heap.size, 1, none⟩ = some (.string ⟨#[]⟩) := by rw [cell_at hb]; rfl
    have zf1 : wz.frozen? ⟨w.heap.size, 1, none⟩ = false := free_at hb 1
    have z2 : wz.cell? ⟨w.heap.size, 2, none⟩ = some (.string ⟨#[]⟩) := by rw [cell_at hb]; rfl
    have zf2 : wz.frozen? ⟨w.heap.size, 2, none⟩ = false := free_at hb 2
    have z3 : wz.cell? ⟨w.heap.size, 3, none⟩ = some (.int .i64 0) := by rw [cell_at hb]; rfl
    have zf3 : wz.frozen? ⟨w.heap.size, 3, none⟩ = false := free_at hb 3
    have z4 : wz.cell? ⟨w.heap.size, 4, none⟩ = some (.int .i64 0) := by rw [cell_at hb]; rfl
    have zf4 : wz.frozen? ⟨w.heap.size, 4, none⟩ = false := free_at hb 4
    clear hb
    have A := hid ((((((A.out.setBlk 0 (.int .i64 0)).setBlk 1 (.string emp)).setBlk 2 (.string emp)).setBlk 3 (.int .i64 0)).setBlk 4 (.int .i64 0)))
    go_wp2
    refine bodyPost_ret (v := opV 0 emp emp 0 0) (res26 (b := w.heap.size) rfl A.out.1.2.1) rfl ?_
    refine ⟨by rw [gotV, if_neg her.out], rv13, ?_⟩
    exact ((A.out.tail).swap.tail).swap.tail

set_option maxHeartbeats 3200000 in
set_option maxRecDepth 1000000 in
theorem get7 {b : Nat} {D : Option Nat} {rv : Value} {r : Rst} {cs : List Comp} {w : World} (h : All (rdC b D rv r :: cs) w) (ht : ∀ w', All cs w' → Tab w') (hp : r.size ≤ 140737488355328) (hk : r.numV 8 = 7) :
    Calls Tryz.prog 12 #[.pointer (some ⟨b, 0, none⟩)] w fun e w' => e = .returned (gotV (((r.num 8).txt 16).fail (chkA 7 (ByteArray.size ((r.num 8).txtV 16)) (ByteArray.size emp) 0 0)) 7 ((r.num 8).txtV 16) emp 0 0) ∧ ∃ rv', All (rdC b D rv' (((r.num 8).txt 16).fail (chkA 7 (ByteArray.size ((r.num 8).txtV 16)) (ByteArray.size emp) 0 0)) :: cs) w' := by
  have A := hid (h.addBlk [.int .i64 0, .string ⟨#[]⟩, .string ⟨#[]⟩, .int .i64 0, .int .i64 0] 35).swap
  have HT := hid ht
  have HK := hid hk
  have P1 := hid (num_size r 8)
  clear h ht hk
  generalize hnm : ((r.num 8).txtV 16) = nm
  have Hnm := hid hnm
  clear hnm
  generalize h5 : ((r.num 8).txt 16) = r5
  have H5 := hid h5
  clear h5
  generalize hck : chkA 7 (ByteArray.size nm) (ByteArray.size emp) 0 0 = ck
  have Hck := hid hck
  clear hck
  generalize hRR : r5.fail ck = R
  have HRR := hid hRR
  clear hRR
  go_enter Tryz.func12, Tryz.ntmps12
  go_wp2_with fail
  refine (numRd A.out hp 8).mono ?_
  rw [HK.out]
  rintro e w1 ⟨rfl, rv1, A1⟩
  have A := hid A1
  clear A1 HK
  have TB := HT.out _ A.out.tail.tail
  have t0 : w1.cell? ⟨0, 56, none⟩ = some (.int .i64 1) := TB.cell 56 (by omega)
  have t1 : w1.cell? ⟨0, 57, none⟩ = some (.int .i64 16) := TB.cell 57 (by omega)
  have t2 : w1.cell? ⟨0, 58, none⟩ = some (.int .i64 0) := TB.cell 58 (by omega)
  have t3 : w1.cell? ⟨0, 59, none⟩ = some (.int .i64 0) := TB.cell 59 (by omega)
  have t4 : w1.cell? ⟨0, 60, none⟩ = some (.int .i64 0) := TB.cell 60 (by omega)
  have t5 : w1.cell? ⟨0, 61, none⟩ = some (.int .i64 0) := TB.cell 61 (by omega)
  have t6 : w1.cell? ⟨0, 62, none⟩ = some (.int .i64 0) := TB.cell 62 (by omega)
  have t7 : w1.cell? ⟨0, 63, none⟩ = some (.int .i64 0) := TB.cell 63 (by omega)
  have tlt := TB.lt
  have A2 := (A.out.addBlk [.int .i64 7, .string emp, .string emp, .int .i64 0, .int .i64 0] 35).addBlk [.int .i64 1, .int .i64 16, .int .i64 0, .int .i64 0, .int .i64 0, .int .i64 0, .int .i64 0, .int .i64 0] 103
  have hsz : (w1.alloc (.cells [.int .i64 7, .string emp, .string emp, .int .i64 0, .int .i64 0].toArray 35)).heap.size = w1.heap.size + 1 := by simp
  rw [hsz] at A2
  clear A TB hsz
  generalize hO : w1.heap.size = o at A2 tlt
  have A := hid (A2.perm (ds := rdC b D rv1 (r.num 8) :: blkC (o + 1) [.int .i64 1, .int .i64 16, .int .i64 0, .int .i64 0, .int .i64 0, .int .i64 0, .int .i64 0, .int .i64 0] 103 :: blkC o [.int .i64 7, .string emp, .string emp, .int .i64 0, .int .i64 0] 35 :: blkC w.heap.size [.int .i64 0, .string ⟨#[]⟩, .string ⟨#[]⟩, .int .i64 0, .int .i64 0] 35 :: cs) (List.perm_middle (l₁ := [blkC (o + 1) [.int .i64 1, .int .i64 16, .int .i64 0, .int .i64 0, .int .i64 0, .int .i64 0, .int .i64 0, .int .i64 0] 103, blkC o [.int .i64 7, .string emp, .string emp, .int .i64 0, .int .i64 0] 35])))
  clear A2
  go_wp2_with fail
  refine (has_any 1 16).mono ?_
  rintro e w2 ⟨rfl, Bh⟩
  rw [show hs 16 = true by decide +kernel]
  have A := hid (A.out.later Bh)
  clear Bh hO t0 t1 t2 t3 t4 t5 t6 t7 tlt
  have hb := A.out.blk (g := o + 1) (vs := [.int .i64 1, .int .i64 16, .int .i64 0, .int .i64 0, .int .i64 0, .int .i64 0, .int .i64 0, .int .i64 0]) (t := 103) mem2
  have q : w2.cell? ⟨o + 1, 1, none⟩ = some (.int .i64 16) := by rw [cell_at hb]; rfl
  clear hb
  go_wp2_with fail
  refine (textRd A.out (by have := P1.out; unfold Rst.size at *; omega) 16).mono ?_
  rw [Hnm.out]
  rintro e w3 ⟨rfl, rv3, A1⟩
  have P1 := hid (Nat.le_trans (txt_size (r.num 8) 16) P1.out)
  have A := hid (A1.perm (ds := blkC o [.int .i64 7, .string emp, .string emp, .int .i64 0, .int .i64 0] 35 :: rdC b D rv3 ((r.num 8).txt 16) :: blkC (o + 1) [.int .i64 1, .int .i64 16, .int .i64 0, .int .i64 0, .int .i64 0, .int .i64 0, .int .i64 0, .int .i64 0] 103 :: blkC w.heap.size [.int .i64 0, .string ⟨#[]⟩, .string ⟨#[]⟩, .int .i64 0, .int .i64 0] 35 :: cs) (List.perm_middle (l₁ := [rdC b D rv3 ((r.num 8).txt 16), blkC (o + 1) [.int .i64 1, .int .i64 16, .int .i64 0, .int .i64 0, .int .i64 0, .int .i64 0, .int .i64 0, .int .i64 0] 103])))
  clear A1 q
  have hb := A.out.blk (g := o) (vs := [.int .i64 7, .string emp, .string emp, .int .i64 0, .int .i64 0]) (t := 35) List.mem_cons_self
  have q : w3.cell? ⟨o, 1, none⟩ = some (.string emp) := by rw [cell_at hb]; rfl
  have qf : w3.frozen? ⟨o, 1, none⟩ = false := free_at hb 1
  clear hb
  have A := hid (show All (blkC o [.int .i64 7, .string nm, .string emp, .int .i64 0, .int .i64 0] 35 :: rdC b D rv3 ((r.num 8).txt 16) :: blkC (o + 1) [.int .i64 1, .int .i64 16, .int .i64 0, .int .i64 0, .int .i64 0, .int .i64 0, .int .i64 0, .int .i64 0] 103 :: blkC w.heap.size [.int .i64 0, .string ⟨#[]⟩, .string ⟨#[]⟩, .int .i64 0, .int .i64 0] 35 :: cs) (w3.setCell ⟨o, 1, none⟩ (.string nm)) from A.out.setBlk 1 (.string nm))
  have A := hid (A.out.perm (ds := rdC b D rv3 ((r.num 8).txt 16) :: blkC (o + 1) [.int .i64 1, .int .i64 16, .int .i64 0, .int .i64 0, .int .i64 0, .int .i64 0, .int .i64 0, .int .i64 0] 103 :: blkC o [.int .i64 7, .string nm, .string emp, .int .i64 0, .int .i64 0] 35 :: blkC w.heap.size [.int .i64 0, .string ⟨#[]⟩, .string ⟨#[]⟩, .int .i64 0, .int .i64 0] 35 :: cs) (List.perm_middle (l₁ := [rdC b D rv3 ((r.num 8).txt 16), blkC (o + 1) [.int .i64 1, .int .i64 16, .int .i64 0, .int .i64 0, .int .i64 0, .int .i64 0, .int .i64 0, .int .i64 0] 103])).symm)
  generalize hG : w3.setCell ⟨o, 1, none⟩ (.string nm) = w4 at A
  have hb := A.out.blk (g := o + 1) (vs := [.int .i64 1, .int .i64 16, .int .i64 0, .int .i64 0, .int .i64 0, .int .i64 0, .int .i64 0, .int .i64 0]) (t := 103) mem2
  have r2 : w4.cell? ⟨o + 1, 2, none⟩ = some (.int .i64 0) := by rw [cell_at hb]; rfl
  have r3 : w4.cell? ⟨o + 1, 3, none⟩ = some (.int .i64 0) := by rw [cell_at hb]; rfl
  clear hb
  go_wp2_with fail
  refine (has_any 0 0).mono ?_
  rintro e w5 ⟨rfl, Bh⟩
  rw [show hs 0 = false by decide +kernel]
  have A := hid (A.out.later Bh)
  clear Bh r2 r3
  have hb := A.out.blk (g := o + 1) (vs := [.int .i64 1, .int .i64 16, .int .i64 0, .int .i64 0, .int .i64 0, .int .i64 0, .int .i64 0, .int .i64 0]) (t := 103) mem2
  have r4 : w5.cell? ⟨o + 1, 4, none⟩ = some (.int .i64 0) := by rw [cell_at hb]; rfl
  have r5 : w5.cell? ⟨o + 1, 5, none⟩ = some (.int .i64 0) := by rw [cell_at hb]; rfl
  clear hb
  go_wp2_with fail
  refine (has_any 0 0).mono ?_
  rintro e w6 ⟨rfl, Bh⟩
  rw [show hs 0 = false by decide +kernel]
  have A := hid (A.out.later Bh)
  clear Bh r4 r5
  have hb := A.out.blk (g := o + 1) (vs := [.int .i64 1, .int .i64 16, .int .i64 0, .int .i64 0, .int .i64 0, .int .i64 0, .int .i64 0, .int .i64 0]) (t := 103) mem2
  have r6 : w6.cell? ⟨o + 1, 6, none⟩ = some (.int .i64 0) := by rw [cell_at hb]; rfl
  have r7 : w6.cell? ⟨o + 1, 7, none⟩ = some (.int .i64 0) := by rw [cell_at hb]; rfl
  clear hb
  go_wp2_with fail
  refine (has_any 0 0).mono ?_
  rintro e w7 ⟨rfl, Bh⟩
  rw [show hs 0 = false by decide +kernel]
  have A := hid (A.out.later Bh)
  clear Bh r6 r7
  rw [H5.out] at A
  clear H5
  have hb := A.out.blk (g := o) (vs := [.int .i64 7, .string nm, .string emp, .int .i64 0, .int .i64 0]) (t := 35) mem3
  have o0 : w7.cell? ⟨o, 0, none⟩ = some (.int .i64 7) := by rw [cell_at hb]; rfl
  have o1 : w7.cell? ⟨o, 1, none⟩ = some (.string nm) := by rw [cell_at hb]; rfl
  have o2 : w7.cell? ⟨o, 2, none⟩ = some (.string emp) := by rw [cell_at hb]; rfl
  have o3 : w7.cell? ⟨o, 3, none⟩ = some (.int .i64 0) := by rw [cell_at hb]; rfl
  have o4 : w7.cell? ⟨o, 4, none⟩ = some (.int .i64 0) := by rw [cell_at hb]; rfl
  clear hb
  go_wp2_with fail
  refine (check_any (HT.out _ A.out.tail.tail.tail.tail) 7 nm emp 0 0).mono ?_
  rw [Hck.out]
  rintro e w8 ⟨rfl, Bh⟩
  have A := hid (A.out.later Bh)
  clear Bh o0 o1 o2 o3 o4
  go_wp2_with fail
  refine (failRd A.out ck).mono ?_
  rw [HRR.out]
  rintro e w9 ⟨rfl, rv9, A1⟩
  have A := hid A1
  clear A1
  go_wp2_with fail
  refine (wholeRd A.out).mono ?_
  rintro e wz ⟨rfl, A1⟩
  have A := hid (A1.perm (ds := blkC w.heap.size [.int .i64 0, .string ⟨#[]⟩, .string ⟨#[]⟩, .int .i64 0, .int .i64 0] 35 :: rdC b D rv9 R :: blkC (o + 1) [.int .i64 1, .int .i64 16, .int .i64 0, .int .i64 0, .int .i64 0, .int .i64 0, .int .i64 0, .int .i64 0] 103 :: blkC o [.int .i64 7, .string nm, .string emp, .int .i64 0, .int .i64 0] 35 :: cs) (List.perm_middle (l₁ := [rdC b D rv9 R, blkC (o + 1) [.int .i64 1, .int .i64 16, .int .i64 0, .int .i64 0, .int .i64 0, .int .i64 0, .int .i64 0, .int .i64 0] 103, blkC o [.int .i64 7, .string nm, .string emp, .int .i64 0, .int .i64 0] 35])))
  clear A1 HT HRR Hck P1
  by_cases her : R.err = 0
  · have e1 : (R.err == 0) = true := by rw [beq_iff_eq]; exact her
    rw [e1]
    have her := hid her
    clear e1
    have hb := A.out.blk (g := w.heap.size) (vs := [.int .i64 0, .string ⟨#[]⟩, .string ⟨#[]⟩, .int .i64 0, .int .i64 0]) (t := 35) List.mem_cons_self
    have z0 : wz.cell? ⟨w.heap.size, 0, none⟩ = some (.int .i64 0) := by rw [cell_at hb]; rfl
    have zf0 : wz.frozen? ⟨w.heap.size, 0, none⟩ = false := free_at hb 0
    have z1 : wz.cell? ⟨w.heap.size, 1, none⟩ = some (.string ⟨#[]⟩) := by rw [cell_at hb]; rfl
    have zf1 : wz.frozen? ⟨w.heap.size, 1, none⟩ = false := free_at hb 1
    have z2 : wz.cell? ⟨w.heap.size, 2, none⟩ = some (.string ⟨#[]⟩) := by rw [cell_at hb]; rfl
    have zf2 : wz.frozen? ⟨w.heap.size, 2, none⟩ = false := free_at hb 2
    have z3 : wz.cell? ⟨w.heap.size, 3, none⟩ = some (.int .i64 0) := by rw [cell_at hb]; rfl
    have zf3 : wz.frozen? ⟨w.heap.size, 3, none⟩ = false := free_at hb 3
    have z4 : wz.cell? ⟨w.heap.size, 4, none⟩ = some (.int .i64 0) := by rw [cell_at hb]; rfl
    have zf4 : wz.frozen? ⟨w.heap.size, 4, none⟩ = false := free_at hb 4
    clear hb
    have hb := A.out.blk (g := o) (vs := [.int .i64 7, .string nm, .string emp, .int .i64 0, .int .i64 0]) (t := 35) mem4
    have o0 : wz.cell? ⟨o, 0, none⟩ = some (.int .i64 7) := by rw [cell_at hb]; rfl
    have o1 : wz.cell? ⟨o, 1, none⟩ = some (.string nm) := by rw [cell_at hb]; rfl
    have o2 : wz.cell? ⟨o, 2, none⟩ = some (.string emp) := by rw [cell_at hb]; rfl
    have o3 : wz.cell? ⟨o, 3, none⟩ = some (.int .i64 0) := by rw [cell_at hb]; rfl
    have o4 : wz.cell? ⟨o, 4, none⟩ = some (.int .i64 0) := by rw [cell_at hb]; rfl
    clear hb
    have A := hid ((((((A.out.setBlk 0 (.int .i64 7)).setBlk 1 (.string nm)).setBlk 2 (.string emp)).setBlk 3 (.int .i64 0)).setBlk 4 (.int .i64 0)))
    go_wp2
    refine bodyPost_ret (v := opV 7 nm emp 0 0) (res26 (b := w.heap.size) rfl A.out.1.2.1) rfl ?_
    refine ⟨by rw [gotV, if_pos her.out], rv9, ?_⟩
    exact ((A.out.tail).swap.tail).swap.tail
  · have e1 : (R.err == 0) = false := by rw [beq_eq_false_iff_ne]; exact her
    rw [e1]
    have her := hid her
    clear e1
    have hb := A.out.blk (g := w.heap.size) (vs := [.int .i64 0, .string ⟨#[]⟩, .string ⟨#[]⟩, .int .i64 0, .int .i64 0]) (t := 35) List.mem_cons_self
    have z0 : wz.cell? ⟨w.heap.size, 0, none⟩ = some (.int .i64 0) := by rw [cell_at hb]; rfl
    have zf0 : wz.frozen? ⟨w.heap.size, 0, none⟩ = false := free_at hb 0
    have z1 : wz.cell? ⟨w.heap.size, 1, none⟩ = some (.string ⟨#[]⟩) := by rw [cell_at hb]; rfl
    have zf1 : wz.frozen? ⟨w.heap.size, 1, none⟩ = false := free_at hb 1
    have z2 : wz.cell? ⟨w.heap.size, 2, none⟩ = some (.string ⟨#[]⟩) := by rw [cell_at hb]; rfl
    have zf2 : wz.frozen? ⟨w.heap.size, 2, none⟩ = false := free_at hb 2
    have z3 : wz.cell? ⟨w.heap.size, 3, none⟩ = some (.int .i64 0) := by rw [cell_at hb]; rfl
    have zf3 : wz.frozen? ⟨w.heap.size, 3, none⟩ = false := free_at hb 3
    have z4 : wz.cell? ⟨w.heap.size, 4, none⟩ = some (.int .i64 0) := by rw [cell_at hb]; rfl
    have zf4 : wz.frozen? ⟨w.heap.size, 4, none⟩ = false := free_at hb 4
    clear hb
    have A := hid ((((((A.out.setBlk 0 (.int .i64 0)).setBlk 1 (.string emp)).setBlk 2 (.string emp)).setBlk 3 (.int .i64 0)).setBlk 4 (.int .i64 0)))
    go_wp2
    refine bodyPost_ret (v := opV 0 emp emp 0 0) (res26 (b := w.heap.size) rfl A.out.1.2.1) rfl ?_
    refine ⟨by rw [gotV, if_neg her.out], rv9, ?_⟩
    exact ((A.out.tail).swap.tail).swap.tail

set_option maxHeartbeats 3200000 in
set_option maxRecDepth 1000000 in
theorem get8 {b : Nat} {D : Option Nat} {rv : Value} {r : Rst} {cs : List Comp} {w : World} (h : All (rdC b D rv r :: cs) w) (ht : ∀ w', All cs w' → Tab w') (hp : r.size ≤ 140737488355328) (hk : r.numV 8 = 8) :
    Calls Tryz.prog 12 #[.pointer (some ⟨b, 0, none⟩)] w fun e w' => e = .returned (gotV ((r.num 8).fail (chkA 8 (ByteArray.size emp) (ByteArray.size emp) 0 0)) 8 emp emp 0 0) ∧ ∃ rv', All (rdC b D rv' ((r.num 8).fail (chkA 8 (ByteArray.size emp) (ByteArray.size emp) 0 0)) :: cs) w' := by
  have A := hid (h.addBlk [.int .i64 0, .string ⟨#[]⟩, .string ⟨#[]⟩, .int .i64 0, .int .i64 0] 35).swap
  have HT := hid ht
  have HK := hid hk
  have P1 := hid (num_size r 8)
  clear h ht hk
  generalize h5 : (r.num 8) = r5
  have H5 := hid h5
  clear h5
  generalize hck : chkA 8 (ByteArray.size emp) (ByteArray.size emp) 0 0 = ck
  have Hck := hid hck
  clear hck
  generalize hRR : r5.fail ck = R
  have HRR := hid hRR
  clear hRR
  go_enter Tryz.func12, Tryz.ntmps12
  go_wp2_with fail
  refine (numRd A.out hp 8).mono ?_
  rw [HK.out]
  rintro e w1 ⟨rfl, rv1, A1⟩
  have A := hid A1
  clear A1 HK
  have TB := HT.out _ A.out.tail.tail
  have t0 : w1.cell? ⟨0, 64, none⟩ = some (.int .i64 0) := TB.cell 64 (by omega)
  have t1 : w1.cell? ⟨0, 65, none⟩ = some (.int .i64 0) := TB.cell 65 (by omega)
  have t2 : w1.cell? ⟨0, 66, none⟩ = some (.int .i64 0) := TB.cell 66 (by omega)
  have t3 : w1.cell? ⟨0, 67, none⟩ = some (.int .i64 0) := TB.cell 67 (by omega)
  have t4 : w1.cell? ⟨0, 68, none⟩ = some (.int .i64 0) := TB.cell 68 (by omega)
  have t5 : w1.cell? ⟨0, 69, none⟩ = some (.int .i64 0) := TB.cell 69 (by omega)
  have t6 : w1.cell? ⟨0, 70, none⟩ = some (.int .i64 0) := TB.cell 70 (by omega)
  have t7 : w1.cell? ⟨0, 71, none⟩ = some (.int .i64 0) := TB.cell 71 (by omega)
  have tlt := TB.lt
  have A2 := (A.out.addBlk [.int .i64 8, .string emp, .string emp, .int .i64 0, .int .i64 0] 35).addBlk [.int .i64 0, .int .i64 0, .int .i64 0, .int .i64 0, .int .i64 0, .int .i64 0, .int .i64 0, .int .i64 0] 103
  have hsz : (w1.alloc (.cells [.int .i64 8, .string emp, .string emp, .int .i64 0, .int .i64 0].toArray 35)).heap.size = w1.heap.size + 1 := by simp
  rw [hsz] at A2
  clear A TB hsz
  generalize hO : w1.heap.size = o at A2 tlt
  have A := hid (A2.perm (ds := rdC b D rv1 (r.num 8) :: blkC (o + 1) [.int .i64 0, .int .i64 0, .int .i64 0, .int .i64 0, .int .i64 0, .int .i64 0, .int .i64 0, .int .i64 0] 103 :: blkC o [.int .i64 8, .string emp, .string emp, .int .i64 0, .int .i64 0] 35 :: blkC w.heap.size [.int .i64 0, .string ⟨#[]⟩, .string ⟨#[]⟩, .int .i64 0, .int .i64 0] 35 :: cs) (List.perm_middle (l₁ := [blkC (o + 1) [.int .i64 0, .int .i64 0, .int .i64 0, .int .i64 0, .int .i64 0, .int .i64 0, .int .i64 0, .int .i64 0] 103, blkC o [.int .i64 8, .string emp, .string emp, .int .i64 0, .int .i64 0] 35])))
  clear A2
  go_wp2_with fail
  refine (has_any 0 0).mono ?_
  rintro e w2 ⟨rfl, Bh⟩
  rw [show hs 0 = false by decide +kernel]
  have A := hid (A.out.later Bh)
  clear Bh hO t0 t1 t2 t3 t4 t5 t6 t7 tlt
  have hb := A.out.blk (g := o + 1) (vs := [.int .i64 0, .int .i64 0, .int .i64 0, .int .i64 0, .int .i64 0, .int .i64 0, .int .i64 0, .int .i64 0]) (t := 103) mem2
  have r2 : w2.cell? ⟨o + 1, 2, none⟩ = some (.int .i64 0) := by rw [cell_at hb]; rfl
  have r3 : w2.cell? ⟨o + 1, 3, none⟩ = some (.int .i64 0) := by rw [cell_at hb]; rfl
  clear hb
  go_wp2_with fail
  refine (has_any 0 0).mono ?_
  rintro e w3 ⟨rfl, Bh⟩
  rw [show hs 0 = false by decide +kernel]
  have A := hid (A.out.later Bh)
  clear Bh r2 r3
  have hb := A.out.blk (g := o + 1) (vs := [.int .i64 0, .int .i64 0, .int .i64 0, .int .i64 0, .int .i64 0, .int .i64 0, .int .i64 0, .int .i64 0]) (t := 103) mem2
  have r4 : w3.cell? ⟨o + 1, 4, none⟩ = some (.int .i64 0) := by rw [cell_at hb]; rfl
  have r5 : w3.cell? ⟨o + 1, 5, none⟩ = some (.int .i64 0) := by rw [cell_at hb]; rfl
  clear hb
  go_wp2_with fail
  refine (has_any 0 0).mono ?_
  rintro e w4 ⟨rfl, Bh⟩
  rw [show hs 0 = false by decide +kernel]
  have A := hid (A.out.later Bh)
  clear Bh r4 r5
  have hb := A.out.blk (g := o + 1) (vs := [.int .i64 0, .int .i64 0, .int .i64 0, .int .i64 0, .int .i64 0, .int .i64 0, .int .i64 0, .int .i64 0]) (t := 103) mem2
  have r6 : w4.cell? ⟨o + 1, 6, none⟩ = some (.int .i64 0) := by rw [cell_at hb]; rfl
  have r7 : w4.cell? ⟨o + 1, 7, none⟩ = some (.int .i64 0) := by rw [cell_at hb]; rfl
  clear hb
  go_wp2_with fail
  refine (has_any 0 0).mono ?_
  rintro e w5 ⟨rfl, Bh⟩
  rw [show hs 0 = false by decide +kernel]
  have A := hid (A.out.later Bh)
  clear Bh r6 r7
  rw [H5.out] at A
  clear H5
  have hb := A.out.blk (g := o) (vs := [.int .i64 8, .string emp, .string emp, .int .i64 0, .int .i64 0]) (t := 35) mem3
  have o0 : w5.cell? ⟨o, 0, none⟩ = some (.int .i64 8) := by rw [cell_at hb]; rfl
  have o1 : w5.cell? ⟨o, 1, none⟩ = some (.string emp) := by rw [cell_at hb]; rfl
  have o2 : w5.cell? ⟨o, 2, none⟩ = some (.string emp) := by rw [cell_at hb]; rfl
  have o3 : w5.cell? ⟨o, 3, none⟩ = some (.int .i64 0) := by rw [cell_at hb]; rfl
  have o4 : w5.cell? ⟨o, 4, none⟩ = some (.int .i64 0) := by rw [cell_at hb]; rfl
  clear hb
  go_wp2_with fail
  refine (check_any (HT.out _ A.out.tail.tail.tail.tail) 8 emp emp 0 0).mono ?_
  rw [Hck.out]
  rintro e w6 ⟨rfl, Bh⟩
  have A := hid (A.out.later Bh)
  clear Bh o0 o1 o2 o3 o4
  go_wp2_with fail
  refine (failRd A.out ck).mono ?_
  rw [HRR.out]
  rintro e w7 ⟨rfl, rv7, A1⟩
  have A := hid A1
  clear A1
  go_wp2_with fail
  refine (wholeRd A.out).mono ?_
  rintro e wz ⟨rfl, A1⟩
  have A := hid (A1.perm (ds := blkC w.heap.size [.int .i64 0, .string ⟨#[]⟩, .string ⟨#[]⟩, .int .i64 0, .int .i64 0] 35 :: rdC b D rv7 R :: blkC (o + 1) [.int .i64 0, .int .i64 0, .int .i64 0, .int .i64 0, .int .i64 0, .int .i64 0, .int .i64 0, .int .i64 0] 103 :: blkC o [.int .i64 8, .string emp, .string emp, .int .i64 0, .int .i64 0] 35 :: cs) (List.perm_middle (l₁ := [rdC b D rv7 R, blkC (o + 1) [.int .i64 0, .int .i64 0, .int .i64 0, .int .i64 0, .int .i64 0, .int .i64 0, .int .i64 0, .int .i64 0] 103, blkC o [.int .i64 8, .string emp, .string emp, .int .i64 0, .int .i64 0] 35])))
  clear A1 HT HRR Hck P1
  by_cases her : R.err = 0
  · have e1 : (R.err == 0) = true := by rw [beq_iff_eq]; exact her
    rw [e1]
    have her := hid her
    clear e1
    have hb := A.out.blk (g := w.heap.size) (vs := [.int .i64 0, .string ⟨#[]⟩, .string ⟨#[]⟩, .int .i64 0, .int .i64 0]) (t := 35) List.mem_cons_self
    have z0 : wz.cell? ⟨w.heap.size, 0, none⟩ = some (.int .i64 0) := by rw [cell_at hb]; rfl
    have zf0 : wz.frozen? ⟨w.heap.size, 0, none⟩ = false := free_at hb 0
    have z1 : wz.cell? ⟨w.heap.size, 1, none⟩ = some (.string ⟨#[]⟩) := by rw [cell_at hb]; rfl
    have zf1 : wz.frozen? ⟨w.heap.size, 1, none⟩ = false := free_at hb 1
    have z2 : wz.cell? ⟨w.heap.size, 2, none⟩ = some (.string ⟨#[]⟩) := by rw [cell_at hb]; rfl
    have zf2 : wz.frozen? ⟨w.heap.size, 2, none⟩ = false := free_at hb 2
    have z3 : wz.cell? ⟨w.heap.size, 3, none⟩ = some (.int .i64 0) := by rw [cell_at hb]; rfl
    have zf3 : wz.frozen? ⟨w.heap.size, 3, none⟩ = false := free_at hb 3
    have z4 : wz.cell? ⟨w.heap.size, 4, none⟩ = some (.int .i64 0) := by rw [cell_at hb]; rfl
    have zf4 : wz.frozen? ⟨w.heap.size, 4, none⟩ = false := free_at hb 4
    clear hb
    have hb := A.out.blk (g := o) (vs := [.int .i64 8, .string emp, .string emp, .int .i64 0, .int .i64 0]) (t := 35) mem4
    have o0 : wz.cell? ⟨o, 0, none⟩ = some (.int .i64 8) := by rw [cell_at hb]; rfl
    have o1 : wz.cell? ⟨o, 1, none⟩ = some (.string emp) := by rw [cell_at hb]; rfl
    have o2 : wz.cell? ⟨o, 2, none⟩ = some (.string emp) := by rw [cell_at hb]; rfl
    have o3 : wz.cell? ⟨o, 3, none⟩ = some (.int .i64 0) := by rw [cell_at hb]; rfl
    have o4 : wz.cell? ⟨o, 4, none⟩ = some (.int .i64 0) := by rw [cell_at hb]; rfl
    clear hb
    have A := hid ((((((A.out.setBlk 0 (.int .i64 8)).setBlk 1 (.string emp)).setBlk 2 (.string emp)).setBlk 3 (.int .i64 0)).setBlk 4 (.int .i64 0)))
    go_wp2
    refine bodyPost_ret (v := opV 8 emp emp 0 0) (res26 (b := w.heap.size) rfl A.out.1.2.1) rfl ?_
    refine ⟨by rw [gotV, if_pos her.out], rv7, ?_⟩
    exact ((A.out.tail).swap.tail).swap.tail
  · have e1 : (R.err == 0) = false := by rw [beq_eq_false_iff_ne]; exact her
    rw [e1]
    have her := hid her
    clear e1
    have hb := A.out.blk (g := w.heap.size) (vs := [.int .i64 0, .string ⟨#[]⟩, .string ⟨#[]⟩, .int .i64 0, .int .i64 0]) (t := 35) List.mem_cons_self
    have z0 : wz.cell? ⟨w.heap.size, 0, none⟩ = some (.int .i64 0) := by rw [cell_at hb]; rfl
    have zf0 : wz.frozen? ⟨w.heap.size, 0, none⟩ = false := free_at hb 0
    have z1 : wz.cell? ⟨w.heap.size, 1, none⟩ = some (.string ⟨#[]⟩) := by rw [cell_at hb]; rfl
    have zf1 : wz.frozen? ⟨w.heap.size, 1, none⟩ = false := free_at hb 1
    have z2 : wz.cell? ⟨w.heap.size, 2, none⟩ = some (.string ⟨#[]⟩) := by rw [cell_at hb]; rfl
    have zf2 : wz.frozen? ⟨w.heap.size, 2, none⟩ = false := free_at hb 2
    have z3 : wz.cell? ⟨w.heap.size, 3, none⟩ = some (.int .i64 0) := by rw [cell_at hb]; rfl
    have zf3 : wz.frozen? ⟨w.heap.size, 3, none⟩ = false := free_at hb 3
    have z4 : wz.cell? ⟨w.heap.size, 4, none⟩ = some (.int .i64 0) := by rw [cell_at hb]; rfl
    have zf4 : wz.frozen? ⟨w.heap.size, 4, none⟩ = false := free_at hb 4
    clear hb
    have A := hid ((((((A.out.setBlk 0 (.int .i64 0)).setBlk 1 (.string emp)).setBlk 2 (.string emp)).setBlk 3 (.int .i64 0)).setBlk 4 (.int .i64 0)))
    go_wp2
    refine bodyPost_ret (v := opV 0 emp emp 0 0) (res26 (b := w.heap.size) rfl A.out.1.2.1) rfl ?_
    refine ⟨by rw [gotV, if_neg her.out], rv7, ?_⟩
    exact ((A.out.tail).swap.tail).swap.tail
end Go.Proofs.YtkcepkehgkkkbaaGreatDoor
