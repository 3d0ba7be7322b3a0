import Derived.Test.YtfeppannfcbakaaGreatDoorJ9
import Derived.Test.YtfeppannfcbakaaGreatDoorEv25
namespace Go.Proofs.YtfeppannfcbakaaGreatDoor
open Go.RowKit
set_option linter.unusedVariables false
set_option maxRecDepth 1000000
set_option maxHeartbeats 6400000
theorem range_in {P o : Nat} {C l : List Value} {t : TypeId} {cs : List Comp} {w : World} (A : All cs w) (hm : blkC P C t ∈ cs) (h : ∀ j v, l[j]? = some v → C[o + j]? = some v) : w.rangeAt P o l := fun j v hv => cell_in A hm (h j v hv)
theorem sameEvent_true (e : Ev) {r1 r2 d1 d2 : Value} {items : Ws} {data : List UInt8} {cs : List Comp} {w : World} (A : All cs w) (hr1 : ∀ W, All cs W → Rt W r1 items) (hr2 : ∀ W, All cs W → Rt W r2 items) (hd1 : ∀ W, All cs W → BRd W d1 data) (hd2 : ∀ W, All cs W → BRd W d2 data) (hl : items.length ≤ 140737488355328) (hdl : data.length ≤ 140737488355328) :
   Calls Tryz.prog 13 #[.agg (e.cells2 r1 d1).toArray, .agg (e.cells2 r2 d2).toArray] w fun r w' => r = .returned (.bool true) ∧ All cs w' := by
 obtain ⟨ra1, rc1, rfl⟩ := (hr1 w A).form
 obtain ⟨ra2, rc2, rfl⟩ := (hr2 w A).form
 obtain ⟨da1, dc1, rfl⟩ := (hd1 w A).form
 obtain ⟨da2, dc2, rfl⟩ := (hd2 w A).form
 have A0 := hid ((A.addBlk (e.cells2 (.slice ra1 items.length rc1) (.slice da1 data.length dc1)) 36).addBlk (e.cells2 (.slice ra2 items.length rc2) (.slice da2 data.length dc2)) 36)
 rw [alloc_size] at A0
 have C33 := hid (fun W (h : All (blkC (w.heap.size + 1) (e.cells2 (.slice ra2 items.length rc2) (.slice da2 data.length dc2)) 36 :: blkC w.heap.size (e.cells2 (.slice ra1 items.length rc1) (.slice da1 data.length dc1)) 36 :: cs) W) => sameTexts_true h (fun V hV => hr1 V hV.tail.tail) (fun V hV => hr2 V hV.tail.tail) hl)
 have C34 := hid (fun W (h : All (blkC (w.heap.size + 1) (e.cells2 (.slice ra2 items.length rc2) (.slice da2 data.length dc2)) 36 :: blkC w.heap.size (e.cells2 (.slice ra1 items.length rc1) (.slice da1 data.length dc1)) 36 :: cs) W) => same_true h (fun V hV => hd1 V hV.tail.tail) (fun V hV => hd2 V hV.tail.tail) hdl)
 clear A hr1 hr2 hd1 hd2
 generalize items.length = n1 at *
 generalize data.length = n2 at *
 have PR : Hid (∀ W, All (blkC (w.heap.size + 1) (e.cells2 (.slice ra2 n1 rc2) (.slice da2 n2 dc2)) 36 :: blkC w.heap.size (e.cells2 (.slice ra1 n1 rc1) (.slice da1 n2 dc1)) 36 :: cs) W → W.cell? ⟨w.heap.size, 0, none⟩ = some (.int .i64 e.k) ∧ W.cell? ⟨w.heap.size, 1, none⟩ = some (.int .i64 e.a) ∧ W.cell? ⟨w.heap.size, 2, none⟩ = some (.int .i64 e.nb) ∧ W.cell? ⟨w.heap.size, 3, none⟩ = some (.int .i64 e.nm) ∧ W.cell? ⟨w.heap.size, 4, none⟩ = some (.int .i64 e.wh) ∧ W.cell? ⟨w.heap.size, 5, none⟩ = some (.int .i64 e.cd) ∧ W.cell? ⟨w.heap.size, 6, none⟩ = some (.bool e.fr) ∧ W.cell? ⟨w.heap.size, 12, none⟩ = some (.int .i64 e.ec) ∧ W.cell? ⟨w.heap.size, 13, none⟩ = some (.int .i64 e.en) ∧ W.cell? ⟨w.heap.size, 19, none⟩ = some (.int .i64 e.rc) ∧ W.cell? ⟨w.heap.size, 20, none⟩ = some (.int .i64 e.rn) ∧ W.cell? ⟨w.heap.size, 21, none⟩ = some (.slice ra1 n1 rc1) ∧ W.cell? ⟨w.heap.size, 30, none⟩ = some (.int .i64 e.sn) ∧ W.cell? ⟨w.heap.size, 31, none⟩ = some (.int .i64 e.sa) ∧ W.cell? ⟨w.heap.size, 32, none⟩ = some (.slice da1 n2 dc1) ∧ W.cell? ⟨w.heap.size + 1, 0, none⟩ = some (.int .i64 e.k) ∧ W.cell? ⟨w.heap.size + 1, 1, none⟩ = some (.int .i64 e.a) ∧ W.cell? ⟨w.heap.size + 1, 2, none⟩ = some (.int .i64 e.nb) ∧ W.cell? ⟨w.heap.size + 1, 3, none⟩ = some (.int .i64 e.nm) ∧ W.cell? ⟨w.heap.size + 1, 4, none⟩ = some (.int .i64 e.wh) ∧ W.cell? ⟨w.heap.size + 1, 5, none⟩ = some (.int .i64 e.cd) ∧ W.cell? ⟨w.heap.size + 1, 6, none⟩ = some (.bool e.fr) ∧ W.cell? ⟨w.heap.size + 1, 12, none⟩ = some (.int .i64 e.ec) ∧ W.cell? ⟨w.heap.size + 1, 13, none⟩ = some (.int .i64 e.en) ∧ W.cell? ⟨w.heap.size + 1, 19, none⟩ = some (.int .i64 e.rc) ∧ W.cell? ⟨w.heap.size + 1, 20, none⟩ = some (.int .i64 e.rn) ∧ W.cell? ⟨w.heap.size + 1, 21, none⟩ = some (.slice ra2 n1 rc2) ∧ W.cell? ⟨w.heap.size + 1, 30, none⟩ = some (.int .i64 e.sn) ∧ W.cell? ⟨w.heap.size + 1, 31, none⟩ = some (.int .i64 e.sa) ∧ W.cell? ⟨w.heap.size + 1, 32, none⟩ = some (.slice da2 n2 dc2)) := hid (fun W h => ⟨cell_in h (List.mem_cons_of_mem _ (List.mem_cons_self)) rfl, cell_in h (List.mem_cons_of_mem _ (List.mem_cons_self)) rfl, cell_in h (List.mem_cons_of_mem _ (List.mem_cons_self)) rfl, cell_in h (List.mem_cons_of_mem _ (List.mem_cons_self)) rfl, cell_in h (List.mem_cons_of_mem _ (List.mem_cons_self)) rfl, cell_in h (List.mem_cons_of_mem _ (List.mem_cons_self)) rfl, cell_in h (List.mem_cons_of_mem _ (List.mem_cons_self)) rfl, cell_in h (List.mem_cons_of_mem _ (List.mem_cons_self)) rfl, cell_in h (List.mem_cons_of_mem _ (List.mem_cons_self)) rfl, cell_in h (List.mem_cons_of_mem _ (List.mem_cons_self)) rfl, cell_in h (List.mem_cons_of_mem _ (List.mem_cons_self)) rfl, cell_in h (List.mem_cons_of_mem _ (List.mem_cons_self)) rfl, cell_in h (List.mem_cons_of_mem _ (List.mem_cons_self)) rfl, cell_in h (List.mem_cons_of_mem _ (List.mem_cons_self)) rfl, cell_in h (List.mem_cons_of_mem _ (List.mem_cons_self)) rfl, cell_in h (List.mem_cons_self) rfl, cell_in h (List.mem_cons_self) rfl, cell_in h (List.mem_cons_self) rfl, cell_in h (List.mem_cons_self) rfl, cell_in h (List.mem_cons_self) rfl, cell_in h (List.mem_cons_self) rfl, cell_in h (List.mem_cons_self) rfl, cell_in h (List.mem_cons_self) rfl, cell_in h (List.mem_cons_self) rfl, cell_in h (List.mem_cons_self) rfl, cell_in h (List.mem_cons_self) rfl, cell_in h (List.mem_cons_self) rfl, cell_in h (List.mem_cons_self) rfl, cell_in h (List.mem_cons_self) rfl, cell_in h (List.mem_cons_self) rfl⟩)
 have RO0 : Hid (∀ W, All (blkC (w.heap.size + 1) (e.cells2 (.slice ra2 n1 rc2) (.slice da2 n2 dc2)) 36 :: blkC w.heap.size (e.cells2 (.slice ra1 n1 rc1) (.slice da1 n2 dc1)) 36 :: cs) W → W.rangeAt w.heap.size 7 [.int .i64 e.ok, .string ⟨e.onm.toArray⟩, .string ⟨e.otx.toArray⟩, .int .i64 e.on, .int .i64 e.om]) := hid (fun W h => range_in h (List.mem_cons_of_mem _ (List.mem_cons_self)) (fun j v hv => by
   have hj : j < 5 := (List.getElem?_eq_some_iff.1 hv).1
   obtain rfl | rfl | rfl | rfl | rfl : j = 0 ∨ j = 1 ∨ j = 2 ∨ j = 3 ∨ j = 4 := by omega
   all_goals exact hv))
 have RO1 : Hid (∀ W, All (blkC (w.heap.size + 1) (e.cells2 (.slice ra2 n1 rc2) (.slice da2 n2 dc2)) 36 :: blkC w.heap.size (e.cells2 (.slice ra1 n1 rc1) (.slice da1 n2 dc1)) 36 :: cs) W → W.rangeAt (w.heap.size + 1) 7 [.int .i64 e.ok, .string ⟨e.onm.toArray⟩, .string ⟨e.otx.toArray⟩, .int .i64 e.on, .int .i64 e.om]) := hid (fun W h => range_in h (List.mem_cons_self) (fun j v hv => by
   have hj : j < 5 := (List.getElem?_eq_some_iff.1 hv).1
   obtain rfl | rfl | rfl | rfl | rfl : j = 0 ∨ j = 1 ∨ j = 2 ∨ j = 3 ∨ j = 4 := by omega
   all_goals exact hv))
 have RP0 : Hid (∀ W, All (blkC (w.heap.size + 1) (e.cells2 (.slice ra2 n1 rc2) (.slice da2 n2 dc2)) 36 :: blkC w.heap.size (e.cells2 (.slice ra1 n1 rc1) (.slice da1 n2 dc1)) 36 :: cs) W → W.rangeAt w.heap.size 14 [.int .i64 e.pk, .string ⟨e.pnm.toArray⟩, .string ⟨e.ptx.toArray⟩, .int .i64 e.pn, .int .i64 e.pm]) := hid (fun W h => range_in h (List.mem_cons_of_mem _ (List.mem_cons_self)) (fun j v hv => by
   have hj : j < 5 := (List.getElem?_eq_some_iff.1 hv).1
   obtain rfl | rfl | rfl | rfl | rfl : j = 0 ∨ j = 1 ∨ j = 2 ∨ j = 3 ∨ j = 4 := by omega
   all_goals exact hv))
 have RP1 : Hid (∀ W, All (blkC (w.heap.size + 1) (e.cells2 (.slice ra2 n1 rc2) (.slice da2 n2 dc2)) 36 :: blkC w.heap.size (e.cells2 (.slice ra1 n1 rc1) (.slice da1 n2 dc1)) 36 :: cs) W → W.rangeAt (w.heap.size + 1) 14 [.int .i64 e.pk, .string ⟨e.pnm.toArray⟩, .string ⟨e.ptx.toArray⟩, .int .i64 e.pn, .int .i64 e.pm]) := hid (fun W h => range_in h (List.mem_cons_self) (fun j v hv => by
   have hj : j < 5 := (List.getElem?_eq_some_iff.1 hv).1
   obtain rfl | rfl | rfl | rfl | rfl : j = 0 ∨ j = 1 ∨ j = 2 ∨ j = 3 ∨ j = 4 := by omega
   all_goals exact hv))
 have RK0 : Hid (∀ W, All (blkC (w.heap.size + 1) (e.cells2 (.slice ra2 n1 rc2) (.slice da2 n2 dc2)) 36 :: blkC w.heap.size (e.cells2 (.slice ra1 n1 rc1) (.slice da1 n2 dc1)) 36 :: cs) W → W.rangeAt w.heap.size 22 [.int .i64 e.l0, .int .i64 e.l1, .int .i64 e.l2, .int .i64 e.l3, .int .i64 e.l4, .int .i64 e.l5, .int .i64 e.l6, .int .i64 e.l7]) := hid (fun W h => range_in h (List.mem_cons_of_mem _ (List.mem_cons_self)) (fun j v hv => by
   have hj : j < 8 := (List.getElem?_eq_some_iff.1 hv).1
   obtain rfl | rfl | rfl | rfl | rfl | rfl | rfl | rfl : j = 0 ∨ j = 1 ∨ j = 2 ∨ j = 3 ∨ j = 4 ∨ j = 5 ∨ j = 6 ∨ j = 7 := by omega
   all_goals exact hv))
 have RK1 : Hid (∀ W, All (blkC (w.heap.size + 1) (e.cells2 (.slice ra2 n1 rc2) (.slice da2 n2 dc2)) 36 :: blkC w.heap.size (e.cells2 (.slice ra1 n1 rc1) (.slice da1 n2 dc1)) 36 :: cs) W → W.rangeAt (w.heap.size + 1) 22 [.int .i64 e.l0, .int .i64 e.l1, .int .i64 e.l2, .int .i64 e.l3, .int .i64 e.l4, .int .i64 e.l5, .int .i64 e.l6, .int .i64 e.l7]) := hid (fun W h => range_in h (List.mem_cons_self) (fun j v hv => by
   have hj : j < 8 := (List.getElem?_eq_some_iff.1 hv).1
   obtain rfl | rfl | rfl | rfl | rfl | rfl | rfl | rfl : j = 0 ∨ j = 1 ∨ j = 2 ∨ j = 3 ∨ j = 4 ∨ j = 5 ∨ j = 6 ∨ j = 7 := by omega
   all_goals exact hv))
 have I24 : Hid ((Tryz.prog.info? 24).map (·.size) = some 5) := hid (by kernel_rfl)
 have I31 : Hid ((Tryz.prog.info? 31).map (·.size) = some 8) := hid (by kernel_rfl)
 have CO := hid (fun W (h : All (blkC (w.heap.size + 1) (e.cells2 (.slice ra2 n1 rc2) (.slice da2 n2 dc2)) 36 :: blkC w.heap.size (e.cells2 (.slice ra1 n1 rc1) (.slice da1 n2 dc1)) 36 :: cs) W) => sameOp_true e.ok e.on e.om ⟨e.onm.toArray⟩ ⟨e.otx.toArray⟩ h)
 have CP := hid (fun W (h : All (blkC (w.heap.size + 1) (e.cells2 (.slice ra2 n1 rc2) (.slice da2 n2 dc2)) 36 :: blkC w.heap.size (e.cells2 (.slice ra1 n1 rc1) (.slice da1 n2 dc1)) 36 :: cs) W) => sameOp_true e.pk e.pn e.pm ⟨e.pnm.toArray⟩ ⟨e.ptx.toArray⟩ h)
 have CL := hid (fun W (h : All (blkC (w.heap.size + 1) (e.cells2 (.slice ra2 n1 rc2) (.slice da2 n2 dc2)) 36 :: blkC w.heap.size (e.cells2 (.slice ra1 n1 rc1) (.slice da1 n2 dc1)) 36 :: cs) W) => sameLook_true e.l0 e.l1 e.l2 e.l3 e.l4 e.l5 e.l6 e.l7 h)
 generalize (e.cells2 (.slice ra1 n1 rc1) (.slice da1 n2 dc1)) = X1 at *
 generalize (e.cells2 (.slice ra2 n1 rc2) (.slice da2 n2 dc2)) = X2 at *
 generalize ByteArray.mk e.onm.toArray = bonm at *
 generalize ByteArray.mk e.otx.toArray = botx at *
 generalize ByteArray.mk e.pnm.toArray = bpnm at *
 generalize ByteArray.mk e.ptx.toArray = bptx at *
 generalize e.k = xk at *
 generalize e.a = xa at *
 generalize e.nb = xnb at *
 generalize e.nm = xnm at *
 generalize e.wh = xwh at *
 generalize e.cd = xcd at *
 generalize e.fr = xfr at *
 generalize e.ok = xok at *
 generalize e.on = xon at *
 generalize e.om = xom at *
 generalize e.ec = xec at *
 generalize e.en = xen at *
 generalize e.pk = xpk at *
 generalize e.pn = xpn at *
 generalize e.pm = xpm at *
 generalize e.rc = xrc at *
 generalize e.rn = xrn at *
 generalize e.l0 = xl0 at *
 generalize e.l1 = xl1 at *
 generalize e.l2 = xl2 at *
 generalize e.l3 = xl3 at *
 generalize e.l4 = xl4 at *
 generalize e.l5 = xl5 at *
 generalize e.l6 = xl6 at *
 generalize e.l7 = xl7 at *
 generalize e.sn = xsn at *
 generalize e.sa = xsa at *
 go_enter Tryz.func13, Tryz.ntmps13
 go_upto_region 1 with fail
 generalize (w.alloc (.cells X1.toArray 36)).alloc (.cells X2.toArray 36) = w0 at *
 obtain ⟨p0_0, p0_1, p0_2, p0_3, p0_4, p0_5, p0_6, p0_12, p0_13, p0_19, p0_20, p0_21, p0_30, p0_31, p0_32, p1_0, p1_1, p1_2, p1_3, p1_4, p1_5, p1_6, p1_12, p1_13, p1_19, p1_20, p1_21, p1_30, p1_31, p1_32⟩ := PR.out _ A0.out
 go_wp2_with (first | (first | (refine wpList_load_mid rfl 24 _ rfl w.heap.size 7 rfl _ _ (RO0.out _ A0.out) Tryz.underlying24 rfl I24.out ?_) | (refine wpList_step (fun K hK => ?_); rw [if_pos (by rfl)]; refine wp_load_mid 24 _ rfl w.heap.size 7 rfl _ _ (RO0.out _ A0.out) Tryz.underlying24 rfl I24.out (hK _ _ ?_); clear hK K)) | (first | (refine wpList_load_mid rfl 24 _ rfl (w.heap.size + 1) 7 rfl _ _ (RO1.out _ A0.out) Tryz.underlying24 rfl I24.out ?_) | (refine wpList_step (fun K hK => ?_); rw [if_pos (by rfl)]; refine wp_load_mid 24 _ rfl (w.heap.size + 1) 7 rfl _ _ (RO1.out _ A0.out) Tryz.underlying24 rfl I24.out (hK _ _ ?_); clear hK K)) | (go_at_call 31; refine (CO.out _ A0.out).mono ?_; rintro r w1 ⟨rfl, B1⟩; have A1 := hid B1; clear B1 A0 p0_0 p0_1 p0_2 p0_3 p0_4 p0_5 p0_6 p0_12 p0_13 p0_19 p0_20 p0_21 p0_30 p0_31 p0_32 p1_0 p1_1 p1_2 p1_3 p1_4 p1_5 p1_6 p1_12 p1_13 p1_19 p1_20 p1_21 p1_30 p1_31 p1_32; obtain ⟨q0_0, q0_1, q0_2, q0_3, q0_4, q0_5, q0_6, q0_12, q0_13, q0_19, q0_20, q0_21, q0_30, q0_31, q0_32, q1_0, q1_1, q1_2, q1_3, q1_4, q1_5, q1_6, q1_12, q1_13, q1_19, q1_20, q1_21, q1_30, q1_31, q1_32⟩ := PR.out _ A1.out) | (first | (refine wpList_load_mid rfl 24 _ rfl w.heap.size 14 rfl _ _ (RP0.out _ A1.out) Tryz.underlying24 rfl I24.out ?_) | (refine wpList_step (fun K hK => ?_); rw [if_pos (by rfl)]; refine wp_load_mid 24 _ rfl w.heap.size 14 rfl _ _ (RP0.out _ A1.out) Tryz.underlying24 rfl I24.out (hK _ _ ?_); clear hK K)) | (first | (refine wpList_load_mid rfl 24 _ rfl (w.heap.size + 1) 14 rfl _ _ (RP1.out _ A1.out) Tryz.underlying24 rfl I24.out ?_) | (refine wpList_step (fun K hK => ?_); rw [if_pos (by rfl)]; refine wp_load_mid 24 _ rfl (w.heap.size + 1) 14 rfl _ _ (RP1.out _ A1.out) Tryz.underlying24 rfl I24.out (hK _ _ ?_); clear hK K)) | (go_at_call 31; refine (CP.out _ A1.out).mono ?_; rintro r w2 ⟨rfl, B2⟩; have A2 := hid B2; clear B2 A1 q0_0 q0_1 q0_2 q0_3 q0_4 q0_5 q0_6 q0_12 q0_13 q0_19 q0_20 q0_21 q0_30 q0_31 q0_32 q1_0 q1_1 q1_2 q1_3 q1_4 q1_5 q1_6 q1_12 q1_13 q1_19 q1_20 q1_21 q1_30 q1_31 q1_32) | (first | (refine wpList_load_mid rfl 31 _ rfl w.heap.size 22 rfl _ _ (RK0.out _ A2.out) Tryz.underlying31 rfl I31.out ?_) | (refine wpList_step (fun K hK => ?_); rw [if_pos (by rfl)]; refine wp_load_mid 31 _ rfl w.heap.size 22 rfl _ _ (RK0.out _ A2.out) Tryz.underlying31 rfl I31.out (hK _ _ ?_); clear hK K)) | (first | (refine wpList_load_mid rfl 31 _ rfl (w.heap.size + 1) 22 rfl _ _ (RK1.out _ A2.out) Tryz.underlying31 rfl I31.out ?_) | (refine wpList_step (fun K hK => ?_); rw [if_pos (by rfl)]; refine wp_load_mid 31 _ rfl (w.heap.size + 1) 22 rfl _ _ (RK1.out _ A2.out) Tryz.underlying31 rfl I31.out (hK _ _ ?_); clear hK K)) | (go_at_call 32; refine (CL.out _ A2.out).mono ?_; rintro r w3 ⟨rfl, B3⟩; have A3 := hid B3; clear B3 A2; obtain ⟨s0_0, s0_1, s0_2, s0_3, s0_4, s0_5, s0_6, s0_12, s0_13, s0_19, s0_20, s0_21, s0_30, s0_31, s0_32, s1_0, s1_1, s1_2, s1_3, s1_4, s1_5, s1_6, s1_12, s1_13, s1_19, s1_20, s1_21, s1_30, s1_31, s1_32⟩ := PR.out _ A3.out) | (go_at_call 33; refine (C33.out _ A3.out).mono ?_; rintro r w4 ⟨rfl, B4⟩; have A4 := hid B4; clear B4 A3 s0_0 s0_1 s0_2 s0_3 s0_4 s0_5 s0_6 s0_12 s0_13 s0_19 s0_20 s0_21 s0_30 s0_31 s0_32 s1_0 s1_1 s1_2 s1_3 s1_4 s1_5 s1_6 s1_12 s1_13 s1_19 s1_20 s1_21 s1_30 s1_31 s1_32; obtain ⟨u0_0, u0_1, u0_2, u0_3, u0_4, u0_5, u0_6, u0_12, u0_13, u0_19, u0_20, u0_21, u0_30, u0_31, u0_32, u1_0, u1_1, u1_2, u1_3, u1_4, u1_5, u1_6, u1_12, u1_13, u1_19, u1_20, u1_21, u1_30, u1_31, u1_32⟩ := PR.out _ A4.out) | (go_at_call 34; refine (C34.out _ A4.out).mono ?_; rintro r w5 ⟨rfl, B5⟩; have A5 := hid B5; clear B5))
 go_ret
 exact ⟨rfl, A5.out.tail.tail⟩
end Go.Proofs.YtfeppannfcbakaaGreatDoor
