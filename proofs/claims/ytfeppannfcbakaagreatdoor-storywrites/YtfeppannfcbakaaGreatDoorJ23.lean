import Derived.Test.YtfeppannfcbakaaGreatDoorJ21
import Derived.Test.YtfeppannfcbakaaGreatDoorEv26
namespace Go.Proofs.YtfeppannfcbakaaGreatDoor
open Go.RowKit
set_option linter.unusedVariables false
set_option maxRecDepth 100000
set_option maxHeartbeats 12800000 in
set_option maxRecDepth 1000000 in
theorem rWords_7 (e : Ev) {items : Ws} {data : List UInt8} {cs : List Comp} {w : World} (hR : e.Rg) (hd : data.length = e.dik) (hil : items.length ≤ 140737488355328) (hI : ∀ W, All cs W → Rt W (.slice e.ria e.rik e.ric) items) (hD : ∀ W, All cs W → BRd W (.slice e.dia e.dik e.dic) data) (A : All cs w) (hF : e.inForm = true) (hk : e.k = 7) :
    Calls Tryz.prog 30 #[.agg e.cells.toArray] w (WRPost (if e.err items = 0 then e.words items data else []) (e.err items) cs) := by
  generalize hWD : (if e.err items = 0 then e.words items data else []) = WD
  generalize hER : e.err items = ER at *
  have HWD := hid hWD
  have HER := hid hER
  clear hWD hER
  have A0 := hid (A.addBlk e.cells 36)
  have CP := hid (rplain_any e A0.out)
  have I36 : Hid ((Tryz.prog.info? 36).map (·.size) = some e.cells.toArray.size) := hid (by kernel_rfl)
  unfold WRPost
  have H0 := ok0_of hF
  rw [hF] at CP
  have HEK : Hid (ER = ersL (er1 e.cells items) (kindT e.k)) := hid (by rw [← HER.out]; unfold Ev.err; rw [if_neg (by simp [hF])])
  have CW := hid (fun W => word_any e.k W)
  have PR : Hid (∀ W ds, All (blkC w.heap.size e.cells 36 :: ds) W → W.cell? ⟨w.heap.size, 0, none⟩ = some (.int .i64 e.k) ∧ W.cell? ⟨w.heap.size, 1, none⟩ = some (.int .i64 e.a) ∧ W.cell? ⟨w.heap.size, 2, none⟩ = some (.int .i64 e.nb) ∧ W.cell? ⟨w.heap.size, 3, none⟩ = some (.int .i64 e.nm) ∧ W.cell? ⟨w.heap.size, 4, none⟩ = some (.int .i64 e.wh) ∧ W.cell? ⟨w.heap.size, 5, none⟩ = some (.int .i64 e.cd) ∧ W.cell? ⟨w.heap.size, 12, none⟩ = some (.int .i64 e.ec) ∧ W.cell? ⟨w.heap.size, 13, none⟩ = some (.int .i64 e.en) ∧ W.cell? ⟨w.heap.size, 30, none⟩ = some (.int .i64 e.sn) ∧ W.cell? ⟨w.heap.size, 31, none⟩ = some (.int .i64 e.sa) ∧ W.cell? ⟨w.heap.size, 6, none⟩ = some (.bool e.fr) ∧ W.cell? ⟨w.heap.size, 32, none⟩ = some (.slice e.dia e.dik e.dic)) := hid (fun W ds h => ⟨cell_in h (List.mem_cons_self) rfl, cell_in h (List.mem_cons_self) rfl, cell_in h (List.mem_cons_self) rfl, cell_in h (List.mem_cons_self) rfl, cell_in h (List.mem_cons_self) rfl, cell_in h (List.mem_cons_self) rfl, cell_in h (List.mem_cons_self) rfl, cell_in h (List.mem_cons_self) rfl, cell_in h (List.mem_cons_self) rfl, cell_in h (List.mem_cons_self) rfl, cell_in h (List.mem_cons_self) rfl, cell_in h (List.mem_cons_self) rfl⟩)
  have HBB : Hid (∀ W ds, All (blkC w.heap.size e.cells 36 :: ds) W → W.heap[w.heap.size]? = some (.cells e.cells.toArray 36 (0, 0))) := hid (fun W ds h => h.blk (List.mem_cons_self))
  have CD_a := hid (fun W => Dig_any H0.a hR.a W)
  have CD_l0 := hid (fun W => Dig_any H0.l0 hR.l0 W)
  have CD_l2 := hid (fun W => Dig_any H0.l2 hR.l2 W)
  have CD_l3 := hid (fun W => Dig_any H0.l3 hR.l3 W)
  have CD_l4 := hid (fun W => Dig_any H0.l4 hR.l4 W)
  have CD_l5 := hid (fun W => Dig_any H0.l5 hR.l5 W)
  have CD_l6 := hid (fun W => Dig_any H0.l6 hR.l6 W)
  have CD_l7 := hid (fun W => Dig_any H0.l7 hR.l7 W)
  have CO := hid (fun (ds : List Comp) W (h : All ds W) => opOf_any e h)
  have CL : Hid (∀ (ds : List Comp) W, All ds W → Calls Tryz.prog 61 #[.agg #[.int .i64 e.l0, .int .i64 e.l1, .int .i64 e.l2, .int .i64 e.l3, .int .i64 e.l4, .int .i64 e.l5, .int .i64 e.l6, .int .i64 e.l7]] W fun r w' => ∃ g, r = .returned (.slice (some ⟨g, 0, none⟩) 8 8) ∧ All (ownC 9 (.slice (some ⟨g, 0, none⟩) 8 8) (txW [Lib.itoa e.l0, statN e.l1, Lib.itoa e.l2, Lib.itoa e.l3, Lib.itoa e.l4, Lib.itoa e.l5, Lib.itoa e.l6, Lib.itoa e.l7]) :: ds) w') := hid (fun ds W h => look_any ⟨H0.l0, hR.l0⟩ ⟨H0.l2, hR.l2⟩ ⟨H0.l3, hR.l3⟩ ⟨H0.l4, hR.l4⟩ ⟨H0.l5, hR.l5⟩ ⟨H0.l6, hR.l6⟩ ⟨H0.l7, hR.l7⟩ h)
  have HRL : Hid (∀ W ds, All (blkC w.heap.size e.cells 36 :: ds) W → W.rangeAt w.heap.size 22 [.int .i64 e.l0, .int .i64 e.l1, .int .i64 e.l2, .int .i64 e.l3, .int .i64 e.l4, .int .i64 e.l5, .int .i64 e.l6, .int .i64 e.l7]) := hid (fun W ds h => range_in (o := 22) h (List.mem_cons_self) (by intro j v hv; match j, hv with | 0, hv => exact hv | 1, hv => exact hv | 2, hv => exact hv | 3, hv => exact hv | 4, hv => exact hv | 5, hv => exact hv | 6, hv => exact hv | 7, hv => exact hv))
  have IL : Hid ((Tryz.prog.info? 31).map (·.size) = some 8) := hid (by kernel_rfl)
  have hS1 := st_of hF (by omega)
  have FK7 : Hid (e.k = 7 → ER = 0 ∧ WD = [wordN e.k, Lib.itoa e.a] ++ [Lib.itoa e.l0, statN e.l1, Lib.itoa e.l2, Lib.itoa e.l3, Lib.itoa e.l4, Lib.itoa e.l5, Lib.itoa e.l6, Lib.itoa e.l7]) := hid (fun hk => by
    have hK : kindT e.k = [.int 1, .look 22] := by rw [hk]; rfl
    have ERZ : ER = 0 := by rw [HEK.out, hK]; rfl
    refine ⟨ERZ, ?_⟩
    rw [← HWD.out, ERZ, if_pos rfl]
    unfold Ev.words
    rw [hK]
    have e9 : kdN.getD e.k.toNat [] = wordN e.k := by rw [hk]; rfl
    have e8 : statN e.l1 = stN.getD e.l1.toNat [] := by unfold statN; rw [if_neg (by omega)]
    rw [e9, e8]
    rfl)
  have IO : Hid ((Tryz.prog.info? 24).map (·.size) = some e.opL.toArray.size) := hid (by kernel_rfl)
  have ZO : Hid (zoL.toArray.size = e.opL.toArray.size) := hid rfl
  have OO1 : Hid (e.opL.toArray.all (·.oneCell') = true) := hid (by kernel_rfl)
  have OLL0 : Hid ((if e.k = 6 then e.enL else e.opL) = e.opL ∧ decide (e.k = 6 ∨ e.k = 2 ∨ e.k = 3) = false) := hid ⟨by rw [hk]; rfl, by rw [hk]; rfl⟩
  rw [OLL0.out.1, OLL0.out.2] at CO
  clear OLL0
  have HKK := hid hk
  clear hI hD hR hd hil A H0 hF hk HEK
  generalize e.opL = OLL at *
  generalize e.cells = EC at *
  go_enter Tryz.func30, Tryz.ntmps30
  go_upto_region 1 with fail
  generalize w.alloc (.cells EC.toArray 36) = w0 at *
  have HB := hid (HBB.out _ _ A0.out)
  go_upto_region 3 with (first | (refine wpList_load_row rfl 36 _ rfl w.heap.size rfl 36 EC.toArray (0, 0) _ HB.out Tryz.underlying36 rfl I36.out ?_) | (go_at_call 59; refine CP.out.mono ?_; rintro r w1 ⟨rfl, B1⟩; have K1 := hid B1; clear B1))
  have Q0 := hid K1.out.drew
  refine wp_region_held_drew (S := (fun W => W.cell? ⟨w.heap.size, 0, none⟩ = some (.int .i64 e.k) ∧ W.cell? ⟨w.heap.size, 1, none⟩ = some (.int .i64 e.a) ∧ W.cell? ⟨w.heap.size, 2, none⟩ = some (.int .i64 e.nb) ∧ W.cell? ⟨w.heap.size, 3, none⟩ = some (.int .i64 e.nm) ∧ W.cell? ⟨w.heap.size, 4, none⟩ = some (.int .i64 e.wh) ∧ W.cell? ⟨w.heap.size, 5, none⟩ = some (.int .i64 e.cd) ∧ W.cell? ⟨w.heap.size, 12, none⟩ = some (.int .i64 e.ec) ∧ W.cell? ⟨w.heap.size, 13, none⟩ = some (.int .i64 e.en) ∧ W.cell? ⟨w.heap.size, 30, none⟩ = some (.int .i64 e.sn) ∧ W.cell? ⟨w.heap.size, 31, none⟩ = some (.int .i64 e.sa) ∧ W.cell? ⟨w.heap.size, 6, none⟩ = some (.bool e.fr) ∧ W.cell? ⟨w.heap.size, 32, none⟩ = some (.slice e.dia e.dik e.dic))) (by kernel_rfl) (PR.out _ _ Q0.out) (fun hHeld => ?_)
  generalize World.drew _ = wd at *
  refine wpAnyH_take (i := 0) (oi := _) (v := ?_) rfl (by kernel_rfl) (by kernel_rfl) (by kernel_rfl) (fun _ _ _ h => h) (Or.inl ⟨by rfl, ?_⟩) hHeld ?_
  rotate_left
  · intro W hSw
    obtain ⟨s0, s1, s2, s3, s4, s5, s6, s7, s8, s9, s10, s11⟩ := hSw
    go_simp
    (try with_reducible rfl)
  (try simp only [Act.put, List.setIfInBounds_toArray])
  refine wpAnyH_take (i := 1) (oi := _) (v := ?_) rfl (by kernel_rfl) (by kernel_rfl) (by kernel_rfl) (fun _ _ _ h => h) (Or.inl ⟨by rfl, ?_⟩) hHeld ?_
  rotate_left
  · intro W hSw
    obtain ⟨s0, s1, s2, s3, s4, s5, s6, s7, s8, s9, s10, s11⟩ := hSw
    go_simp
    (try with_reducible rfl)
  (try simp only [Act.put])
  refine wpAnyH_take (i := 3) (oi := _) (v := ?_) rfl (by kernel_rfl) (by kernel_rfl) (by kernel_rfl) (fun _ _ _ h => h) (Or.inl ⟨by rfl, ?_⟩) hHeld ?_
  rotate_left
  · intro W hSw
    obtain ⟨s0, s1, s2, s3, s4, s5, s6, s7, s8, s9, s10, s11⟩ := hSw
    go_simp
    (try with_reducible rfl)
  (try simp only [Act.put])
  refine wpAnyH_take (i := 4) (oi := _) (v := ?_) rfl (by kernel_rfl) (by kernel_rfl) (by kernel_rfl) (fun _ _ _ h => h) (Or.inl ⟨by rfl, ?_⟩) hHeld ?_
  rotate_left
  · intro W hSw
    obtain ⟨s0, s1, s2, s3, s4, s5, s6, s7, s8, s9, s10, s11⟩ := hSw
    go_simp
    (try with_reducible rfl)
  (try simp only [Act.put])
  refine wpAnyH_ready (rs := [2]) (by kernel_rfl) (by simp) ?_
  refine AllReadyH.cons (o := _) rfl (fun K hK => ?_) AllReadyH.nil
  go_simp
  go_at_call 60; refine (CW.out _).mono ?_; rintro r x1 ⟨rfl, b1⟩; have Q1 := hid (Q0.out.later b1); clear b1
  refine hK.out _ _ (PR.out _ _ Q1.out) (fun hHeld => ?_)
  clear hK K
  (try simp only [Act.put, List.setIfInBounds_toArray, List.set_cons_zero, List.set_cons_succ])
  refine wpAnyH_ready (rs := [5]) (by kernel_rfl) (by simp) ?_
  refine AllReadyH.cons (o := _) rfl (fun K hK => ?_) AllReadyH.nil
  go_simp
  go_at_call 43; refine (CD_a.out _).mono ?_; rintro r x2 ⟨rfl, b2⟩; have Q2 := hid (Q1.out.later b2); clear b2
  refine hK.out _ _ (PR.out _ _ Q2.out) (fun hHeld => ?_)
  clear hK K
  (try simp only [Act.put, List.setIfInBounds_toArray, List.set_cons_zero, List.set_cons_succ])
  have Q3 : Hid (All (ownC 9 (.slice (some ⟨x2.heap.size, 0, none⟩) 2 2) (txW [wordN e.k, Lib.itoa e.a]) :: blkC w.heap.size EC 36 :: cs) (x2.alloc (.cells #[.string ⟨(wordN e.k).toArray⟩, .string ⟨(Lib.itoa e.a).toArray⟩] 9))) := hid (own_new Q2.out [wordN e.k, Lib.itoa e.a] (by simp))
  refine wpAnyH_ready (rs := [6]) (by kernel_rfl) (by simp) ?_
  refine AllReadyH.cons (o := _) rfl (fun K hK => ?_) AllReadyH.nil
  go_simp
  skip
  refine hK.out _ _ (PR.out _ _ Q3.out.swap) (fun hHeld => ?_)
  clear hK K
  (try simp only [Act.put, List.setIfInBounds_toArray, List.set_cons_zero, List.set_cons_succ])
  refine wpAnyH_ready (rs := [7]) (by kernel_rfl) (by simp) ?_
  refine AllReadyH.cons (o := _) rfl (fun K hK => ?_) AllReadyH.nil
  go_simp
  skip
  refine hK.out _ _ (PR.out _ _ Q3.out.swap) (fun hHeld => ?_)
  clear hK K
  (try simp only [Act.put, List.setIfInBounds_toArray, List.set_cons_zero, List.set_cons_succ])
  refine wpAnyH_done (by kernel_rfl) ?_ _
  clear hHeld
  generalize x2.alloc (.cells #[.string ⟨(wordN e.k).toArray⟩, .string ⟨(Lib.itoa e.a).toArray⟩] 9) = w3 at *
  generalize x2.heap.size = G2 at *
  obtain ⟨z0, z1, z2, z3, z4, z5, z6, z7, z8, z9, z10, z11⟩ := PR.out _ _ Q3.out.swap
  have hk := HKK.out
  rw [hk] at z0
  have ERZ := hid (FK7.out hk).1
  have WDE := hid (FK7.out hk).2
  have RG := hid (HRL.out _ _ Q3.out.swap)
  have CL3 := hid (CL.out _ _ Q3.out)
  go_upto_region 25 with (first | (refine wpList_load_mid rfl 31 _ rfl w.heap.size 22 rfl [.int .i64 e.l0, .int .i64 e.l1, .int .i64 e.l2, .int .i64 e.l3, .int .i64 e.l4, .int .i64 e.l5, .int .i64 e.l6, .int .i64 e.l7] _ RG.out Tryz.underlying31 rfl IL.out ?_) | (go_at_call 61; refine CL3.out.mono ?_; rintro r x3 ⟨g3, rfl, b3⟩; obtain ⟨ao6, c6, w6a, hr6, A6⟩ := appR b3.swap (rt_own b3) (Nat.le_of_ble_eq_true rfl); have R6 := hid hr6; have Q6 := hid A6.swap.tail; clear b3 hr6 A6) | (at_builtin; refine wpList_append_run rfl _ _ 27 rfl _ _ _ _ rfl rfl R6.out ?_))
  have HB5 := hid (HBB.out _ _ Q6.out.swap)
  have CO5 := hid (CO.out _ _ Q6.out)
  go_upto_region 31 with (first | (refine wpList_load_row rfl 36 _ rfl w.heap.size rfl 36 EC.toArray (0, 0) _ HB5.out Tryz.underlying36 rfl I36.out ?_) | (go_at_call 63; refine CO5.out.mono ?_; rintro r w5 ⟨rfl, B5⟩; have K5 := hid B5; clear B5) | (refine wpList_store_row rfl 24 _ _ rfl w5.heap.size OLL.toArray rfl rfl 24 _ (heap_alloc_new w5 _) IO.out ZO.out OO1.out ?_; rw [World.setRow_alloc_new]))
  have K6 := hid (K5.out.addBlk OLL 24)
  generalize w5.alloc (.cells OLL.toArray 24) = w6 at *
  obtain ⟨y0, y1, y2, y3, y4, y5, y6, y7, y8, y9, y10, y11⟩ := PR.out _ _ K6.out.tail.swap
  rw [hk] at y0
  go_wp2
  go_ret2
  exact ⟨_, by rw [ERZ.out]; rfl, by rw [WDE.out]; exact K6.out.tail.swap.tail⟩
end Go.Proofs.YtfeppannfcbakaaGreatDoor

namespace Go.Proofs.YtfeppannfcbakaaGreatDoor
open Go.RowKit
set_option linter.unusedVariables false
set_option maxRecDepth 100000
set_option maxHeartbeats 12800000 in
set_option maxRecDepth 1000000 in
theorem rWords_8 (e : Ev) {items : Ws} {data : List UInt8} {cs : List Comp} {w : World} (hR : e.Rg) (hd : data.length = e.dik) (hil : items.length ≤ 140737488355328) (hI : ∀ W, All cs W → Rt W (.slice e.ria e.rik e.ric) items) (hD : ∀ W, All cs W → BRd W (.slice e.dia e.dik e.dic) data) (A : All cs w) (hF : e.inForm = true) (hk : e.k = 8) :
    Calls Tryz.prog 30 #[.agg e.cells.toArray] w (WRPost (if e.err items = 0 then e.words items data else []) (e.err items) cs) := by
  generalize hWD : (if e.err items = 0 then e.words items data else []) = WD
  generalize hER : e.err items = ER at *
  have HWD := hid hWD
  have HER := hid hER
  clear hWD hER
  have A0 := hid (A.addBlk e.cells 36)
  have CP := hid (rplain_any e A0.out)
  have I36 : Hid ((Tryz.prog.info? 36).map (·.size) = some e.cells.toArray.size) := hid (by kernel_rfl)
  unfold WRPost
  have H0 := ok0_of hF
  rw [hF] at CP
  have HEK : Hid (ER = ersL (er1 e.cells items) (kindT e.k)) := hid (by rw [← HER.out]; unfold Ev.err; rw [if_neg (by simp [hF])])
  have CW := hid (fun W => word_any e.k W)
  have PR : Hid (∀ W ds, All (blkC w.heap.size e.cells 36 :: ds) W → W.cell? ⟨w.heap.size, 0, none⟩ = some (.int .i64 e.k) ∧ W.cell? ⟨w.heap.size, 1, none⟩ = some (.int .i64 e.a) ∧ W.cell? ⟨w.heap.size, 2, none⟩ = some (.int .i64 e.nb) ∧ W.cell? ⟨w.heap.size, 3, none⟩ = some (.int .i64 e.nm) ∧ W.cell? ⟨w.heap.size, 4, none⟩ = some (.int .i64 e.wh) ∧ W.cell? ⟨w.heap.size, 5, none⟩ = some (.int .i64 e.cd) ∧ W.cell? ⟨w.heap.size, 12, none⟩ = some (.int .i64 e.ec) ∧ W.cell? ⟨w.heap.size, 13, none⟩ = some (.int .i64 e.en) ∧ W.cell? ⟨w.heap.size, 30, none⟩ = some (.int .i64 e.sn) ∧ W.cell? ⟨w.heap.size, 31, none⟩ = some (.int .i64 e.sa) ∧ W.cell? ⟨w.heap.size, 6, none⟩ = some (.bool e.fr) ∧ W.cell? ⟨w.heap.size, 32, none⟩ = some (.slice e.dia e.dik e.dic)) := hid (fun W ds h => ⟨cell_in h (List.mem_cons_self) rfl, cell_in h (List.mem_cons_self) rfl, cell_in h (List.mem_cons_self) rfl, cell_in h (List.mem_cons_self) rfl, cell_in h (List.mem_cons_self) rfl, cell_in h (List.mem_cons_self) rfl, cell_in h (List.mem_cons_self) rfl, cell_in h (List.mem_cons_self) rfl, cell_in h (List.mem_cons_self) rfl, cell_in h (List.mem_cons_self) rfl, cell_in h (List.mem_cons_self) rfl, cell_in h (List.mem_cons_self) rfl⟩)
  have HBB : Hid (∀ W ds, All (blkC w.heap.size e.cells 36 :: ds) W → W.heap[w.heap.size]? = some (.cells e.cells.toArray 36 (0, 0))) := hid (fun W ds h => h.blk (List.mem_cons_self))
  have CD_a := hid (fun W => Dig_any H0.a hR.a W)
  have CO := hid (fun (ds : List Comp) W (h : All ds W) => opOf_any e h)
  have FK8 : Hid (e.k = 8 → ER = 0 ∧ WD = [wordN e.k, Lib.itoa e.a]) := hid (fun hk => by
    have hK : kindT e.k = [.int 1] := by rw [hk]; rfl
    have ERZ : ER = 0 := by rw [HEK.out, hK]; rfl
    refine ⟨ERZ, ?_⟩
    rw [← HWD.out, ERZ, if_pos rfl]
    unfold Ev.words
    rw [hK]
    have e9 : kdN.getD e.k.toNat [] = wordN e.k := by rw [hk]; rfl
    rw [e9]
    rfl)
  have IO : Hid ((Tryz.prog.info? 24).map (·.size) = some e.opL.toArray.size) := hid (by kernel_rfl)
  have ZO : Hid (zoL.toArray.size = e.opL.toArray.size) := hid rfl
  have OO1 : Hid (e.opL.toArray.all (·.oneCell') = true) := hid (by kernel_rfl)
  have OLL0 : Hid ((if e.k = 6 then e.enL else e.opL) = e.opL ∧ decide (e.k = 6 ∨ e.k = 2 ∨ e.k = 3) = false) := hid ⟨by rw [hk]; rfl, by rw [hk]; rfl⟩
  rw [OLL0.out.1, OLL0.out.2] at CO
  clear OLL0
  have HKK := hid hk
  clear hI hD hR hd hil A H0 hF hk HEK
  generalize e.opL = OLL at *
  generalize e.cells = EC at *
  go_enter Tryz.func30, Tryz.ntmps30
  go_upto_region 1 with fail
  generalize w.alloc (.cells EC.toArray 36) = w0 at *
  have HB := hid (HBB.out _ _ A0.out)
  go_upto_region 3 with (first | (refine wpList_load_row rfl 36 _ rfl w.heap.size rfl 36 EC.toArray (0, 0) _ HB.out Tryz.underlying36 rfl I36.out ?_) | (go_at_call 59; refine CP.out.mono ?_; rintro r w1 ⟨rfl, B1⟩; have K1 := hid B1; clear B1))
  have Q0 := hid K1.out.drew
  refine wp_region_held_drew (S := (fun W => W.cell? ⟨w.heap.size, 0, none⟩ = some (.int .i64 e.k) ∧ W.cell? ⟨w.heap.size, 1, none⟩ = some (.int .i64 e.a) ∧ W.cell? ⟨w.heap.size, 2, none⟩ = some (.int .i64 e.nb) ∧ W.cell? ⟨w.heap.size, 3, none⟩ = some (.int .i64 e.nm) ∧ W.cell? ⟨w.heap.size, 4, none⟩ = some (.int .i64 e.wh) ∧ W.cell? ⟨w.heap.size, 5, none⟩ = some (.int .i64 e.cd) ∧ W.cell? ⟨w.heap.size, 12, none⟩ = some (.int .i64 e.ec) ∧ W.cell? ⟨w.heap.size, 13, none⟩ = some (.int .i64 e.en) ∧ W.cell? ⟨w.heap.size, 30, none⟩ = some (.int .i64 e.sn) ∧ W.cell? ⟨w.heap.size, 31, none⟩ = some (.int .i64 e.sa) ∧ W.cell? ⟨w.heap.size, 6, none⟩ = some (.bool e.fr) ∧ W.cell? ⟨w.heap.size, 32, none⟩ = some (.slice e.dia e.dik e.dic))) (by kernel_rfl) (PR.out _ _ Q0.out) (fun hHeld => ?_)
  generalize World.drew _ = wd at *
  refine wpAnyH_take (i := 0) (oi := _) (v := ?_) rfl (by kernel_rfl) (by kernel_rfl) (by kernel_rfl) (fun _ _ _ h => h) (Or.inl ⟨by rfl, ?_⟩) hHeld ?_
  rotate_left
  · intro W hSw
    obtain ⟨s0, s1, s2, s3, s4, s5, s6, s7, s8, s9, s10, s11⟩ := hSw
    go_simp
    (try with_reducible rfl)
  (try simp only [Act.put, List.setIfInBounds_toArray])
  refine wpAnyH_take (i := 1) (oi := _) (v := ?_) rfl (by kernel_rfl) (by kernel_rfl) (by kernel_rfl) (fun _ _ _ h => h) (Or.inl ⟨by rfl, ?_⟩) hHeld ?_
  rotate_left
  · intro W hSw
    obtain ⟨s0, s1, s2, s3, s4, s5, s6, s7, s8, s9, s10, s11⟩ := hSw
    go_simp
    (try with_reducible rfl)
  (try simp only [Act.put])
  refine wpAnyH_take (i := 3) (oi := _) (v := ?_) rfl (by kernel_rfl) (by kernel_rfl) (by kernel_rfl) (fun _ _ _ h => h) (Or.inl ⟨by rfl, ?_⟩) hHeld ?_
  rotate_left
  · intro W hSw
    obtain ⟨s0, s1, s2, s3, s4, s5, s6, s7, s8, s9, s10, s11⟩ := hSw
    go_simp
    (try with_reducible rfl)
  (try simp only [Act.put])
  refine wpAnyH_take (i := 4) (oi := _) (v := ?_) rfl (by kernel_rfl) (by kernel_rfl) (by kernel_rfl) (fun _ _ _ h => h) (Or.inl ⟨by rfl, ?_⟩) hHeld ?_
  rotate_left
  · intro W hSw
    obtain ⟨s0, s1, s2, s3, s4, s5, s6, s7, s8, s9, s10, s11⟩ := hSw
    go_simp
    (try with_reducible rfl)
  (try simp only [Act.put])
  refine wpAnyH_ready (rs := [2]) (by kernel_rfl) (by simp) ?_
  refine AllReadyH.cons (o := _) rfl (fun K hK => ?_) AllReadyH.nil
  go_simp
  go_at_call 60; refine (CW.out _).mono ?_; rintro r x1 ⟨rfl, b1⟩; have Q1 := hid (Q0.out.later b1); clear b1
  refine hK.out _ _ (PR.out _ _ Q1.out) (fun hHeld => ?_)
  clear hK K
  (try simp only [Act.put, List.setIfInBounds_toArray, List.set_cons_zero, List.set_cons_succ])
  refine wpAnyH_ready (rs := [5]) (by kernel_rfl) (by simp) ?_
  refine AllReadyH.cons (o := _) rfl (fun K hK => ?_) AllReadyH.nil
  go_simp
  go_at_call 43; refine (CD_a.out _).mono ?_; rintro r x2 ⟨rfl, b2⟩; have Q2 := hid (Q1.out.later b2); clear b2
  refine hK.out _ _ (PR.out _ _ Q2.out) (fun hHeld => ?_)
  clear hK K
  (try simp only [Act.put, List.setIfInBounds_toArray, List.set_cons_zero, List.set_cons_succ])
  have Q3 : Hid (All (ownC 9 (.slice (some ⟨x2.heap.size, 0, none⟩) 2 2) (txW [wordN e.k, Lib.itoa e.a]) :: blkC w.heap.size EC 36 :: cs) (x2.alloc (.cells #[.string ⟨(wordN e.k).toArray⟩, .string ⟨(Lib.itoa e.a).toArray⟩] 9))) := hid (own_new Q2.out [wordN e.k, Lib.itoa e.a] (by simp))
  refine wpAnyH_ready (rs := [6]) (by kernel_rfl) (by simp) ?_
  refine AllReadyH.cons (o := _) rfl (fun K hK => ?_) AllReadyH.nil
  go_simp
  skip
  refine hK.out _ _ (PR.out _ _ Q3.out.swap) (fun hHeld => ?_)
  clear hK K
  (try simp only [Act.put, List.setIfInBounds_toArray, List.set_cons_zero, List.set_cons_succ])
  refine wpAnyH_ready (rs := [7]) (by kernel_rfl) (by simp) ?_
  refine AllReadyH.cons (o := _) rfl (fun K hK => ?_) AllReadyH.nil
  go_simp
  skip
  refine hK.out _ _ (PR.out _ _ Q3.out.swap) (fun hHeld => ?_)
  clear hK K
  (try simp only [Act.put, List.setIfInBounds_toArray, List.set_cons_zero, List.set_cons_succ])
  refine wpAnyH_done (by kernel_rfl) ?_ _
  clear hHeld
  generalize x2.alloc (.cells #[.string ⟨(wordN e.k).toArray⟩, .string ⟨(Lib.itoa e.a).toArray⟩] 9) = w3 at *
  generalize x2.heap.size = G2 at *
  obtain ⟨z0, z1, z2, z3, z4, z5, z6, z7, z8, z9, z10, z11⟩ := PR.out _ _ Q3.out.swap
  have hk := HKK.out
  rw [hk] at z0
  have ERZ := hid (FK8.out hk).1
  have WDE := hid (FK8.out hk).2
  go_upto_region 25 with fail
  have HB5 := hid (HBB.out _ _ Q3.out.swap)
  have CO5 := hid (CO.out _ _ Q3.out)
  go_upto_region 31 with (first | (refine wpList_load_row rfl 36 _ rfl w.heap.size rfl 36 EC.toArray (0, 0) _ HB5.out Tryz.underlying36 rfl I36.out ?_) | (go_at_call 63; refine CO5.out.mono ?_; rintro r w5 ⟨rfl, B5⟩; have K5 := hid B5; clear B5) | (refine wpList_store_row rfl 24 _ _ rfl w5.heap.size OLL.toArray rfl rfl 24 _ (heap_alloc_new w5 _) IO.out ZO.out OO1.out ?_; rw [World.setRow_alloc_new]))
  have K6 := hid (K5.out.addBlk OLL 24)
  generalize w5.alloc (.cells OLL.toArray 24) = w6 at *
  obtain ⟨y0, y1, y2, y3, y4, y5, y6, y7, y8, y9, y10, y11⟩ := PR.out _ _ K6.out.tail.swap
  rw [hk] at y0
  go_wp2
  go_ret2
  exact ⟨_, by rw [ERZ.out]; rfl, by rw [WDE.out]; exact K6.out.tail.swap.tail⟩
end Go.Proofs.YtfeppannfcbakaaGreatDoor

namespace Go.Proofs.YtfeppannfcbakaaGreatDoor
open Go.RowKit
set_option linter.unusedVariables false
set_option maxRecDepth 100000
set_option maxHeartbeats 12800000 in
set_option maxRecDepth 1000000 in
theorem rWords_9 (e : Ev) {items : Ws} {data : List UInt8} {cs : List Comp} {w : World} (hR : e.Rg) (hd : data.length = e.dik) (hil : items.length ≤ 140737488355328) (hI : ∀ W, All cs W → Rt W (.slice e.ria e.rik e.ric) items) (hD : ∀ W, All cs W → BRd W (.slice e.dia e.dik e.dic) data) (A : All cs w) (hF : e.inForm = true) (hk : e.k = 9) :
    Calls Tryz.prog 30 #[.agg e.cells.toArray] w (WRPost (if e.err items = 0 then e.words items data else []) (e.err items) cs) := by
  generalize hWD : (if e.err items = 0 then e.words items data else []) = WD
  generalize hER : e.err items = ER at *
  have HWD := hid hWD
  have HER := hid hER
  clear hWD hER
  have A0 := hid (A.addBlk e.cells 36)
  have CP := hid (rplain_any e A0.out)
  have I36 : Hid ((Tryz.prog.info? 36).map (·.size) = some e.cells.toArray.size) := hid (by kernel_rfl)
  unfold WRPost
  have H0 := ok0_of hF
  rw [hF] at CP
  have HEK : Hid (ER = ersL (er1 e.cells items) (kindT e.k)) := hid (by rw [← HER.out]; unfold Ev.err; rw [if_neg (by simp [hF])])
  have CW := hid (fun W => word_any e.k W)
  have PR : Hid (∀ W ds, All (blkC w.heap.size e.cells 36 :: ds) W → W.cell? ⟨w.heap.size, 0, none⟩ = some (.int .i64 e.k) ∧ W.cell? ⟨w.heap.size, 1, none⟩ = some (.int .i64 e.a) ∧ W.cell? ⟨w.heap.size, 2, none⟩ = some (.int .i64 e.nb) ∧ W.cell? ⟨w.heap.size, 3, none⟩ = some (.int .i64 e.nm) ∧ W.cell? ⟨w.heap.size, 4, none⟩ = some (.int .i64 e.wh) ∧ W.cell? ⟨w.heap.size, 5, none⟩ = some (.int .i64 e.cd) ∧ W.cell? ⟨w.heap.size, 12, none⟩ = some (.int .i64 e.ec) ∧ W.cell? ⟨w.heap.size, 13, none⟩ = some (.int .i64 e.en) ∧ W.cell? ⟨w.heap.size, 30, none⟩ = some (.int .i64 e.sn) ∧ W.cell? ⟨w.heap.size, 31, none⟩ = some (.int .i64 e.sa) ∧ W.cell? ⟨w.heap.size, 6, none⟩ = some (.bool e.fr) ∧ W.cell? ⟨w.heap.size, 32, none⟩ = some (.slice e.dia e.dik e.dic)) := hid (fun W ds h => ⟨cell_in h (List.mem_cons_self) rfl, cell_in h (List.mem_cons_self) rfl, cell_in h (List.mem_cons_self) rfl, cell_in h (List.mem_cons_self) rfl, cell_in h (List.mem_cons_self) rfl, cell_in h (List.mem_cons_self) rfl, cell_in h (List.mem_cons_self) rfl, cell_in h (List.mem_cons_self) rfl, cell_in h (List.mem_cons_self) rfl, cell_in h (List.mem_cons_self) rfl, cell_in h (List.mem_cons_self) rfl, cell_in h (List.mem_cons_self) rfl⟩)
  have HBB : Hid (∀ W ds, All (blkC w.heap.size e.cells 36 :: ds) W → W.heap[w.heap.size]? = some (.cells e.cells.toArray 36 (0, 0))) := hid (fun W ds h => h.blk (List.mem_cons_self))
  have CD_a := hid (fun W => Dig_any H0.a hR.a W)
  have CO := hid (fun (ds : List Comp) W (h : All ds W) => opOf_any e h)
  have FK9 : Hid (e.k = 9 → ER = 0 ∧ WD = [wordN e.k, Lib.itoa e.a]) := hid (fun hk => by
    have hK : kindT e.k = [.int 1] := by rw [hk]; rfl
    have ERZ : ER = 0 := by rw [HEK.out, hK]; rfl
    refine ⟨ERZ, ?_⟩
    rw [← HWD.out, ERZ, if_pos rfl]
    unfold Ev.words
    rw [hK]
    have e9 : kdN.getD e.k.toNat [] = wordN e.k := by rw [hk]; rfl
    rw [e9]
    rfl)
  have IO : Hid ((Tryz.prog.info? 24).map (·.size) = some e.opL.toArray.size) := hid (by kernel_rfl)
  have ZO : Hid (zoL.toArray.size = e.opL.toArray.size) := hid rfl
  have OO1 : Hid (e.opL.toArray.all (·.oneCell') = true) := hid (by kernel_rfl)
  have OLL0 : Hid ((if e.k = 6 then e.enL else e.opL) = e.opL ∧ decide (e.k = 6 ∨ e.k = 2 ∨ e.k = 3) = false) := hid ⟨by rw [hk]; rfl, by rw [hk]; rfl⟩
  rw [OLL0.out.1, OLL0.out.2] at CO
  clear OLL0
  have HKK := hid hk
  clear hI hD hR hd hil A H0 hF hk HEK
  generalize e.opL = OLL at *
  generalize e.cells = EC at *
  go_enter Tryz.func30, Tryz.ntmps30
  go_upto_region 1 with fail
  generalize w.alloc (.cells EC.toArray 36) = w0 at *
  have HB := hid (HBB.out _ _ A0.out)
  go_upto_region 3 with (first | (refine wpList_load_row rfl 36 _ rfl w.heap.size rfl 36 EC.toArray (0, 0) _ HB.out Tryz.underlying36 rfl I36.out ?_) | (go_at_call 59; refine CP.out.mono ?_; rintro r w1 ⟨rfl, B1⟩; have K1 := hid B1; clear B1))
  have Q0 := hid K1.out.drew
  refine wp_region_held_drew (S := (fun W => W.cell? ⟨w.heap.size, 0, none⟩ = some (.int .i64 e.k) ∧ W.cell? ⟨w.heap.size, 1, none⟩ = some (.int .i64 e.a) ∧ W.cell? ⟨w.heap.size, 2, none⟩ = some (.int .i64 e.nb) ∧ W.cell? ⟨w.heap.size, 3, none⟩ = some (.int .i64 e.nm) ∧ W.cell? ⟨w.heap.size, 4, none⟩ = some (.int .i64 e.wh) ∧ W.cell? ⟨w.heap.size, 5, none⟩ = some (.int .i64 e.cd) ∧ W.cell? ⟨w.heap.size, 12, none⟩ = some (.int .i64 e.ec) ∧ W.cell? ⟨w.heap.size, 13, none⟩ = some (.int .i64 e.en) ∧ W.cell? ⟨w.heap.size, 30, none⟩ = some (.int .i64 e.sn) ∧ W.cell? ⟨w.heap.size, 31, none⟩ = some (.int .i64 e.sa) ∧ W.cell? ⟨w.heap.size, 6, none⟩ = some (.bool e.fr) ∧ W.cell? ⟨w.heap.size, 32, none⟩ = some (.slice e.dia e.dik e.dic))) (by kernel_rfl) (PR.out _ _ Q0.out) (fun hHeld => ?_)
  generalize World.drew _ = wd at *
  refine wpAnyH_take (i := 0) (oi := _) (v := ?_) rfl (by kernel_rfl) (by kernel_rfl) (by kernel_rfl) (fun _ _ _ h => h) (Or.inl ⟨by rfl, ?_⟩) hHeld ?_
  rotate_left
  · intro W hSw
    obtain ⟨s0, s1, s2, s3, s4, s5, s6, s7, s8, s9, s10, s11⟩ := hSw
    go_simp
    (try with_reducible rfl)
  (try simp only [Act.put, List.setIfInBounds_toArray])
  refine wpAnyH_take (i := 1) (oi := _) (v := ?_) rfl (by kernel_rfl) (by kernel_rfl) (by kernel_rfl) (fun _ _ _ h => h) (Or.inl ⟨by rfl, ?_⟩) hHeld ?_
  rotate_left
  · intro W hSw
    obtain ⟨s0, s1, s2, s3, s4, s5, s6, s7, s8, s9, s10, s11⟩ := hSw
    go_simp
    (try with_reducible rfl)
  (try simp only [Act.put])
  refine wpAnyH_take (i := 3) (oi := _) (v := ?_) rfl (by kernel_rfl) (by kernel_rfl) (by kernel_rfl) (fun _ _ _ h => h) (Or.inl ⟨by rfl, ?_⟩) hHeld ?_
  rotate_left
  · intro W hSw
    obtain ⟨s0, s1, s2, s3, s4, s5, s6, s7, s8, s9, s10, s11⟩ := hSw
    go_simp
    (try with_reducible rfl)
  (try simp only [Act.put])
  refine wpAnyH_take (i := 4) (oi := _) (v := ?_) rfl (by kernel_rfl) (by kernel_rfl) (by kernel_rfl) (fun _ _ _ h => h) (Or.inl ⟨by rfl, ?_⟩) hHeld ?_
  rotate_left
  · intro W hSw
    obtain ⟨s0, s1, s2, s3, s4, s5, s6, s7, s8, s9, s10, s11⟩ := hSw
    go_simp
    (try with_reducible rfl)
  (try simp only [Act.put])
  refine wpAnyH_ready (rs := [2]) (by kernel_rfl) (by simp) ?_
  refine AllReadyH.cons (o := _) rfl (fun K hK => ?_) AllReadyH.nil
  go_simp
  go_at_call 60; refine (CW.out _).mono ?_; rintro r x1 ⟨rfl, b1⟩; have Q1 := hid (Q0.out.later b1); clear b1
  refine hK.out _ _ (PR.out _ _ Q1.out) (fun hHeld => ?_)
  clear hK K
  (try simp only [Act.put, List.setIfInBounds_toArray, List.set_cons_zero, List.set_cons_succ])
  refine wpAnyH_ready (rs := [5]) (by kernel_rfl) (by simp) ?_
  refine AllReadyH.cons (o := _) rfl (fun K hK => ?_) AllReadyH.nil
  go_simp
  go_at_call 43; refine (CD_a.out _).mono ?_; rintro r x2 ⟨rfl, b2⟩; have Q2 := hid (Q1.out.later b2); clear b2
  refine hK.out _ _ (PR.out _ _ Q2.out) (fun hHeld => ?_)
  clear hK K
  (try simp only [Act.put, List.setIfInBounds_toArray, List.set_cons_zero, List.set_cons_succ])
  have Q3 : Hid (All (ownC 9 (.slice (some ⟨x2.heap.size, 0, none⟩) 2 2) (txW [wordN e.k, Lib.itoa e.a]) :: blkC w.heap.size EC 36 :: cs) (x2.alloc (.cells #[.string ⟨(wordN e.k).toArray⟩, .string ⟨(Lib.itoa e.a).toArray⟩] 9))) := hid (own_new Q2.out [wordN e.k, Lib.itoa e.a] (by simp))
  refine wpAnyH_ready (rs := [6]) (by kernel_rfl) (by simp) ?_
  refine AllReadyH.cons (o := _) rfl (fun K hK => ?_) AllReadyH.nil
  go_simp
  skip
  refine hK.out _ _ (PR.out _ _ Q3.out.swap) (fun hHeld => ?_)
  clear hK K
  (try simp only [Act.put, List.setIfInBounds_toArray, List.set_cons_zero, List.set_cons_succ])
  refine wpAnyH_ready (rs := [7]) (by kernel_rfl) (by simp) ?_
  refine AllReadyH.cons (o := _) rfl (fun K hK => ?_) AllReadyH.nil
  go_simp
  skip
  refine hK.out _ _ (PR.out _ _ Q3.out.swap) (fun hHeld => ?_)
  clear hK K
  (try simp only [Act.put, List.setIfInBounds_toArray, List.set_cons_zero, List.set_cons_succ])
  refine wpAnyH_done (by kernel_rfl) ?_ _
  clear hHeld
  generalize x2.alloc (.cells #[.string ⟨(wordN e.k).toArray⟩, .string ⟨(Lib.itoa e.a).toArray⟩] 9) = w3 at *
  generalize x2.heap.size = G2 at *
  obtain ⟨z0, z1, z2, z3, z4, z5, z6, z7, z8, z9, z10, z11⟩ := PR.out _ _ Q3.out.swap
  have hk := HKK.out
  rw [hk] at z0
  have ERZ := hid (FK9.out hk).1
  have WDE := hid (FK9.out hk).2
  go_upto_region 25 with fail
  have HB5 := hid (HBB.out _ _ Q3.out.swap)
  have CO5 := hid (CO.out _ _ Q3.out)
  go_upto_region 31 with (first | (refine wpList_load_row rfl 36 _ rfl w.heap.size rfl 36 EC.toArray (0, 0) _ HB5.out Tryz.underlying36 rfl I36.out ?_) | (go_at_call 63; refine CO5.out.mono ?_; rintro r w5 ⟨rfl, B5⟩; have K5 := hid B5; clear B5) | (refine wpList_store_row rfl 24 _ _ rfl w5.heap.size OLL.toArray rfl rfl 24 _ (heap_alloc_new w5 _) IO.out ZO.out OO1.out ?_; rw [World.setRow_alloc_new]))
  have K6 := hid (K5.out.addBlk OLL 24)
  generalize w5.alloc (.cells OLL.toArray 24) = w6 at *
  obtain ⟨y0, y1, y2, y3, y4, y5, y6, y7, y8, y9, y10, y11⟩ := PR.out _ _ K6.out.tail.swap
  rw [hk] at y0
  go_wp2
  go_ret2
  exact ⟨_, by rw [ERZ.out]; rfl, by rw [WDE.out]; exact K6.out.tail.swap.tail⟩
end Go.Proofs.YtfeppannfcbakaaGreatDoor

namespace Go.Proofs.YtfeppannfcbakaaGreatDoor
open Go.RowKit
set_option linter.unusedVariables false
set_option maxRecDepth 100000
set_option maxHeartbeats 12800000 in
set_option maxRecDepth 1000000 in
theorem rWords_10 (e : Ev) {items : Ws} {data : List UInt8} {cs : List Comp} {w : World} (hR : e.Rg) (hd : data.length = e.dik) (hil : items.length ≤ 140737488355328) (hI : ∀ W, All cs W → Rt W (.slice e.ria e.rik e.ric) items) (hD : ∀ W, All cs W → BRd W (.slice e.dia e.dik e.dic) data) (A : All cs w) (hF : e.inForm = true) (hk : e.k = 10) :
    Calls Tryz.prog 30 #[.agg e.cells.toArray] w (WRPost (if e.err items = 0 then e.words items data else []) (e.err items) cs) := by
  generalize hWD : (if e.err items = 0 then e.words items data else []) = WD
  generalize hER : e.err items = ER at *
  have HWD := hid hWD
  have HER := hid hER
  clear hWD hER
  have A0 := hid (A.addBlk e.cells 36)
  have CP := hid (rplain_any e A0.out)
  have I36 : Hid ((Tryz.prog.info? 36).map (·.size) = some e.cells.toArray.size) := hid (by kernel_rfl)
  unfold WRPost
  have H0 := ok0_of hF
  rw [hF] at CP
  have HEK : Hid (ER = ersL (er1 e.cells items) (kindT e.k)) := hid (by rw [← HER.out]; unfold Ev.err; rw [if_neg (by simp [hF])])
  have CW := hid (fun W => word_any e.k W)
  have PR : Hid (∀ W ds, All (blkC w.heap.size e.cells 36 :: ds) W → W.cell? ⟨w.heap.size, 0, none⟩ = some (.int .i64 e.k) ∧ W.cell? ⟨w.heap.size, 1, none⟩ = some (.int .i64 e.a) ∧ W.cell? ⟨w.heap.size, 2, none⟩ = some (.int .i64 e.nb) ∧ W.cell? ⟨w.heap.size, 3, none⟩ = some (.int .i64 e.nm) ∧ W.cell? ⟨w.heap.size, 4, none⟩ = some (.int .i64 e.wh) ∧ W.cell? ⟨w.heap.size, 5, none⟩ = some (.int .i64 e.cd) ∧ W.cell? ⟨w.heap.size, 12, none⟩ = some (.int .i64 e.ec) ∧ W.cell? ⟨w.heap.size, 13, none⟩ = some (.int .i64 e.en) ∧ W.cell? ⟨w.heap.size, 30, none⟩ = some (.int .i64 e.sn) ∧ W.cell? ⟨w.heap.size, 31, none⟩ = some (.int .i64 e.sa) ∧ W.cell? ⟨w.heap.size, 6, none⟩ = some (.bool e.fr) ∧ W.cell? ⟨w.heap.size, 32, none⟩ = some (.slice e.dia e.dik e.dic)) := hid (fun W ds h => ⟨cell_in h (List.mem_cons_self) rfl, cell_in h (List.mem_cons_self) rfl, cell_in h (List.mem_cons_self) rfl, cell_in h (List.mem_cons_self) rfl, cell_in h (List.mem_cons_self) rfl, cell_in h (List.mem_cons_self) rfl, cell_in h (List.mem_cons_self) rfl, cell_in h (List.mem_cons_self) rfl, cell_in h (List.mem_cons_self) rfl, cell_in h (List.mem_cons_self) rfl, cell_in h (List.mem_cons_self) rfl, cell_in h (List.mem_cons_self) rfl⟩)
  have HBB : Hid (∀ W ds, All (blkC w.heap.size e.cells 36 :: ds) W → W.heap[w.heap.size]? = some (.cells e.cells.toArray 36 (0, 0))) := hid (fun W ds h => h.blk (List.mem_cons_self))
  have CD_a := hid (fun W => Dig_any H0.a hR.a W)
  have CD_l0 := hid (fun W => Dig_any H0.l0 hR.l0 W)
  have CD_l2 := hid (fun W => Dig_any H0.l2 hR.l2 W)
  have CD_l3 := hid (fun W => Dig_any H0.l3 hR.l3 W)
  have CD_l4 := hid (fun W => Dig_any H0.l4 hR.l4 W)
  have CD_l5 := hid (fun W => Dig_any H0.l5 hR.l5 W)
  have CD_l6 := hid (fun W => Dig_any H0.l6 hR.l6 W)
  have CD_l7 := hid (fun W => Dig_any H0.l7 hR.l7 W)
  have CO := hid (fun (ds : List Comp) W (h : All ds W) => opOf_any e h)
  have CL : Hid (∀ (ds : List Comp) W, All ds W → Calls Tryz.prog 61 #[.agg #[.int .i64 e.l0, .int .i64 e.l1, .int .i64 e.l2, .int .i64 e.l3, .int .i64 e.l4, .int .i64 e.l5, .int .i64 e.l6, .int .i64 e.l7]] W fun r w' => ∃ g, r = .returned (.slice (some ⟨g, 0, none⟩) 8 8) ∧ All (ownC 9 (.slice (some ⟨g, 0, none⟩) 8 8) (txW [Lib.itoa e.l0, statN e.l1, Lib.itoa e.l2, Lib.itoa e.l3, Lib.itoa e.l4, Lib.itoa e.l5, Lib.itoa e.l6, Lib.itoa e.l7]) :: ds) w') := hid (fun ds W h => look_any ⟨H0.l0, hR.l0⟩ ⟨H0.l2, hR.l2⟩ ⟨H0.l3, hR.l3⟩ ⟨H0.l4, hR.l4⟩ ⟨H0.l5, hR.l5⟩ ⟨H0.l6, hR.l6⟩ ⟨H0.l7, hR.l7⟩ h)
  have HRL : Hid (∀ W ds, All (blkC w.heap.size e.cells 36 :: ds) W → W.rangeAt w.heap.size 22 [.int .i64 e.l0, .int .i64 e.l1, .int .i64 e.l2, .int .i64 e.l3, .int .i64 e.l4, .int .i64 e.l5, .int .i64 e.l6, .int .i64 e.l7]) := hid (fun W ds h => range_in (o := 22) h (List.mem_cons_self) (by intro j v hv; match j, hv with | 0, hv => exact hv | 1, hv => exact hv | 2, hv => exact hv | 3, hv => exact hv | 4, hv => exact hv | 5, hv => exact hv | 6, hv => exact hv | 7, hv => exact hv))
  have IL : Hid ((Tryz.prog.info? 31).map (·.size) = some 8) := hid (by kernel_rfl)
  have hS1 := st_of hF (by omega)
  have FK10 : Hid (e.k = 10 → ER = 0 ∧ WD = [wordN e.k, Lib.itoa e.a] ++ [Lib.itoa e.l0, statN e.l1, Lib.itoa e.l2, Lib.itoa e.l3, Lib.itoa e.l4, Lib.itoa e.l5, Lib.itoa e.l6, Lib.itoa e.l7]) := hid (fun hk => by
    have hK : kindT e.k = [.int 1, .look 22] := by rw [hk]; rfl
    have ERZ : ER = 0 := by rw [HEK.out, hK]; rfl
    refine ⟨ERZ, ?_⟩
    rw [← HWD.out, ERZ, if_pos rfl]
    unfold Ev.words
    rw [hK]
    have e9 : kdN.getD e.k.toNat [] = wordN e.k := by rw [hk]; rfl
    have e8 : statN e.l1 = stN.getD e.l1.toNat [] := by unfold statN; rw [if_neg (by omega)]
    rw [e9, e8]
    rfl)
  have IO : Hid ((Tryz.prog.info? 24).map (·.size) = some e.opL.toArray.size) := hid (by kernel_rfl)
  have ZO : Hid (zoL.toArray.size = e.opL.toArray.size) := hid rfl
  have OO1 : Hid (e.opL.toArray.all (·.oneCell') = true) := hid (by kernel_rfl)
  have OLL0 : Hid ((if e.k = 6 then e.enL else e.opL) = e.opL ∧ decide (e.k = 6 ∨ e.k = 2 ∨ e.k = 3) = false) := hid ⟨by rw [hk]; rfl, by rw [hk]; rfl⟩
  rw [OLL0.out.1, OLL0.out.2] at CO
  clear OLL0
  have HKK := hid hk
  clear hI hD hR hd hil A H0 hF hk HEK
  generalize e.opL = OLL at *
  generalize e.cells = EC at *
  go_enter Tryz.func30, Tryz.ntmps30
  go_upto_region 1 with fail
  generalize w.alloc (.cells EC.toArray 36) = w0 at *
  have HB := hid (HBB.out _ _ A0.out)
  go_upto_region 3 with (first | (refine wpList_load_row rfl 36 _ rfl w.heap.size rfl 36 EC.toArray (0, 0) _ HB.out Tryz.underlying36 rfl I36.out ?_) | (go_at_call 59; refine CP.out.mono ?_; rintro r w1 ⟨rfl, B1⟩; have K1 := hid B1; clear B1))
  have Q0 := hid K1.out.drew
  refine wp_region_held_drew (S := (fun W => W.cell? ⟨w.heap.size, 0, none⟩ = some (.int .i64 e.k) ∧ W.cell? ⟨w.heap.size, 1, none⟩ = some (.int .i64 e.a) ∧ W.cell? ⟨w.heap.size, 2, none⟩ = some (.int .i64 e.nb) ∧ W.cell? ⟨w.heap.size, 3, none⟩ = some (.int .i64 e.nm) ∧ W.cell? ⟨w.heap.size, 4, none⟩ = some (.int .i64 e.wh) ∧ W.cell? ⟨w.heap.size, 5, none⟩ = some (.int .i64 e.cd) ∧ W.cell? ⟨w.heap.size, 12, none⟩ = some (.int .i64 e.ec) ∧ W.cell? ⟨w.heap.size, 13, none⟩ = some (.int .i64 e.en) ∧ W.cell? ⟨w.heap.size, 30, none⟩ = some (.int .i64 e.sn) ∧ W.cell? ⟨w.heap.size, 31, none⟩ = some (.int .i64 e.sa) ∧ W.cell? ⟨w.heap.size, 6, none⟩ = some (.bool e.fr) ∧ W.cell? ⟨w.heap.size, 32, none⟩ = some (.slice e.dia e.dik e.dic))) (by kernel_rfl) (PR.out _ _ Q0.out) (fun hHeld => ?_)
  generalize World.drew _ = wd at *
  refine wpAnyH_take (i := 0) (oi := _) (v := ?_) rfl (by kernel_rfl) (by kernel_rfl) (by kernel_rfl) (fun _ _ _ h => h) (Or.inl ⟨by rfl, ?_⟩) hHeld ?_
  rotate_left
  · intro W hSw
    obtain ⟨s0, s1, s2, s3, s4, s5, s6, s7, s8, s9, s10, s11⟩ := hSw
    go_simp
    (try with_reducible rfl)
  (try simp only [Act.put, List.setIfInBounds_toArray])
  refine wpAnyH_take (i := 1) (oi := _) (v := ?_) rfl (by kernel_rfl) (by kernel_rfl) (by kernel_rfl) (fun _ _ _ h => h) (Or.inl ⟨by rfl, ?_⟩) hHeld ?_
  rotate_left
  · intro W hSw
    obtain ⟨s0, s1, s2, s3, s4, s5, s6, s7, s8, s9, s10, s11⟩ := hSw
    go_simp
    (try with_reducible rfl)
  (try simp only [Act.put])
  refine wpAnyH_take (i := 3) (oi := _) (v := ?_) rfl (by kernel_rfl) (by kernel_rfl) (by kernel_rfl) (fun _ _ _ h => h) (Or.inl ⟨by rfl, ?_⟩) hHeld ?_
  rotate_left
  · intro W hSw
    obtain ⟨s0, s1, s2, s3, s4, s5, s6, s7, s8, s9, s10, s11⟩ := hSw
    go_simp
    (try with_reducible rfl)
  (try simp only [Act.put])
  refine wpAnyH_take (i := 4) (oi := _) (v := ?_) rfl (by kernel_rfl) (by kernel_rfl) (by kernel_rfl) (fun _ _ _ h => h) (Or.inl ⟨by rfl, ?_⟩) hHeld ?_
  rotate_left
  · intro W hSw
    obtain ⟨s0, s1, s2, s3, s4, s5, s6, s7, s8, s9, s10, s11⟩ := hSw
    go_simp
    (try with_reducible rfl)
  (try simp only [Act.put])
  refine wpAnyH_ready (rs := [2]) (by kernel_rfl) (by simp) ?_
  refine AllReadyH.cons (o := _) rfl (fun K hK => ?_) AllReadyH.nil
  go_simp
  go_at_call 60; refine (CW.out _).mono ?_; rintro r x1 ⟨rfl, b1⟩; have Q1 := hid (Q0.out.later b1); clear b1
  refine hK.out _ _ (PR.out _ _ Q1.out) (fun hHeld => ?_)
  clear hK K
  (try simp only [Act.put, List.setIfInBounds_toArray, List.set_cons_zero, List.set_cons_succ])
  refine wpAnyH_ready (rs := [5]) (by kernel_rfl) (by simp) ?_
  refine AllReadyH.cons (o := _) rfl (fun K hK => ?_) AllReadyH.nil
  go_simp
  go_at_call 43; refine (CD_a.out _).mono ?_; rintro r x2 ⟨rfl, b2⟩; have Q2 := hid (Q1.out.later b2); clear b2
  refine hK.out _ _ (PR.out _ _ Q2.out) (fun hHeld => ?_)
  clear hK K
  (try simp only [Act.put, List.setIfInBounds_toArray, List.set_cons_zero, List.set_cons_succ])
  have Q3 : Hid (All (ownC 9 (.slice (some ⟨x2.heap.size, 0, none⟩) 2 2) (txW [wordN e.k, Lib.itoa e.a]) :: blkC w.heap.size EC 36 :: cs) (x2.alloc (.cells #[.string ⟨(wordN e.k).toArray⟩, .string ⟨(Lib.itoa e.a).toArray⟩] 9))) := hid (own_new Q2.out [wordN e.k, Lib.itoa e.a] (by simp))
  refine wpAnyH_ready (rs := [6]) (by kernel_rfl) (by simp) ?_
  refine AllReadyH.cons (o := _) rfl (fun K hK => ?_) AllReadyH.nil
  go_simp
  skip
  refine hK.out _ _ (PR.out _ _ Q3.out.swap) (fun hHeld => ?_)
  clear hK K
  (try simp only [Act.put, List.setIfInBounds_toArray, List.set_cons_zero, List.set_cons_succ])
  refine wpAnyH_ready (rs := [7]) (by kernel_rfl) (by simp) ?_
  refine AllReadyH.cons (o := _) rfl (fun K hK => ?_) AllReadyH.nil
  go_simp
  skip
  refine hK.out _ _ (PR.out _ _ Q3.out.swap) (fun hHeld => ?_)
  clear hK K
  (try simp only [Act.put, List.setIfInBounds_toArray, List.set_cons_zero, List.set_cons_succ])
  refine wpAnyH_done (by kernel_rfl) ?_ _
  clear hHeld
  generalize x2.alloc (.cells #[.string ⟨(wordN e.k).toArray⟩, .string ⟨(Lib.itoa e.a).toArray⟩] 9) = w3 at *
  generalize x2.heap.size = G2 at *
  obtain ⟨z0, z1, z2, z3, z4, z5, z6, z7, z8, z9, z10, z11⟩ := PR.out _ _ Q3.out.swap
  have hk := HKK.out
  rw [hk] at z0
  have ERZ := hid (FK10.out hk).1
  have WDE := hid (FK10.out hk).2
  have RG := hid (HRL.out _ _ Q3.out.swap)
  have CL3 := hid (CL.out _ _ Q3.out)
  go_upto_region 25 with (first | (refine wpList_load_mid rfl 31 _ rfl w.heap.size 22 rfl [.int .i64 e.l0, .int .i64 e.l1, .int .i64 e.l2, .int .i64 e.l3, .int .i64 e.l4, .int .i64 e.l5, .int .i64 e.l6, .int .i64 e.l7] _ RG.out Tryz.underlying31 rfl IL.out ?_) | (go_at_call 61; refine CL3.out.mono ?_; rintro r x3 ⟨g3, rfl, b3⟩; obtain ⟨ao6, c6, w6a, hr6, A6⟩ := appR b3.swap (rt_own b3) (Nat.le_of_ble_eq_true rfl); have R6 := hid hr6; have Q6 := hid A6.swap.tail; clear b3 hr6 A6) | (at_builtin; refine wpList_append_run rfl _ _ 27 rfl _ _ _ _ rfl rfl R6.out ?_))
  have HB5 := hid (HBB.out _ _ Q6.out.swap)
  have CO5 := hid (CO.out _ _ Q6.out)
  go_upto_region 31 with (first | (refine wpList_load_row rfl 36 _ rfl w.heap.size rfl 36 EC.toArray (0, 0) _ HB5.out Tryz.underlying36 rfl I36.out ?_) | (go_at_call 63; refine CO5.out.mono ?_; rintro r w5 ⟨rfl, B5⟩; have K5 := hid B5; clear B5) | (refine wpList_store_row rfl 24 _ _ rfl w5.heap.size OLL.toArray rfl rfl 24 _ (heap_alloc_new w5 _) IO.out ZO.out OO1.out ?_; rw [World.setRow_alloc_new]))
  have K6 := hid (K5.out.addBlk OLL 24)
  generalize w5.alloc (.cells OLL.toArray 24) = w6 at *
  obtain ⟨y0, y1, y2, y3, y4, y5, y6, y7, y8, y9, y10, y11⟩ := PR.out _ _ K6.out.tail.swap
  rw [hk] at y0
  go_wp2
  go_ret2
  exact ⟨_, by rw [ERZ.out]; rfl, by rw [WDE.out]; exact K6.out.tail.swap.tail⟩
end Go.Proofs.YtfeppannfcbakaaGreatDoor
