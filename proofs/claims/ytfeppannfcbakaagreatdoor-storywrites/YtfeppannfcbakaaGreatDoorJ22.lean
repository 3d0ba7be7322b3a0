import Derived.Test.YtfeppannfcbakaaGreatDoorJ21
import Derived.Test.YtfeppannfcbakaaGreatDoorEv26
namespace Go.Proofs.YtfeppannfcbakaaGreatDoor
open Go.RowKit
set_option linter.unusedVariables false
set_option maxRecDepth 100000
set_option maxHeartbeats 12800000 in
set_option maxRecDepth 1000000 in
theorem rWords_4 (e : Ev) {items : Ws} {data : List UInt8} {cs : List Comp} {w : World} (hR : e.Rg) (hd : data.length = e.dik) (hil : items.length ≤ 140737488355328) (hI : ∀ W, All cs W → Rt W (.slice e.ria e.rik e.ric) items) (hD : ∀ W, All cs W → BRd W (.slice e.dia e.dik e.dic) data) (A : All cs w) (hF : e.inForm = true) (hk : e.k = 4) :
    Calls Tryz.prog 30 #[.agg e.cells.toArray] w (WRPost (if e.err items = 0 then e.words items data else []) (e.err items) cs) := by
  generalize hWD : (if e.err items = 0 then e.words items data else []) = WD
  generalize hER : e.err items = ER at *
  have HWD := hid hWD
  have HER := hid hER
  clear hWD hER
  have A0 := hid (A.addBlk e.cells 36)
  have CP := hid (rplain_any e A0.out)
  have I36 : Hid ((Tryz.prog.info? 36).map (·.size) = some e.cells.toArray.size) := hid (by kernel_rfl)
  unfold WRPost
  have H0 := ok0_of hF
  rw [hF] at CP
  have HEK : Hid (ER = ersL (er1 e.cells items) (kindT e.k)) := hid (by rw [← HER.out]; unfold Ev.err; rw [if_neg (by simp [hF])])
  have CW := hid (fun W => word_any e.k W)
  have PR : Hid (∀ W ds, All (blkC w.heap.size e.cells 36 :: ds) W → W.cell? ⟨w.heap.size, 0, none⟩ = some (.int .i64 e.k) ∧ W.cell? ⟨w.heap.size, 1, none⟩ = some (.int .i64 e.a) ∧ W.cell? ⟨w.heap.size, 2, none⟩ = some (.int .i64 e.nb) ∧ W.cell? ⟨w.heap.size, 3, none⟩ = some (.int .i64 e.nm) ∧ W.cell? ⟨w.heap.size, 4, none⟩ = some (.int .i64 e.wh) ∧ W.cell? ⟨w.heap.size, 5, none⟩ = some (.int .i64 e.cd) ∧ W.cell? ⟨w.heap.size, 12, none⟩ = some (.int .i64 e.ec) ∧ W.cell? ⟨w.heap.size, 13, none⟩ = some (.int .i64 e.en) ∧ W.cell? ⟨w.heap.size, 30, none⟩ = some (.int .i64 e.sn) ∧ W.cell? ⟨w.heap.size, 31, none⟩ = some (.int .i64 e.sa) ∧ W.cell? ⟨w.heap.size, 6, none⟩ = some (.bool e.fr) ∧ W.cell? ⟨w.heap.size, 32, none⟩ = some (.slice e.dia e.dik e.dic)) := hid (fun W ds h => ⟨cell_in h (List.mem_cons_self) rfl, cell_in h (List.mem_cons_self) rfl, cell_in h (List.mem_cons_self) rfl, cell_in h (List.mem_cons_self) rfl, cell_in h (List.mem_cons_self) rfl, cell_in h (List.mem_cons_self) rfl, cell_in h (List.mem_cons_self) rfl, cell_in h (List.mem_cons_self) rfl, cell_in h (List.mem_cons_self) rfl, cell_in h (List.mem_cons_self) rfl, cell_in h (List.mem_cons_self) rfl, cell_in h (List.mem_cons_self) rfl⟩)
  have HBB : Hid (∀ W ds, All (blkC w.heap.size e.cells 36 :: ds) W → W.heap[w.heap.size]? = some (.cells e.cells.toArray 36 (0, 0))) := hid (fun W ds h => h.blk (List.mem_cons_self))
  have CD_a := hid (fun W => Dig_any H0.a hR.a W)
  have CD_nb := hid (fun W => Dig_any H0.nb hR.nb W)
  have CD_nm := hid (fun W => Dig_any H0.nm hR.nm W)
  have CO := hid (fun (ds : List Comp) W (h : All ds W) => opOf_any e h)
  have CRS : Hid (∀ (c1 c2 : Comp) W, All (c1 :: c2 :: cs) W → Calls Tryz.prog 65 #[.agg (#[.int .i64 e.rc, .int .i64 e.rn, .slice e.ria e.rik e.ric] : Array Value)] W (WRPost (resA e.rc e.rn items) (chkW e.rc e.rn items) (c1 :: c2 :: cs))) := hid (fun c1 c2 W h => rResult_any (c := e.rc) (n := e.rn) h (fun V hV => hI V hV.tail.tail) hil)
  have HR4 := hid (resA_len e.rc e.rn items)
  have HRR : Hid (∀ W ds, All (blkC w.heap.size e.cells 36 :: ds) W → W.rangeAt w.heap.size 19 [.int .i64 e.rc, .int .i64 e.rn, .slice e.ria e.rik e.ric]) := hid (fun W ds h => range_in (o := 19) h (List.mem_cons_self) (by intro j v hv; match j, hv with | 0, hv => exact hv | 1, hv => exact hv | 2, hv => exact hv))
  have IR : Hid ((Tryz.prog.info? 29).map (·.size) = some 3) := hid (by kernel_rfl)
  generalize hXR : chkW e.rc e.rn items = XR at *
  generalize hRW : resA e.rc e.rn items = RSW at *
  have HXR := hid hXR
  have HRW := hid hRW
  clear hXR hRW
  have FK4 : Hid (e.k = 4 → (XR ≠ 0 → ER = XR ∧ WD = []) ∧ (XR = 0 → ER = 0 ∧ WD = [wordN e.k, Lib.itoa e.a] ++ [Lib.itoa e.nb, Lib.itoa e.nm] ++ RSW)) := hid (fun hk => by
    have hK : kindT e.k = [.int 1, .int 2, .int 3, .res 19] := by rw [hk]; rfl
    have hE1 : ER = if XR ≠ 0 then XR else 0 := by rw [HEK.out, hK, ← HXR.out]; rfl
    refine ⟨fun hx => ?_, fun hx => ?_⟩
    · rw [if_pos hx] at hE1
      refine ⟨hE1, ?_⟩
      rw [← HWD.out, if_neg (by rw [hE1]; exact hx)]
    · rw [if_neg (by simp [hx])] at hE1
      refine ⟨hE1, ?_⟩
      rw [← HWD.out, if_pos hE1]
      unfold Ev.words
      rw [hK]
      have e9 : kdN.getD e.k.toNat [] = wordN e.k := by rw [hk]; rfl
      rw [e9, ← HRW.out]
      simp [wdT, wd1]
      first | exact ⟨rfl, rfl, rfl, rfl, rfl⟩ | exact ⟨rfl, rfl, rfl, rfl⟩ | exact ⟨rfl, rfl, rfl⟩)
  have IO : Hid ((Tryz.prog.info? 24).map (·.size) = some e.opL.toArray.size) := hid (by kernel_rfl)
  have ZO : Hid (zoL.toArray.size = e.opL.toArray.size) := hid rfl
  have OO1 : Hid (e.opL.toArray.all (·.oneCell') = true) := hid (by kernel_rfl)
  have OLL0 : Hid ((if e.k = 6 then e.enL else e.opL) = e.opL ∧ decide (e.k = 6 ∨ e.k = 2 ∨ e.k = 3) = false) := hid ⟨by rw [hk]; rfl, by rw [hk]; rfl⟩
  rw [OLL0.out.1, OLL0.out.2] at CO
  clear OLL0
  have HKK := hid hk
  clear hI hD hR hd hil A H0 hF hk HEK
  generalize e.opL = OLL at *
  generalize e.cells = EC at *
  go_enter Tryz.func30, Tryz.ntmps30
  go_upto_region 1 with fail
  generalize w.alloc (.cells EC.toArray 36) = w0 at *
  have HB := hid (HBB.out _ _ A0.out)
  go_upto_region 3 with (first | (refine wpList_load_row rfl 36 _ rfl w.heap.size rfl 36 EC.toArray (0, 0) _ HB.out Tryz.underlying36 rfl I36.out ?_) | (go_at_call 59; refine CP.out.mono ?_; rintro r w1 ⟨rfl, B1⟩; have K1 := hid B1; clear B1))
  have Q0 := hid K1.out.drew
  refine wp_region_held_drew (S := (fun W => W.cell? ⟨w.heap.size, 0, none⟩ = some (.int .i64 e.k) ∧ W.cell? ⟨w.heap.size, 1, none⟩ = some (.int .i64 e.a) ∧ W.cell? ⟨w.heap.size, 2, none⟩ = some (.int .i64 e.nb) ∧ W.cell? ⟨w.heap.size, 3, none⟩ = some (.int .i64 e.nm) ∧ W.cell? ⟨w.heap.size, 4, none⟩ = some (.int .i64 e.wh) ∧ W.cell? ⟨w.heap.size, 5, none⟩ = some (.int .i64 e.cd) ∧ W.cell? ⟨w.heap.size, 12, none⟩ = some (.int .i64 e.ec) ∧ W.cell? ⟨w.heap.size, 13, none⟩ = some (.int .i64 e.en) ∧ W.cell? ⟨w.heap.size, 30, none⟩ = some (.int .i64 e.sn) ∧ W.cell? ⟨w.heap.size, 31, none⟩ = some (.int .i64 e.sa) ∧ W.cell? ⟨w.heap.size, 6, none⟩ = some (.bool e.fr) ∧ W.cell? ⟨w.heap.size, 32, none⟩ = some (.slice e.dia e.dik e.dic))) (by kernel_rfl) (PR.out _ _ Q0.out) (fun hHeld => ?_)
  generalize World.drew _ = wd at *
  refine wpAnyH_take (i := 0) (oi := _) (v := ?_) rfl (by kernel_rfl) (by kernel_rfl) (by kernel_rfl) (fun _ _ _ h => h) (Or.inl ⟨by rfl, ?_⟩) hHeld ?_
  rotate_left
  · intro W hSw
    obtain ⟨s0, s1, s2, s3, s4, s5, s6, s7, s8, s9, s10, s11⟩ := hSw
    go_simp
    (try with_reducible rfl)
  (try simp only [Act.put, List.setIfInBounds_toArray])
  refine wpAnyH_take (i := 1) (oi := _) (v := ?_) rfl (by kernel_rfl) (by kernel_rfl) (by kernel_rfl) (fun _ _ _ h => h) (Or.inl ⟨by rfl, ?_⟩) hHeld ?_
  rotate_left
  · intro W hSw
    obtain ⟨s0, s1, s2, s3, s4, s5, s6, s7, s8, s9, s10, s11⟩ := hSw
    go_simp
    (try with_reducible rfl)
  (try simp only [Act.put])
  refine wpAnyH_take (i := 3) (oi := _) (v := ?_) rfl (by kernel_rfl) (by kernel_rfl) (by kernel_rfl) (fun _ _ _ h => h) (Or.inl ⟨by rfl, ?_⟩) hHeld ?_
  rotate_left
  · intro W hSw
    obtain ⟨s0, s1, s2, s3, s4, s5, s6, s7, s8, s9, s10, s11⟩ := hSw
    go_simp
    (try with_reducible rfl)
  (try simp only [Act.put])
  refine wpAnyH_take (i := 4) (oi := _) (v := ?_) rfl (by kernel_rfl) (by kernel_rfl) (by kernel_rfl) (fun _ _ _ h => h) (Or.inl ⟨by rfl, ?_⟩) hHeld ?_
  rotate_left
  · intro W hSw
    obtain ⟨s0, s1, s2, s3, s4, s5, s6, s7, s8, s9, s10, s11⟩ := hSw
    go_simp
    (try with_reducible rfl)
  (try simp only [Act.put])
  refine wpAnyH_ready (rs := [2]) (by kernel_rfl) (by simp) ?_
  refine AllReadyH.cons (o := _) rfl (fun K hK => ?_) AllReadyH.nil
  go_simp
  go_at_call 60; refine (CW.out _).mono ?_; rintro r x1 ⟨rfl, b1⟩; have Q1 := hid (Q0.out.later b1); clear b1
  refine hK.out _ _ (PR.out _ _ Q1.out) (fun hHeld => ?_)
  clear hK K
  (try simp only [Act.put, List.setIfInBounds_toArray, List.set_cons_zero, List.set_cons_succ])
  refine wpAnyH_ready (rs := [5]) (by kernel_rfl) (by simp) ?_
  refine AllReadyH.cons (o := _) rfl (fun K hK => ?_) AllReadyH.nil
  go_simp
  go_at_call 43; refine (CD_a.out _).mono ?_; rintro r x2 ⟨rfl, b2⟩; have Q2 := hid (Q1.out.later b2); clear b2
  refine hK.out _ _ (PR.out _ _ Q2.out) (fun hHeld => ?_)
  clear hK K
  (try simp only [Act.put, List.setIfInBounds_toArray, List.set_cons_zero, List.set_cons_succ])
  have Q3 : Hid (All (ownC 9 (.slice (some ⟨x2.heap.size, 0, none⟩) 2 2) (txW [wordN e.k, Lib.itoa e.a]) :: blkC w.heap.size EC 36 :: cs) (x2.alloc (.cells #[.string ⟨(wordN e.k).toArray⟩, .string ⟨(Lib.itoa e.a).toArray⟩] 9))) := hid (own_new Q2.out [wordN e.k, Lib.itoa e.a] (by simp))
  refine wpAnyH_ready (rs := [6]) (by kernel_rfl) (by simp) ?_
  refine AllReadyH.cons (o := _) rfl (fun K hK => ?_) AllReadyH.nil
  go_simp
  skip
  refine hK.out _ _ (PR.out _ _ Q3.out.swap) (fun hHeld => ?_)
  clear hK K
  (try simp only [Act.put, List.setIfInBounds_toArray, List.set_cons_zero, List.set_cons_succ])
  refine wpAnyH_ready (rs := [7]) (by kernel_rfl) (by simp) ?_
  refine AllReadyH.cons (o := _) rfl (fun K hK => ?_) AllReadyH.nil
  go_simp
  skip
  refine hK.out _ _ (PR.out _ _ Q3.out.swap) (fun hHeld => ?_)
  clear hK K
  (try simp only [Act.put, List.setIfInBounds_toArray, List.set_cons_zero, List.set_cons_succ])
  refine wpAnyH_done (by kernel_rfl) ?_ _
  clear hHeld
  generalize x2.alloc (.cells #[.string ⟨(wordN e.k).toArray⟩, .string ⟨(Lib.itoa e.a).toArray⟩] 9) = w3 at *
  generalize x2.heap.size = G2 at *
  obtain ⟨z0, z1, z2, z3, z4, z5, z6, z7, z8, z9, z10, z11⟩ := PR.out _ _ Q3.out.swap
  have hk := HKK.out
  rw [hk] at z0
  go_upto_region 12 with fail
  have D0 := hid Q3.out.drew
  refine wp_region_held_drew (S := (fun W => W.cell? ⟨w.heap.size, 0, none⟩ = some (.int .i64 e.k) ∧ W.cell? ⟨w.heap.size, 1, none⟩ = some (.int .i64 e.a) ∧ W.cell? ⟨w.heap.size, 2, none⟩ = some (.int .i64 e.nb) ∧ W.cell? ⟨w.heap.size, 3, none⟩ = some (.int .i64 e.nm) ∧ W.cell? ⟨w.heap.size, 4, none⟩ = some (.int .i64 e.wh) ∧ W.cell? ⟨w.heap.size, 5, none⟩ = some (.int .i64 e.cd) ∧ W.cell? ⟨w.heap.size, 12, none⟩ = some (.int .i64 e.ec) ∧ W.cell? ⟨w.heap.size, 13, none⟩ = some (.int .i64 e.en) ∧ W.cell? ⟨w.heap.size, 30, none⟩ = some (.int .i64 e.sn) ∧ W.cell? ⟨w.heap.size, 31, none⟩ = some (.int .i64 e.sa) ∧ W.cell? ⟨w.heap.size, 6, none⟩ = some (.bool e.fr) ∧ W.cell? ⟨w.heap.size, 32, none⟩ = some (.slice e.dia e.dik e.dic))) (by kernel_rfl) (PR.out _ _ D0.out.swap) (fun hHeld => ?_)
  generalize World.drew _ = wd3 at *
  refine wpAnyH_take (i := 0) (oi := _) (v := ?_) rfl (by kernel_rfl) (by kernel_rfl) (by kernel_rfl) (fun _ _ _ h => h) (Or.inl ⟨by rfl, ?_⟩) hHeld ?_
  rotate_left
  · intro W hSw
    obtain ⟨s0, s1, s2, s3, s4, s5, s6, s7, s8, s9, s10, s11⟩ := hSw
    go_simp
    (try with_reducible rfl)
  (try simp only [Act.put, List.setIfInBounds_toArray])
  refine wpAnyH_take (i := 1) (oi := _) (v := ?_) rfl (by kernel_rfl) (by kernel_rfl) (by kernel_rfl) (fun _ _ _ h => h) (Or.inl ⟨by rfl, ?_⟩) hHeld ?_
  rotate_left
  · intro W hSw
    obtain ⟨s0, s1, s2, s3, s4, s5, s6, s7, s8, s9, s10, s11⟩ := hSw
    go_simp
    (try with_reducible rfl)
  (try simp only [Act.put])
  refine wpAnyH_take (i := 2) (oi := _) (v := ?_) rfl (by kernel_rfl) (by kernel_rfl) (by kernel_rfl) (fun _ _ _ h => h) (Or.inl ⟨by rfl, ?_⟩) hHeld ?_
  rotate_left
  · intro W hSw
    obtain ⟨s0, s1, s2, s3, s4, s5, s6, s7, s8, s9, s10, s11⟩ := hSw
    go_simp
    (try with_reducible rfl)
  (try simp only [Act.put])
  refine wpAnyH_take (i := 4) (oi := _) (v := ?_) rfl (by kernel_rfl) (by kernel_rfl) (by kernel_rfl) (fun _ _ _ h => h) (Or.inl ⟨by rfl, ?_⟩) hHeld ?_
  rotate_left
  · intro W hSw
    obtain ⟨s0, s1, s2, s3, s4, s5, s6, s7, s8, s9, s10, s11⟩ := hSw
    go_simp
    (try with_reducible rfl)
  (try simp only [Act.put])
  refine wpAnyH_take (i := 5) (oi := _) (v := ?_) rfl (by kernel_rfl) (by kernel_rfl) (by kernel_rfl) (fun _ _ _ h => h) (Or.inl ⟨by rfl, ?_⟩) hHeld ?_
  rotate_left
  · intro W hSw
    obtain ⟨s0, s1, s2, s3, s4, s5, s6, s7, s8, s9, s10, s11⟩ := hSw
    go_simp
    (try with_reducible rfl)
  (try simp only [Act.put])
  refine wpAnyH_ready (rs := [3]) (by kernel_rfl) (by simp) ?_
  refine AllReadyH.cons (o := _) rfl (fun K hK => ?_) AllReadyH.nil
  go_simp
  go_at_call 43; refine (CD_nb.out _).mono ?_; rintro r y0 ⟨rfl, b0⟩; have D1 := hid (D0.out.later b0); clear b0
  refine hK.out _ _ (PR.out _ _ D1.out.swap) (fun hHeld => ?_)
  clear hK K
  (try simp only [Act.put, List.setIfInBounds_toArray, List.set_cons_zero, List.set_cons_succ])
  refine wpAnyH_ready (rs := [6]) (by kernel_rfl) (by simp) ?_
  refine AllReadyH.cons (o := _) rfl (fun K hK => ?_) AllReadyH.nil
  go_simp
  go_at_call 43; refine (CD_nm.out _).mono ?_; rintro r y1 ⟨rfl, b1⟩; have D2 := hid (D1.out.later b1); clear b1
  refine hK.out _ _ (PR.out _ _ D2.out.swap) (fun hHeld => ?_)
  clear hK K
  (try simp only [Act.put, List.setIfInBounds_toArray, List.set_cons_zero, List.set_cons_succ])
  have N6 := hid (own_new D2.out [Lib.itoa e.nb, Lib.itoa e.nm] (by simp))
  obtain ⟨ao6, c6, w6a, hr6, A6⟩ := appR N6.out.swap (rt_own N6.out) (Nat.le_of_ble_eq_true rfl)
  have R6 := hid hr6
  have Q6 := hid A6.swap.tail
  clear hr6 A6
  refine wpAnyH_ready (rs := [7]) (by kernel_rfl) (by simp) ?_
  refine AllReadyH.cons (o := _) rfl (fun K hK => ?_) AllReadyH.nil
  go_simp
  skip
  refine hK.out _ _ (PR.out _ _ (N6.out.swap.tail.swap)) (fun hHeld => ?_)
  clear hK K
  (try simp only [Act.put, List.setIfInBounds_toArray, List.set_cons_zero, List.set_cons_succ])
  refine wpAnyH_ready (rs := [8]) (by kernel_rfl) (by simp) ?_
  refine AllReadyH.cons (o := _) rfl (fun K hK => ?_) AllReadyH.nil
  refine step_append_run (by rfl) (.tmp 53) (.tmp 60) 27 (by rfl) _ _ _ _ (by rfl) (by rfl) R6.out ?_
  refine hK.out _ _ (PR.out _ _ Q6.out.swap) (fun hHeld => ?_)
  clear hK K
  (try simp only [Act.put, List.setIfInBounds_toArray])
  refine wpAnyH_ready (rs := [9]) (by kernel_rfl) (by simp) ?_
  refine AllReadyH.cons (o := _) rfl (fun K hK => ?_) AllReadyH.nil
  go_simp
  skip
  refine hK.out _ _ (PR.out _ _ Q6.out.swap) (fun hHeld => ?_)
  clear hK K
  (try simp only [Act.put, List.setIfInBounds_toArray, List.set_cons_zero, List.set_cons_succ])
  refine wpAnyH_done (by kernel_rfl) ?_ _
  clear hHeld
  go_upto_region 25 with fail
  have HB5 := hid (HBB.out _ _ Q6.out.swap)
  have CO5 := hid (CO.out _ _ Q6.out)
  go_upto_region 31 with (first | (refine wpList_load_row rfl 36 _ rfl w.heap.size rfl 36 EC.toArray (0, 0) _ HB5.out Tryz.underlying36 rfl I36.out ?_) | (go_at_call 63; refine CO5.out.mono ?_; rintro r w5 ⟨rfl, B5⟩; have K5 := hid B5; clear B5) | (refine wpList_store_row rfl 24 _ _ rfl w5.heap.size OLL.toArray rfl rfl 24 _ (heap_alloc_new w5 _) IO.out ZO.out OO1.out ?_; rw [World.setRow_alloc_new]))
  have K6 := hid (K5.out.addBlk OLL 24)
  generalize w5.alloc (.cells OLL.toArray 24) = w6 at *
  have K6t := hid K6.out.tail
  obtain ⟨y0, y1, y2, y3, y4, y5, y6, y7, y8, y9, y10, y11⟩ := PR.out _ _ K6t.out.swap
  rw [hk] at y0
  have RG := hid (HRR.out _ _ K6t.out.swap)
  have CS6 := hid (CRS.out _ _ _ K6t.out)
  unfold WRPost at CS6
  by_cases hX : XR = 0
  rotate_left
  · have FE := hid ((FK4.out hk).1 hX)
    have hx' : (XR != 0) = true := by simpa using hX
    clear hX
    go_wp2_with (first | (refine wpList_load_mid rfl 29 _ rfl w.heap.size 19 rfl [.int .i64 e.rc, .int .i64 e.rn, .slice e.ria e.rik e.ric] _ RG.out Tryz.underlying29 rfl IR.out ?_) | (go_at_call 65; refine CS6.out.mono ?_; rintro r wa ⟨va, rfl, Ba⟩; have Ka := hid Ba; clear Ba))
    go_ret2
    exact ⟨_, by rw [FE.out.1]; rfl, by rw [FE.out.2]; exact All.addNil Ka.out.tail.tail.tail⟩
  have FE := hid ((FK4.out hk).2 hX)
  rw [hX] at CS6
  clear hX
  go_upto_region 35 with (first | (refine wpList_load_mid rfl 29 _ rfl w.heap.size 19 rfl [.int .i64 e.rc, .int .i64 e.rn, .slice e.ria e.rik e.ric] _ RG.out Tryz.underlying29 rfl IR.out ?_) | (go_at_call 65; refine CS6.out.mono ?_; rintro r wa ⟨va, rfl, Ba⟩; have Ka := hid Ba; clear Ba))
  obtain ⟨aob, cb, wb, hrb, Ab⟩ := appR Ka.out.swap (rt_own Ka.out) (by have := HR4.out; simp only [List.length_append, List.length_cons, List.length_nil]; omega)
  have Rb := hid hrb
  have Kb := hid Ab.swap.tail
  clear hrb Ab
  go_wp2_with (at_builtin; refine wpList_append_run rfl _ _ 27 rfl _ _ _ _ rfl rfl Rb.out ?_)
  go_ret2
  exact ⟨_, by rw [FE.out.1]; rfl, by rw [FE.out.2]; exact Kb.out.swap.tail⟩
end Go.Proofs.YtfeppannfcbakaaGreatDoor

namespace Go.Proofs.YtfeppannfcbakaaGreatDoor
open Go.RowKit
set_option linter.unusedVariables false
set_option maxRecDepth 100000
set_option maxHeartbeats 12800000 in
set_option maxRecDepth 1000000 in
theorem rWords_5 (e : Ev) {items : Ws} {data : List UInt8} {cs : List Comp} {w : World} (hR : e.Rg) (hd : data.length = e.dik) (hil : items.length ≤ 140737488355328) (hI : ∀ W, All cs W → Rt W (.slice e.ria e.rik e.ric) items) (hD : ∀ W, All cs W → BRd W (.slice e.dia e.dik e.dic) data) (A : All cs w) (hF : e.inForm = true) (hk : e.k = 5) :
    Calls Tryz.prog 30 #[.agg e.cells.toArray] w (WRPost (if e.err items = 0 then e.words items data else []) (e.err items) cs) := by
  generalize hWD : (if e.err items = 0 then e.words items data else []) = WD
  generalize hER : e.err items = ER at *
  have HWD := hid hWD
  have HER := hid hER
  clear hWD hER
  have A0 := hid (A.addBlk e.cells 36)
  have CP := hid (rplain_any e A0.out)
  have I36 : Hid ((Tryz.prog.info? 36).map (·.size) = some e.cells.toArray.size) := hid (by kernel_rfl)
  unfold WRPost
  have H0 := ok0_of hF
  rw [hF] at CP
  have HEK : Hid (ER = ersL (er1 e.cells items) (kindT e.k)) := hid (by rw [← HER.out]; unfold Ev.err; rw [if_neg (by simp [hF])])
  have CW := hid (fun W => word_any e.k W)
  have PR : Hid (∀ W ds, All (blkC w.heap.size e.cells 36 :: ds) W → W.cell? ⟨w.heap.size, 0, none⟩ = some (.int .i64 e.k) ∧ W.cell? ⟨w.heap.size, 1, none⟩ = some (.int .i64 e.a) ∧ W.cell? ⟨w.heap.size, 2, none⟩ = some (.int .i64 e.nb) ∧ W.cell? ⟨w.heap.size, 3, none⟩ = some (.int .i64 e.nm) ∧ W.cell? ⟨w.heap.size, 4, none⟩ = some (.int .i64 e.wh) ∧ W.cell? ⟨w.heap.size, 5, none⟩ = some (.int .i64 e.cd) ∧ W.cell? ⟨w.heap.size, 12, none⟩ = some (.int .i64 e.ec) ∧ W.cell? ⟨w.heap.size, 13, none⟩ = some (.int .i64 e.en) ∧ W.cell? ⟨w.heap.size, 30, none⟩ = some (.int .i64 e.sn) ∧ W.cell? ⟨w.heap.size, 31, none⟩ = some (.int .i64 e.sa) ∧ W.cell? ⟨w.heap.size, 6, none⟩ = some (.bool e.fr) ∧ W.cell? ⟨w.heap.size, 32, none⟩ = some (.slice e.dia e.dik e.dic)) := hid (fun W ds h => ⟨cell_in h (List.mem_cons_self) rfl, cell_in h (List.mem_cons_self) rfl, cell_in h (List.mem_cons_self) rfl, cell_in h (List.mem_cons_self) rfl, cell_in h (List.mem_cons_self) rfl, cell_in h (List.mem_cons_self) rfl, cell_in h (List.mem_cons_self) rfl, cell_in h (List.mem_cons_self) rfl, cell_in h (List.mem_cons_self) rfl, cell_in h (List.mem_cons_self) rfl, cell_in h (List.mem_cons_self) rfl, cell_in h (List.mem_cons_self) rfl⟩)
  have HBB : Hid (∀ W ds, All (blkC w.heap.size e.cells 36 :: ds) W → W.heap[w.heap.size]? = some (.cells e.cells.toArray 36 (0, 0))) := hid (fun W ds h => h.blk (List.mem_cons_self))
  have CD_a := hid (fun W => Dig_any H0.a hR.a W)
  have CD_nb := hid (fun W => Dig_any H0.nb hR.nb W)
  have CD_nm := hid (fun W => Dig_any H0.nm hR.nm W)
  have CD_wh := hid (fun W => Dig_any H0.wh hR.wh W)
  have CO := hid (fun (ds : List Comp) W (h : All ds W) => opOf_any e h)
  have CRS : Hid (∀ (c1 c2 : Comp) W, All (c1 :: c2 :: cs) W → Calls Tryz.prog 65 #[.agg (#[.int .i64 e.rc, .int .i64 e.rn, .slice e.ria e.rik e.ric] : Array Value)] W (WRPost (resA e.rc e.rn items) (chkW e.rc e.rn items) (c1 :: c2 :: cs))) := hid (fun c1 c2 W h => rResult_any (c := e.rc) (n := e.rn) h (fun V hV => hI V hV.tail.tail) hil)
  have HR4 := hid (resA_len e.rc e.rn items)
  have HRR : Hid (∀ W ds, All (blkC w.heap.size e.cells 36 :: ds) W → W.rangeAt w.heap.size 19 [.int .i64 e.rc, .int .i64 e.rn, .slice e.ria e.rik e.ric]) := hid (fun W ds h => range_in (o := 19) h (List.mem_cons_self) (by intro j v hv; match j, hv with | 0, hv => exact hv | 1, hv => exact hv | 2, hv => exact hv))
  have IR : Hid ((Tryz.prog.info? 29).map (·.size) = some 3) := hid (by kernel_rfl)
  generalize hXR : chkW e.rc e.rn items = XR at *
  generalize hRW : resA e.rc e.rn items = RSW at *
  have HXR := hid hXR
  have HRW := hid hRW
  clear hXR hRW
  have FK5 : Hid (e.k = 5 → (XR ≠ 0 → ER = XR ∧ WD = []) ∧ (XR = 0 → ER = 0 ∧ WD = [wordN e.k, Lib.itoa e.a] ++ [Lib.itoa e.nb, Lib.itoa e.nm, Lib.itoa e.wh] ++ RSW)) := hid (fun hk => by
    have hK : kindT e.k = [.int 1, .int 2, .int 3, .int 4, .res 19] := by rw [hk]; rfl
    have hE1 : ER = if XR ≠ 0 then XR else 0 := by rw [HEK.out, hK, ← HXR.out]; rfl
    refine ⟨fun hx => ?_, fun hx => ?_⟩
    · rw [if_pos hx] at hE1
      refine ⟨hE1, ?_⟩
      rw [← HWD.out, if_neg (by rw [hE1]; exact hx)]
    · rw [if_neg (by simp [hx])] at hE1
      refine ⟨hE1, ?_⟩
      rw [← HWD.out, if_pos hE1]
      unfold Ev.words
      rw [hK]
      have e9 : kdN.getD e.k.toNat [] = wordN e.k := by rw [hk]; rfl
      rw [e9, ← HRW.out]
      simp [wdT, wd1]
      first | exact ⟨rfl, rfl, rfl, rfl, rfl⟩ | exact ⟨rfl, rfl, rfl, rfl⟩ | exact ⟨rfl, rfl, rfl⟩)
  have IO : Hid ((Tryz.prog.info? 24).map (·.size) = some e.opL.toArray.size) := hid (by kernel_rfl)
  have ZO : Hid (zoL.toArray.size = e.opL.toArray.size) := hid rfl
  have OO1 : Hid (e.opL.toArray.all (·.oneCell') = true) := hid (by kernel_rfl)
  have OLL0 : Hid ((if e.k = 6 then e.enL else e.opL) = e.opL ∧ decide (e.k = 6 ∨ e.k = 2 ∨ e.k = 3) = false) := hid ⟨by rw [hk]; rfl, by rw [hk]; rfl⟩
  rw [OLL0.out.1, OLL0.out.2] at CO
  clear OLL0
  have HKK := hid hk
  clear hI hD hR hd hil A H0 hF hk HEK
  generalize e.opL = OLL at *
  generalize e.cells = EC at *
  go_enter Tryz.func30, Tryz.ntmps30
  go_upto_region 1 with fail
  generalize w.alloc (.cells EC.toArray 36) = w0 at *
  have HB := hid (HBB.out _ _ A0.out)
  go_upto_region 3 with (first | (refine wpList_load_row rfl 36 _ rfl w.heap.size rfl 36 EC.toArray (0, 0) _ HB.out Tryz.underlying36 rfl I36.out ?_) | (go_at_call 59; refine CP.out.mono ?_; rintro r w1 ⟨rfl, B1⟩; have K1 := hid B1; clear B1))
  have Q0 := hid K1.out.drew
  refine wp_region_held_drew (S := (fun W => W.cell? ⟨w.heap.size, 0, none⟩ = some (.int .i64 e.k) ∧ W.cell? ⟨w.heap.size, 1, none⟩ = some (.int .i64 e.a) ∧ W.cell? ⟨w.heap.size, 2, none⟩ = some (.int .i64 e.nb) ∧ W.cell? ⟨w.heap.size, 3, none⟩ = some (.int .i64 e.nm) ∧ W.cell? ⟨w.heap.size, 4, none⟩ = some (.int .i64 e.wh) ∧ W.cell? ⟨w.heap.size, 5, none⟩ = some (.int .i64 e.cd) ∧ W.cell? ⟨w.heap.size, 12, none⟩ = some (.int .i64 e.ec) ∧ W.cell? ⟨w.heap.size, 13, none⟩ = some (.int .i64 e.en) ∧ W.cell? ⟨w.heap.size, 30, none⟩ = some (.int .i64 e.sn) ∧ W.cell? ⟨w.heap.size, 31, none⟩ = some (.int .i64 e.sa) ∧ W.cell? ⟨w.heap.size, 6, none⟩ = some (.bool e.fr) ∧ W.cell? ⟨w.heap.size, 32, none⟩ = some (.slice e.dia e.dik e.dic))) (by kernel_rfl) (PR.out _ _ Q0.out) (fun hHeld => ?_)
  generalize World.drew _ = wd at *
  refine wpAnyH_take (i := 0) (oi := _) (v := ?_) rfl (by kernel_rfl) (by kernel_rfl) (by kernel_rfl) (fun _ _ _ h => h) (Or.inl ⟨by rfl, ?_⟩) hHeld ?_
  rotate_left
  · intro W hSw
    obtain ⟨s0, s1, s2, s3, s4, s5, s6, s7, s8, s9, s10, s11⟩ := hSw
    go_simp
    (try with_reducible rfl)
  (try simp only [Act.put, List.setIfInBounds_toArray])
  refine wpAnyH_take (i := 1) (oi := _) (v := ?_) rfl (by kernel_rfl) (by kernel_rfl) (by kernel_rfl) (fun _ _ _ h => h) (Or.inl ⟨by rfl, ?_⟩) hHeld ?_
  rotate_left
  · intro W hSw
    obtain ⟨s0, s1, s2, s3, s4, s5, s6, s7, s8, s9, s10, s11⟩ := hSw
    go_simp
    (try with_reducible rfl)
  (try simp only [Act.put])
  refine wpAnyH_take (i := 3) (oi := _) (v := ?_) rfl (by kernel_rfl) (by kernel_rfl) (by kernel_rfl) (fun _ _ _ h => h) (Or.inl ⟨by rfl, ?_⟩) hHeld ?_
  rotate_left
  · intro W hSw
    obtain ⟨s0, s1, s2, s3, s4, s5, s6, s7, s8, s9, s10, s11⟩ := hSw
    go_simp
    (try with_reducible rfl)
  (try simp only [Act.put])
  refine wpAnyH_take (i := 4) (oi := _) (v := ?_) rfl (by kernel_rfl) (by kernel_rfl) (by kernel_rfl) (fun _ _ _ h => h) (Or.inl ⟨by rfl, ?_⟩) hHeld ?_
  rotate_left
  · intro W hSw
    obtain ⟨s0, s1, s2, s3, s4, s5, s6, s7, s8, s9, s10, s11⟩ := hSw
    go_simp
    (try with_reducible rfl)
  (try simp only [Act.put])
  refine wpAnyH_ready (rs := [2]) (by kernel_rfl) (by simp) ?_
  refine AllReadyH.cons (o := _) rfl (fun K hK => ?_) AllReadyH.nil
  go_simp
  go_at_call 60; refine (CW.out _).mono ?_; rintro r x1 ⟨rfl, b1⟩; have Q1 := hid (Q0.out.later b1); clear b1
  refine hK.out _ _ (PR.out _ _ Q1.out) (fun hHeld => ?_)
  clear hK K
  (try simp only [Act.put, List.setIfInBounds_toArray, List.set_cons_zero, List.set_cons_succ])
  refine wpAnyH_ready (rs := [5]) (by kernel_rfl) (by simp) ?_
  refine AllReadyH.cons (o := _) rfl (fun K hK => ?_) AllReadyH.nil
  go_simp
  go_at_call 43; refine (CD_a.out _).mono ?_; rintro r x2 ⟨rfl, b2⟩; have Q2 := hid (Q1.out.later b2); clear b2
  refine hK.out _ _ (PR.out _ _ Q2.out) (fun hHeld => ?_)
  clear hK K
  (try simp only [Act.put, List.setIfInBounds_toArray, List.set_cons_zero, List.set_cons_succ])
  have Q3 : Hid (All (ownC 9 (.slice (some ⟨x2.heap.size, 0, none⟩) 2 2) (txW [wordN e.k, Lib.itoa e.a]) :: blkC w.heap.size EC 36 :: cs) (x2.alloc (.cells #[.string ⟨(wordN e.k).toArray⟩, .string ⟨(Lib.itoa e.a).toArray⟩] 9))) := hid (own_new Q2.out [wordN e.k, Lib.itoa e.a] (by simp))
  refine wpAnyH_ready (rs := [6]) (by kernel_rfl) (by simp) ?_
  refine AllReadyH.cons (o := _) rfl (fun K hK => ?_) AllReadyH.nil
  go_simp
  skip
  refine hK.out _ _ (PR.out _ _ Q3.out.swap) (fun hHeld => ?_)
  clear hK K
  (try simp only [Act.put, List.setIfInBounds_toArray, List.set_cons_zero, List.set_cons_succ])
  refine wpAnyH_ready (rs := [7]) (by kernel_rfl) (by simp) ?_
  refine AllReadyH.cons (o := _) rfl (fun K hK => ?_) AllReadyH.nil
  go_simp
  skip
  refine hK.out _ _ (PR.out _ _ Q3.out.swap) (fun hHeld => ?_)
  clear hK K
  (try simp only [Act.put, List.setIfInBounds_toArray, List.set_cons_zero, List.set_cons_succ])
  refine wpAnyH_done (by kernel_rfl) ?_ _
  clear hHeld
  generalize x2.alloc (.cells #[.string ⟨(wordN e.k).toArray⟩, .string ⟨(Lib.itoa e.a).toArray⟩] 9) = w3 at *
  generalize x2.heap.size = G2 at *
  obtain ⟨z0, z1, z2, z3, z4, z5, z6, z7, z8, z9, z10, z11⟩ := PR.out _ _ Q3.out.swap
  have hk := HKK.out
  rw [hk] at z0
  go_upto_region 14 with fail
  have D0 := hid Q3.out.drew
  refine wp_region_held_drew (S := (fun W => W.cell? ⟨w.heap.size, 0, none⟩ = some (.int .i64 e.k) ∧ W.cell? ⟨w.heap.size, 1, none⟩ = some (.int .i64 e.a) ∧ W.cell? ⟨w.heap.size, 2, none⟩ = some (.int .i64 e.nb) ∧ W.cell? ⟨w.heap.size, 3, none⟩ = some (.int .i64 e.nm) ∧ W.cell? ⟨w.heap.size, 4, none⟩ = some (.int .i64 e.wh) ∧ W.cell? ⟨w.heap.size, 5, none⟩ = some (.int .i64 e.cd) ∧ W.cell? ⟨w.heap.size, 12, none⟩ = some (.int .i64 e.ec) ∧ W.cell? ⟨w.heap.size, 13, none⟩ = some (.int .i64 e.en) ∧ W.cell? ⟨w.heap.size, 30, none⟩ = some (.int .i64 e.sn) ∧ W.cell? ⟨w.heap.size, 31, none⟩ = some (.int .i64 e.sa) ∧ W.cell? ⟨w.heap.size, 6, none⟩ = some (.bool e.fr) ∧ W.cell? ⟨w.heap.size, 32, none⟩ = some (.slice e.dia e.dik e.dic))) (by kernel_rfl) (PR.out _ _ D0.out.swap) (fun hHeld => ?_)
  generalize World.drew _ = wd3 at *
  refine wpAnyH_take (i := 0) (oi := _) (v := ?_) rfl (by kernel_rfl) (by kernel_rfl) (by kernel_rfl) (fun _ _ _ h => h) (Or.inl ⟨by rfl, ?_⟩) hHeld ?_
  rotate_left
  · intro W hSw
    obtain ⟨s0, s1, s2, s3, s4, s5, s6, s7, s8, s9, s10, s11⟩ := hSw
    go_simp
    (try with_reducible rfl)
  (try simp only [Act.put, List.setIfInBounds_toArray])
  refine wpAnyH_take (i := 1) (oi := _) (v := ?_) rfl (by kernel_rfl) (by kernel_rfl) (by kernel_rfl) (fun _ _ _ h => h) (Or.inl ⟨by rfl, ?_⟩) hHeld ?_
  rotate_left
  · intro W hSw
    obtain ⟨s0, s1, s2, s3, s4, s5, s6, s7, s8, s9, s10, s11⟩ := hSw
    go_simp
    (try with_reducible rfl)
  (try simp only [Act.put])
  refine wpAnyH_take (i := 2) (oi := _) (v := ?_) rfl (by kernel_rfl) (by kernel_rfl) (by kernel_rfl) (fun _ _ _ h => h) (Or.inl ⟨by rfl, ?_⟩) hHeld ?_
  rotate_left
  · intro W hSw
    obtain ⟨s0, s1, s2, s3, s4, s5, s6, s7, s8, s9, s10, s11⟩ := hSw
    go_simp
    (try with_reducible rfl)
  (try simp only [Act.put])
  refine wpAnyH_take (i := 4) (oi := _) (v := ?_) rfl (by kernel_rfl) (by kernel_rfl) (by kernel_rfl) (fun _ _ _ h => h) (Or.inl ⟨by rfl, ?_⟩) hHeld ?_
  rotate_left
  · intro W hSw
    obtain ⟨s0, s1, s2, s3, s4, s5, s6, s7, s8, s9, s10, s11⟩ := hSw
    go_simp
    (try with_reducible rfl)
  (try simp only [Act.put])
  refine wpAnyH_take (i := 5) (oi := _) (v := ?_) rfl (by kernel_rfl) (by kernel_rfl) (by kernel_rfl) (fun _ _ _ h => h) (Or.inl ⟨by rfl, ?_⟩) hHeld ?_
  rotate_left
  · intro W hSw
    obtain ⟨s0, s1, s2, s3, s4, s5, s6, s7, s8, s9, s10, s11⟩ := hSw
    go_simp
    (try with_reducible rfl)
  (try simp only [Act.put])
  refine wpAnyH_take (i := 7) (oi := _) (v := ?_) rfl (by kernel_rfl) (by kernel_rfl) (by kernel_rfl) (fun _ _ _ h => h) (Or.inl ⟨by rfl, ?_⟩) hHeld ?_
  rotate_left
  · intro W hSw
    obtain ⟨s0, s1, s2, s3, s4, s5, s6, s7, s8, s9, s10, s11⟩ := hSw
    go_simp
    (try with_reducible rfl)
  (try simp only [Act.put])
  refine wpAnyH_take (i := 8) (oi := _) (v := ?_) rfl (by kernel_rfl) (by kernel_rfl) (by kernel_rfl) (fun _ _ _ h => h) (Or.inl ⟨by rfl, ?_⟩) hHeld ?_
  rotate_left
  · intro W hSw
    obtain ⟨s0, s1, s2, s3, s4, s5, s6, s7, s8, s9, s10, s11⟩ := hSw
    go_simp
    (try with_reducible rfl)
  (try simp only [Act.put])
  refine wpAnyH_ready (rs := [3]) (by kernel_rfl) (by simp) ?_
  refine AllReadyH.cons (o := _) rfl (fun K hK => ?_) AllReadyH.nil
  go_simp
  go_at_call 43; refine (CD_nb.out _).mono ?_; rintro r y0 ⟨rfl, b0⟩; have D1 := hid (D0.out.later b0); clear b0
  refine hK.out _ _ (PR.out _ _ D1.out.swap) (fun hHeld => ?_)
  clear hK K
  (try simp only [Act.put, List.setIfInBounds_toArray, List.set_cons_zero, List.set_cons_succ])
  refine wpAnyH_ready (rs := [6]) (by kernel_rfl) (by simp) ?_
  refine AllReadyH.cons (o := _) rfl (fun K hK => ?_) AllReadyH.nil
  go_simp
  go_at_call 43; refine (CD_nm.out _).mono ?_; rintro r y1 ⟨rfl, b1⟩; have D2 := hid (D1.out.later b1); clear b1
  refine hK.out _ _ (PR.out _ _ D2.out.swap) (fun hHeld => ?_)
  clear hK K
  (try simp only [Act.put, List.setIfInBounds_toArray, List.set_cons_zero, List.set_cons_succ])
  refine wpAnyH_ready (rs := [9]) (by kernel_rfl) (by simp) ?_
  refine AllReadyH.cons (o := _) rfl (fun K hK => ?_) AllReadyH.nil
  go_simp
  go_at_call 43; refine (CD_wh.out _).mono ?_; rintro r y2 ⟨rfl, b2⟩; have D3 := hid (D2.out.later b2); clear b2
  refine hK.out _ _ (PR.out _ _ D3.out.swap) (fun hHeld => ?_)
  clear hK K
  (try simp only [Act.put, List.setIfInBounds_toArray, List.set_cons_zero, List.set_cons_succ])
  have N6 := hid (own_new D3.out [Lib.itoa e.nb, Lib.itoa e.nm, Lib.itoa e.wh] (by simp))
  obtain ⟨ao6, c6, w6a, hr6, A6⟩ := appR N6.out.swap (rt_own N6.out) (Nat.le_of_ble_eq_true rfl)
  have R6 := hid hr6
  have Q6 := hid A6.swap.tail
  clear hr6 A6
  refine wpAnyH_ready (rs := [10]) (by kernel_rfl) (by simp) ?_
  refine AllReadyH.cons (o := _) rfl (fun K hK => ?_) AllReadyH.nil
  go_simp
  skip
  refine hK.out _ _ (PR.out _ _ (N6.out.swap.tail.swap)) (fun hHeld => ?_)
  clear hK K
  (try simp only [Act.put, List.setIfInBounds_toArray, List.set_cons_zero, List.set_cons_succ])
  refine wpAnyH_ready (rs := [11]) (by kernel_rfl) (by simp) ?_
  refine AllReadyH.cons (o := _) rfl (fun K hK => ?_) AllReadyH.nil
  refine step_append_run (by rfl) (.tmp 64) (.tmp 74) 27 (by rfl) _ _ _ _ (by rfl) (by rfl) R6.out ?_
  refine hK.out _ _ (PR.out _ _ Q6.out.swap) (fun hHeld => ?_)
  clear hK K
  (try simp only [Act.put, List.setIfInBounds_toArray])
  refine wpAnyH_ready (rs := [12]) (by kernel_rfl) (by simp) ?_
  refine AllReadyH.cons (o := _) rfl (fun K hK => ?_) AllReadyH.nil
  go_simp
  skip
  refine hK.out _ _ (PR.out _ _ Q6.out.swap) (fun hHeld => ?_)
  clear hK K
  (try simp only [Act.put, List.setIfInBounds_toArray, List.set_cons_zero, List.set_cons_succ])
  refine wpAnyH_done (by kernel_rfl) ?_ _
  clear hHeld
  go_upto_region 25 with fail
  have HB5 := hid (HBB.out _ _ Q6.out.swap)
  have CO5 := hid (CO.out _ _ Q6.out)
  go_upto_region 31 with (first | (refine wpList_load_row rfl 36 _ rfl w.heap.size rfl 36 EC.toArray (0, 0) _ HB5.out Tryz.underlying36 rfl I36.out ?_) | (go_at_call 63; refine CO5.out.mono ?_; rintro r w5 ⟨rfl, B5⟩; have K5 := hid B5; clear B5) | (refine wpList_store_row rfl 24 _ _ rfl w5.heap.size OLL.toArray rfl rfl 24 _ (heap_alloc_new w5 _) IO.out ZO.out OO1.out ?_; rw [World.setRow_alloc_new]))
  have K6 := hid (K5.out.addBlk OLL 24)
  generalize w5.alloc (.cells OLL.toArray 24) = w6 at *
  have K6t := hid K6.out.tail
  obtain ⟨y0, y1, y2, y3, y4, y5, y6, y7, y8, y9, y10, y11⟩ := PR.out _ _ K6t.out.swap
  rw [hk] at y0
  have RG := hid (HRR.out _ _ K6t.out.swap)
  have CS6 := hid (CRS.out _ _ _ K6t.out)
  unfold WRPost at CS6
  by_cases hX : XR = 0
  rotate_left
  · have FE := hid ((FK5.out hk).1 hX)
    have hx' : (XR != 0) = true := by simpa using hX
    clear hX
    go_wp2_with (first | (refine wpList_load_mid rfl 29 _ rfl w.heap.size 19 rfl [.int .i64 e.rc, .int .i64 e.rn, .slice e.ria e.rik e.ric] _ RG.out Tryz.underlying29 rfl IR.out ?_) | (go_at_call 65; refine CS6.out.mono ?_; rintro r wa ⟨va, rfl, Ba⟩; have Ka := hid Ba; clear Ba))
    go_ret2
    exact ⟨_, by rw [FE.out.1]; rfl, by rw [FE.out.2]; exact All.addNil Ka.out.tail.tail.tail⟩
  have FE := hid ((FK5.out hk).2 hX)
  rw [hX] at CS6
  clear hX
  go_upto_region 35 with (first | (refine wpList_load_mid rfl 29 _ rfl w.heap.size 19 rfl [.int .i64 e.rc, .int .i64 e.rn, .slice e.ria e.rik e.ric] _ RG.out Tryz.underlying29 rfl IR.out ?_) | (go_at_call 65; refine CS6.out.mono ?_; rintro r wa ⟨va, rfl, Ba⟩; have Ka := hid Ba; clear Ba))
  obtain ⟨aob, cb, wb, hrb, Ab⟩ := appR Ka.out.swap (rt_own Ka.out) (by have := HR4.out; simp only [List.length_append, List.length_cons, List.length_nil]; omega)
  have Rb := hid hrb
  have Kb := hid Ab.swap.tail
  clear hrb Ab
  go_wp2_with (at_builtin; refine wpList_append_run rfl _ _ 27 rfl _ _ _ _ rfl rfl Rb.out ?_)
  go_ret2
  exact ⟨_, by rw [FE.out.1]; rfl, by rw [FE.out.2]; exact Kb.out.swap.tail⟩
end Go.Proofs.YtfeppannfcbakaaGreatDoor
