import Derived.Test.YtfeppannfcbakaaGreatDoorJ21
import Derived.Test.YtfeppannfcbakaaGreatDoorEv26
import Derived.Test.YtfeppannfcbakaaGreatDoorJ22
import Derived.Test.YtfeppannfcbakaaGreatDoorEwf
import Derived.Test.YtfeppannfcbakaaGreatDoorJ23
import Derived.Test.YtfeppannfcbakaaGreatDoorJ1
import Derived.Deep.Draws
import Derived.Deep.Upon
namespace Go.Proofs.YtfeppannfcbakaaGreatDoor
open Go.RowKit
set_option linter.unusedVariables false
set_option maxRecDepth 100000
set_option maxHeartbeats 12800000 in
set_option maxRecDepth 1000000 in
theorem rWords_11 (e : Ev) {items : Ws} {data : List UInt8} {cs : List Comp} {w : World} (hR : e.Rg) (hd : data.length = e.dik) (hil : items.length ≤ 140737488355328) (hI : ∀ W, All cs W → Rt W (.slice e.ria e.rik e.ric) items) (hD : ∀ W, All cs W → BRd W (.slice e.dia e.dik e.dic) data) (A : All cs w) (hF : e.inForm = true) (hk : e.k = 11) :
    Calls Tryz.prog 30 #[.agg e.cells.toArray] w (WRPost (if e.err items = 0 then e.words items data else []) (e.err items) cs) := by
  generalize hWD : (if e.err items = 0 then e.words items data else []) = WD
  generalize hER : e.err items = ER at *
  have HWD := hid hWD
  have HER := hid hER
  clear hWD hER
  have A0 := hid (A.addBlk e.cells 36)
  have CP := hid (rplain_any e A0.out)
  have I36 : Hid ((Tryz.prog.info? 36).map (·.size) = some e.cells.toArray.size) := hid (by kernel_rfl)
  unfold WRPost
  have H0 := ok0_of hF
  rw [hF] at CP
  have HEK : Hid (ER = ersL (er1 e.cells items) (kindT e.k)) := hid (by rw [← HER.out]; unfold Ev.err; rw [if_neg (by simp [hF])])
  have CW := hid (fun W => word_any e.k W)
  have PR : Hid (∀ W ds, All (blkC w.heap.size e.cells 36 :: ds) W → W.cell? ⟨w.heap.size, 0, none⟩ = some (.int .i64 e.k) ∧ W.cell? ⟨w.heap.size, 1, none⟩ = some (.int .i64 e.a) ∧ W.cell? ⟨w.heap.size, 2, none⟩ = some (.int .i64 e.nb) ∧ W.cell? ⟨w.heap.size, 3, none⟩ = some (.int .i64 e.nm) ∧ W.cell? ⟨w.heap.size, 4, none⟩ = some (.int .i64 e.wh) ∧ W.cell? ⟨w.heap.size, 5, none⟩ = some (.int .i64 e.cd) ∧ W.cell? ⟨w.heap.size, 12, none⟩ = some (.int .i64 e.ec) ∧ W.cell? ⟨w.heap.size, 13, none⟩ = some (.int .i64 e.en) ∧ W.cell? ⟨w.heap.size, 30, none⟩ = some (.int .i64 e.sn) ∧ W.cell? ⟨w.heap.size, 31, none⟩ = some (.int .i64 e.sa) ∧ W.cell? ⟨w.heap.size, 6, none⟩ = some (.bool e.fr) ∧ W.cell? ⟨w.heap.size, 32, none⟩ = some (.slice e.dia e.dik e.dic)) := hid (fun W ds h => ⟨cell_in h (List.mem_cons_self) rfl, cell_in h (List.mem_cons_self) rfl, cell_in h (List.mem_cons_self) rfl, cell_in h (List.mem_cons_self) rfl, cell_in h (List.mem_cons_self) rfl, cell_in h (List.mem_cons_self) rfl, cell_in h (List.mem_cons_self) rfl, cell_in h (List.mem_cons_self) rfl, cell_in h (List.mem_cons_self) rfl, cell_in h (List.mem_cons_self) rfl, cell_in h (List.mem_cons_self) rfl, cell_in h (List.mem_cons_self) rfl⟩)
  have HBB : Hid (∀ W ds, All (blkC w.heap.size e.cells 36 :: ds) W → W.heap[w.heap.size]? = some (.cells e.cells.toArray 36 (0, 0))) := hid (fun W ds h => h.blk (List.mem_cons_self))
  have CD_a := hid (fun W => Dig_any H0.a hR.a W)
  have CD_sn := hid (fun W => Dig_any H0.sn hR.sn W)
  have CD_sa := hid (fun W => Dig_any H0.sa hR.sa W)
  have CH := hid (fun W (h : All cs W) => rhex_any (hD W h) (by have := dik_of hF; omega))
  have CO := hid (fun (ds : List Comp) W (h : All ds W) => opOf_any e h)
  have FK11 : Hid (e.k = 11 → ER = 0 ∧ WD = [wordN e.k, Lib.itoa e.a] ++ [Lib.itoa e.sn, Lib.itoa e.sa, hexW data]) := hid (fun hk => by
    have hK : kindT e.k = [.int 1, .sht 30] := by rw [hk]; rfl
    have ERZ : ER = 0 := by rw [HEK.out, hK]; rfl
    refine ⟨ERZ, ?_⟩
    rw [← HWD.out, ERZ, if_pos rfl]
    unfold Ev.words
    rw [hK]
    have e9 : kdN.getD e.k.toNat [] = wordN e.k := by rw [hk]; rfl
    rw [e9]
    rfl)
  have IO : Hid ((Tryz.prog.info? 24).map (·.size) = some e.opL.toArray.size) := hid (by kernel_rfl)
  have ZO : Hid (zoL.toArray.size = e.opL.toArray.size) := hid rfl
  have OO1 : Hid (e.opL.toArray.all (·.oneCell') = true) := hid (by kernel_rfl)
  have OLL0 : Hid ((if e.k = 6 then e.enL else e.opL) = e.opL ∧ decide (e.k = 6 ∨ e.k = 2 ∨ e.k = 3) = false) := hid ⟨by rw [hk]; rfl, by rw [hk]; rfl⟩
  rw [OLL0.out.1, OLL0.out.2] at CO
  clear OLL0
  have HKK := hid hk
  clear hI hD hR hd hil A H0 hF hk HEK
  generalize e.opL = OLL at *
  generalize e.cells = EC at *
  go_enter Tryz.func30, Tryz.ntmps30
  go_upto_region 1 with fail
  generalize w.alloc (.cells EC.toArray 36) = w0 at *
  have HB := hid (HBB.out _ _ A0.out)
  go_upto_region 3 with (first | (refine wpList_load_row rfl 36 _ rfl w.heap.size rfl 36 EC.toArray (0, 0) _ HB.out Tryz.underlying36 rfl I36.out ?_) | (go_at_call 59; refine CP.out.mono ?_; rintro r w1 ⟨rfl, B1⟩; have K1 := hid B1; clear B1))
  have Q0 := hid K1.out.drew
  refine wp_region_held_drew (S := (fun W => W.cell? ⟨w.heap.size, 0, none⟩ = some (.int .i64 e.k) ∧ W.cell? ⟨w.heap.size, 1, none⟩ = some (.int .i64 e.a) ∧ W.cell? ⟨w.heap.size, 2, none⟩ = some (.int .i64 e.nb) ∧ W.cell? ⟨w.heap.size, 3, none⟩ = some (.int .i64 e.nm) ∧ W.cell? ⟨w.heap.size, 4, none⟩ = some (.int .i64 e.wh) ∧ W.cell? ⟨w.heap.size, 5, none⟩ = some (.int .i64 e.cd) ∧ W.cell? ⟨w.heap.size, 12, none⟩ = some (.int .i64 e.ec) ∧ W.cell? ⟨w.heap.size, 13, none⟩ = some (.int .i64 e.en) ∧ W.cell? ⟨w.heap.size, 30, none⟩ = some (.int .i64 e.sn) ∧ W.cell? ⟨w.heap.size, 31, none⟩ = some (.int .i64 e.sa) ∧ W.cell? ⟨w.heap.size, 6, none⟩ = some (.bool e.fr) ∧ W.cell? ⟨w.heap.size, 32, none⟩ = some (.slice e.dia e.dik e.dic))) (by kernel_rfl) (PR.out _ _ Q0.out) (fun hHeld => ?_)
  generalize World.drew _ = wd at *
  refine wpAnyH_take (i := 0) (oi := _) (v := ?_) rfl (by kernel_rfl) (by kernel_rfl) (by kernel_rfl) (fun _ _ _ h => h) (Or.inl ⟨by rfl, ?_⟩) hHeld ?_
  rotate_left
  · intro W hSw
    obtain ⟨s0, s1, s2, s3, s4, s5, s6, s7, s8, s9, s10, s11⟩ := hSw
    go_simp
    (try with_reducible rfl)
  (try simp only [Act.put, List.setIfInBounds_toArray])
  refine wpAnyH_take (i := 1) (oi := _) (v := ?_) rfl (by kernel_rfl) (by kernel_rfl) (by kernel_rfl) (fun _ _ _ h => h) (Or.inl ⟨by rfl, ?_⟩) hHeld ?_
  rotate_left
  · intro W hSw
    obtain ⟨s0, s1, s2, s3, s4, s5, s6, s7, s8, s9, s10, s11⟩ := hSw
    go_simp
    (try with_reducible rfl)
  (try simp only [Act.put])
  refine wpAnyH_take (i := 3) (oi := _) (v := ?_) rfl (by kernel_rfl) (by kernel_rfl) (by kernel_rfl) (fun _ _ _ h => h) (Or.inl ⟨by rfl, ?_⟩) hHeld ?_
  rotate_left
  · intro W hSw
    obtain ⟨s0, s1, s2, s3, s4, s5, s6, s7, s8, s9, s10, s11⟩ := hSw
    go_simp
    (try with_reducible rfl)
  (try simp only [Act.put])
  refine wpAnyH_take (i := 4) (oi := _) (v := ?_) rfl (by kernel_rfl) (by kernel_rfl) (by kernel_rfl) (fun _ _ _ h => h) (Or.inl ⟨by rfl, ?_⟩) hHeld ?_
  rotate_left
  · intro W hSw
    obtain ⟨s0, s1, s2, s3, s4, s5, s6, s7, s8, s9, s10, s11⟩ := hSw
    go_simp
    (try with_reducible rfl)
  (try simp only [Act.put])
  refine wpAnyH_ready (rs := [2]) (by kernel_rfl) (by simp) ?_
  refine AllReadyH.cons (o := _) rfl (fun K hK => ?_) AllReadyH.nil
  go_simp
  go_at_call 60; refine (CW.out _).mono ?_; rintro r x1 ⟨rfl, b1⟩; have Q1 := hid (Q0.out.later b1); clear b1
  refine hK.out _ _ (PR.out _ _ Q1.out) (fun hHeld => ?_)
  clear hK K
  (try simp only [Act.put, List.setIfInBounds_toArray, List.set_cons_zero, List.set_cons_succ])
  refine wpAnyH_ready (rs := [5]) (by kernel_rfl) (by simp) ?_
  refine AllReadyH.cons (o := _) rfl (fun K hK => ?_) AllReadyH.nil
  go_simp
  go_at_call 43; refine (CD_a.out _).mono ?_; rintro r x2 ⟨rfl, b2⟩; have Q2 := hid (Q1.out.later b2); clear b2
  refine hK.out _ _ (PR.out _ _ Q2.out) (fun hHeld => ?_)
  clear hK K
  (try simp only [Act.put, List.setIfInBounds_toArray, List.set_cons_zero, List.set_cons_succ])
  have Q3 : Hid (All (ownC 9 (.slice (some ⟨x2.heap.size, 0, none⟩) 2 2) (txW [wordN e.k, Lib.itoa e.a]) :: blkC w.heap.size EC 36 :: cs) (x2.alloc (.cells #[.string ⟨(wordN e.k).toArray⟩, .string ⟨(Lib.itoa e.a).toArray⟩] 9))) := hid (own_new Q2.out [wordN e.k, Lib.itoa e.a] (by simp))
  refine wpAnyH_ready (rs := [6]) (by kernel_rfl) (by simp) ?_
  refine AllReadyH.cons (o := _) rfl (fun K hK => ?_) AllReadyH.nil
  go_simp
  skip
  refine hK.out _ _ (PR.out _ _ Q3.out.swap) (fun hHeld => ?_)
  clear hK K
  (try simp only [Act.put, List.setIfInBounds_toArray, List.set_cons_zero, List.set_cons_succ])
  refine wpAnyH_ready (rs := [7]) (by kernel_rfl) (by simp) ?_
  refine AllReadyH.cons (o := _) rfl (fun K hK => ?_) AllReadyH.nil
  go_simp
  skip
  refine hK.out _ _ (PR.out _ _ Q3.out.swap) (fun hHeld => ?_)
  clear hK K
  (try simp only [Act.put, List.setIfInBounds_toArray, List.set_cons_zero, List.set_cons_succ])
  refine wpAnyH_done (by kernel_rfl) ?_ _
  clear hHeld
  generalize x2.alloc (.cells #[.string ⟨(wordN e.k).toArray⟩, .string ⟨(Lib.itoa e.a).toArray⟩] 9) = w3 at *
  generalize x2.heap.size = G2 at *
  obtain ⟨z0, z1, z2, z3, z4, z5, z6, z7, z8, z9, z10, z11⟩ := PR.out _ _ Q3.out.swap
  have hk := HKK.out
  rw [hk] at z0
  have ERZ := hid (FK11.out hk).1
  have WDE := hid (FK11.out hk).2
  go_upto_region 24 with fail
  have D0 := hid Q3.out.drew
  refine wp_region_held_drew (S := (fun W => W.cell? ⟨w.heap.size, 0, none⟩ = some (.int .i64 e.k) ∧ W.cell? ⟨w.heap.size, 1, none⟩ = some (.int .i64 e.a) ∧ W.cell? ⟨w.heap.size, 2, none⟩ = some (.int .i64 e.nb) ∧ W.cell? ⟨w.heap.size, 3, none⟩ = some (.int .i64 e.nm) ∧ W.cell? ⟨w.heap.size, 4, none⟩ = some (.int .i64 e.wh) ∧ W.cell? ⟨w.heap.size, 5, none⟩ = some (.int .i64 e.cd) ∧ W.cell? ⟨w.heap.size, 12, none⟩ = some (.int .i64 e.ec) ∧ W.cell? ⟨w.heap.size, 13, none⟩ = some (.int .i64 e.en) ∧ W.cell? ⟨w.heap.size, 30, none⟩ = some (.int .i64 e.sn) ∧ W.cell? ⟨w.heap.size, 31, none⟩ = some (.int .i64 e.sa) ∧ W.cell? ⟨w.heap.size, 6, none⟩ = some (.bool e.fr) ∧ W.cell? ⟨w.heap.size, 32, none⟩ = some (.slice e.dia e.dik e.dic))) (by kernel_rfl) (PR.out _ _ D0.out.swap) (fun hHeld => ?_)
  generalize World.drew _ = wd3 at *
  refine wpAnyH_take (i := 0) (oi := _) (v := ?_) rfl (by kernel_rfl) (by kernel_rfl) (by kernel_rfl) (fun _ _ _ h => h) (Or.inl ⟨by rfl, ?_⟩) hHeld ?_
  rotate_left
  · intro W hSw
    obtain ⟨s0, s1, s2, s3, s4, s5, s6, s7, s8, s9, s10, s11⟩ := hSw
    go_simp
    (try with_reducible rfl)
  (try simp only [Act.put, List.setIfInBounds_toArray])
  refine wpAnyH_take (i := 1) (oi := _) (v := ?_) rfl (by kernel_rfl) (by kernel_rfl) (by kernel_rfl) (fun _ _ _ h => h) (Or.inl ⟨by rfl, ?_⟩) hHeld ?_
  rotate_left
  · intro W hSw
    obtain ⟨s0, s1, s2, s3, s4, s5, s6, s7, s8, s9, s10, s11⟩ := hSw
    go_simp
    (try with_reducible rfl)
  (try simp only [Act.put])
  refine wpAnyH_take (i := 2) (oi := _) (v := ?_) rfl (by kernel_rfl) (by kernel_rfl) (by kernel_rfl) (fun _ _ _ h => h) (Or.inl ⟨by rfl, ?_⟩) hHeld ?_
  rotate_left
  · intro W hSw
    obtain ⟨s0, s1, s2, s3, s4, s5, s6, s7, s8, s9, s10, s11⟩ := hSw
    go_simp
    (try with_reducible rfl)
  (try simp only [Act.put])
  refine wpAnyH_take (i := 3) (oi := _) (v := ?_) rfl (by kernel_rfl) (by kernel_rfl) (by kernel_rfl) (fun _ _ _ h => h) (Or.inl ⟨by rfl, ?_⟩) hHeld ?_
  rotate_left
  · intro W hSw
    obtain ⟨s0, s1, s2, s3, s4, s5, s6, s7, s8, s9, s10, s11⟩ := hSw
    go_simp
    (try with_reducible rfl)
  (try simp only [Act.put])
  refine wpAnyH_take (i := 5) (oi := _) (v := ?_) rfl (by kernel_rfl) (by kernel_rfl) (by kernel_rfl) (fun _ _ _ h => h) (Or.inl ⟨by rfl, ?_⟩) hHeld ?_
  rotate_left
  · intro W hSw
    obtain ⟨s0, s1, s2, s3, s4, s5, s6, s7, s8, s9, s10, s11⟩ := hSw
    go_simp
    (try with_reducible rfl)
  (try simp only [Act.put])
  refine wpAnyH_take (i := 6) (oi := _) (v := ?_) rfl (by kernel_rfl) (by kernel_rfl) (by kernel_rfl) (fun _ _ _ h => h) (Or.inl ⟨by rfl, ?_⟩) hHeld ?_
  rotate_left
  · intro W hSw
    obtain ⟨s0, s1, s2, s3, s4, s5, s6, s7, s8, s9, s10, s11⟩ := hSw
    go_simp
    (try with_reducible rfl)
  (try simp only [Act.put])
  refine wpAnyH_take (i := 7) (oi := _) (v := ?_) rfl (by kernel_rfl) (by kernel_rfl) (by kernel_rfl) (fun _ _ _ h => h) (Or.inl ⟨by rfl, ?_⟩) hHeld ?_
  rotate_left
  · intro W hSw
    obtain ⟨s0, s1, s2, s3, s4, s5, s6, s7, s8, s9, s10, s11⟩ := hSw
    go_simp
    (try with_reducible rfl)
  (try simp only [Act.put])
  refine wpAnyH_take (i := 9) (oi := _) (v := ?_) rfl (by kernel_rfl) (by kernel_rfl) (by kernel_rfl) (fun _ _ _ h => h) (Or.inl ⟨by rfl, ?_⟩) hHeld ?_
  rotate_left
  · intro W hSw
    obtain ⟨s0, s1, s2, s3, s4, s5, s6, s7, s8, s9, s10, s11⟩ := hSw
    go_simp
    (try with_reducible rfl)
  (try simp only [Act.put])
  refine wpAnyH_take (i := 10) (oi := _) (v := ?_) rfl (by kernel_rfl) (by kernel_rfl) (by kernel_rfl) (fun _ _ _ h => h) (Or.inl ⟨by rfl, ?_⟩) hHeld ?_
  rotate_left
  · intro W hSw
    obtain ⟨s0, s1, s2, s3, s4, s5, s6, s7, s8, s9, s10, s11⟩ := hSw
    go_simp
    (try with_reducible rfl)
  (try simp only [Act.put])
  refine wpAnyH_take (i := 11) (oi := _) (v := ?_) rfl (by kernel_rfl) (by kernel_rfl) (by kernel_rfl) (fun _ _ _ h => h) (Or.inl ⟨by rfl, ?_⟩) hHeld ?_
  rotate_left
  · intro W hSw
    obtain ⟨s0, s1, s2, s3, s4, s5, s6, s7, s8, s9, s10, s11⟩ := hSw
    go_simp
    (try with_reducible rfl)
  (try simp only [Act.put])
  refine wpAnyH_ready (rs := [4]) (by kernel_rfl) (by simp) ?_
  refine AllReadyH.cons (o := _) rfl (fun K hK => ?_) AllReadyH.nil
  go_simp
  go_at_call 43; refine (CD_sn.out _).mono ?_; rintro r y0 ⟨rfl, b0⟩; have D1 := hid (D0.out.later b0); clear b0
  refine hK.out _ _ (PR.out _ _ D1.out.swap) (fun hHeld => ?_)
  clear hK K
  (try simp only [Act.put, List.setIfInBounds_toArray, List.set_cons_zero, List.set_cons_succ])
  refine wpAnyH_ready (rs := [8]) (by kernel_rfl) (by simp) ?_
  refine AllReadyH.cons (o := _) rfl (fun K hK => ?_) AllReadyH.nil
  go_simp
  go_at_call 43; refine (CD_sa.out _).mono ?_; rintro r y1 ⟨rfl, b1⟩; have D2 := hid (D1.out.later b1); clear b1
  refine hK.out _ _ (PR.out _ _ D2.out.swap) (fun hHeld => ?_)
  clear hK K
  (try simp only [Act.put, List.setIfInBounds_toArray, List.set_cons_zero, List.set_cons_succ])
  refine wpAnyH_ready (rs := [12]) (by kernel_rfl) (by simp) ?_
  refine AllReadyH.cons (o := _) rfl (fun K hK => ?_) AllReadyH.nil
  go_simp
  go_at_call 62; refine (CH.out _ D2.out.tail.tail).mono ?_; rintro r y2 ⟨rfl, b2⟩; have D3 := hid (D2.out.later b2); clear b2
  refine hK.out _ _ (PR.out _ _ D3.out.swap) (fun hHeld => ?_)
  clear hK K
  (try simp only [Act.put, List.setIfInBounds_toArray, List.set_cons_zero, List.set_cons_succ])
  have N6 := hid (own_new D3.out [Lib.itoa e.sn, Lib.itoa e.sa, hexW data] (by simp))
  obtain ⟨ao6, c6, w6a, hr6, A6⟩ := appR N6.out.swap (rt_own N6.out) (Nat.le_of_ble_eq_true rfl)
  have R6 := hid hr6
  have Q6 := hid A6.swap.tail
  clear hr6 A6
  refine wpAnyH_ready (rs := [13]) (by kernel_rfl) (by simp) ?_
  refine AllReadyH.cons (o := _) rfl (fun K hK => ?_) AllReadyH.nil
  go_simp
  skip
  refine hK.out _ _ (PR.out _ _ (N6.out.swap.tail.swap)) (fun hHeld => ?_)
  clear hK K
  (try simp only [Act.put, List.setIfInBounds_toArray, List.set_cons_zero, List.set_cons_succ])
  refine wpAnyH_ready (rs := [14]) (by kernel_rfl) (by simp) ?_
  refine AllReadyH.cons (o := _) rfl (fun K hK => ?_) AllReadyH.nil
  refine step_append_run (by rfl) (.tmp 105) (.tmp 118) 27 (by rfl) _ _ _ _ (by rfl) (by rfl) R6.out ?_
  refine hK.out _ _ (PR.out _ _ Q6.out.swap) (fun hHeld => ?_)
  clear hK K
  (try simp only [Act.put, List.setIfInBounds_toArray])
  refine wpAnyH_ready (rs := [15]) (by kernel_rfl) (by simp) ?_
  refine AllReadyH.cons (o := _) rfl (fun K hK => ?_) AllReadyH.nil
  go_simp
  skip
  refine hK.out _ _ (PR.out _ _ Q6.out.swap) (fun hHeld => ?_)
  clear hK K
  (try simp only [Act.put, List.setIfInBounds_toArray, List.set_cons_zero, List.set_cons_succ])
  refine wpAnyH_done (by kernel_rfl) ?_ _
  clear hHeld
  go_upto_region 25 with fail
  have HB5 := hid (HBB.out _ _ Q6.out.swap)
  have CO5 := hid (CO.out _ _ Q6.out)
  go_upto_region 31 with (first | (refine wpList_load_row rfl 36 _ rfl w.heap.size rfl 36 EC.toArray (0, 0) _ HB5.out Tryz.underlying36 rfl I36.out ?_) | (go_at_call 63; refine CO5.out.mono ?_; rintro r w5 ⟨rfl, B5⟩; have K5 := hid B5; clear B5) | (refine wpList_store_row rfl 24 _ _ rfl w5.heap.size OLL.toArray rfl rfl 24 _ (heap_alloc_new w5 _) IO.out ZO.out OO1.out ?_; rw [World.setRow_alloc_new]))
  have K6 := hid (K5.out.addBlk OLL 24)
  generalize w5.alloc (.cells OLL.toArray 24) = w6 at *
  obtain ⟨y0, y1, y2, y3, y4, y5, y6, y7, y8, y9, y10, y11⟩ := PR.out _ _ K6.out.tail.swap
  rw [hk] at y0
  go_wp2
  go_ret2
  exact ⟨_, by rw [ERZ.out]; rfl, by rw [WDE.out]; exact K6.out.tail.swap.tail⟩
end Go.Proofs.YtfeppannfcbakaaGreatDoor

namespace Go.Proofs.YtfeppannfcbakaaGreatDoor
open Go.RowKit
theorem rWords_any (e : Ev) {items : Ws} {data : List UInt8} {cs : List Comp} {w : World} (hR : e.Rg) (hd : data.length = e.dik) (hil : items.length ≤ 140737488355328) (hI : ∀ W, All cs W → Rt W (.slice e.ria e.rik e.ric) items) (hD : ∀ W, All cs W → BRd W (.slice e.dia e.dik e.dic) data) (A : All cs w) :
    Calls Tryz.prog 30 #[.agg e.cells.toArray] w (WRPost (if e.err items = 0 then e.words items data else []) (e.err items) cs) := by
  by_cases hF : e.inForm = true
  rotate_left
  · exact rWords_no e hR hd hil hI hD A (by simpa using hF)
  have hk := inForm_k hF
  by_cases h1 : e.k = 1
  · exact rWords_1 e hR hd hil hI hD A hF h1
  by_cases h2 : e.k = 2
  · exact rWords_2 e hR hd hil hI hD A hF h2
  by_cases h3 : e.k = 3
  · exact rWords_3 e hR hd hil hI hD A hF h3
  by_cases h4 : e.k = 4
  · exact rWords_4 e hR hd hil hI hD A hF h4
  by_cases h5 : e.k = 5
  · exact rWords_5 e hR hd hil hI hD A hF h5
  by_cases h6 : e.k = 6
  · exact rWords_6 e hR hd hil hI hD A hF h6
  by_cases h7 : e.k = 7
  · exact rWords_7 e hR hd hil hI hD A hF h7
  by_cases h8 : e.k = 8
  · exact rWords_8 e hR hd hil hI hD A hF h8
  by_cases h9 : e.k = 9
  · exact rWords_9 e hR hd hil hI hD A hF h9
  by_cases h10 : e.k = 10
  · exact rWords_10 e hR hd hil hI hD A hF h10
  by_cases h11 : e.k = 11
  · exact rWords_11 e hR hd hil hI hD A hF h11
  omega
end Go.Proofs.YtfeppannfcbakaaGreatDoor

namespace Go.Proofs.YtfeppannfcbakaaGreatDoor
open Go.RowKit
set_option linter.unusedVariables false
set_option maxRecDepth 100000

theorem words_few {e : Ev} {items : Ws} {data : List UInt8} : (e.words items data).length ≤ 10001 := by
  have : (kindT e.k).length ≤ 100 := by
    unfold kindT
    repeat' split
    all_goals decide
  have := wdF_len e.cells items data (kindT e.k) this
  simp only [Ev.words, List.length_cons]
  omega
theorem lenJ_words2 {e : Ev} {items : Ws} {data : List UInt8} (h : e.err items = 0) (hR : e.Rg) (hd : data.length = e.dik) : lenJ (e.words items data) ≤ 10000000000000 := by
  obtain ⟨hF, hX⟩ := err_zero h
  have hx : ∀ x ∈ e.words items data, x.length ≤ 5000 := by
    intro x hx
    rw [words_sub] at hx
    rcases List.mem_cons.1 hx with rfl | hx
    · have := kd_len e.k.toNat
      omega
    · obtain ⟨t, ht, hxt⟩ := List.mem_flatMap.1 hx
      exact wd1_w (fit_of hF hX hR hd t ht) x hxt
  have h1 := lenJ_szW hx
  have h2 := words_few (e := e) (items := items) (data := data)
  have h3 := Nat.mul_le_mul_right (4 * 5000 + 16) h2
  omega
set_option maxHeartbeats 3200000 in
set_option maxRecDepth 1000000 in
/-- The document's Line. -/
theorem rLine_any (e : Ev) {items : Ws} {data : List UInt8} {cs : List Comp} {w : World} (hR : e.Rg) (hd : data.length = e.dik) (hil : items.length ≤ 140737488355328) (hI : ∀ W, All cs W → Rt W (.slice e.ria e.rik e.ric) items) (hD : ∀ W, All cs W → BRd W (.slice e.dia e.dik e.dic) data) (A : All cs w) :
    Calls Tryz.prog 12 #[.agg e.cells.toArray] w fun r w' => r = .returned (.tuple #[.string ⟨(e.line items data).toArray⟩, .int .i64 (e.err items)]) ∧ All cs w' := by
  have A0 := hid (A.addBlk e.cells 36)
  have CW := hid (rWords_any e hR hd hil (fun W h => hI W h.tail) (fun W h => hD W h.tail) A0.out)
  have HB := hid (A0.out.blk (g := w.heap.size) (vs := e.cells) (t := 36) List.mem_cons_self)
  have I36 : Hid ((Tryz.prog.info? 36).map (·.size) = some e.cells.toArray.size) := hid (by kernel_rfl)
  by_cases hX : e.err items = 0
  · have EL : Hid (e.line items data = joinW (e.words items data)) := hid (by unfold Ev.line; rw [if_neg (by simp [hX])])
    have CJ : Hid (∀ (v : Value) W, All (ownC 9 v (txW (e.words items data)) :: blkC w.heap.size e.cells 36 :: cs) W → Calls Tryz.prog 18 #[v] W fun r w' => r = .returned (.string ⟨(joinW (e.words items data)).toArray⟩) ∧ All cs w') := hid (fun v W h => (rJoin_any (rt_own h) (by have := words_few (e := e) (items := items) (data := data); omega) (lenJ_words2 hX hR hd)).mono fun r w' hr => ⟨hr.1, (h.later hr.2).tail.tail⟩)
    rw [if_pos hX, hX] at CW
    rw [EL.out, hX]
    unfold WRPost at CW
    clear A hI hD hR hd hil EL hX
    generalize e.words items data = WD at *
    generalize e.cells = EC at *
    go_enter Tryz.func12, Tryz.ntmps12
    go_upto_region 1 with fail
    generalize w.alloc (.cells EC.toArray 36) = w0 at *
    go_wp2_with (first | (refine wpList_load_row rfl 36 _ rfl w.heap.size rfl 36 EC.toArray (0, 0) _ HB.out Tryz.underlying36 rfl I36.out ?_) | (go_at_call 30; refine CW.out.mono ?_; rintro r w1 ⟨v1, rfl, B1⟩; have K1 := hid B1; clear B1) | (go_at_call 18; refine (CJ.out _ _ K1.out).mono ?_; rintro r w2 ⟨rfl, B2⟩; have K2 := hid B2; clear B2))
    go_ret2
    exact ⟨rfl, K2.out⟩
  · have EL : Hid (e.line items data = []) := hid (by unfold Ev.line; rw [if_pos hX])
    have hx' : (e.err items != 0) = true := by simpa using hX
    rw [if_neg hX] at CW
    rw [EL.out]
    unfold WRPost at CW
    clear A hI hD hR hd hil EL hX
    generalize e.err items = ER at *
    generalize e.cells = EC at *
    go_enter Tryz.func12, Tryz.ntmps12
    go_upto_region 1 with fail
    generalize w.alloc (.cells EC.toArray 36) = w0 at *
    go_wp2_with (first | (refine wpList_load_row rfl 36 _ rfl w.heap.size rfl 36 EC.toArray (0, 0) _ HB.out Tryz.underlying36 rfl I36.out ?_) | (go_at_call 30; refine CW.out.mono ?_; rintro r w1 ⟨v1, rfl, B1⟩; have K1 := hid B1; clear B1))
    go_ret2
    exact ⟨rfl, K1.out.tail.tail⟩
end Go.Proofs.YtfeppannfcbakaaGreatDoor

namespace Go.Proofs.YtfeppannfcbakaaGreatDoor
open Go.RowKit
set_option linter.unusedVariables false
/-- A row of one's own, whatever its elements' size. -/
def rowC (e : TypeId) (size : Nat) (v : Value) (n : Nat) (vs : List Value) : Comp := ⟨fun w => w.ownsRow 0 e size v n vs, v.ownBlock.toList⟩
theorem owns_keep {w w' : World} {e : TypeId} {size n : Nat} {v : Value} {vs : List Value} (h : w.ownsRow 0 e size v n vs) (hb : ∀ k ∈ v.ownBlock.toList, w'.heap[k]? = w.heap[k]?) : w'.ownsRow 0 e size v n vs :=
  ⟨h.1, by
    rcases h.2 with hn | ⟨g, cap, cur, rfl, hg, hgg, rest⟩
    · exact Or.inl hn
    · exact Or.inr ⟨g, cap, cur, rfl, hg, by rw [hb g (by simp [Value.ownBlock])]; exact hgg, rest⟩⟩
theorem rowC_good (e : TypeId) (size : Nat) (v : Value) (n : Nat) (vs : List Value) : (rowC e size v n vs).Good := fun w w' h hs hb => owns_keep h hb
theorem All.addRow0 {e : TypeId} {size : Nat} {cs : List Comp} {w : World} (h : All cs w) : All (rowC e size (.slice none 0 0) 0 [] :: cs) w :=
  ⟨⟨rowC_good _ _ _ _ _, ⟨by simp, Or.inl ⟨rfl, rfl⟩⟩, fun k hk => by simp [rowC, Value.ownBlock] at hk⟩, fun d hd k hk => by simp [rowC, Value.ownBlock] at hk, h⟩
theorem All.rowGrow {e : TypeId} {size n n' : Nat} {v v' : Value} {vs vs' : List Value} {cs : List Comp} {w w1 : World} {base : Nat} (h : All (rowC e size v n vs :: cs) w) (hown : w1.ownsRow base e size v' n' vs') (hg : w.grownBy w1 v.ownBlock) (hat : v'.ownBlock = v.ownBlock ∨ v'.ownBlock = some w.heap.size) : All (rowC e size v' n' vs' :: cs) w1 := by
  have ho' := owns_zero hown
  refine h.turn ((grown_fr hg).mono (fun k hk => by simpa [rowC] using hk)) (rowC_good _ _ _ _ _) ho' (fun k hk => ?_) (fun k hk => ?_)
  · have hk' : v'.ownBlock = some k := by simpa [rowC] using hk
    rcases hat with e1 | e1
    · exact Or.inl (by simp [rowC, ← e1, hk'])
    · rw [e1] at hk'; simp at hk'; exact Or.inr (by omega)
  · have hk' : v'.ownBlock = some k := by simpa [rowC] using hk
    exact (ho'.lt k hk').2
/-- Elements are laid behind a row of one's own. -/
theorem appN {W : World} {e t : TypeId} {i : TypeInfo} {z v : Value} {size bytes n m c : Nat} {us news : List Value} {cs : List Comp} (hu : Tryz.prog.underlying t = some (.slice e)) (hi : Tryz.prog.info? e = some i) (hz : i.zero = some z) (hsize : i.size = size) (hby : i.bytes = bytes) (hzs : z.cells.size = size) (hsz : 0 < size)
    (A : All (rowC e size v n us :: cs) W) (ao2 : Option Addr) (hl : news.length = m * size) (hnews : 0 < m → ∃ a, ao2 = some a ∧ ∀ j u, news[j]? = some u → W.cell? (a.add j) = some u) (h1 : ∀ u ∈ news, u.oneCell' = true) (h63 : n + m ≤ maxLen) (hb : (n + m) * bytes ≤ 140737488355328) :
    ∃ ao cap w', (Builtin.append_ #[t, t] t #[v, .slice ao2 m c]).run Tryz.prog W = .ok (.slice ao (n + m) cap) w' ∧ All (rowC e size (.slice ao (n + m) cap) (n + m) (us ++ news) :: cs) w' := by
  have hown : W.ownsRow 0 e size v n us := A.1.2.1
  by_cases hm : 0 < m
  · obtain ⟨a, rfl, hc⟩ := hnews hm
    obtain ⟨v', w', hr, h2, h3, h4, h5⟩ := run_append_own_at (P := Tryz.prog) W 0 t t e i z size bytes hu hi hz hsize hby hzs hsz v n us hown a m c news hl hc h1 h63 hb (by omega)
    obtain ⟨ao, cap, rfl⟩ := owns_form h2
    exact ⟨ao, cap, w', hr, A.rowGrow (base := 0) h2 h3 h5⟩
  · have hm0 : m = 0 := by omega
    subst hm0
    have hn0 : news = [] := List.length_eq_zero_iff.1 (by omega)
    subst hn0
    subst hsize
    rw [List.append_nil]
    rcases hown.2 with ⟨rfl, rfl⟩ | ⟨g, cap, cur, rfl, _, _, hle, _⟩
    · exact ⟨none, 0, W, run_append_nothing W t t t e i hu hi none 0 0 (Nat.le_refl _) _ (srcNil hu ao2 c), A⟩
    · exact ⟨_, cap, W, run_append_nothing W t t t e i hu hi _ n cap hle _ (srcNil hu ao2 c), A⟩
theorem All.addRowE {cs : List Comp} {w : World} (h : All cs w) (e : TypeId) (size : Nat) : All (rowC e size (.slice (some ⟨w.heap.size, 0, none⟩) 0 0) 0 [] :: cs) (w.alloc (.cells #[] e)) := by
  refine h.add (Fr.below (ba w _)) (rowC_good _ _ _ _ _) ?_ (fun k hk => ?_)
  · exact ⟨by simp, Or.inr ⟨w.heap.size, 0, #[], rfl, Nat.zero_le _, heap_alloc_new w _, Nat.le_refl _, by unfold maxLen; omega, by simp, by simp⟩⟩
  · have : k = w.heap.size := by simpa [rowC, Value.ownBlock, eq_comm] using hk
    subst this
    exact ⟨Nat.le_refl _, by simp⟩
/-- A row of one's own is read. -/
theorem row_at {w : World} {base : Nat} {e : TypeId} {size : Nat} {ao : Option Addr} {n c n' : Nat} {us : List Value} (h : w.ownsRow base e size (.slice ao n' c) n us) {k : Nat} {u : Value} (hu : us[k]? = some u) : ∃ g, ao = some ⟨g, 0, none⟩ ∧ g < w.heap.size ∧ w.cell? ⟨g, k, none⟩ = some u := by
  have hk := (List.getElem?_eq_some_iff.1 hu).1
  have hl := h.1
  rcases h.2 with ⟨e, e2⟩ | ⟨g, cap, cur, e, _, hg, hn, hm, hcs, ht⟩
  · subst e2; omega
  · simp only [Value.slice.injEq] at e
    refine ⟨g, e.1, (Array.getElem?_eq_some_iff.1 hg).1, ?_⟩
    rw [cell_at hg, ← Array.getElem?_toList]
    rw [← ht, List.getElem?_take, if_pos (by omega)] at hu
    exact hu
theorem row_cap {w : World} {base : Nat} {e : TypeId} {size : Nat} {ao : Option Addr} {n c n' : Nat} {us : List Value} (h : w.ownsRow base e size (.slice ao n' c) n us) : n' = n ∧ n ≤ c ∧ c ≤ maxLen := by
  rcases h.2 with ⟨e, e2⟩ | ⟨g, cap, cur, e, _, hg, hn, hm, hcs, ht⟩
  · simp only [Value.slice.injEq] at e
    obtain ⟨_, rfl, rfl⟩ := e
    exact ⟨e2.symm, by omega, by unfold maxLen; omega⟩
  · simp only [Value.slice.injEq] at e
    obtain ⟨_, rfl, rfl⟩ := e
    exact ⟨rfl, hn, hm⟩
theorem flat_len {α : Type} {f : α → List Value} {s : Nat} (hf : ∀ x, (f x).length = s) (l : List α) : (l.flatMap f).length = l.length * s := by
  induction l with
  | nil => simp
  | cons x l ih => rw [List.flatMap_cons, List.length_append, ih, hf, List.length_cons, Nat.succ_mul]; omega
theorem flat_at {α : Type} {f : α → List Value} {s : Nat} (hf : ∀ x, (f x).length = s) {l : List α} {i : Nat} {x : α} (hx : l[i]? = some x) {j : Nat} (hj : j < s) : (l.flatMap f)[i * s + j]? = (f x)[j]? := by
  induction l generalizing i with
  | nil => simp at hx
  | cons y l ih =>
    rw [List.flatMap_cons]
    cases i with
    | zero =>
      simp only [List.getElem?_cons_zero, Option.some.injEq] at hx
      subst hx
      rw [Nat.zero_mul, Nat.zero_add, List.getElem?_append_left (by rw [hf]; exact hj)]
    | succ i =>
      simp only [List.getElem?_cons_succ] at hx
      rw [List.getElem?_append_right (by rw [hf, Nat.succ_mul]; omega), hf, ← ih hx]
      congr 1
      rw [Nat.succ_mul]; omega
theorem flat_one {α : Type} {f : α → List Value} (hf : ∀ x, ∀ u ∈ f x, u.oneCell' = true) (l : List α) : ∀ u ∈ l.flatMap f, u.oneCell' = true := by
  intro u hu
  obtain ⟨x, _, h⟩ := List.mem_flatMap.1 hu
  exact hf x u h
/-- Cells that are read element by element are read as a row. -/
theorem flat_src {α : Type} {f : α → List Value} {s : Nat} (hs : 0 < s) (hf : ∀ x, (f x).length = s) {W : World} {ao : Option Addr} {l : List α} (h : ∀ (i : Nat) (x : α), l[i]? = some x → ∃ g o, ao = some ⟨g, o, none⟩ ∧ g < W.heap.size ∧ ∀ j u, (f x)[j]? = some u → W.cell? ⟨g, o + i * s + j, none⟩ = some u) :
    0 < l.length → ∃ a, ao = some a ∧ ∀ j u, (l.flatMap f)[j]? = some u → W.cell? (a.add j) = some u := by
  intro h0
  obtain ⟨g, o, rfl, _, _⟩ := h 0 _ (List.getElem?_eq_getElem h0)
  refine ⟨_, rfl, fun j u hu => ?_⟩
  have hj : j < l.length * s := by have := (List.getElem?_eq_some_iff.1 hu).1; rwa [flat_len hf] at this
  have hd : j / s < l.length := Nat.div_lt_of_lt_mul (by rw [Nat.mul_comm]; exact hj)
  obtain ⟨g', o', e, _, hc⟩ := h (j / s) _ (List.getElem?_eq_getElem hd)
  cases e
  have hm : j % s < s := Nat.mod_lt _ hs
  have h1 := flat_at hf (List.getElem?_eq_getElem hd) hm
  have h2 : j / s * s + j % s = j := by rw [Nat.mul_comm]; exact Nat.div_add_mod j s
  rw [h2, hu] at h1
  have h3 := hc (j % s) u h1.symm
  rw [Addr.add_lit]
  rw [show o + j / s * s + j % s = o + j by omega] at h3
  exact h3
/-- A row of one's own is read element by element. -/
theorem flat_row {α : Type} {f : α → List Value} {s : Nat} (hf : ∀ x, (f x).length = s) {W : World} {base : Nat} {e : TypeId} {ao : Option Addr} {n n' c : Nat} {l : List α} (hs : 0 < s) (h : W.ownsRow base e s (.slice ao n' c) n (l.flatMap f)) :
    ∀ (i : Nat) (x : α), l[i]? = some x → ∃ g o, ao = some ⟨g, o, none⟩ ∧ g < W.heap.size ∧ ∀ j u, (f x)[j]? = some u → W.cell? ⟨g, o + i * s + j, none⟩ = some u := by
  intro i x hx
  have hi := (List.getElem?_eq_some_iff.1 hx).1
  have hat : ∀ j u, (f x)[j]? = some u → ∃ g, ao = some ⟨g, 0, none⟩ ∧ g < W.heap.size ∧ W.cell? ⟨g, i * s + j, none⟩ = some u := by
    intro j u hu
    have hj : j < s := by have := (List.getElem?_eq_some_iff.1 hu).1; rwa [hf] at this
    exact row_at h (by rw [flat_at hf hx hj]; exact hu)
  obtain ⟨g, rfl, hg, _⟩ := hat 0 _ (List.getElem?_eq_getElem (by rw [hf]; exact hs))
  refine ⟨g, 0, rfl, hg, fun j u hu => ?_⟩
  obtain ⟨g', e, _, hc⟩ := hat j u hu
  cases e
  rw [Nat.zero_add]
  exact hc

end Go.Proofs.YtfeppannfcbakaaGreatDoor
