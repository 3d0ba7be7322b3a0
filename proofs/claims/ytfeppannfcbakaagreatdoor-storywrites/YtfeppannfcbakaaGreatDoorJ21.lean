import Derived.Test.YtfeppannfcbakaaGreatDoorJ20
import Derived.Test.YtfeppannfcbakaaGreatDoorD6
import Derived.Test.YtfeppannfcbakaaGreatDoorE6
import Derived.Test.YtfeppannfcbakaaGreatDoorEv26
namespace Go.Proofs.YtfeppannfcbakaaGreatDoor
open Go.RowKit
set_option linter.unusedVariables false
set_option maxRecDepth 100000

/-- What of an event's words stands ahead of its op and its result. -/
def Ev.pre (e : Ev) (data : List UInt8) : Ws :=
  wordN e.k :: Lib.itoa e.a :: if e.k = 1 then [Lib.itoa e.cd] else if e.k = 2 then [Lib.itoa e.nb] else if e.k = 3 then [Lib.itoa e.nb, Lib.itoa e.wh] else if e.k = 4 then [Lib.itoa e.nb, Lib.itoa e.nm] else if e.k = 5 then [Lib.itoa e.nb, Lib.itoa e.nm, Lib.itoa e.wh] else if e.k = 6 then [Lib.itoa e.nm, flagW e.fr, Lib.itoa e.ec, Lib.itoa e.en] else if e.k = 7 ∨ e.k = 10 then [Lib.itoa e.l0, statN e.l1, Lib.itoa e.l2, Lib.itoa e.l3, Lib.itoa e.l4, Lib.itoa e.l5, Lib.itoa e.l6, Lib.itoa e.l7] else if e.k = 11 then [Lib.itoa e.sn, Lib.itoa e.sa, hexW data] else []
structure Ev.Ok0 (e : Ev) : Prop where
  a : 0 ≤ e.a
  nb : 0 ≤ e.nb
  nm : 0 ≤ e.nm
  wh : 0 ≤ e.wh
  cd : 0 ≤ e.cd
  ec : 0 ≤ e.ec
  en : 0 ≤ e.en
  l0 : 0 ≤ e.l0
  l2 : 0 ≤ e.l2
  l3 : 0 ≤ e.l3
  l4 : 0 ≤ e.l4
  l5 : 0 ≤ e.l5
  l6 : 0 ≤ e.l6
  l7 : 0 ≤ e.l7
  sn : 0 ≤ e.sn
  sa : 0 ≤ e.sa
theorem ok0_of {e : Ev} (h : e.inForm = true) : e.Ok0 := by
  rw [inForm_plain] at h
  split at h
  · simp at h
  split at h
  · simp at h
  split at h
  · simp at h
  split at h
  · simp at h
  rename_i hn
  have hn' : e.numsOk = true := by simpa using hn
  simp [Ev.numsOk, Ev.nums] at hn'
  constructor <;> omega
theorem dik_of {e : Ev} (h : e.inForm = true) : e.dik ≤ 2304 := by
  rw [inForm_plain] at h
  split at h
  · simp at h
  split at h
  · simp at h
  split at h
  · simp at h
  rename_i hn
  omega
theorem st_of {e : Ev} (h : e.inForm = true) (hk : e.k = 7 ∨ e.k = 10) : 1 ≤ e.l1 ∧ e.l1 ≤ 3 := by
  rw [inForm_plain] at h
  split at h
  · simp at h
  split at h
  · simp at h
  split at h
  · simp at h
  split at h
  · simp at h
  simp [Ev.stOk] at h
  omega
set_option maxHeartbeats 12800000 in
set_option maxRecDepth 1000000 in
theorem rWords_no (e : Ev) {items : Ws} {data : List UInt8} {cs : List Comp} {w : World} (hR : e.Rg) (hd : data.length = e.dik) (hil : items.length ≤ 140737488355328) (hI : ∀ W, All cs W → Rt W (.slice e.ria e.rik e.ric) items) (hD : ∀ W, All cs W → BRd W (.slice e.dia e.dik e.dic) data) (A : All cs w) (hF : e.inForm = false) :
    Calls Tryz.prog 30 #[.agg e.cells.toArray] w (WRPost (if e.err items = 0 then e.words items data else []) (e.err items) cs) := by
  generalize hWD : (if e.err items = 0 then e.words items data else []) = WD
  generalize hER : e.err items = ER at *
  have HWD := hid hWD
  have HER := hid hER
  clear hWD hER
  have A0 := hid (A.addBlk e.cells 36)
  have CP := hid (rplain_any e A0.out)
  have I36 : Hid ((Tryz.prog.info? 36).map (·.size) = some e.cells.toArray.size) := hid (by kernel_rfl)
  unfold WRPost
  rw [hF] at CP
  have E1 : Hid (ER = 190) := hid (by rw [← HER.out]; unfold Ev.err; rw [if_pos hF])
  have E2 : Hid (WD = []) := hid (by rw [← HWD.out, E1.out]; rfl)
  have HB := hid (A0.out.blk (g := w.heap.size) (vs := e.cells) (t := 36) (List.mem_cons_self))
  clear hF A hI hD hR hd hil
  generalize e.cells = EC at *
  go_enter Tryz.func30, Tryz.ntmps30
  go_upto_region 1 with fail
  generalize w.alloc (.cells EC.toArray 36) = w0 at *
  go_wp2_with (first | (refine wpList_load_row rfl 36 _ rfl w.heap.size rfl 36 EC.toArray (0, 0) _ HB.out Tryz.underlying36 rfl I36.out ?_) | (go_at_call 59; refine CP.out.mono ?_; rintro r w1 ⟨rfl, B1⟩; have K1 := hid B1; clear B1))
  go_ret2
  exact ⟨_, by rw [E1.out]; rfl, by rw [E2.out]; exact All.addNil K1.out.tail⟩
end Go.Proofs.YtfeppannfcbakaaGreatDoor

namespace Go.Proofs.YtfeppannfcbakaaGreatDoor
open Go.RowKit
set_option linter.unusedVariables false
set_option maxRecDepth 100000
set_option maxHeartbeats 12800000 in
set_option maxRecDepth 1000000 in
theorem rWords_1 (e : Ev) {items : Ws} {data : List UInt8} {cs : List Comp} {w : World} (hR : e.Rg) (hd : data.length = e.dik) (hil : items.length ≤ 140737488355328) (hI : ∀ W, All cs W → Rt W (.slice e.ria e.rik e.ric) items) (hD : ∀ W, All cs W → BRd W (.slice e.dia e.dik e.dic) data) (A : All cs w) (hF : e.inForm = true) (hk : e.k = 1) :
    Calls Tryz.prog 30 #[.agg e.cells.toArray] w (WRPost (if e.err items = 0 then e.words items data else []) (e.err items) cs) := by
  generalize hWD : (if e.err items = 0 then e.words items data else []) = WD
  generalize hER : e.err items = ER at *
  have HWD := hid hWD
  have HER := hid hER
  clear hWD hER
  have A0 := hid (A.addBlk e.cells 36)
  have CP := hid (rplain_any e A0.out)
  have I36 : Hid ((Tryz.prog.info? 36).map (·.size) = some e.cells.toArray.size) := hid (by kernel_rfl)
  unfold WRPost
  have H0 := ok0_of hF
  rw [hF] at CP
  have HEK : Hid (ER = ersL (er1 e.cells items) (kindT e.k)) := hid (by rw [← HER.out]; unfold Ev.err; rw [if_neg (by simp [hF])])
  have CW := hid (fun W => word_any e.k W)
  have PR : Hid (∀ W ds, All (blkC w.heap.size e.cells 36 :: ds) W → W.cell? ⟨w.heap.size, 0, none⟩ = some (.int .i64 e.k) ∧ W.cell? ⟨w.heap.size, 1, none⟩ = some (.int .i64 e.a) ∧ W.cell? ⟨w.heap.size, 2, none⟩ = some (.int .i64 e.nb) ∧ W.cell? ⟨w.heap.size, 3, none⟩ = some (.int .i64 e.nm) ∧ W.cell? ⟨w.heap.size, 4, none⟩ = some (.int .i64 e.wh) ∧ W.cell? ⟨w.heap.size, 5, none⟩ = some (.int .i64 e.cd) ∧ W.cell? ⟨w.heap.size, 12, none⟩ = some (.int .i64 e.ec) ∧ W.cell? ⟨w.heap.size, 13, none⟩ = some (.int .i64 e.en) ∧ W.cell? ⟨w.heap.size, 30, none⟩ = some (.int .i64 e.sn) ∧ W.cell? ⟨w.heap.size, 31, none⟩ = some (.int .i64 e.sa) ∧ W.cell? ⟨w.heap.size, 6, none⟩ = some (.bool e.fr) ∧ W.cell? ⟨w.heap.size, 32, none⟩ = some (.slice e.dia e.dik e.dic)) := hid (fun W ds h => ⟨cell_in h (List.mem_cons_self) rfl, cell_in h (List.mem_cons_self) rfl, cell_in h (List.mem_cons_self) rfl, cell_in h (List.mem_cons_self) rfl, cell_in h (List.mem_cons_self) rfl, cell_in h (List.mem_cons_self) rfl, cell_in h (List.mem_cons_self) rfl, cell_in h (List.mem_cons_self) rfl, cell_in h (List.mem_cons_self) rfl, cell_in h (List.mem_cons_self) rfl, cell_in h (List.mem_cons_self) rfl, cell_in h (List.mem_cons_self) rfl⟩)
  have HBB : Hid (∀ W ds, All (blkC w.heap.size e.cells 36 :: ds) W → W.heap[w.heap.size]? = some (.cells e.cells.toArray 36 (0, 0))) := hid (fun W ds h => h.blk (List.mem_cons_self))
  have CD_a := hid (fun W => Dig_any H0.a hR.a W)
  have CD_cd := hid (fun W => Dig_any H0.cd hR.cd W)
  have CO := hid (fun (ds : List Comp) W (h : All ds W) => opOf_any e h)
  have FK1 : Hid (e.k = 1 → ER = 0 ∧ WD = [wordN e.k, Lib.itoa e.a] ++ [Lib.itoa e.cd]) := hid (fun hk => by
    have hK : kindT e.k = [.int 1, .cod 5] := by rw [hk]; rfl
    have ERZ : ER = 0 := by rw [HEK.out, hK]; rfl
    refine ⟨ERZ, ?_⟩
    rw [← HWD.out, ERZ, if_pos rfl]
    unfold Ev.words
    rw [hK]
    have e9 : kdN.getD e.k.toNat [] = wordN e.k := by rw [hk]; rfl
    rw [e9]
    rfl)
  have IO : Hid ((Tryz.prog.info? 24).map (·.size) = some e.opL.toArray.size) := hid (by kernel_rfl)
  have ZO : Hid (zoL.toArray.size = e.opL.toArray.size) := hid rfl
  have OO1 : Hid (e.opL.toArray.all (·.oneCell') = true) := hid (by kernel_rfl)
  have OLL0 : Hid ((if e.k = 6 then e.enL else e.opL) = e.opL ∧ decide (e.k = 6 ∨ e.k = 2 ∨ e.k = 3) = false) := hid ⟨by rw [hk]; rfl, by rw [hk]; rfl⟩
  rw [OLL0.out.1, OLL0.out.2] at CO
  clear OLL0
  have HKK := hid hk
  clear hI hD hR hd hil A H0 hF hk HEK
  generalize e.opL = OLL at *
  generalize e.cells = EC at *
  go_enter Tryz.func30, Tryz.ntmps30
  go_upto_region 1 with fail
  generalize w.alloc (.cells EC.toArray 36) = w0 at *
  have HB := hid (HBB.out _ _ A0.out)
  go_upto_region 3 with (first | (refine wpList_load_row rfl 36 _ rfl w.heap.size rfl 36 EC.toArray (0, 0) _ HB.out Tryz.underlying36 rfl I36.out ?_) | (go_at_call 59; refine CP.out.mono ?_; rintro r w1 ⟨rfl, B1⟩; have K1 := hid B1; clear B1))
  have Q0 := hid K1.out.drew
  refine wp_region_held_drew (S := (fun W => W.cell? ⟨w.heap.size, 0, none⟩ = some (.int .i64 e.k) ∧ W.cell? ⟨w.heap.size, 1, none⟩ = some (.int .i64 e.a) ∧ W.cell? ⟨w.heap.size, 2, none⟩ = some (.int .i64 e.nb) ∧ W.cell? ⟨w.heap.size, 3, none⟩ = some (.int .i64 e.nm) ∧ W.cell? ⟨w.heap.size, 4, none⟩ = some (.int .i64 e.wh) ∧ W.cell? ⟨w.heap.size, 5, none⟩ = some (.int .i64 e.cd) ∧ W.cell? ⟨w.heap.size, 12, none⟩ = some (.int .i64 e.ec) ∧ W.cell? ⟨w.heap.size, 13, none⟩ = some (.int .i64 e.en) ∧ W.cell? ⟨w.heap.size, 30, none⟩ = some (.int .i64 e.sn) ∧ W.cell? ⟨w.heap.size, 31, none⟩ = some (.int .i64 e.sa) ∧ W.cell? ⟨w.heap.size, 6, none⟩ = some (.bool e.fr) ∧ W.cell? ⟨w.heap.size, 32, none⟩ = some (.slice e.dia e.dik e.dic))) (by kernel_rfl) (PR.out _ _ Q0.out) (fun hHeld => ?_)
  generalize World.drew _ = wd at *
  refine wpAnyH_take (i := 0) (oi := _) (v := ?_) rfl (by kernel_rfl) (by kernel_rfl) (by kernel_rfl) (fun _ _ _ h => h) (Or.inl ⟨by rfl, ?_⟩) hHeld ?_
  rotate_left
  · intro W hSw
    obtain ⟨s0, s1, s2, s3, s4, s5, s6, s7, s8, s9, s10, s11⟩ := hSw
    go_simp
    (try with_reducible rfl)
  (try simp only [Act.put, List.setIfInBounds_toArray])
  refine wpAnyH_take (i := 1) (oi := _) (v := ?_) rfl (by kernel_rfl) (by kernel_rfl) (by kernel_rfl) (fun _ _ _ h => h) (Or.inl ⟨by rfl, ?_⟩) hHeld ?_
  rotate_left
  · intro W hSw
    obtain ⟨s0, s1, s2, s3, s4, s5, s6, s7, s8, s9, s10, s11⟩ := hSw
    go_simp
    (try with_reducible rfl)
  (try simp only [Act.put])
  refine wpAnyH_take (i := 3) (oi := _) (v := ?_) rfl (by kernel_rfl) (by kernel_rfl) (by kernel_rfl) (fun _ _ _ h => h) (Or.inl ⟨by rfl, ?_⟩) hHeld ?_
  rotate_left
  · intro W hSw
    obtain ⟨s0, s1, s2, s3, s4, s5, s6, s7, s8, s9, s10, s11⟩ := hSw
    go_simp
    (try with_reducible rfl)
  (try simp only [Act.put])
  refine wpAnyH_take (i := 4) (oi := _) (v := ?_) rfl (by kernel_rfl) (by kernel_rfl) (by kernel_rfl) (fun _ _ _ h => h) (Or.inl ⟨by rfl, ?_⟩) hHeld ?_
  rotate_left
  · intro W hSw
    obtain ⟨s0, s1, s2, s3, s4, s5, s6, s7, s8, s9, s10, s11⟩ := hSw
    go_simp
    (try with_reducible rfl)
  (try simp only [Act.put])
  refine wpAnyH_ready (rs := [2]) (by kernel_rfl) (by simp) ?_
  refine AllReadyH.cons (o := _) rfl (fun K hK => ?_) AllReadyH.nil
  go_simp
  go_at_call 60; refine (CW.out _).mono ?_; rintro r x1 ⟨rfl, b1⟩; have Q1 := hid (Q0.out.later b1); clear b1
  refine hK.out _ _ (PR.out _ _ Q1.out) (fun hHeld => ?_)
  clear hK K
  (try simp only [Act.put, List.setIfInBounds_toArray, List.set_cons_zero, List.set_cons_succ])
  refine wpAnyH_ready (rs := [5]) (by kernel_rfl) (by simp) ?_
  refine AllReadyH.cons (o := _) rfl (fun K hK => ?_) AllReadyH.nil
  go_simp
  go_at_call 43; refine (CD_a.out _).mono ?_; rintro r x2 ⟨rfl, b2⟩; have Q2 := hid (Q1.out.later b2); clear b2
  refine hK.out _ _ (PR.out _ _ Q2.out) (fun hHeld => ?_)
  clear hK K
  (try simp only [Act.put, List.setIfInBounds_toArray, List.set_cons_zero, List.set_cons_succ])
  have Q3 : Hid (All (ownC 9 (.slice (some ⟨x2.heap.size, 0, none⟩) 2 2) (txW [wordN e.k, Lib.itoa e.a]) :: blkC w.heap.size EC 36 :: cs) (x2.alloc (.cells #[.string ⟨(wordN e.k).toArray⟩, .string ⟨(Lib.itoa e.a).toArray⟩] 9))) := hid (own_new Q2.out [wordN e.k, Lib.itoa e.a] (by simp))
  refine wpAnyH_ready (rs := [6]) (by kernel_rfl) (by simp) ?_
  refine AllReadyH.cons (o := _) rfl (fun K hK => ?_) AllReadyH.nil
  go_simp
  skip
  refine hK.out _ _ (PR.out _ _ Q3.out.swap) (fun hHeld => ?_)
  clear hK K
  (try simp only [Act.put, List.setIfInBounds_toArray, List.set_cons_zero, List.set_cons_succ])
  refine wpAnyH_ready (rs := [7]) (by kernel_rfl) (by simp) ?_
  refine AllReadyH.cons (o := _) rfl (fun K hK => ?_) AllReadyH.nil
  go_simp
  skip
  refine hK.out _ _ (PR.out _ _ Q3.out.swap) (fun hHeld => ?_)
  clear hK K
  (try simp only [Act.put, List.setIfInBounds_toArray, List.set_cons_zero, List.set_cons_succ])
  refine wpAnyH_done (by kernel_rfl) ?_ _
  clear hHeld
  generalize x2.alloc (.cells #[.string ⟨(wordN e.k).toArray⟩, .string ⟨(Lib.itoa e.a).toArray⟩] 9) = w3 at *
  generalize x2.heap.size = G2 at *
  obtain ⟨z0, z1, z2, z3, z4, z5, z6, z7, z8, z9, z10, z11⟩ := PR.out _ _ Q3.out.swap
  have hk := HKK.out
  rw [hk] at z0
  have ERZ := hid (FK1.out hk).1
  have WDE := hid (FK1.out hk).2
  go_upto_region 25 with (first | (go_at_call 43; refine (CD_cd.out _).mono ?_; rintro r x3 ⟨rfl, b3⟩; obtain ⟨ao6, c6, w6a, hr6, A6⟩ := appR (own_new (Q3.out.later b3) [Lib.itoa e.cd] (by simp)).swap (rt_own (own_new (Q3.out.later b3) [Lib.itoa e.cd] (by simp))) (Nat.le_of_ble_eq_true rfl); have R6 := hid hr6; have Q6 := hid A6.swap.tail; clear b3 hr6 A6) | (at_builtin; refine wpList_append_run rfl _ _ 27 rfl _ _ _ _ rfl rfl R6.out ?_))
  have HB5 := hid (HBB.out _ _ Q6.out.swap)
  have CO5 := hid (CO.out _ _ Q6.out)
  go_upto_region 31 with (first | (refine wpList_load_row rfl 36 _ rfl w.heap.size rfl 36 EC.toArray (0, 0) _ HB5.out Tryz.underlying36 rfl I36.out ?_) | (go_at_call 63; refine CO5.out.mono ?_; rintro r w5 ⟨rfl, B5⟩; have K5 := hid B5; clear B5) | (refine wpList_store_row rfl 24 _ _ rfl w5.heap.size OLL.toArray rfl rfl 24 _ (heap_alloc_new w5 _) IO.out ZO.out OO1.out ?_; rw [World.setRow_alloc_new]))
  have K6 := hid (K5.out.addBlk OLL 24)
  generalize w5.alloc (.cells OLL.toArray 24) = w6 at *
  obtain ⟨y0, y1, y2, y3, y4, y5, y6, y7, y8, y9, y10, y11⟩ := PR.out _ _ K6.out.tail.swap
  rw [hk] at y0
  go_wp2
  go_ret2
  exact ⟨_, by rw [ERZ.out]; rfl, by rw [WDE.out]; exact K6.out.tail.swap.tail⟩
end Go.Proofs.YtfeppannfcbakaaGreatDoor

namespace Go.Proofs.YtfeppannfcbakaaGreatDoor
open Go.RowKit
set_option linter.unusedVariables false
set_option maxRecDepth 100000
set_option maxHeartbeats 12800000 in
set_option maxRecDepth 1000000 in
theorem rWords_2 (e : Ev) {items : Ws} {data : List UInt8} {cs : List Comp} {w : World} (hR : e.Rg) (hd : data.length = e.dik) (hil : items.length ≤ 140737488355328) (hI : ∀ W, All cs W → Rt W (.slice e.ria e.rik e.ric) items) (hD : ∀ W, All cs W → BRd W (.slice e.dia e.dik e.dic) data) (A : All cs w) (hF : e.inForm = true) (hk : e.k = 2) :
    Calls Tryz.prog 30 #[.agg e.cells.toArray] w (WRPost (if e.err items = 0 then e.words items data else []) (e.err items) cs) := by
  generalize hWD : (if e.err items = 0 then e.words items data else []) = WD
  generalize hER : e.err items = ER at *
  have HWD := hid hWD
  have HER := hid hER
  clear hWD hER
  have A0 := hid (A.addBlk e.cells 36)
  have CP := hid (rplain_any e A0.out)
  have I36 : Hid ((Tryz.prog.info? 36).map (·.size) = some e.cells.toArray.size) := hid (by kernel_rfl)
  unfold WRPost
  have H0 := ok0_of hF
  rw [hF] at CP
  have HEK : Hid (ER = ersL (er1 e.cells items) (kindT e.k)) := hid (by rw [← HER.out]; unfold Ev.err; rw [if_neg (by simp [hF])])
  have CW := hid (fun W => word_any e.k W)
  have PR : Hid (∀ W ds, All (blkC w.heap.size e.cells 36 :: ds) W → W.cell? ⟨w.heap.size, 0, none⟩ = some (.int .i64 e.k) ∧ W.cell? ⟨w.heap.size, 1, none⟩ = some (.int .i64 e.a) ∧ W.cell? ⟨w.heap.size, 2, none⟩ = some (.int .i64 e.nb) ∧ W.cell? ⟨w.heap.size, 3, none⟩ = some (.int .i64 e.nm) ∧ W.cell? ⟨w.heap.size, 4, none⟩ = some (.int .i64 e.wh) ∧ W.cell? ⟨w.heap.size, 5, none⟩ = some (.int .i64 e.cd) ∧ W.cell? ⟨w.heap.size, 12, none⟩ = some (.int .i64 e.ec) ∧ W.cell? ⟨w.heap.size, 13, none⟩ = some (.int .i64 e.en) ∧ W.cell? ⟨w.heap.size, 30, none⟩ = some (.int .i64 e.sn) ∧ W.cell? ⟨w.heap.size, 31, none⟩ = some (.int .i64 e.sa) ∧ W.cell? ⟨w.heap.size, 6, none⟩ = some (.bool e.fr) ∧ W.cell? ⟨w.heap.size, 32, none⟩ = some (.slice e.dia e.dik e.dic)) := hid (fun W ds h => ⟨cell_in h (List.mem_cons_self) rfl, cell_in h (List.mem_cons_self) rfl, cell_in h (List.mem_cons_self) rfl, cell_in h (List.mem_cons_self) rfl, cell_in h (List.mem_cons_self) rfl, cell_in h (List.mem_cons_self) rfl, cell_in h (List.mem_cons_self) rfl, cell_in h (List.mem_cons_self) rfl, cell_in h (List.mem_cons_self) rfl, cell_in h (List.mem_cons_self) rfl, cell_in h (List.mem_cons_self) rfl, cell_in h (List.mem_cons_self) rfl⟩)
  have HBB : Hid (∀ W ds, All (blkC w.heap.size e.cells 36 :: ds) W → W.heap[w.heap.size]? = some (.cells e.cells.toArray 36 (0, 0))) := hid (fun W ds h => h.blk (List.mem_cons_self))
  have CD_a := hid (fun W => Dig_any H0.a hR.a W)
  have CD_nb := hid (fun W => Dig_any H0.nb hR.nb W)
  have CO := hid (fun (ds : List Comp) W (h : All ds W) => opOf_any e h)
  have CR : Hid (∀ (ds : List Comp) W, All ds W → Calls Tryz.prog 64 #[.agg e.opL.toArray] W (WRPost (opA e.ok e.onm e.otx e.on e.om) (chkO e.ok e.onm e.otx e.on e.om) ds)) := hid (fun ds W h => rOp_any (k := e.ok) (nm := e.onm) (tx := e.otx) (n := e.on) (m := e.om) h)
  have HO4 := hid (opA_len e.ok e.on e.om e.onm e.otx)
  generalize hXO : chkO e.ok e.onm e.otx e.on e.om = XO at *
  generalize hOW : opA e.ok e.onm e.otx e.on e.om = OPW at *
  have HXO := hid hXO
  have HOW := hid hOW
  clear hXO hOW
  have FK2 : Hid (e.k = 2 → (XO ≠ 0 → ER = XO ∧ WD = []) ∧ (XO = 0 → ER = 0 ∧ WD = [wordN e.k, Lib.itoa e.a] ++ [Lib.itoa e.nb] ++ OPW)) := hid (fun hk => by
    have hK : kindT e.k = [.int 1, .int 2, .op 7] := by rw [hk]; rfl
    have hE1 : ER = if XO ≠ 0 then XO else 0 := by rw [HEK.out, hK, ← HXO.out]; rfl
    refine ⟨fun hx => ?_, fun hx => ?_⟩
    · rw [if_pos hx] at hE1
      refine ⟨hE1, ?_⟩
      rw [← HWD.out, if_neg (by rw [hE1]; exact hx)]
    · rw [if_neg (by simp [hx])] at hE1
      refine ⟨hE1, ?_⟩
      rw [← HWD.out, if_pos hE1]
      unfold Ev.words
      rw [hK]
      have e9 : kdN.getD e.k.toNat [] = wordN e.k := by rw [hk]; rfl
      rw [e9, ← HOW.out]
      simp [wdT, wd1]
      first | exact ⟨rfl, rfl, rfl, rfl⟩ | exact ⟨rfl, rfl, rfl⟩)
  have IO : Hid ((Tryz.prog.info? 24).map (·.size) = some e.opL.toArray.size) := hid (by kernel_rfl)
  have ZO : Hid (zoL.toArray.size = e.opL.toArray.size) := hid rfl
  have OO1 : Hid (e.opL.toArray.all (·.oneCell') = true) := hid (by kernel_rfl)
  have OLL0 : Hid ((if e.k = 6 then e.enL else e.opL) = e.opL ∧ decide (e.k = 6 ∨ e.k = 2 ∨ e.k = 3) = true) := hid ⟨by rw [hk]; rfl, by rw [hk]; rfl⟩
  rw [OLL0.out.1, OLL0.out.2] at CO
  clear OLL0
  have HKK := hid hk
  clear hI hD hR hd hil A H0 hF hk HEK
  generalize e.opL = OLL at *
  generalize e.cells = EC at *
  go_enter Tryz.func30, Tryz.ntmps30
  go_upto_region 1 with fail
  generalize w.alloc (.cells EC.toArray 36) = w0 at *
  have HB := hid (HBB.out _ _ A0.out)
  go_upto_region 3 with (first | (refine wpList_load_row rfl 36 _ rfl w.heap.size rfl 36 EC.toArray (0, 0) _ HB.out Tryz.underlying36 rfl I36.out ?_) | (go_at_call 59; refine CP.out.mono ?_; rintro r w1 ⟨rfl, B1⟩; have K1 := hid B1; clear B1))
  have Q0 := hid K1.out.drew
  refine wp_region_held_drew (S := (fun W => W.cell? ⟨w.heap.size, 0, none⟩ = some (.int .i64 e.k) ∧ W.cell? ⟨w.heap.size, 1, none⟩ = some (.int .i64 e.a) ∧ W.cell? ⟨w.heap.size, 2, none⟩ = some (.int .i64 e.nb) ∧ W.cell? ⟨w.heap.size, 3, none⟩ = some (.int .i64 e.nm) ∧ W.cell? ⟨w.heap.size, 4, none⟩ = some (.int .i64 e.wh) ∧ W.cell? ⟨w.heap.size, 5, none⟩ = some (.int .i64 e.cd) ∧ W.cell? ⟨w.heap.size, 12, none⟩ = some (.int .i64 e.ec) ∧ W.cell? ⟨w.heap.size, 13, none⟩ = some (.int .i64 e.en) ∧ W.cell? ⟨w.heap.size, 30, none⟩ = some (.int .i64 e.sn) ∧ W.cell? ⟨w.heap.size, 31, none⟩ = some (.int .i64 e.sa) ∧ W.cell? ⟨w.heap.size, 6, none⟩ = some (.bool e.fr) ∧ W.cell? ⟨w.heap.size, 32, none⟩ = some (.slice e.dia e.dik e.dic))) (by kernel_rfl) (PR.out _ _ Q0.out) (fun hHeld => ?_)
  generalize World.drew _ = wd at *
  refine wpAnyH_take (i := 0) (oi := _) (v := ?_) rfl (by kernel_rfl) (by kernel_rfl) (by kernel_rfl) (fun _ _ _ h => h) (Or.inl ⟨by rfl, ?_⟩) hHeld ?_
  rotate_left
  · intro W hSw
    obtain ⟨s0, s1, s2, s3, s4, s5, s6, s7, s8, s9, s10, s11⟩ := hSw
    go_simp
    (try with_reducible rfl)
  (try simp only [Act.put, List.setIfInBounds_toArray])
  refine wpAnyH_take (i := 1) (oi := _) (v := ?_) rfl (by kernel_rfl) (by kernel_rfl) (by kernel_rfl) (fun _ _ _ h => h) (Or.inl ⟨by rfl, ?_⟩) hHeld ?_
  rotate_left
  · intro W hSw
    obtain ⟨s0, s1, s2, s3, s4, s5, s6, s7, s8, s9, s10, s11⟩ := hSw
    go_simp
    (try with_reducible rfl)
  (try simp only [Act.put])
  refine wpAnyH_take (i := 3) (oi := _) (v := ?_) rfl (by kernel_rfl) (by kernel_rfl) (by kernel_rfl) (fun _ _ _ h => h) (Or.inl ⟨by rfl, ?_⟩) hHeld ?_
  rotate_left
  · intro W hSw
    obtain ⟨s0, s1, s2, s3, s4, s5, s6, s7, s8, s9, s10, s11⟩ := hSw
    go_simp
    (try with_reducible rfl)
  (try simp only [Act.put])
  refine wpAnyH_take (i := 4) (oi := _) (v := ?_) rfl (by kernel_rfl) (by kernel_rfl) (by kernel_rfl) (fun _ _ _ h => h) (Or.inl ⟨by rfl, ?_⟩) hHeld ?_
  rotate_left
  · intro W hSw
    obtain ⟨s0, s1, s2, s3, s4, s5, s6, s7, s8, s9, s10, s11⟩ := hSw
    go_simp
    (try with_reducible rfl)
  (try simp only [Act.put])
  refine wpAnyH_ready (rs := [2]) (by kernel_rfl) (by simp) ?_
  refine AllReadyH.cons (o := _) rfl (fun K hK => ?_) AllReadyH.nil
  go_simp
  go_at_call 60; refine (CW.out _).mono ?_; rintro r x1 ⟨rfl, b1⟩; have Q1 := hid (Q0.out.later b1); clear b1
  refine hK.out _ _ (PR.out _ _ Q1.out) (fun hHeld => ?_)
  clear hK K
  (try simp only [Act.put, List.setIfInBounds_toArray, List.set_cons_zero, List.set_cons_succ])
  refine wpAnyH_ready (rs := [5]) (by kernel_rfl) (by simp) ?_
  refine AllReadyH.cons (o := _) rfl (fun K hK => ?_) AllReadyH.nil
  go_simp
  go_at_call 43; refine (CD_a.out _).mono ?_; rintro r x2 ⟨rfl, b2⟩; have Q2 := hid (Q1.out.later b2); clear b2
  refine hK.out _ _ (PR.out _ _ Q2.out) (fun hHeld => ?_)
  clear hK K
  (try simp only [Act.put, List.setIfInBounds_toArray, List.set_cons_zero, List.set_cons_succ])
  have Q3 : Hid (All (ownC 9 (.slice (some ⟨x2.heap.size, 0, none⟩) 2 2) (txW [wordN e.k, Lib.itoa e.a]) :: blkC w.heap.size EC 36 :: cs) (x2.alloc (.cells #[.string ⟨(wordN e.k).toArray⟩, .string ⟨(Lib.itoa e.a).toArray⟩] 9))) := hid (own_new Q2.out [wordN e.k, Lib.itoa e.a] (by simp))
  refine wpAnyH_ready (rs := [6]) (by kernel_rfl) (by simp) ?_
  refine AllReadyH.cons (o := _) rfl (fun K hK => ?_) AllReadyH.nil
  go_simp
  skip
  refine hK.out _ _ (PR.out _ _ Q3.out.swap) (fun hHeld => ?_)
  clear hK K
  (try simp only [Act.put, List.setIfInBounds_toArray, List.set_cons_zero, List.set_cons_succ])
  refine wpAnyH_ready (rs := [7]) (by kernel_rfl) (by simp) ?_
  refine AllReadyH.cons (o := _) rfl (fun K hK => ?_) AllReadyH.nil
  go_simp
  skip
  refine hK.out _ _ (PR.out _ _ Q3.out.swap) (fun hHeld => ?_)
  clear hK K
  (try simp only [Act.put, List.setIfInBounds_toArray, List.set_cons_zero, List.set_cons_succ])
  refine wpAnyH_done (by kernel_rfl) ?_ _
  clear hHeld
  generalize x2.alloc (.cells #[.string ⟨(wordN e.k).toArray⟩, .string ⟨(Lib.itoa e.a).toArray⟩] 9) = w3 at *
  generalize x2.heap.size = G2 at *
  obtain ⟨z0, z1, z2, z3, z4, z5, z6, z7, z8, z9, z10, z11⟩ := PR.out _ _ Q3.out.swap
  have hk := HKK.out
  rw [hk] at z0
  go_upto_region 25 with (first | (go_at_call 43; refine (CD_nb.out _).mono ?_; rintro r x3 ⟨rfl, b3⟩; obtain ⟨ao6, c6, w6a, hr6, A6⟩ := appR (own_new (Q3.out.later b3) [Lib.itoa e.nb] (by simp)).swap (rt_own (own_new (Q3.out.later b3) [Lib.itoa e.nb] (by simp))) (Nat.le_of_ble_eq_true rfl); have R6 := hid hr6; have Q6 := hid A6.swap.tail; clear b3 hr6 A6) | (at_builtin; refine wpList_append_run rfl _ _ 27 rfl _ _ _ _ rfl rfl R6.out ?_))
  have HB5 := hid (HBB.out _ _ Q6.out.swap)
  have CO5 := hid (CO.out _ _ Q6.out)
  go_upto_region 26 with (first | (refine wpList_load_row rfl 36 _ rfl w.heap.size rfl 36 EC.toArray (0, 0) _ HB5.out Tryz.underlying36 rfl I36.out ?_) | (go_at_call 63; refine CO5.out.mono ?_; rintro r w5 ⟨rfl, B5⟩; have K5 := hid B5; clear B5) | (refine wpList_store_row rfl 24 _ _ rfl w5.heap.size OLL.toArray rfl rfl 24 _ (heap_alloc_new w5 _) IO.out ZO.out OO1.out ?_; rw [World.setRow_alloc_new]))
  have K6 := hid (K5.out.addBlk OLL 24)
  generalize w5.alloc (.cells OLL.toArray 24) = w6 at *
  generalize w5.heap.size = G5 at *
  have HB6 := hid (K6.out.blk (g := G5) (vs := OLL) (t := 24) (List.mem_cons_self))
  have CR6 := hid (CR.out _ _ K6.out)
  unfold WRPost at CR6
  by_cases hX : XO = 0
  rotate_left
  · have FE := hid ((FK2.out hk).1 hX)
    have hx' : (XO != 0) = true := by simpa using hX
    clear hX
    go_wp2_with (first | (refine wpList_load_row rfl 24 _ rfl G5 rfl 24 OLL.toArray (0, 0) _ HB6.out Tryz.underlying24 rfl IO.out ?_) | (go_at_call 64; refine CR6.out.mono ?_; rintro r w7 ⟨v7, rfl, B7⟩; have K7 := hid B7; clear B7))
    go_ret2
    exact ⟨_, by rw [FE.out.1]; rfl, by rw [FE.out.2]; exact All.addNil K7.out.tail.tail.tail.tail⟩
  have FE := hid ((FK2.out hk).2 hX)
  rw [hX] at CR6
  clear hX
  go_upto_region 30 with (first | (refine wpList_load_row rfl 24 _ rfl G5 rfl 24 OLL.toArray (0, 0) _ HB6.out Tryz.underlying24 rfl IO.out ?_) | (go_at_call 64; refine CR6.out.mono ?_; rintro r w7 ⟨v7, rfl, B7⟩; have K7 := hid B7; clear B7))
  have P7 := hid (K7.out.perm ((List.Perm.swap _ _ _).trans ((List.Perm.cons _ (List.Perm.swap _ _ _)).trans (List.Perm.swap _ _ _))))
  obtain ⟨ao9, c9, w9, hr9, A9⟩ := appR P7.out (rt_own K7.out) (by have := HO4.out; simp only [List.length_append, List.length_cons, List.length_nil]; omega)
  have R9 := hid hr9
  have K9 := hid A9.swap.tail.swap.tail
  clear hr9 A9
  obtain ⟨y0, y1, y2, y3, y4, y5, y6, y7, y8, y9, y10, y11⟩ := PR.out _ _ K9.out.swap
  rw [hk] at y0
  go_wp2_with (at_builtin; refine wpList_append_run rfl _ _ 27 rfl _ _ _ _ rfl rfl R9.out ?_)
  go_ret2
  exact ⟨_, by rw [FE.out.1]; rfl, by rw [FE.out.2]; exact K9.out.swap.tail⟩
end Go.Proofs.YtfeppannfcbakaaGreatDoor

namespace Go.Proofs.YtfeppannfcbakaaGreatDoor
open Go.RowKit
set_option linter.unusedVariables false
set_option maxRecDepth 100000
set_option maxHeartbeats 12800000 in
set_option maxRecDepth 1000000 in
theorem rWords_3 (e : Ev) {items : Ws} {data : List UInt8} {cs : List Comp} {w : World} (hR : e.Rg) (hd : data.length = e.dik) (hil : items.length ≤ 140737488355328) (hI : ∀ W, All cs W → Rt W (.slice e.ria e.rik e.ric) items) (hD : ∀ W, All cs W → BRd W (.slice e.dia e.dik e.dic) data) (A : All cs w) (hF : e.inForm = true) (hk : e.k = 3) :
    Calls Tryz.prog 30 #[.agg e.cells.toArray] w (WRPost (if e.err items = 0 then e.words items data else []) (e.err items) cs) := by
  generalize hWD : (if e.err items = 0 then e.words items data else []) = WD
  generalize hER : e.err items = ER at *
  have HWD := hid hWD
  have HER := hid hER
  clear hWD hER
  have A0 := hid (A.addBlk e.cells 36)
  have CP := hid (rplain_any e A0.out)
  have I36 : Hid ((Tryz.prog.info? 36).map (·.size) = some e.cells.toArray.size) := hid (by kernel_rfl)
  unfold WRPost
  have H0 := ok0_of hF
  rw [hF] at CP
  have HEK : Hid (ER = ersL (er1 e.cells items) (kindT e.k)) := hid (by rw [← HER.out]; unfold Ev.err; rw [if_neg (by simp [hF])])
  have CW := hid (fun W => word_any e.k W)
  have PR : Hid (∀ W ds, All (blkC w.heap.size e.cells 36 :: ds) W → W.cell? ⟨w.heap.size, 0, none⟩ = some (.int .i64 e.k) ∧ W.cell? ⟨w.heap.size, 1, none⟩ = some (.int .i64 e.a) ∧ W.cell? ⟨w.heap.size, 2, none⟩ = some (.int .i64 e.nb) ∧ W.cell? ⟨w.heap.size, 3, none⟩ = some (.int .i64 e.nm) ∧ W.cell? ⟨w.heap.size, 4, none⟩ = some (.int .i64 e.wh) ∧ W.cell? ⟨w.heap.size, 5, none⟩ = some (.int .i64 e.cd) ∧ W.cell? ⟨w.heap.size, 12, none⟩ = some (.int .i64 e.ec) ∧ W.cell? ⟨w.heap.size, 13, none⟩ = some (.int .i64 e.en) ∧ W.cell? ⟨w.heap.size, 30, none⟩ = some (.int .i64 e.sn) ∧ W.cell? ⟨w.heap.size, 31, none⟩ = some (.int .i64 e.sa) ∧ W.cell? ⟨w.heap.size, 6, none⟩ = some (.bool e.fr) ∧ W.cell? ⟨w.heap.size, 32, none⟩ = some (.slice e.dia e.dik e.dic)) := hid (fun W ds h => ⟨cell_in h (List.mem_cons_self) rfl, cell_in h (List.mem_cons_self) rfl, cell_in h (List.mem_cons_self) rfl, cell_in h (List.mem_cons_self) rfl, cell_in h (List.mem_cons_self) rfl, cell_in h (List.mem_cons_self) rfl, cell_in h (List.mem_cons_self) rfl, cell_in h (List.mem_cons_self) rfl, cell_in h (List.mem_cons_self) rfl, cell_in h (List.mem_cons_self) rfl, cell_in h (List.mem_cons_self) rfl, cell_in h (List.mem_cons_self) rfl⟩)
  have HBB : Hid (∀ W ds, All (blkC w.heap.size e.cells 36 :: ds) W → W.heap[w.heap.size]? = some (.cells e.cells.toArray 36 (0, 0))) := hid (fun W ds h => h.blk (List.mem_cons_self))
  have CD_a := hid (fun W => Dig_any H0.a hR.a W)
  have CD_nb := hid (fun W => Dig_any H0.nb hR.nb W)
  have CD_wh := hid (fun W => Dig_any H0.wh hR.wh W)
  have CO := hid (fun (ds : List Comp) W (h : All ds W) => opOf_any e h)
  have CR : Hid (∀ (ds : List Comp) W, All ds W → Calls Tryz.prog 64 #[.agg e.opL.toArray] W (WRPost (opA e.ok e.onm e.otx e.on e.om) (chkO e.ok e.onm e.otx e.on e.om) ds)) := hid (fun ds W h => rOp_any (k := e.ok) (nm := e.onm) (tx := e.otx) (n := e.on) (m := e.om) h)
  have HO4 := hid (opA_len e.ok e.on e.om e.onm e.otx)
  generalize hXO : chkO e.ok e.onm e.otx e.on e.om = XO at *
  generalize hOW : opA e.ok e.onm e.otx e.on e.om = OPW at *
  have HXO := hid hXO
  have HOW := hid hOW
  clear hXO hOW
  have FK3 : Hid (e.k = 3 → (XO ≠ 0 → ER = XO ∧ WD = []) ∧ (XO = 0 → ER = 0 ∧ WD = [wordN e.k, Lib.itoa e.a] ++ [Lib.itoa e.nb, Lib.itoa e.wh] ++ OPW)) := hid (fun hk => by
    have hK : kindT e.k = [.int 1, .int 2, .int 4, .op 7] := by rw [hk]; rfl
    have hE1 : ER = if XO ≠ 0 then XO else 0 := by rw [HEK.out, hK, ← HXO.out]; rfl
    refine ⟨fun hx => ?_, fun hx => ?_⟩
    · rw [if_pos hx] at hE1
      refine ⟨hE1, ?_⟩
      rw [← HWD.out, if_neg (by rw [hE1]; exact hx)]
    · rw [if_neg (by simp [hx])] at hE1
      refine ⟨hE1, ?_⟩
      rw [← HWD.out, if_pos hE1]
      unfold Ev.words
      rw [hK]
      have e9 : kdN.getD e.k.toNat [] = wordN e.k := by rw [hk]; rfl
      rw [e9, ← HOW.out]
      simp [wdT, wd1]
      first | exact ⟨rfl, rfl, rfl, rfl⟩ | exact ⟨rfl, rfl, rfl⟩)
  have IO : Hid ((Tryz.prog.info? 24).map (·.size) = some e.opL.toArray.size) := hid (by kernel_rfl)
  have ZO : Hid (zoL.toArray.size = e.opL.toArray.size) := hid rfl
  have OO1 : Hid (e.opL.toArray.all (·.oneCell') = true) := hid (by kernel_rfl)
  have OLL0 : Hid ((if e.k = 6 then e.enL else e.opL) = e.opL ∧ decide (e.k = 6 ∨ e.k = 2 ∨ e.k = 3) = true) := hid ⟨by rw [hk]; rfl, by rw [hk]; rfl⟩
  rw [OLL0.out.1, OLL0.out.2] at CO
  clear OLL0
  have HKK := hid hk
  clear hI hD hR hd hil A H0 hF hk HEK
  generalize e.opL = OLL at *
  generalize e.cells = EC at *
  go_enter Tryz.func30, Tryz.ntmps30
  go_upto_region 1 with fail
  generalize w.alloc (.cells EC.toArray 36) = w0 at *
  have HB := hid (HBB.out _ _ A0.out)
  go_upto_region 3 with (first | (refine wpList_load_row rfl 36 _ rfl w.heap.size rfl 36 EC.toArray (0, 0) _ HB.out Tryz.underlying36 rfl I36.out ?_) | (go_at_call 59; refine CP.out.mono ?_; rintro r w1 ⟨rfl, B1⟩; have K1 := hid B1; clear B1))
  have Q0 := hid K1.out.drew
  refine wp_region_held_drew (S := (fun W => W.cell? ⟨w.heap.size, 0, none⟩ = some (.int .i64 e.k) ∧ W.cell? ⟨w.heap.size, 1, none⟩ = some (.int .i64 e.a) ∧ W.cell? ⟨w.heap.size, 2, none⟩ = some (.int .i64 e.nb) ∧ W.cell? ⟨w.heap.size, 3, none⟩ = some (.int .i64 e.nm) ∧ W.cell? ⟨w.heap.size, 4, none⟩ = some (.int .i64 e.wh) ∧ W.cell? ⟨w.heap.size, 5, none⟩ = some (.int .i64 e.cd) ∧ W.cell? ⟨w.heap.size, 12, none⟩ = some (.int .i64 e.ec) ∧ W.cell? ⟨w.heap.size, 13, none⟩ = some (.int .i64 e.en) ∧ W.cell? ⟨w.heap.size, 30, none⟩ = some (.int .i64 e.sn) ∧ W.cell? ⟨w.heap.size, 31, none⟩ = some (.int .i64 e.sa) ∧ W.cell? ⟨w.heap.size, 6, none⟩ = some (.bool e.fr) ∧ W.cell? ⟨w.heap.size, 32, none⟩ = some (.slice e.dia e.dik e.dic))) (by kernel_rfl) (PR.out _ _ Q0.out) (fun hHeld => ?_)
  generalize World.drew _ = wd at *
  refine wpAnyH_take (i := 0) (oi := _) (v := ?_) rfl (by kernel_rfl) (by kernel_rfl) (by kernel_rfl) (fun _ _ _ h => h) (Or.inl ⟨by rfl, ?_⟩) hHeld ?_
  rotate_left
  · intro W hSw
    obtain ⟨s0, s1, s2, s3, s4, s5, s6, s7, s8, s9, s10, s11⟩ := hSw
    go_simp
    (try with_reducible rfl)
  (try simp only [Act.put, List.setIfInBounds_toArray])
  refine wpAnyH_take (i := 1) (oi := _) (v := ?_) rfl (by kernel_rfl) (by kernel_rfl) (by kernel_rfl) (fun _ _ _ h => h) (Or.inl ⟨by rfl, ?_⟩) hHeld ?_
  rotate_left
  · intro W hSw
    obtain ⟨s0, s1, s2, s3, s4, s5, s6, s7, s8, s9, s10, s11⟩ := hSw
    go_simp
    (try with_reducible rfl)
  (try simp only [Act.put])
  refine wpAnyH_take (i := 3) (oi := _) (v := ?_) rfl (by kernel_rfl) (by kernel_rfl) (by kernel_rfl) (fun _ _ _ h => h) (Or.inl ⟨by rfl, ?_⟩) hHeld ?_
  rotate_left
  · intro W hSw
    obtain ⟨s0, s1, s2, s3, s4, s5, s6, s7, s8, s9, s10, s11⟩ := hSw
    go_simp
    (try with_reducible rfl)
  (try simp only [Act.put])
  refine wpAnyH_take (i := 4) (oi := _) (v := ?_) rfl (by kernel_rfl) (by kernel_rfl) (by kernel_rfl) (fun _ _ _ h => h) (Or.inl ⟨by rfl, ?_⟩) hHeld ?_
  rotate_left
  · intro W hSw
    obtain ⟨s0, s1, s2, s3, s4, s5, s6, s7, s8, s9, s10, s11⟩ := hSw
    go_simp
    (try with_reducible rfl)
  (try simp only [Act.put])
  refine wpAnyH_ready (rs := [2]) (by kernel_rfl) (by simp) ?_
  refine AllReadyH.cons (o := _) rfl (fun K hK => ?_) AllReadyH.nil
  go_simp
  go_at_call 60; refine (CW.out _).mono ?_; rintro r x1 ⟨rfl, b1⟩; have Q1 := hid (Q0.out.later b1); clear b1
  refine hK.out _ _ (PR.out _ _ Q1.out) (fun hHeld => ?_)
  clear hK K
  (try simp only [Act.put, List.setIfInBounds_toArray, List.set_cons_zero, List.set_cons_succ])
  refine wpAnyH_ready (rs := [5]) (by kernel_rfl) (by simp) ?_
  refine AllReadyH.cons (o := _) rfl (fun K hK => ?_) AllReadyH.nil
  go_simp
  go_at_call 43; refine (CD_a.out _).mono ?_; rintro r x2 ⟨rfl, b2⟩; have Q2 := hid (Q1.out.later b2); clear b2
  refine hK.out _ _ (PR.out _ _ Q2.out) (fun hHeld => ?_)
  clear hK K
  (try simp only [Act.put, List.setIfInBounds_toArray, List.set_cons_zero, List.set_cons_succ])
  have Q3 : Hid (All (ownC 9 (.slice (some ⟨x2.heap.size, 0, none⟩) 2 2) (txW [wordN e.k, Lib.itoa e.a]) :: blkC w.heap.size EC 36 :: cs) (x2.alloc (.cells #[.string ⟨(wordN e.k).toArray⟩, .string ⟨(Lib.itoa e.a).toArray⟩] 9))) := hid (own_new Q2.out [wordN e.k, Lib.itoa e.a] (by simp))
  refine wpAnyH_ready (rs := [6]) (by kernel_rfl) (by simp) ?_
  refine AllReadyH.cons (o := _) rfl (fun K hK => ?_) AllReadyH.nil
  go_simp
  skip
  refine hK.out _ _ (PR.out _ _ Q3.out.swap) (fun hHeld => ?_)
  clear hK K
  (try simp only [Act.put, List.setIfInBounds_toArray, List.set_cons_zero, List.set_cons_succ])
  refine wpAnyH_ready (rs := [7]) (by kernel_rfl) (by simp) ?_
  refine AllReadyH.cons (o := _) rfl (fun K hK => ?_) AllReadyH.nil
  go_simp
  skip
  refine hK.out _ _ (PR.out _ _ Q3.out.swap) (fun hHeld => ?_)
  clear hK K
  (try simp only [Act.put, List.setIfInBounds_toArray, List.set_cons_zero, List.set_cons_succ])
  refine wpAnyH_done (by kernel_rfl) ?_ _
  clear hHeld
  generalize x2.alloc (.cells #[.string ⟨(wordN e.k).toArray⟩, .string ⟨(Lib.itoa e.a).toArray⟩] 9) = w3 at *
  generalize x2.heap.size = G2 at *
  obtain ⟨z0, z1, z2, z3, z4, z5, z6, z7, z8, z9, z10, z11⟩ := PR.out _ _ Q3.out.swap
  have hk := HKK.out
  rw [hk] at z0
  go_upto_region 10 with fail
  have D0 := hid Q3.out.drew
  refine wp_region_held_drew (S := (fun W => W.cell? ⟨w.heap.size, 0, none⟩ = some (.int .i64 e.k) ∧ W.cell? ⟨w.heap.size, 1, none⟩ = some (.int .i64 e.a) ∧ W.cell? ⟨w.heap.size, 2, none⟩ = some (.int .i64 e.nb) ∧ W.cell? ⟨w.heap.size, 3, none⟩ = some (.int .i64 e.nm) ∧ W.cell? ⟨w.heap.size, 4, none⟩ = some (.int .i64 e.wh) ∧ W.cell? ⟨w.heap.size, 5, none⟩ = some (.int .i64 e.cd) ∧ W.cell? ⟨w.heap.size, 12, none⟩ = some (.int .i64 e.ec) ∧ W.cell? ⟨w.heap.size, 13, none⟩ = some (.int .i64 e.en) ∧ W.cell? ⟨w.heap.size, 30, none⟩ = some (.int .i64 e.sn) ∧ W.cell? ⟨w.heap.size, 31, none⟩ = some (.int .i64 e.sa) ∧ W.cell? ⟨w.heap.size, 6, none⟩ = some (.bool e.fr) ∧ W.cell? ⟨w.heap.size, 32, none⟩ = some (.slice e.dia e.dik e.dic))) (by kernel_rfl) (PR.out _ _ D0.out.swap) (fun hHeld => ?_)
  generalize World.drew _ = wd3 at *
  refine wpAnyH_take (i := 0) (oi := _) (v := ?_) rfl (by kernel_rfl) (by kernel_rfl) (by kernel_rfl) (fun _ _ _ h => h) (Or.inl ⟨by rfl, ?_⟩) hHeld ?_
  rotate_left
  · intro W hSw
    obtain ⟨s0, s1, s2, s3, s4, s5, s6, s7, s8, s9, s10, s11⟩ := hSw
    go_simp
    (try with_reducible rfl)
  (try simp only [Act.put, List.setIfInBounds_toArray])
  refine wpAnyH_take (i := 1) (oi := _) (v := ?_) rfl (by kernel_rfl) (by kernel_rfl) (by kernel_rfl) (fun _ _ _ h => h) (Or.inl ⟨by rfl, ?_⟩) hHeld ?_
  rotate_left
  · intro W hSw
    obtain ⟨s0, s1, s2, s3, s4, s5, s6, s7, s8, s9, s10, s11⟩ := hSw
    go_simp
    (try with_reducible rfl)
  (try simp only [Act.put])
  refine wpAnyH_take (i := 2) (oi := _) (v := ?_) rfl (by kernel_rfl) (by kernel_rfl) (by kernel_rfl) (fun _ _ _ h => h) (Or.inl ⟨by rfl, ?_⟩) hHeld ?_
  rotate_left
  · intro W hSw
    obtain ⟨s0, s1, s2, s3, s4, s5, s6, s7, s8, s9, s10, s11⟩ := hSw
    go_simp
    (try with_reducible rfl)
  (try simp only [Act.put])
  refine wpAnyH_take (i := 4) (oi := _) (v := ?_) rfl (by kernel_rfl) (by kernel_rfl) (by kernel_rfl) (fun _ _ _ h => h) (Or.inl ⟨by rfl, ?_⟩) hHeld ?_
  rotate_left
  · intro W hSw
    obtain ⟨s0, s1, s2, s3, s4, s5, s6, s7, s8, s9, s10, s11⟩ := hSw
    go_simp
    (try with_reducible rfl)
  (try simp only [Act.put])
  refine wpAnyH_take (i := 5) (oi := _) (v := ?_) rfl (by kernel_rfl) (by kernel_rfl) (by kernel_rfl) (fun _ _ _ h => h) (Or.inl ⟨by rfl, ?_⟩) hHeld ?_
  rotate_left
  · intro W hSw
    obtain ⟨s0, s1, s2, s3, s4, s5, s6, s7, s8, s9, s10, s11⟩ := hSw
    go_simp
    (try with_reducible rfl)
  (try simp only [Act.put])
  refine wpAnyH_ready (rs := [3]) (by kernel_rfl) (by simp) ?_
  refine AllReadyH.cons (o := _) rfl (fun K hK => ?_) AllReadyH.nil
  go_simp
  go_at_call 43; refine (CD_nb.out _).mono ?_; rintro r y0 ⟨rfl, b0⟩; have D1 := hid (D0.out.later b0); clear b0
  refine hK.out _ _ (PR.out _ _ D1.out.swap) (fun hHeld => ?_)
  clear hK K
  (try simp only [Act.put, List.setIfInBounds_toArray, List.set_cons_zero, List.set_cons_succ])
  refine wpAnyH_ready (rs := [6]) (by kernel_rfl) (by simp) ?_
  refine AllReadyH.cons (o := _) rfl (fun K hK => ?_) AllReadyH.nil
  go_simp
  go_at_call 43; refine (CD_wh.out _).mono ?_; rintro r y1 ⟨rfl, b1⟩; have D2 := hid (D1.out.later b1); clear b1
  refine hK.out _ _ (PR.out _ _ D2.out.swap) (fun hHeld => ?_)
  clear hK K
  (try simp only [Act.put, List.setIfInBounds_toArray, List.set_cons_zero, List.set_cons_succ])
  have N6 := hid (own_new D2.out [Lib.itoa e.nb, Lib.itoa e.wh] (by simp))
  obtain ⟨ao6, c6, w6a, hr6, A6⟩ := appR N6.out.swap (rt_own N6.out) (Nat.le_of_ble_eq_true rfl)
  have R6 := hid hr6
  have Q6 := hid A6.swap.tail
  clear hr6 A6
  refine wpAnyH_ready (rs := [7]) (by kernel_rfl) (by simp) ?_
  refine AllReadyH.cons (o := _) rfl (fun K hK => ?_) AllReadyH.nil
  go_simp
  skip
  refine hK.out _ _ (PR.out _ _ (N6.out.swap.tail.swap)) (fun hHeld => ?_)
  clear hK K
  (try simp only [Act.put, List.setIfInBounds_toArray, List.set_cons_zero, List.set_cons_succ])
  refine wpAnyH_ready (rs := [8]) (by kernel_rfl) (by simp) ?_
  refine AllReadyH.cons (o := _) rfl (fun K hK => ?_) AllReadyH.nil
  refine step_append_run (by rfl) (.tmp 42) (.tmp 49) 27 (by rfl) _ _ _ _ (by rfl) (by rfl) R6.out ?_
  refine hK.out _ _ (PR.out _ _ Q6.out.swap) (fun hHeld => ?_)
  clear hK K
  (try simp only [Act.put, List.setIfInBounds_toArray])
  refine wpAnyH_ready (rs := [9]) (by kernel_rfl) (by simp) ?_
  refine AllReadyH.cons (o := _) rfl (fun K hK => ?_) AllReadyH.nil
  go_simp
  skip
  refine hK.out _ _ (PR.out _ _ Q6.out.swap) (fun hHeld => ?_)
  clear hK K
  (try simp only [Act.put, List.setIfInBounds_toArray, List.set_cons_zero, List.set_cons_succ])
  refine wpAnyH_done (by kernel_rfl) ?_ _
  clear hHeld
  go_upto_region 25 with fail
  have HB5 := hid (HBB.out _ _ Q6.out.swap)
  have CO5 := hid (CO.out _ _ Q6.out)
  go_upto_region 26 with (first | (refine wpList_load_row rfl 36 _ rfl w.heap.size rfl 36 EC.toArray (0, 0) _ HB5.out Tryz.underlying36 rfl I36.out ?_) | (go_at_call 63; refine CO5.out.mono ?_; rintro r w5 ⟨rfl, B5⟩; have K5 := hid B5; clear B5) | (refine wpList_store_row rfl 24 _ _ rfl w5.heap.size OLL.toArray rfl rfl 24 _ (heap_alloc_new w5 _) IO.out ZO.out OO1.out ?_; rw [World.setRow_alloc_new]))
  have K6 := hid (K5.out.addBlk OLL 24)
  generalize w5.alloc (.cells OLL.toArray 24) = w6 at *
  generalize w5.heap.size = G5 at *
  have HB6 := hid (K6.out.blk (g := G5) (vs := OLL) (t := 24) (List.mem_cons_self))
  have CR6 := hid (CR.out _ _ K6.out)
  unfold WRPost at CR6
  by_cases hX : XO = 0
  rotate_left
  · have FE := hid ((FK3.out hk).1 hX)
    have hx' : (XO != 0) = true := by simpa using hX
    clear hX
    go_wp2_with (first | (refine wpList_load_row rfl 24 _ rfl G5 rfl 24 OLL.toArray (0, 0) _ HB6.out Tryz.underlying24 rfl IO.out ?_) | (go_at_call 64; refine CR6.out.mono ?_; rintro r w7 ⟨v7, rfl, B7⟩; have K7 := hid B7; clear B7))
    go_ret2
    exact ⟨_, by rw [FE.out.1]; rfl, by rw [FE.out.2]; exact All.addNil K7.out.tail.tail.tail.tail⟩
  have FE := hid ((FK3.out hk).2 hX)
  rw [hX] at CR6
  clear hX
  go_upto_region 30 with (first | (refine wpList_load_row rfl 24 _ rfl G5 rfl 24 OLL.toArray (0, 0) _ HB6.out Tryz.underlying24 rfl IO.out ?_) | (go_at_call 64; refine CR6.out.mono ?_; rintro r w7 ⟨v7, rfl, B7⟩; have K7 := hid B7; clear B7))
  have P7 := hid (K7.out.perm ((List.Perm.swap _ _ _).trans ((List.Perm.cons _ (List.Perm.swap _ _ _)).trans (List.Perm.swap _ _ _))))
  obtain ⟨ao9, c9, w9, hr9, A9⟩ := appR P7.out (rt_own K7.out) (by have := HO4.out; simp only [List.length_append, List.length_cons, List.length_nil]; omega)
  have R9 := hid hr9
  have K9 := hid A9.swap.tail.swap.tail
  clear hr9 A9
  obtain ⟨y0, y1, y2, y3, y4, y5, y6, y7, y8, y9, y10, y11⟩ := PR.out _ _ K9.out.swap
  rw [hk] at y0
  go_wp2_with (at_builtin; refine wpList_append_run rfl _ _ 27 rfl _ _ _ _ rfl rfl R9.out ?_)
  go_ret2
  exact ⟨_, by rw [FE.out.1]; rfl, by rw [FE.out.2]; exact K9.out.swap.tail⟩
end Go.Proofs.YtfeppannfcbakaaGreatDoor
