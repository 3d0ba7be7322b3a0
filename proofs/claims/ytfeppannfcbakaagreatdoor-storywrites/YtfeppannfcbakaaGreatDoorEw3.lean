import Derived.Test.YtfeppannfcbakaaGreatDoorEw2
namespace Go.Proofs.YtfeppannfcbakaaGreatDoor
open Go.RowKit
set_option linter.unusedVariables false
set_option maxRecDepth 100000

theorem str_no {x : List UInt8} (h : ¬ x = []) : ((⟨x.toArray⟩ : ByteArray).toList != (⟨#[]⟩ : ByteArray).toList) = true ∧ ((⟨x.toArray⟩ : ByteArray).toList != []) = true := by
  have e : ((⟨#[]⟩ : ByteArray).toList : List UInt8) = [] := by rw [Lib.toList_data]
  have e2 : (⟨x.toArray⟩ : ByteArray).toList = x := by rw [Lib.toList_data]
  rw [e, e2]
  simpa using h
theorem str_ie {x : List UInt8} (h : ¬ x = []) : (⟨x.toArray⟩ : ByteArray).toList.isEmpty = false := by
  rw [Lib.toList_data]
  cases x with
  | nil => exact absurd rfl h
  | cons a r => rfl
set_option maxHeartbeats 12800000 in
set_option maxRecDepth 1000000 in
theorem clear_any (e : Ev) (w : World) : Calls Tryz.prog 94 #[.agg e.cells.toArray] w fun r w' => r = .returned (.bool e.empty) ∧ Below w.heap.size w w' := by
  have A0 := hid ((All.came w).addBlk e.cells 36)
  have I24 : Hid ((Tryz.prog.info? 24).map (·.size) = some 5) := hid (by kernel_rfl)
  have I31 : Hid ((Tryz.prog.info? 31).map (·.size) = some 8) := hid (by kernel_rfl)
  have RO : Hid (∀ (cs : List Comp) W, All cs W → blkC w.heap.size e.cells 36 ∈ cs → W.rangeAt w.heap.size 7 [.int .i64 e.ok, .string ⟨e.onm.toArray⟩, .string ⟨e.otx.toArray⟩, .int .i64 e.on, .int .i64 e.om]) := hid (fun cs W h hm => range_in h hm (fun j v hv => by
    have hj : j < 5 := (List.getElem?_eq_some_iff.1 hv).1
    obtain rfl | rfl | rfl | rfl | rfl : j = 0 ∨ j = 1 ∨ j = 2 ∨ j = 3 ∨ j = 4 := by omega
    all_goals exact hv))
  have RP : Hid (∀ (cs : List Comp) W, All cs W → blkC w.heap.size e.cells 36 ∈ cs → W.rangeAt w.heap.size 14 [.int .i64 e.pk, .string ⟨e.pnm.toArray⟩, .string ⟨e.ptx.toArray⟩, .int .i64 e.pn, .int .i64 e.pm]) := hid (fun cs W h hm => range_in h hm (fun j v hv => by
    have hj : j < 5 := (List.getElem?_eq_some_iff.1 hv).1
    obtain rfl | rfl | rfl | rfl | rfl : j = 0 ∨ j = 1 ∨ j = 2 ∨ j = 3 ∨ j = 4 := by omega
    all_goals exact hv))
  have RL : Hid (∀ (cs : List Comp) W, All cs W → blkC w.heap.size e.cells 36 ∈ cs → W.rangeAt w.heap.size 22 [.int .i64 e.l0, .int .i64 e.l1, .int .i64 e.l2, .int .i64 e.l3, .int .i64 e.l4, .int .i64 e.l5, .int .i64 e.l6, .int .i64 e.l7]) := hid (fun cs W h hm => range_in h hm (fun j v hv => by
    have hj : j < 8 := (List.getElem?_eq_some_iff.1 hv).1
    obtain rfl | rfl | rfl | rfl | rfl | rfl | rfl | rfl : j = 0 ∨ j = 1 ∨ j = 2 ∨ j = 3 ∨ j = 4 ∨ j = 5 ∨ j = 6 ∨ j = 7 := by omega
    all_goals exact hv))
  go_enter Tryz.func94, Tryz.ntmps94
  go_upto_region 1 with fail
  generalize w.alloc (.cells e.cells.toArray 36) = w0 at *
  have c_a := cell_in (P := w.heap.size) (o := 1) (v := .int .i64 e.a) A0.out (List.mem_cons_self) rfl
  have c_nb := cell_in (P := w.heap.size) (o := 2) (v := .int .i64 e.nb) A0.out (List.mem_cons_self) rfl
  have c_nm := cell_in (P := w.heap.size) (o := 3) (v := .int .i64 e.nm) A0.out (List.mem_cons_self) rfl
  have c_wh := cell_in (P := w.heap.size) (o := 4) (v := .int .i64 e.wh) A0.out (List.mem_cons_self) rfl
  have c_cd := cell_in (P := w.heap.size) (o := 5) (v := .int .i64 e.cd) A0.out (List.mem_cons_self) rfl
  have c_fr := cell_in (P := w.heap.size) (o := 6) (v := .bool e.fr) A0.out (List.mem_cons_self) rfl
  by_cases h_a : e.a = 0
  rotate_left
  · as_aux_lemma =>
      have EE : Hid (e.empty = false) := hid (by simp [Ev.empty, Ev.z_a, h_a])
      have hx : (e.a != 0) = true := by simpa using h_a
      clear h_a
      have KF := hid (A0.out.into (w0 := w) (by simp))
      clear RO RP RL I24 I31
      go_wp2
      go_ret
      exact ⟨by rw [EE.out]; rfl, KF.out⟩
  rw [h_a] at c_a
  by_cases h_nb : e.nb = 0
  rotate_left
  · as_aux_lemma =>
      have EE : Hid (e.empty = false) := hid (by simp [Ev.empty, Ev.z_nb, h_nb])
      have hx : (e.nb != 0) = true := by simpa using h_nb
      clear h_nb
      have KF := hid (A0.out.into (w0 := w) (by simp))
      clear RO RP RL I24 I31
      go_wp2
      go_ret
      exact ⟨by rw [EE.out]; rfl, KF.out⟩
  rw [h_nb] at c_nb
  by_cases h_nm : e.nm = 0
  rotate_left
  · as_aux_lemma =>
      have EE : Hid (e.empty = false) := hid (by simp [Ev.empty, Ev.z_nm, h_nm])
      have hx : (e.nm != 0) = true := by simpa using h_nm
      clear h_nm
      have KF := hid (A0.out.into (w0 := w) (by simp))
      clear RO RP RL I24 I31
      go_wp2
      go_ret
      exact ⟨by rw [EE.out]; rfl, KF.out⟩
  rw [h_nm] at c_nm
  by_cases h_wh : e.wh = 0
  rotate_left
  · as_aux_lemma =>
      have EE : Hid (e.empty = false) := hid (by simp [Ev.empty, Ev.z_wh, h_wh])
      have hx : (e.wh != 0) = true := by simpa using h_wh
      clear h_wh
      have KF := hid (A0.out.into (w0 := w) (by simp))
      clear RO RP RL I24 I31
      go_wp2
      go_ret
      exact ⟨by rw [EE.out]; rfl, KF.out⟩
  rw [h_wh] at c_wh
  by_cases h_cd : e.cd = 0
  rotate_left
  · as_aux_lemma =>
      have EE : Hid (e.empty = false) := hid (by simp [Ev.empty, Ev.z_cd, h_cd])
      have hx : (e.cd != 0) = true := by simpa using h_cd
      clear h_cd
      have KF := hid (A0.out.into (w0 := w) (by simp))
      clear RO RP RL I24 I31
      go_wp2
      go_ret
      exact ⟨by rw [EE.out]; rfl, KF.out⟩
  rw [h_cd] at c_cd
  by_cases h_fr : e.fr = false
  rotate_left
  · as_aux_lemma =>
      have EE : Hid (e.empty = false) := hid (by simp [Ev.empty, Ev.z_fr, h_fr])
      have hx : e.fr = true := by simpa using h_fr
      rw [hx] at c_fr
      clear h_fr
      have KF := hid (A0.out.into (w0 := w) (by simp))
      clear RO RP RL I24 I31
      go_wp2
      go_ret
      exact ⟨by rw [EE.out]; rfl, KF.out⟩
  rw [h_fr] at c_fr
  go_upto_region 3 with fail
  clear c_a c_nb c_nm c_wh c_cd c_fr
  have R3 := hid (RO.out _ _ A0.out (List.mem_cons_self))
  go_upto_region 4 with (first | (refine wpList_load_mid rfl 24 _ rfl w.heap.size 7 rfl [.int .i64 e.ok, .string ⟨e.onm.toArray⟩, .string ⟨e.otx.toArray⟩, .int .i64 e.on, .int .i64 e.om] _ R3.out Tryz.underlying24 rfl I24.out ?_) | (refine wpList_store_row rfl 24 _ _ rfl w0.heap.size #[.int .i64 e.ok, .string ⟨e.onm.toArray⟩, .string ⟨e.otx.toArray⟩, .int .i64 e.on, .int .i64 e.om] rfl rfl 24 _ (heap_alloc_new w0 _) I24.out rfl rfl ?_; rw [World.setRow_alloc_new]))
  have A1 := hid (A0.out.addBlk [.int .i64 e.ok, .string ⟨e.onm.toArray⟩, .string ⟨e.otx.toArray⟩, .int .i64 e.on, .int .i64 e.om] 24)
  change Code.wp _ _ _ _ (w0.alloc (.cells ([.int .i64 e.ok, .string ⟨e.onm.toArray⟩, .string ⟨e.otx.toArray⟩, .int .i64 e.on, .int .i64 e.om] : List Value).toArray 24))
  generalize w0.alloc (.cells ([.int .i64 e.ok, .string ⟨e.onm.toArray⟩, .string ⟨e.otx.toArray⟩, .int .i64 e.on, .int .i64 e.om] : List Value).toArray 24) = w1 at *
  have R4 := hid (RP.out _ _ A1.out (List.mem_cons_of_mem _ (List.mem_cons_self)))
  go_upto_region 5 with (first | (refine wpList_load_mid rfl 24 _ rfl w.heap.size 14 rfl [.int .i64 e.pk, .string ⟨e.pnm.toArray⟩, .string ⟨e.ptx.toArray⟩, .int .i64 e.pn, .int .i64 e.pm] _ R4.out Tryz.underlying24 rfl I24.out ?_) | (refine wpList_store_row rfl 24 _ _ rfl w1.heap.size #[.int .i64 e.pk, .string ⟨e.pnm.toArray⟩, .string ⟨e.ptx.toArray⟩, .int .i64 e.pn, .int .i64 e.pm] rfl rfl 24 _ (heap_alloc_new w1 _) I24.out rfl rfl ?_; rw [World.setRow_alloc_new]))
  have A2 := hid (A1.out.addBlk [.int .i64 e.pk, .string ⟨e.pnm.toArray⟩, .string ⟨e.ptx.toArray⟩, .int .i64 e.pn, .int .i64 e.pm] 24)
  change Code.wp _ _ _ _ (w1.alloc (.cells ([.int .i64 e.pk, .string ⟨e.pnm.toArray⟩, .string ⟨e.ptx.toArray⟩, .int .i64 e.pn, .int .i64 e.pm] : List Value).toArray 24))
  generalize w1.alloc (.cells ([.int .i64 e.pk, .string ⟨e.pnm.toArray⟩, .string ⟨e.ptx.toArray⟩, .int .i64 e.pn, .int .i64 e.pm] : List Value).toArray 24) = w2 at *
  generalize w1.heap.size = QQ at *
  generalize w0.heap.size = OO at *
  clear R3 R4 A0 A1
  have c_ok := cell_in (P := OO) (o := 0) (v := .int .i64 e.ok) A2.out (List.mem_cons_of_mem _ (List.mem_cons_self)) rfl
  have c_onm := cell_in (P := OO) (o := 1) (v := .string ⟨e.onm.toArray⟩) A2.out (List.mem_cons_of_mem _ (List.mem_cons_self)) rfl
  have c_otx := cell_in (P := OO) (o := 2) (v := .string ⟨e.otx.toArray⟩) A2.out (List.mem_cons_of_mem _ (List.mem_cons_self)) rfl
  have c_on := cell_in (P := OO) (o := 3) (v := .int .i64 e.on) A2.out (List.mem_cons_of_mem _ (List.mem_cons_self)) rfl
  have c_om := cell_in (P := OO) (o := 4) (v := .int .i64 e.om) A2.out (List.mem_cons_of_mem _ (List.mem_cons_self)) rfl
  have c_ec := cell_in (P := w.heap.size) (o := 12) (v := .int .i64 e.ec) A2.out (List.mem_cons_of_mem _ (List.mem_cons_of_mem _ (List.mem_cons_self))) rfl
  have c_en := cell_in (P := w.heap.size) (o := 13) (v := .int .i64 e.en) A2.out (List.mem_cons_of_mem _ (List.mem_cons_of_mem _ (List.mem_cons_self))) rfl
  by_cases h_ok : e.ok = 0
  rotate_left
  · as_aux_lemma =>
      have EE : Hid (e.empty = false) := hid (by simp [Ev.empty, Ev.z_op, h_ok])
      have hx : (e.ok != 0) = true := by simpa using h_ok
      clear h_ok
      have KF := hid (A2.out.into (w0 := w) (by simp))
      clear RO RP RL I24 I31
      go_wp2
      go_ret
      exact ⟨by rw [EE.out]; rfl, KF.out⟩
  rw [h_ok] at c_ok
  by_cases h_onm : e.onm = []
  rotate_left
  · as_aux_lemma =>
      have EE : Hid (e.empty = false) := hid (by simp [Ev.empty, Ev.z_op, h_onm])
      obtain ⟨hx, hx2⟩ := str_no h_onm
      have hx3 := str_ie h_onm
      generalize ByteArray.mk e.onm.toArray = XS at *
      clear h_onm
      have KF := hid (A2.out.into (w0 := w) (by simp))
      clear RO RP RL I24 I31
      go_wp2
      go_ret
      exact ⟨by rw [EE.out]; rfl, KF.out⟩
  have c_onm : w2.cell? ⟨OO, 1, none⟩ = some (.string ⟨#[]⟩) := by rw [h_onm] at c_onm; exact c_onm
  by_cases h_otx : e.otx = []
  rotate_left
  · as_aux_lemma =>
      have EE : Hid (e.empty = false) := hid (by simp [Ev.empty, Ev.z_op, h_otx])
      obtain ⟨hx, hx2⟩ := str_no h_otx
      have hx3 := str_ie h_otx
      generalize ByteArray.mk e.otx.toArray = XS at *
      clear h_otx
      have KF := hid (A2.out.into (w0 := w) (by simp))
      clear RO RP RL I24 I31
      go_wp2
      go_ret
      exact ⟨by rw [EE.out]; rfl, KF.out⟩
  have c_otx : w2.cell? ⟨OO, 2, none⟩ = some (.string ⟨#[]⟩) := by rw [h_otx] at c_otx; exact c_otx
  by_cases h_on : e.on = 0
  rotate_left
  · as_aux_lemma =>
      have EE : Hid (e.empty = false) := hid (by simp [Ev.empty, Ev.z_op, h_on])
      have hx : (e.on != 0) = true := by simpa using h_on
      clear h_on
      have KF := hid (A2.out.into (w0 := w) (by simp))
      clear RO RP RL I24 I31
      go_wp2
      go_ret
      exact ⟨by rw [EE.out]; rfl, KF.out⟩
  rw [h_on] at c_on
  by_cases h_om : e.om = 0
  rotate_left
  · as_aux_lemma =>
      have EE : Hid (e.empty = false) := hid (by simp [Ev.empty, Ev.z_op, h_om])
      have hx : (e.om != 0) = true := by simpa using h_om
      clear h_om
      have KF := hid (A2.out.into (w0 := w) (by simp))
      clear RO RP RL I24 I31
      go_wp2
      go_ret
      exact ⟨by rw [EE.out]; rfl, KF.out⟩
  rw [h_om] at c_om
  by_cases h_ec : e.ec = 0
  rotate_left
  · as_aux_lemma =>
      have EE : Hid (e.empty = false) := hid (by simp [Ev.empty, Ev.z_en, h_ec])
      have hx : (e.ec != 0) = true := by simpa using h_ec
      clear h_ec
      have KF := hid (A2.out.into (w0 := w) (by simp))
      clear RO RP RL I24 I31
      go_wp2
      go_ret
      exact ⟨by rw [EE.out]; rfl, KF.out⟩
  rw [h_ec] at c_ec
  by_cases h_en : e.en = 0
  rotate_left
  · as_aux_lemma =>
      have EE : Hid (e.empty = false) := hid (by simp [Ev.empty, Ev.z_en, h_en])
      have hx : (e.en != 0) = true := by simpa using h_en
      clear h_en
      have KF := hid (A2.out.into (w0 := w) (by simp))
      clear RO RP RL I24 I31
      go_wp2
      go_ret
      exact ⟨by rw [EE.out]; rfl, KF.out⟩
  rw [h_en] at c_en
  go_upto_region 7 with fail
  clear c_ok c_onm c_otx c_on c_om c_ec c_en
  have c_pk := cell_in (P := QQ) (o := 0) (v := .int .i64 e.pk) A2.out (List.mem_cons_self) rfl
  have c_pnm := cell_in (P := QQ) (o := 1) (v := .string ⟨e.pnm.toArray⟩) A2.out (List.mem_cons_self) rfl
  have c_ptx := cell_in (P := QQ) (o := 2) (v := .string ⟨e.ptx.toArray⟩) A2.out (List.mem_cons_self) rfl
  have c_pn := cell_in (P := QQ) (o := 3) (v := .int .i64 e.pn) A2.out (List.mem_cons_self) rfl
  have c_pm := cell_in (P := QQ) (o := 4) (v := .int .i64 e.pm) A2.out (List.mem_cons_self) rfl
  by_cases h_pk : e.pk = 0
  rotate_left
  · as_aux_lemma =>
      have EE : Hid (e.empty = false) := hid (by simp [Ev.empty, Ev.z_en, h_pk])
      have hx : (e.pk != 0) = true := by simpa using h_pk
      clear h_pk
      have KF := hid (A2.out.into (w0 := w) (by simp))
      clear RO RP RL I24 I31
      go_wp2
      go_ret
      exact ⟨by rw [EE.out]; rfl, KF.out⟩
  rw [h_pk] at c_pk
  by_cases h_pnm : e.pnm = []
  rotate_left
  · as_aux_lemma =>
      have EE : Hid (e.empty = false) := hid (by simp [Ev.empty, Ev.z_en, h_pnm])
      obtain ⟨hx, hx2⟩ := str_no h_pnm
      have hx3 := str_ie h_pnm
      generalize ByteArray.mk e.pnm.toArray = XS at *
      clear h_pnm
      have KF := hid (A2.out.into (w0 := w) (by simp))
      clear RO RP RL I24 I31
      go_wp2
      go_ret
      exact ⟨by rw [EE.out]; rfl, KF.out⟩
  have c_pnm : w2.cell? ⟨QQ, 1, none⟩ = some (.string ⟨#[]⟩) := by rw [h_pnm] at c_pnm; exact c_pnm
  by_cases h_ptx : e.ptx = []
  rotate_left
  · as_aux_lemma =>
      have EE : Hid (e.empty = false) := hid (by simp [Ev.empty, Ev.z_en, h_ptx])
      obtain ⟨hx, hx2⟩ := str_no h_ptx
      have hx3 := str_ie h_ptx
      generalize ByteArray.mk e.ptx.toArray = XS at *
      clear h_ptx
      have KF := hid (A2.out.into (w0 := w) (by simp))
      clear RO RP RL I24 I31
      go_wp2
      go_ret
      exact ⟨by rw [EE.out]; rfl, KF.out⟩
  have c_ptx : w2.cell? ⟨QQ, 2, none⟩ = some (.string ⟨#[]⟩) := by rw [h_ptx] at c_ptx; exact c_ptx
  by_cases h_pn : e.pn = 0
  rotate_left
  · as_aux_lemma =>
      have EE : Hid (e.empty = false) := hid (by simp [Ev.empty, Ev.z_en, h_pn])
      have hx : (e.pn != 0) = true := by simpa using h_pn
      clear h_pn
      have KF := hid (A2.out.into (w0 := w) (by simp))
      clear RO RP RL I24 I31
      go_wp2
      go_ret
      exact ⟨by rw [EE.out]; rfl, KF.out⟩
  rw [h_pn] at c_pn
  by_cases h_pm : e.pm = 0
  rotate_left
  · as_aux_lemma =>
      have EE : Hid (e.empty = false) := hid (by simp [Ev.empty, Ev.z_en, h_pm])
      have hx : (e.pm != 0) = true := by simpa using h_pm
      clear h_pm
      have KF := hid (A2.out.into (w0 := w) (by simp))
      clear RO RP RL I24 I31
      go_wp2
      go_ret
      exact ⟨by rw [EE.out]; rfl, KF.out⟩
  rw [h_pm] at c_pm
  go_upto_region 9 with fail
  clear c_pk c_pnm c_ptx c_pn c_pm
  have c_rc := cell_in (P := w.heap.size) (o := 19) (v := .int .i64 e.rc) A2.out (List.mem_cons_of_mem _ (List.mem_cons_of_mem _ (List.mem_cons_self))) rfl
  have c_rn := cell_in (P := w.heap.size) (o := 20) (v := .int .i64 e.rn) A2.out (List.mem_cons_of_mem _ (List.mem_cons_of_mem _ (List.mem_cons_self))) rfl
  have c_rik := cell_in (P := w.heap.size) (o := 21) (v := .slice e.ria e.rik e.ric) A2.out (List.mem_cons_of_mem _ (List.mem_cons_of_mem _ (List.mem_cons_self))) rfl
  by_cases h_rc : e.rc = 0
  rotate_left
  · as_aux_lemma =>
      have EE : Hid (e.empty = false) := hid (by simp [Ev.empty, Ev.z_rc, h_rc])
      have hx : (e.rc != 0) = true := by simpa using h_rc
      clear h_rc
      have KF := hid (A2.out.into (w0 := w) (by simp))
      clear RO RP RL I24 I31
      go_wp2
      go_ret
      exact ⟨by rw [EE.out]; rfl, KF.out⟩
  rw [h_rc] at c_rc
  by_cases h_rn : e.rn = 0
  rotate_left
  · as_aux_lemma =>
      have EE : Hid (e.empty = false) := hid (by simp [Ev.empty, Ev.z_rn, h_rn])
      have hx : (e.rn != 0) = true := by simpa using h_rn
      clear h_rn
      have KF := hid (A2.out.into (w0 := w) (by simp))
      clear RO RP RL I24 I31
      go_wp2
      go_ret
      exact ⟨by rw [EE.out]; rfl, KF.out⟩
  rw [h_rn] at c_rn
  by_cases h_rik : e.rik = 0
  rotate_left
  · as_aux_lemma =>
      have EE : Hid (e.empty = false) := hid (by simp [Ev.empty, Ev.z_rk, h_rik])
      have hx : (0 : Int) < (e.rik : Int) := by omega
      clear h_rik
      have KF := hid (A2.out.into (w0 := w) (by simp))
      clear RO RP RL I24 I31
      go_wp2
      go_ret
      exact ⟨by rw [EE.out]; rfl, KF.out⟩
  rw [h_rik] at c_rik
  go_upto_region 11 with fail
  clear c_rc c_rn c_rik
  have R5 := hid (RL.out _ _ A2.out (List.mem_cons_of_mem _ (List.mem_cons_of_mem _ (List.mem_cons_self))))
  go_upto_region 12 with (first | (refine wpList_load_mid rfl 31 _ rfl w.heap.size 22 rfl [.int .i64 e.l0, .int .i64 e.l1, .int .i64 e.l2, .int .i64 e.l3, .int .i64 e.l4, .int .i64 e.l5, .int .i64 e.l6, .int .i64 e.l7] _ R5.out Tryz.underlying31 rfl I31.out ?_) | (refine wpList_store_row rfl 31 _ _ rfl w2.heap.size #[.int .i64 e.l0, .int .i64 e.l1, .int .i64 e.l2, .int .i64 e.l3, .int .i64 e.l4, .int .i64 e.l5, .int .i64 e.l6, .int .i64 e.l7] rfl rfl 31 _ (heap_alloc_new w2 _) I31.out rfl rfl ?_; rw [World.setRow_alloc_new]))
  have A3 := hid (A2.out.addBlk [.int .i64 e.l0, .int .i64 e.l1, .int .i64 e.l2, .int .i64 e.l3, .int .i64 e.l4, .int .i64 e.l5, .int .i64 e.l6, .int .i64 e.l7] 31)
  change Code.wp _ _ _ _ (w2.alloc (.cells ([.int .i64 e.l0, .int .i64 e.l1, .int .i64 e.l2, .int .i64 e.l3, .int .i64 e.l4, .int .i64 e.l5, .int .i64 e.l6, .int .i64 e.l7] : List Value).toArray 31))
  generalize w2.alloc (.cells ([.int .i64 e.l0, .int .i64 e.l1, .int .i64 e.l2, .int .i64 e.l3, .int .i64 e.l4, .int .i64 e.l5, .int .i64 e.l6, .int .i64 e.l7] : List Value).toArray 31) = w3 at *
  generalize w2.heap.size = KB at *
  clear R5 A2
  have c_l0 := cell_in (P := KB) (o := 0) (v := .int .i64 e.l0) A3.out (List.mem_cons_self) rfl
  have c_l1 := cell_in (P := KB) (o := 1) (v := .int .i64 e.l1) A3.out (List.mem_cons_self) rfl
  have c_l2 := cell_in (P := KB) (o := 2) (v := .int .i64 e.l2) A3.out (List.mem_cons_self) rfl
  have c_l3 := cell_in (P := KB) (o := 3) (v := .int .i64 e.l3) A3.out (List.mem_cons_self) rfl
  have c_l4 := cell_in (P := KB) (o := 4) (v := .int .i64 e.l4) A3.out (List.mem_cons_self) rfl
  have c_l5 := cell_in (P := KB) (o := 5) (v := .int .i64 e.l5) A3.out (List.mem_cons_self) rfl
  have c_l6 := cell_in (P := KB) (o := 6) (v := .int .i64 e.l6) A3.out (List.mem_cons_self) rfl
  have c_l7 := cell_in (P := KB) (o := 7) (v := .int .i64 e.l7) A3.out (List.mem_cons_self) rfl
  by_cases h_l0 : e.l0 = 0
  rotate_left
  · as_aux_lemma =>
      have EE : Hid (e.empty = false) := hid (by simp [Ev.empty, Ev.z_lk, h_l0])
      have hx : (e.l0 != 0) = true := by simpa using h_l0
      clear h_l0
      have KF := hid (A3.out.into (w0 := w) (by simp))
      clear RO RP RL I24 I31
      go_wp2
      go_ret
      exact ⟨by rw [EE.out]; rfl, KF.out⟩
  rw [h_l0] at c_l0
  by_cases h_l1 : e.l1 = 0
  rotate_left
  · as_aux_lemma =>
      have EE : Hid (e.empty = false) := hid (by simp [Ev.empty, Ev.z_lk, h_l1])
      have hx : (e.l1 != 0) = true := by simpa using h_l1
      clear h_l1
      have KF := hid (A3.out.into (w0 := w) (by simp))
      clear RO RP RL I24 I31
      go_wp2
      go_ret
      exact ⟨by rw [EE.out]; rfl, KF.out⟩
  rw [h_l1] at c_l1
  by_cases h_l2 : e.l2 = 0
  rotate_left
  · as_aux_lemma =>
      have EE : Hid (e.empty = false) := hid (by simp [Ev.empty, Ev.z_lk, h_l2])
      have hx : (e.l2 != 0) = true := by simpa using h_l2
      clear h_l2
      have KF := hid (A3.out.into (w0 := w) (by simp))
      clear RO RP RL I24 I31
      go_wp2
      go_ret
      exact ⟨by rw [EE.out]; rfl, KF.out⟩
  rw [h_l2] at c_l2
  by_cases h_l3 : e.l3 = 0
  rotate_left
  · as_aux_lemma =>
      have EE : Hid (e.empty = false) := hid (by simp [Ev.empty, Ev.z_lk, h_l3])
      have hx : (e.l3 != 0) = true := by simpa using h_l3
      clear h_l3
      have KF := hid (A3.out.into (w0 := w) (by simp))
      clear RO RP RL I24 I31
      go_wp2
      go_ret
      exact ⟨by rw [EE.out]; rfl, KF.out⟩
  rw [h_l3] at c_l3
  by_cases h_l4 : e.l4 = 0
  rotate_left
  · as_aux_lemma =>
      have EE : Hid (e.empty = false) := hid (by simp [Ev.empty, Ev.z_lk, h_l4])
      have hx : (e.l4 != 0) = true := by simpa using h_l4
      clear h_l4
      have KF := hid (A3.out.into (w0 := w) (by simp))
      clear RO RP RL I24 I31
      go_wp2
      go_ret
      exact ⟨by rw [EE.out]; rfl, KF.out⟩
  rw [h_l4] at c_l4
  by_cases h_l5 : e.l5 = 0
  rotate_left
  · as_aux_lemma =>
      have EE : Hid (e.empty = false) := hid (by simp [Ev.empty, Ev.z_lk, h_l5])
      have hx : (e.l5 != 0) = true := by simpa using h_l5
      clear h_l5
      have KF := hid (A3.out.into (w0 := w) (by simp))
      clear RO RP RL I24 I31
      go_wp2
      go_ret
      exact ⟨by rw [EE.out]; rfl, KF.out⟩
  rw [h_l5] at c_l5
  by_cases h_l6 : e.l6 = 0
  rotate_left
  · as_aux_lemma =>
      have EE : Hid (e.empty = false) := hid (by simp [Ev.empty, Ev.z_lk, h_l6])
      have hx : (e.l6 != 0) = true := by simpa using h_l6
      clear h_l6
      have KF := hid (A3.out.into (w0 := w) (by simp))
      clear RO RP RL I24 I31
      go_wp2
      go_ret
      exact ⟨by rw [EE.out]; rfl, KF.out⟩
  rw [h_l6] at c_l6
  by_cases h_l7 : e.l7 = 0
  rotate_left
  · as_aux_lemma =>
      have EE : Hid (e.empty = false) := hid (by simp [Ev.empty, Ev.z_lk, h_l7])
      have hx : (e.l7 != 0) = true := by simpa using h_l7
      clear h_l7
      have KF := hid (A3.out.into (w0 := w) (by simp))
      clear RO RP RL I24 I31
      go_wp2
      go_ret
      exact ⟨by rw [EE.out]; rfl, KF.out⟩
  rw [h_l7] at c_l7
  go_upto_region 14 with fail
  clear c_l0 c_l1 c_l2 c_l3 c_l4 c_l5 c_l6 c_l7
  have c_sn := cell_in (P := w.heap.size) (o := 30) (v := .int .i64 e.sn) A3.out (List.mem_cons_of_mem _ (List.mem_cons_of_mem _ (List.mem_cons_of_mem _ (List.mem_cons_self)))) rfl
  have c_sa := cell_in (P := w.heap.size) (o := 31) (v := .int .i64 e.sa) A3.out (List.mem_cons_of_mem _ (List.mem_cons_of_mem _ (List.mem_cons_of_mem _ (List.mem_cons_self)))) rfl
  have c_dik := cell_in (P := w.heap.size) (o := 32) (v := .slice e.dia e.dik e.dic) A3.out (List.mem_cons_of_mem _ (List.mem_cons_of_mem _ (List.mem_cons_of_mem _ (List.mem_cons_self)))) rfl
  by_cases h_sn : e.sn = 0
  rotate_left
  · as_aux_lemma =>
      have EE : Hid (e.empty = false) := hid (by simp [Ev.empty, Ev.z_sn, h_sn])
      have hx : (e.sn == 0) = false := by simpa using h_sn
      clear h_sn
      have KF := hid (A3.out.into (w0 := w) (by simp))
      clear RO RP RL I24 I31
      go_wp2
      go_ret
      exact ⟨by rw [EE.out]; rfl, KF.out⟩
  rw [h_sn] at c_sn
  by_cases h_sa : e.sa = 0
  rotate_left
  · as_aux_lemma =>
      have EE : Hid (e.empty = false) := hid (by simp [Ev.empty, Ev.z_sa, h_sa])
      have hx : (e.sa == 0) = false := by simpa using h_sa
      clear h_sa
      have KF := hid (A3.out.into (w0 := w) (by simp))
      clear RO RP RL I24 I31
      go_wp2
      go_ret
      exact ⟨by rw [EE.out]; rfl, KF.out⟩
  rw [h_sa] at c_sa
  by_cases h_dik : e.dik = 0
  rotate_left
  · as_aux_lemma =>
      have EE : Hid (e.empty = false) := hid (by simp [Ev.empty, Ev.z_dk, h_dik])
      have hx : ((e.dik : Int) == 0) = false := by simp; omega
      clear h_dik
      have KF := hid (A3.out.into (w0 := w) (by simp))
      clear RO RP RL I24 I31
      go_wp2
      go_ret
      exact ⟨by rw [EE.out]; rfl, KF.out⟩
  rw [h_dik] at c_dik
  have EE : Hid (e.empty = true) := hid (by simp [Ev.empty, Ev.z_a, Ev.z_nb, Ev.z_nm, Ev.z_wh, Ev.z_cd, Ev.z_fr, Ev.z_op, Ev.z_en, Ev.z_lk, Ev.z_rc, Ev.z_rn, Ev.z_rk, Ev.z_sn, Ev.z_sa, Ev.z_dk, h_a, h_nb, h_nm, h_wh, h_cd, h_fr, h_ok, h_onm, h_otx, h_on, h_om, h_ec, h_en, h_pk, h_pnm, h_ptx, h_pn, h_pm, h_rc, h_rn, h_rik, h_l0, h_l1, h_l2, h_l3, h_l4, h_l5, h_l6, h_l7, h_sn, h_sa, h_dik])
  have KF := hid (A3.out.into (w0 := w) (by simp))
  clear RO RP RL I24 I31 A3
  go_wp2
  go_ret
  exact ⟨by rw [EE.out]; rfl, KF.out⟩
end Go.Proofs.YtfeppannfcbakaaGreatDoor
