import Derived.Test.YthoppemjfdnibaaGreatDoorMail28
namespace Go.Proofs.YthoppemjfdnibaaGreatDoor
open Go.RowKit
set_option linter.unusedVariables false

set_option maxHeartbeats 1600000 in
set_option maxRecDepth 1000000 in
theorem bod_k2 {w : World} (m : Ms) {li : List ByteArray} {le lx : List Ent} {ls : List Sh} (hT : Tab w) (hl : Ml w m li le ls lx) (hk : m.k = 2) : Calls Tryz.prog 39 #[m.V] w fun e w' => e = .returned (.bool (m.bodB 2 li le ls lx)) ∧ Below w.heap.size w w' := by
  obtain ⟨z, hz⟩ : ∃ z, Hid (m.bodB 2 li le ls lx = z) := ⟨_, hid rfl⟩
  rw [hz.out]
  have E : Hid (z = (chkX m.rc m.rn li == 0)) := hid (by
    rw [← hz.out]
    show ((!inK 2 79 || m.oB) && ((!inK 2 82 || chkX m.rc m.rn li == 0) && ((!inK 2 69 || m.eB le) && (!inH 2 m.h 71 || cgB m.cf m.cb ls lx)))) = _
    rw [show inK 2 79 = false from rfl, show inK 2 82 = true from rfl, show inK 2 69 = false from rfl, show inH 2 m.h 71 = false from (by cases m.h <;> rfl)]
    simp)
  have BA := hid (ba w (.cells m.cells.toArray 34))
  have M0 := hid (MsAt.new w m)
  have HK := hid hk
  clear hk
  have H53 : Hid (∀ W : World, Calls Tryz.prog 53 #[.int .i64 2] W fun e w' => e = .returned (.bool false) ∧ w' = W) := hid (fun W => has53 (k := 2) ⟨by omega, by omega⟩)
  have H55 : Hid (∀ W : World, Calls Tryz.prog 55 #[.int .i64 2] W fun e w' => e = .returned (.bool true) ∧ w' = W) := hid (fun W => has55 (k := 2) ⟨by omega, by omega⟩)
  have H57 : Hid (∀ W : World, Calls Tryz.prog 57 #[.int .i64 2] W fun e w' => e = .returned (.bool false) ∧ w' = W) := hid (fun W => has57 (k := 2) ⟨by omega, by omega⟩)
  have H58 : Hid (∀ W : World, Calls Tryz.prog 58 #[.int .i64 2, .bool m.h] W fun e w' => e = .returned (.bool false) ∧ w' = W) := hid (fun W => by
    have := has58 (w := W) (k := 2) m.h ⟨by omega, by omega⟩
    rw [show inH 2 m.h 71 = false from (by cases m.h <;> rfl)] at this
    exact this)
  have CX : Hid (∀ W b, Below w.heap.size w W → MsAt W b m → Calls Tryz.prog 80 #[resV m.rc m.rn (.slice m.ra m.rl m.rp)] W fun e w' => e = .returned (.int .i64 (chkX m.rc m.rn li)) ∧ Below w.heap.size w w' ∧ MsAt w' b m) := hid (fun W b hW hM => by
    have hL := hl.later hW
    exact (checkX_ref m.rc m.rn hL.it (by have := hL.nr; have := hL.br; omega)).mono fun e w' ⟨h1, h2⟩ => ⟨h1, hW.trans (h2.mono hW.size), hM.under h2⟩)
  generalize chkX m.rc m.rn li = y at CX E
  clear hT hl
  go_enter Tryz.func39, Tryz.ntmps39
  go_upto_region 1 with fail
  obtain ⟨b, hbb⟩ : ∃ b, Hid (b = w.heap.size) := ⟨_, hid rfl⟩
  rw [← hbb.out] at M0 ⊢
  change Code.wp _ _ _ _ (w.alloc (.cells m.cells.toArray 34))
  generalize w.alloc (.cells m.cells.toArray 34) = w1 at BA M0 ⊢
  have q0 : w1.cell? ⟨b, 0, none⟩ = some (.int .i64 2) := by rw [← HK.out]; exact M0.out 0 _ rfl
  have q15 : w1.cell? ⟨b, 15, none⟩ = some (.int .i64 m.rc) := M0.out 15 _ rfl
  have q16 : w1.cell? ⟨b, 16, none⟩ = some (.int .i64 m.rn) := M0.out 16 _ rfl
  have q17 : w1.cell? ⟨b, 17, none⟩ = some (.slice m.ra m.rl m.rp) := M0.out 17 _ rfl
  go_wp2_with (first | (go_at_call 53; refine (H53.out _).mono ?_; rintro e w' ⟨rfl, rfl⟩) | (go_at_call 55; refine (H55.out _).mono ?_; rintro e w' ⟨rfl, rfl⟩))
  refine (CX.out _ b BA.out M0.out).mono ?_
  rintro e w2 ⟨rfl, hB2, hM2⟩
  have B2 := hid hB2
  clear q0 q15 q16 q17 hB2 hz M0 CX
  have q9 : w2.cell? ⟨b, 9, none⟩ = some (.bool m.h) := hM2 9 _ rfl
  clear hM2
  cases ey : (y == 0) with
  | false =>
    have F : Hid (z = false) := hid (by rw [E.out, ey])
    have ey' : (y != 0) = true := by simp only [bne, ey]; rfl
    clear ey E
    go_wp2
    go_ret
    exact ⟨by rw [F.out]; rfl, B2.out⟩
  | true =>
    have F : Hid (z = true) := hid (by rw [E.out, ey])
    have ey' : (y != 0) = false := by simp only [bne, ey]; rfl
    clear ey E
    go_wp2_with (first | (go_at_call 53; refine (H53.out _).mono ?_; rintro e w' ⟨rfl, rfl⟩) | (go_at_call 55; refine (H55.out _).mono ?_; rintro e w' ⟨rfl, rfl⟩) | (go_at_call 57; refine (H57.out _).mono ?_; rintro e w' ⟨rfl, rfl⟩) | (go_at_call 58; refine (H58.out _).mono ?_; rintro e w' ⟨rfl, rfl⟩))
    go_ret
    exact ⟨by rw [F.out]; rfl, B2.out⟩
set_option maxHeartbeats 1600000 in
set_option maxRecDepth 1000000 in
theorem bod_k15 {w : World} (m : Ms) {li : List ByteArray} {le lx : List Ent} {ls : List Sh} (hT : Tab w) (hl : Ml w m li le ls lx) (hk : m.k = 15) : Calls Tryz.prog 39 #[m.V] w fun e w' => e = .returned (.bool (m.bodB 15 li le ls lx)) ∧ Below w.heap.size w w' := by
  obtain ⟨z, hz⟩ : ∃ z, Hid (m.bodB 15 li le ls lx = z) := ⟨_, hid rfl⟩
  rw [hz.out]
  have E : Hid (z = (chkX m.rc m.rn li == 0)) := hid (by
    rw [← hz.out]
    show ((!inK 15 79 || m.oB) && ((!inK 15 82 || chkX m.rc m.rn li == 0) && ((!inK 15 69 || m.eB le) && (!inH 15 m.h 71 || cgB m.cf m.cb ls lx)))) = _
    rw [show inK 15 79 = false from rfl, show inK 15 82 = true from rfl, show inK 15 69 = false from rfl, show inH 15 m.h 71 = false from (by cases m.h <;> rfl)]
    simp)
  have BA := hid (ba w (.cells m.cells.toArray 34))
  have M0 := hid (MsAt.new w m)
  have HK := hid hk
  clear hk
  have H53 : Hid (∀ W : World, Calls Tryz.prog 53 #[.int .i64 15] W fun e w' => e = .returned (.bool false) ∧ w' = W) := hid (fun W => has53 (k := 15) ⟨by omega, by omega⟩)
  have H55 : Hid (∀ W : World, Calls Tryz.prog 55 #[.int .i64 15] W fun e w' => e = .returned (.bool true) ∧ w' = W) := hid (fun W => has55 (k := 15) ⟨by omega, by omega⟩)
  have H57 : Hid (∀ W : World, Calls Tryz.prog 57 #[.int .i64 15] W fun e w' => e = .returned (.bool false) ∧ w' = W) := hid (fun W => has57 (k := 15) ⟨by omega, by omega⟩)
  have H58 : Hid (∀ W : World, Calls Tryz.prog 58 #[.int .i64 15, .bool m.h] W fun e w' => e = .returned (.bool false) ∧ w' = W) := hid (fun W => by
    have := has58 (w := W) (k := 15) m.h ⟨by omega, by omega⟩
    rw [show inH 15 m.h 71 = false from (by cases m.h <;> rfl)] at this
    exact this)
  have CX : Hid (∀ W b, Below w.heap.size w W → MsAt W b m → Calls Tryz.prog 80 #[resV m.rc m.rn (.slice m.ra m.rl m.rp)] W fun e w' => e = .returned (.int .i64 (chkX m.rc m.rn li)) ∧ Below w.heap.size w w' ∧ MsAt w' b m) := hid (fun W b hW hM => by
    have hL := hl.later hW
    exact (checkX_ref m.rc m.rn hL.it (by have := hL.nr; have := hL.br; omega)).mono fun e w' ⟨h1, h2⟩ => ⟨h1, hW.trans (h2.mono hW.size), hM.under h2⟩)
  generalize chkX m.rc m.rn li = y at CX E
  clear hT hl
  go_enter Tryz.func39, Tryz.ntmps39
  go_upto_region 1 with fail
  obtain ⟨b, hbb⟩ : ∃ b, Hid (b = w.heap.size) := ⟨_, hid rfl⟩
  rw [← hbb.out] at M0 ⊢
  change Code.wp _ _ _ _ (w.alloc (.cells m.cells.toArray 34))
  generalize w.alloc (.cells m.cells.toArray 34) = w1 at BA M0 ⊢
  have q0 : w1.cell? ⟨b, 0, none⟩ = some (.int .i64 15) := by rw [← HK.out]; exact M0.out 0 _ rfl
  have q15 : w1.cell? ⟨b, 15, none⟩ = some (.int .i64 m.rc) := M0.out 15 _ rfl
  have q16 : w1.cell? ⟨b, 16, none⟩ = some (.int .i64 m.rn) := M0.out 16 _ rfl
  have q17 : w1.cell? ⟨b, 17, none⟩ = some (.slice m.ra m.rl m.rp) := M0.out 17 _ rfl
  go_wp2_with (first | (go_at_call 53; refine (H53.out _).mono ?_; rintro e w' ⟨rfl, rfl⟩) | (go_at_call 55; refine (H55.out _).mono ?_; rintro e w' ⟨rfl, rfl⟩))
  refine (CX.out _ b BA.out M0.out).mono ?_
  rintro e w2 ⟨rfl, hB2, hM2⟩
  have B2 := hid hB2
  clear q0 q15 q16 q17 hB2 hz M0 CX
  have q9 : w2.cell? ⟨b, 9, none⟩ = some (.bool m.h) := hM2 9 _ rfl
  clear hM2
  cases ey : (y == 0) with
  | false =>
    have F : Hid (z = false) := hid (by rw [E.out, ey])
    have ey' : (y != 0) = true := by simp only [bne, ey]; rfl
    clear ey E
    go_wp2
    go_ret
    exact ⟨by rw [F.out]; rfl, B2.out⟩
  | true =>
    have F : Hid (z = true) := hid (by rw [E.out, ey])
    have ey' : (y != 0) = false := by simp only [bne, ey]; rfl
    clear ey E
    go_wp2_with (first | (go_at_call 53; refine (H53.out _).mono ?_; rintro e w' ⟨rfl, rfl⟩) | (go_at_call 55; refine (H55.out _).mono ?_; rintro e w' ⟨rfl, rfl⟩) | (go_at_call 57; refine (H57.out _).mono ?_; rintro e w' ⟨rfl, rfl⟩) | (go_at_call 58; refine (H58.out _).mono ?_; rintro e w' ⟨rfl, rfl⟩))
    go_ret
    exact ⟨by rw [F.out]; rfl, B2.out⟩
set_option maxHeartbeats 1600000 in
set_option maxRecDepth 1000000 in
theorem bod_k1 {w : World} (m : Ms) {li : List ByteArray} {le lx : List Ent} {ls : List Sh} (hT : Tab w) (hl : Ml w m li le ls lx) (hk : m.k = 1) : Calls Tryz.prog 39 #[m.V] w fun e w' => e = .returned (.bool (m.bodB 1 li le ls lx)) ∧ Below w.heap.size w w' := by
  obtain ⟨z, hz⟩ : ∃ z, Hid (m.bodB 1 li le ls lx = z) := ⟨_, hid rfl⟩
  rw [hz.out]
  have E : Hid (z = m.oB) := hid (by
    rw [← hz.out]
    show ((!inK 1 79 || m.oB) && ((!inK 1 82 || chkX m.rc m.rn li == 0) && ((!inK 1 69 || m.eB le) && (!inH 1 m.h 71 || cgB m.cf m.cb ls lx)))) = _
    rw [show inK 1 79 = true from rfl, show inK 1 82 = false from rfl, show inK 1 69 = false from rfl, show inH 1 m.h 71 = false from (by cases m.h <;> rfl)]
    simp)
  have BA := hid (ba w (.cells m.cells.toArray 34))
  have M0 := hid (MsAt.new w m)
  have HK := hid hk
  clear hk
  have H53 : Hid (∀ W : World, Calls Tryz.prog 53 #[.int .i64 1] W fun e w' => e = .returned (.bool true) ∧ w' = W) := hid (fun W => has53 (k := 1) ⟨by omega, by omega⟩)
  have H55 : Hid (∀ W : World, Calls Tryz.prog 55 #[.int .i64 1] W fun e w' => e = .returned (.bool false) ∧ w' = W) := hid (fun W => has55 (k := 1) ⟨by omega, by omega⟩)
  have H57 : Hid (∀ W : World, Calls Tryz.prog 57 #[.int .i64 1] W fun e w' => e = .returned (.bool false) ∧ w' = W) := hid (fun W => has57 (k := 1) ⟨by omega, by omega⟩)
  have H58 : Hid (∀ W : World, Calls Tryz.prog 58 #[.int .i64 1, .bool m.h] W fun e w' => e = .returned (.bool false) ∧ w' = W) := hid (fun W => by
    have := has58 (w := W) (k := 1) m.h ⟨by omega, by omega⟩
    rw [show inH 1 m.h 71 = false from (by cases m.h <;> rfl)] at this
    exact this)
  have CX : Hid (∀ W b, Below w.heap.size w W → MsAt W b m → Calls Tryz.prog 78 #[opV m.ok m.onm m.otx m.on m.om] W fun e w' => e = .returned (.int .i64 (chkA m.ok m.onm.size m.otx.size m.on m.om)) ∧ Below w.heap.size w w' ∧ MsAt w' b m) := hid (fun W b hW hM => by
    exact (rcheck_any m.ok m.onm m.otx m.on m.om).mono fun e w' ⟨h1, h2⟩ => ⟨h1, hW.trans (h2.mono hW.size), hM.under h2⟩)
  have CQ : Hid (∀ W : World, Calls Tryz.prog 79 #[.int .i64 m.ok] W fun e w' => e = .returned (.bool (decide (6 ≤ m.ok ∧ m.ok ≤ 8))) ∧ w' = W) := hid (fun W => query_ref m.ok)
  have E : Hid (z = (decide (chkA m.ok m.onm.size m.otx.size m.on m.om = 0) && (decide (m.k ≠ 14) || decide (6 ≤ m.ok ∧ m.ok ≤ 8)))) := hid E.out
  rw [HK.out] at E
  generalize chkA m.ok m.onm.size m.otx.size m.on m.om = y at CX E
  generalize decide (6 ≤ m.ok ∧ m.ok ≤ 8) = x at CQ E
  clear hT hl
  go_enter Tryz.func39, Tryz.ntmps39
  go_upto_region 1 with fail
  obtain ⟨b, hbb⟩ : ∃ b, Hid (b = w.heap.size) := ⟨_, hid rfl⟩
  rw [← hbb.out] at M0 ⊢
  change Code.wp _ _ _ _ (w.alloc (.cells m.cells.toArray 34))
  generalize w.alloc (.cells m.cells.toArray 34) = w1 at BA M0 ⊢
  have q0 : w1.cell? ⟨b, 0, none⟩ = some (.int .i64 1) := by rw [← HK.out]; exact M0.out 0 _ rfl
  have q10 : w1.cell? ⟨b, 10, none⟩ = some (.int .i64 m.ok) := M0.out 10 _ rfl
  have q11 : w1.cell? ⟨b, 11, none⟩ = some (.string m.onm) := M0.out 11 _ rfl
  have q12 : w1.cell? ⟨b, 12, none⟩ = some (.string m.otx) := M0.out 12 _ rfl
  have q13 : w1.cell? ⟨b, 13, none⟩ = some (.int .i64 m.on) := M0.out 13 _ rfl
  have q14 : w1.cell? ⟨b, 14, none⟩ = some (.int .i64 m.om) := M0.out 14 _ rfl
  go_wp2_with (first | (go_at_call 53; refine (H53.out _).mono ?_; rintro e w' ⟨rfl, rfl⟩) | (go_at_call 55; refine (H55.out _).mono ?_; rintro e w' ⟨rfl, rfl⟩))
  refine (CX.out _ b BA.out M0.out).mono ?_
  rintro e w2 ⟨rfl, hB2, hM2⟩
  have B2 := hid hB2
  clear q0 q10 q11 q12 q13 q14 hB2 hz M0 CX
  have q9 : w2.cell? ⟨b, 9, none⟩ = some (.bool m.h) := hM2 9 _ rfl
  have q10 : w2.cell? ⟨b, 10, none⟩ = some (.int .i64 m.ok) := hM2 10 _ rfl
  clear hM2
  by_cases hy : y = 0
  rotate_left
  · have F : Hid (z = false) := hid (by rw [E.out, decide_eq_false hy]; rfl)
    have ey' : (y != 0) = true := by simpa using hy
    clear hy E
    go_wp2
    go_ret
    exact ⟨by rw [F.out]; rfl, B2.out⟩
  have ey' : (y != 0) = false := by simpa using hy
  have E2 : Hid (z = true) := hid (by rw [E.out, decide_eq_true hy]; simp)
  clear hy E
  go_wp2_with (first | (go_at_call 53; refine (H53.out _).mono ?_; rintro e w' ⟨rfl, rfl⟩) | (go_at_call 55; refine (H55.out _).mono ?_; rintro e w' ⟨rfl, rfl⟩) | (go_at_call 57; refine (H57.out _).mono ?_; rintro e w' ⟨rfl, rfl⟩) | (go_at_call 58; refine (H58.out _).mono ?_; rintro e w' ⟨rfl, rfl⟩))
  go_ret
  exact ⟨by rw [E2.out]; rfl, B2.out⟩
set_option maxHeartbeats 1600000 in
set_option maxRecDepth 1000000 in
theorem bod_k14 {w : World} (m : Ms) {li : List ByteArray} {le lx : List Ent} {ls : List Sh} (hT : Tab w) (hl : Ml w m li le ls lx) (hk : m.k = 14) : Calls Tryz.prog 39 #[m.V] w fun e w' => e = .returned (.bool (m.bodB 14 li le ls lx)) ∧ Below w.heap.size w w' := by
  obtain ⟨z, hz⟩ : ∃ z, Hid (m.bodB 14 li le ls lx = z) := ⟨_, hid rfl⟩
  rw [hz.out]
  have E : Hid (z = m.oB) := hid (by
    rw [← hz.out]
    show ((!inK 14 79 || m.oB) && ((!inK 14 82 || chkX m.rc m.rn li == 0) && ((!inK 14 69 || m.eB le) && (!inH 14 m.h 71 || cgB m.cf m.cb ls lx)))) = _
    rw [show inK 14 79 = true from rfl, show inK 14 82 = false from rfl, show inK 14 69 = false from rfl, show inH 14 m.h 71 = false from (by cases m.h <;> rfl)]
    simp)
  have BA := hid (ba w (.cells m.cells.toArray 34))
  have M0 := hid (MsAt.new w m)
  have HK := hid hk
  clear hk
  have H53 : Hid (∀ W : World, Calls Tryz.prog 53 #[.int .i64 14] W fun e w' => e = .returned (.bool true) ∧ w' = W) := hid (fun W => has53 (k := 14) ⟨by omega, by omega⟩)
  have H55 : Hid (∀ W : World, Calls Tryz.prog 55 #[.int .i64 14] W fun e w' => e = .returned (.bool false) ∧ w' = W) := hid (fun W => has55 (k := 14) ⟨by omega, by omega⟩)
  have H57 : Hid (∀ W : World, Calls Tryz.prog 57 #[.int .i64 14] W fun e w' => e = .returned (.bool false) ∧ w' = W) := hid (fun W => has57 (k := 14) ⟨by omega, by omega⟩)
  have H58 : Hid (∀ W : World, Calls Tryz.prog 58 #[.int .i64 14, .bool m.h] W fun e w' => e = .returned (.bool false) ∧ w' = W) := hid (fun W => by
    have := has58 (w := W) (k := 14) m.h ⟨by omega, by omega⟩
    rw [show inH 14 m.h 71 = false from (by cases m.h <;> rfl)] at this
    exact this)
  have CX : Hid (∀ W b, Below w.heap.size w W → MsAt W b m → Calls Tryz.prog 78 #[opV m.ok m.onm m.otx m.on m.om] W fun e w' => e = .returned (.int .i64 (chkA m.ok m.onm.size m.otx.size m.on m.om)) ∧ Below w.heap.size w w' ∧ MsAt w' b m) := hid (fun W b hW hM => by
    exact (rcheck_any m.ok m.onm m.otx m.on m.om).mono fun e w' ⟨h1, h2⟩ => ⟨h1, hW.trans (h2.mono hW.size), hM.under h2⟩)
  have CQ : Hid (∀ W : World, Calls Tryz.prog 79 #[.int .i64 m.ok] W fun e w' => e = .returned (.bool (decide (6 ≤ m.ok ∧ m.ok ≤ 8))) ∧ w' = W) := hid (fun W => query_ref m.ok)
  have E : Hid (z = (decide (chkA m.ok m.onm.size m.otx.size m.on m.om = 0) && (decide (m.k ≠ 14) || decide (6 ≤ m.ok ∧ m.ok ≤ 8)))) := hid E.out
  rw [HK.out] at E
  generalize chkA m.ok m.onm.size m.otx.size m.on m.om = y at CX E
  generalize decide (6 ≤ m.ok ∧ m.ok ≤ 8) = x at CQ E
  clear hT hl
  go_enter Tryz.func39, Tryz.ntmps39
  go_upto_region 1 with fail
  obtain ⟨b, hbb⟩ : ∃ b, Hid (b = w.heap.size) := ⟨_, hid rfl⟩
  rw [← hbb.out] at M0 ⊢
  change Code.wp _ _ _ _ (w.alloc (.cells m.cells.toArray 34))
  generalize w.alloc (.cells m.cells.toArray 34) = w1 at BA M0 ⊢
  have q0 : w1.cell? ⟨b, 0, none⟩ = some (.int .i64 14) := by rw [← HK.out]; exact M0.out 0 _ rfl
  have q10 : w1.cell? ⟨b, 10, none⟩ = some (.int .i64 m.ok) := M0.out 10 _ rfl
  have q11 : w1.cell? ⟨b, 11, none⟩ = some (.string m.onm) := M0.out 11 _ rfl
  have q12 : w1.cell? ⟨b, 12, none⟩ = some (.string m.otx) := M0.out 12 _ rfl
  have q13 : w1.cell? ⟨b, 13, none⟩ = some (.int .i64 m.on) := M0.out 13 _ rfl
  have q14 : w1.cell? ⟨b, 14, none⟩ = some (.int .i64 m.om) := M0.out 14 _ rfl
  go_wp2_with (first | (go_at_call 53; refine (H53.out _).mono ?_; rintro e w' ⟨rfl, rfl⟩) | (go_at_call 55; refine (H55.out _).mono ?_; rintro e w' ⟨rfl, rfl⟩))
  refine (CX.out _ b BA.out M0.out).mono ?_
  rintro e w2 ⟨rfl, hB2, hM2⟩
  have B2 := hid hB2
  clear q0 q10 q11 q12 q13 q14 hB2 hz M0 CX
  have q9 : w2.cell? ⟨b, 9, none⟩ = some (.bool m.h) := hM2 9 _ rfl
  have q10 : w2.cell? ⟨b, 10, none⟩ = some (.int .i64 m.ok) := hM2 10 _ rfl
  clear hM2
  by_cases hy : y = 0
  rotate_left
  · have F : Hid (z = false) := hid (by rw [E.out, decide_eq_false hy]; rfl)
    have ey' : (y != 0) = true := by simpa using hy
    clear hy E
    go_wp2
    go_ret
    exact ⟨by rw [F.out]; rfl, B2.out⟩
  have ey' : (y != 0) = false := by simpa using hy
  have E2 : Hid (z = x) := hid (by rw [E.out, decide_eq_true hy]; simp)
  clear hy E
  cases x
  · go_wp2_with (first | (go_at_call 53; refine (H53.out _).mono ?_; rintro e w' ⟨rfl, rfl⟩) | (go_at_call 55; refine (H55.out _).mono ?_; rintro e w' ⟨rfl, rfl⟩) | (go_at_call 57; refine (H57.out _).mono ?_; rintro e w' ⟨rfl, rfl⟩) | (go_at_call 58; refine (H58.out _).mono ?_; rintro e w' ⟨rfl, rfl⟩) | (go_at_call 79; refine (CQ.out _).mono ?_; rintro e w' ⟨rfl, rfl⟩))
    go_ret
    exact ⟨by rw [E2.out]; rfl, B2.out⟩
  · go_wp2_with (first | (go_at_call 53; refine (H53.out _).mono ?_; rintro e w' ⟨rfl, rfl⟩) | (go_at_call 55; refine (H55.out _).mono ?_; rintro e w' ⟨rfl, rfl⟩) | (go_at_call 57; refine (H57.out _).mono ?_; rintro e w' ⟨rfl, rfl⟩) | (go_at_call 58; refine (H58.out _).mono ?_; rintro e w' ⟨rfl, rfl⟩) | (go_at_call 79; refine (CQ.out _).mono ?_; rintro e w' ⟨rfl, rfl⟩))
    go_ret
    exact ⟨by rw [E2.out]; rfl, B2.out⟩
set_option maxHeartbeats 1600000 in
set_option maxRecDepth 1000000 in
theorem bod_k4 {w : World} (m : Ms) {li : List ByteArray} {le lx : List Ent} {ls : List Sh} (hT : Tab w) (hl : Ml w m li le ls lx) (hk : m.k = 4) (hn : 1 ≤ m.n ∧ m.n ≤ 1099511627776) : Calls Tryz.prog 39 #[m.V] w fun e w' => e = .returned (.bool (m.bodB 4 li le ls lx)) ∧ Below w.heap.size w w' := by
  obtain ⟨z, hz⟩ : ∃ z, Hid (m.bodB 4 li le ls lx = z) := ⟨_, hid rfl⟩
  rw [hz.out]
  have E : Hid (z = m.eB le) := hid (by
    rw [← hz.out]
    show ((!inK 4 79 || m.oB) && ((!inK 4 82 || chkX m.rc m.rn li == 0) && ((!inK 4 69 || m.eB le) && (!inH 4 m.h 71 || cgB m.cf m.cb ls lx)))) = _
    rw [show inK 4 79 = false from rfl, show inK 4 82 = false from rfl, show inK 4 69 = true from rfl, show inH 4 m.h 71 = false from (by cases m.h <;> rfl)]
    simp)
  have BA := hid (ba w (.cells m.cells.toArray 34))
  have M0 := hid (MsAt.new w m)
  have HK := hid hk
  clear hk
  have H53 : Hid (∀ W : World, Calls Tryz.prog 53 #[.int .i64 4] W fun e w' => e = .returned (.bool false) ∧ w' = W) := hid (fun W => has53 (k := 4) ⟨by omega, by omega⟩)
  have H55 : Hid (∀ W : World, Calls Tryz.prog 55 #[.int .i64 4] W fun e w' => e = .returned (.bool false) ∧ w' = W) := hid (fun W => has55 (k := 4) ⟨by omega, by omega⟩)
  have H57 : Hid (∀ W : World, Calls Tryz.prog 57 #[.int .i64 4] W fun e w' => e = .returned (.bool true) ∧ w' = W) := hid (fun W => has57 (k := 4) ⟨by omega, by omega⟩)
  have H58 : Hid (∀ W : World, Calls Tryz.prog 58 #[.int .i64 4, .bool m.h] W fun e w' => e = .returned (.bool false) ∧ w' = W) := hid (fun W => by
    have := has58 (w := W) (k := 4) m.h ⟨by omega, by omega⟩
    rw [show inH 4 m.h 71 = false from (by cases m.h <;> rfl)] at this
    exact this)
  have CK : Hid (∀ (x : Ent) (W : World) (b : Nat), Below w.heap.size w W → Calls Tryz.prog 78 #[opV x.k x.nm x.tx x.m x.q] W fun e w' => e = .returned (.int .i64 (chkA x.k x.nm.size x.tx.size x.m x.q)) ∧ Below W.heap.size W w') := hid (fun x W b hW => rcheck_any x.k x.nm x.tx x.m x.q)
  have HL := hid hl
  have E1 : Hid (inR (m.el : Int) 1 8 = false → z = false) := hid (fun h => by rw [E.out, Ms.eB, h]; rfl)
  have E2 : Hid (1099511627776 + 1 < m.n + (m.el : Int) → z = false) := hid (fun h => by rw [E.out, Ms.eB, cgB, show opsB 0 (m.n - 1) le.length = false from decide_eq_false (by have := hl.ne; omega)]; simp)
  have E3 : Hid (inR (m.el : Int) 1 8 = true → ¬ 1099511627776 + 1 < m.n + (m.el : Int) → z = le.all entB) := hid (fun h1 h2 => by
    have h3 := of_decide_eq_true h1
    rw [E.out, Ms.eB, cgB, h1, show opsB 0 (m.n - 1) le.length = true from decide_eq_true (by have := hl.ne; omega)]
    rfl)
  have hbe : Hid (m.el ≤ 9223372036854775807 ∧ m.el = le.length) := hid ⟨hl.be, hl.ne⟩
  have HN := hid hn
  clear hT hl E hn
  go_enter Tryz.func39, Tryz.ntmps39
  go_upto_region 1 with fail
  obtain ⟨b, hbb⟩ : ∃ b, Hid (b = w.heap.size) := ⟨_, hid rfl⟩
  rw [← hbb.out] at M0 ⊢
  change Code.wp _ _ _ _ (w.alloc (.cells m.cells.toArray 34))
  generalize w.alloc (.cells m.cells.toArray 34) = w1 at BA M0 ⊢
  have q0 : w1.cell? ⟨b, 0, none⟩ = some (.int .i64 4) := by rw [← HK.out]; exact M0.out 0 _ rfl
  have q4 : w1.cell? ⟨b, 4, none⟩ = some (.int .i64 m.n) := M0.out 4 _ rfl
  have q9 : w1.cell? ⟨b, 9, none⟩ = some (.bool m.h) := M0.out 9 _ rfl
  have q18 : w1.cell? ⟨b, 18, none⟩ = some (.slice m.ea m.el m.ep) := M0.out 18 _ rfl
  have KW : Hid (b < w1.heap.size) := hid (World.block_lt_of_cell? _ _ q4)
  have KM : Hid (∀ W, Below w1.heap.size w1 W → MsAt W b m) := hid (fun W hW => M0.out.under hW)
  clear HK hz M0
  cases e1 : inR (m.el : Int) 1 8 with
  | false =>
    have F := hid (E1.out e1)
    clear E1 E2 E3
    go_wp2_with (first | (go_at_call 53; refine (H53.out _).mono ?_; rintro e w' ⟨rfl, rfl⟩) | (go_at_call 55; refine (H55.out _).mono ?_; rintro e w' ⟨rfl, rfl⟩) | (go_at_call 57; refine (H57.out _).mono ?_; rintro e w' ⟨rfl, rfl⟩) | (go_at_call 58; refine (H58.out _).mono ?_; rintro e w' ⟨rfl, rfl⟩) | (go_at_call 36; refine (rwithin_b _ _ _).mono ?_; rintro e w' ⟨rfl, rfl⟩))
    go_ret
    exact ⟨by rw [F.out]; rfl, BA.out⟩
  | true =>
  have hwn : IntKind.i64.wrap (m.n + (m.el : Int)) = m.n + (m.el : Int) := by
    have h3 := of_decide_eq_true e1
    have := HN.out
    rw [IntKind.wrap_i64]; omega
  by_cases c2 : 1099511627776 + 1 < m.n + (m.el : Int)
  · have F := hid (E2.out c2)
    have e2 : decide ((1099511627777 : Int) < m.n + (m.el : Int)) = true := by simp; omega
    clear E1 E2 E3 c2
    go_wp2_with (first | (go_at_call 53; refine (H53.out _).mono ?_; rintro e w' ⟨rfl, rfl⟩) | (go_at_call 55; refine (H55.out _).mono ?_; rintro e w' ⟨rfl, rfl⟩) | (go_at_call 57; refine (H57.out _).mono ?_; rintro e w' ⟨rfl, rfl⟩) | (go_at_call 58; refine (H58.out _).mono ?_; rintro e w' ⟨rfl, rfl⟩) | (go_at_call 36; refine (rwithin_b _ _ _).mono ?_; rintro e w' ⟨rfl, rfl⟩))
    go_ret
    exact ⟨by rw [F.out]; rfl, BA.out⟩
  have F := hid (E3.out e1 c2)
  have e2 : decide ((1099511627777 : Int) < m.n + (m.el : Int)) = false := by simp; omega
  clear E1 E2 E3 c2
  go_wp2_with (first | (go_at_call 53; refine (H53.out _).mono ?_; rintro e w' ⟨rfl, hw'⟩; subst w') | (go_at_call 55; refine (H55.out _).mono ?_; rintro e w' ⟨rfl, hw'⟩; subst w') | (go_at_call 57; refine (H57.out _).mono ?_; rintro e w' ⟨rfl, hw'⟩; subst w') | (go_at_call 58; refine (H58.out _).mono ?_; rintro e w' ⟨rfl, hw'⟩; subst w') | (go_at_call 36; refine (rwithin_b _ _ _).mono ?_; rintro e w' ⟨rfl, hw'⟩; subst w'))
  clear hwn e1 e2 q0 q4 q9 q18
  have hbe1 := hbe.out.1
  go_loopw [4] (fun iv wr => ∃ k : Nat, iv = .int .i64 (k : Int) ∧ k ≤ m.el ∧ Hid (∀ j (hj : j < k) (hl : j < le.length), entB le[j] = true) ∧ Hid (Below w1.heap.size w1 wr)) (fun iv _ => m.el - (intOf iv).toNat)
  case atStart => exact ⟨0, rfl, Nat.zero_le _, fun j hj => absurd hj (by omega), hid (Below.refl _ _)⟩
  case round =>
    obtain ⟨k, rfl, hk, hbef, hB⟩ := hrel
    have hm := KM.out wr hB.out
    have q18 : wr.cell? ⟨b, 18, none⟩ = some (.slice m.ea m.el m.ep) := hm 18 _ rfl
    have q9 : wr.cell? ⟨b, 9, none⟩ = some (.bool m.h) := hm 9 _ rfl
    have hKw : b < wr.heap.size := Nat.lt_of_lt_of_le KW.out hB.out.size
    have BW : Hid (∀ W, Below w1.heap.size w1 W → Below w.heap.size w W) := hid (fun W hW => BA.out.trans (hW.mono BA.out.size))
    clear hm
    by_cases hlt : k < m.el
    · have hlt2 : k < le.length := by rw [← hbe.out.2]; exact hlt
      obtain ⟨x, hx⟩ : ∃ x, Hid (le[k]'hlt2 = x) := ⟨_, hid rfl⟩
      obtain ⟨g, o, ea, hg, hc⟩ := (HL.out.later (BW.out _ hB.out)).en k x (by rw [List.getElem?_eq_getElem hlt2, hx.out])
      have el : decide ((k : Int) < (m.el : Int)) = true := by simpa using hlt
      have r0 : wr.cell? ⟨g, o + k * 7, none⟩ = some (.int .i64 x.c) := hc 0 _ rfl
      have r1 : wr.cell? ⟨g, o + k * 7 + 1, none⟩ = some (.int .i64 x.n) := hc 1 _ rfl
      have r2 : wr.cell? ⟨g, o + k * 7 + 2, none⟩ = some (.int .i64 x.k) := hc 2 _ rfl
      have r3 : wr.cell? ⟨g, o + k * 7 + 3, none⟩ = some (.string x.nm) := hc 3 _ rfl
      have r4 : wr.cell? ⟨g, o + k * 7 + 4, none⟩ = some (.string x.tx) := hc 4 _ rfl
      have r5 : wr.cell? ⟨g, o + k * 7 + 5, none⟩ = some (.int .i64 x.m) := hc 5 _ rfl
      have r6 : wr.cell? ⟨g, o + k * 7 + 6, none⟩ = some (.int .i64 x.q) := hc 6 _ rfl
      have q18b : wr.cell? ⟨b, 18, none⟩ = some (.slice (some ⟨g, o, none⟩) m.el m.ep) := by rw [q18, ea]
      clear ea q18
      have BB : Hid (∀ ob, Below w1.heap.size w1 (wr.alloc ob)) := hid (fun ob => hB.out.trans ((ba wr ob).mono hB.out.size))
      have NX : Hid (entB x = false → z = false) := hid (fun hf => by
        rw [F.out]
        exact List.all_eq_false.2 ⟨x, by rw [← hx.out]; exact List.getElem_mem hlt2, by simp [hf]⟩)
      have EB : Hid (entB x = (inR x.c 0 7 && (inR x.n 1 1099511627776 && (chkA x.k x.nm.size x.tx.size x.m x.q == 0)))) := hid (by
        by_cases h1 : 0 ≤ x.c ∧ x.c ≤ 7 <;> by_cases h2 : 1 ≤ x.n ∧ x.n ≤ 1099511627776 <;> by_cases h3 : chkA x.k x.nm.size x.tx.size x.m x.q = 0 <;> simp [entB, inR, h1, h2, h3] <;> omega)
      have CX := hid (fun W hW => CK.out x W b hW)
      generalize chkA x.k x.nm.size x.tx.size x.m x.q = y at EB CX
      clear hc
      cases e3 : inR x.c 0 7 with
      | false =>
        have G := hid (NX.out (by rw [EB.out, e3]; rfl))
        clear EB NX
        go_wp2_with (go_at_call 36; refine (rwithin_b _ _ _).mono ?_; rintro e w' ⟨rfl, rfl⟩)
        go_ret
        exact ⟨by rw [G.out]; rfl, BW.out _ (BB.out _)⟩
      | true =>
      cases e4 : inR x.n 1 1099511627776 with
      | false =>
        have G := hid (NX.out (by rw [EB.out, e3, e4]; rfl))
        clear EB NX
        go_wp2_with (go_at_call 36; refine (rwithin_b _ _ _).mono ?_; rintro e w' ⟨rfl, rfl⟩)
        go_ret
        exact ⟨by rw [G.out]; rfl, BW.out _ (BB.out _)⟩
      | true =>
      have EB2 : Hid (entB x = (y == 0)) := hid (by rw [EB.out, e3, e4]; simp)
      clear EB
      go_wp2_with (first | (go_at_call 36; refine (rwithin_b _ _ _).mono ?_; rintro e w' ⟨rfl, rfl⟩) | (go_at_call 78; refine (CX.out _ (BW.out _ (BB.out _))).mono ?_; rintro e w2 ⟨rfl, hB2⟩; have B2 := hid ((BB.out _).trans (hB2.mono (BB.out _).size)); clear hB2; cases ey : (y == 0)))
      · have G := hid (NX.out (by rw [EB2.out, ey]))
        have ey' : (y != 0) = true := by simp only [bne, ey]; rfl
        clear ey
        go_wp2
        go_ret
        exact ⟨by rw [G.out]; rfl, BW.out _ B2.out⟩
      · have G := hid (EB2.out.trans ey)
        have ey' : (y != 0) = false := by simp only [bne, ey]; rfl
        clear ey
        go_wp2
        go_roundw
        case rel => exact ⟨k + 1, by go_num, by omega, fun j hj hl => by rcases Nat.lt_succ_iff_lt_or_eq.1 hj with h | h; exact hbef.out j h hl; subst h; rw [hx.out]; exact G.out, B2⟩
        case measure => simp [intOf]; omega
    · have el : decide ((k : Int) < (m.el : Int)) = false := by simp; omega
      have G : Hid (z = true) := hid (by
        rw [F.out]
        exact List.all_eq_true.2 (fun y hy => by obtain ⟨j, hj, rfl⟩ := List.getElem_of_mem hy; exact hbef.out j (by have := hbe.out.2; omega) hj))
      go_wp2_with (first | (go_at_call 53; refine (H53.out _).mono ?_; rintro e w' ⟨rfl, rfl⟩) | (go_at_call 55; refine (H55.out _).mono ?_; rintro e w' ⟨rfl, rfl⟩) | (go_at_call 57; refine (H57.out _).mono ?_; rintro e w' ⟨rfl, rfl⟩) | (go_at_call 58; refine (H58.out _).mono ?_; rintro e w' ⟨rfl, rfl⟩))
      go_ret
      exact ⟨by rw [G.out]; rfl, BW.out _ hB.out⟩
theorem body_any {w : World} (m : Ms) {li : List ByteArray} {le lx : List Ent} {ls : List Sh} {k : Nat} (h : 1 ≤ k ∧ k ≤ 15) (hT : Tab w) (hl : Ml w m li le ls lx) (hk : m.k = (k : Int)) (hn : k = 4 → 1 ≤ m.n ∧ m.n ≤ 1099511627776) : Calls Tryz.prog 39 #[m.V] w fun e w' => e = .returned (.bool (m.bodB k li le ls lx)) ∧ Below w.heap.size w w' := by
  rcases k_cases h with rfl | rfl | rfl | rfl | rfl | rfl | rfl | rfl | rfl | rfl | rfl | rfl | rfl | rfl | rfl
  · exact bod_k1 m hT hl hk
  · exact bod_k2 m hT hl hk
  · exact bod_k3 m hT hl hk
  · exact bod_k4 m hT hl hk (hn rfl)
  · exact bod_k5 m hT hl hk
  · exact bod_k6 m hT hl hk
  · exact bod_k7 m hT hl hk
  · exact bod_k8 m hT hl hk
  · exact bod_k9 m hT hl hk
  · exact bod_k10 m hT hl hk
  · cases hh : m.h with
    | false => exact bod_k11f m hT hl hk hh
    | true => exact bod_k11t m hT hl hk hh
  · exact bod_k12 m hT hl hk
  · exact bod_k13 m hT hl hk
  · exact bod_k14 m hT hl hk
  · exact bod_k15 m hT hl hk
end Go.Proofs.YthoppemjfdnibaaGreatDoor
