import Derived.Test.YthoppemjfdnibaaGreatDoorMail27
namespace Go.Proofs.YthoppemjfdnibaaGreatDoor
open Go.RowKit
set_option linter.unusedVariables false

/-- May all else be? -/
def Ms.bodB (m : Ms) (k : Nat) (li : List ByteArray) (le : List Ent) (ls : List Sh) (lx : List Ent) : Bool := (!inK k 79 || m.oB) && ((!inK k 82 || chkX m.rc m.rn li == 0) && ((!inK k 69 || m.eB le) && (!inH k m.h 71 || cgB m.cf m.cb ls lx)))
set_option maxHeartbeats 1600000 in
set_option maxRecDepth 1000000 in
theorem bod_k3 {w : World} (m : Ms) {li : List ByteArray} {le lx : List Ent} {ls : List Sh} (hT : Tab w) (hl : Ml w m li le ls lx) (hk : m.k = 3) : Calls Tryz.prog 39 #[m.V] w fun e w' => e = .returned (.bool (m.bodB 3 li le ls lx)) ∧ Below w.heap.size w w' := by
  obtain ⟨z, hz⟩ : ∃ z, Hid (m.bodB 3 li le ls lx = z) := ⟨_, hid rfl⟩
  rw [hz.out]
  have E : Hid (z = true) := hid (by
    rw [← hz.out]
    show ((!inK 3 79 || m.oB) && ((!inK 3 82 || chkX m.rc m.rn li == 0) && ((!inK 3 69 || m.eB le) && (!inH 3 m.h 71 || cgB m.cf m.cb ls lx)))) = _
    rw [show inK 3 79 = false from rfl, show inK 3 82 = false from rfl, show inK 3 69 = false from rfl, show inH 3 m.h 71 = false from (by cases m.h <;> rfl)]
    simp)
  have BA := hid (ba w (.cells m.cells.toArray 34))
  have M0 := hid (MsAt.new w m)
  have HK := hid hk
  clear hk
  have H53 : Hid (∀ W : World, Calls Tryz.prog 53 #[.int .i64 3] W fun e w' => e = .returned (.bool false) ∧ w' = W) := hid (fun W => has53 (k := 3) ⟨by omega, by omega⟩)
  have H55 : Hid (∀ W : World, Calls Tryz.prog 55 #[.int .i64 3] W fun e w' => e = .returned (.bool false) ∧ w' = W) := hid (fun W => has55 (k := 3) ⟨by omega, by omega⟩)
  have H57 : Hid (∀ W : World, Calls Tryz.prog 57 #[.int .i64 3] W fun e w' => e = .returned (.bool false) ∧ w' = W) := hid (fun W => has57 (k := 3) ⟨by omega, by omega⟩)
  have H58 : Hid (∀ W : World, Calls Tryz.prog 58 #[.int .i64 3, .bool m.h] W fun e w' => e = .returned (.bool false) ∧ w' = W) := hid (fun W => by
    have := has58 (w := W) (k := 3) m.h ⟨by omega, by omega⟩
    rw [show inH 3 m.h 71 = false from (by cases m.h <;> rfl)] at this
    exact this)
  clear hT hl
  go_enter Tryz.func39, Tryz.ntmps39
  go_upto_region 1 with fail
  obtain ⟨b, hbb⟩ : ∃ b, Hid (b = w.heap.size) := ⟨_, hid rfl⟩
  rw [← hbb.out] at M0 ⊢
  change Code.wp _ _ _ _ (w.alloc (.cells m.cells.toArray 34))
  generalize w.alloc (.cells m.cells.toArray 34) = w1 at BA M0 ⊢
  have q0 : w1.cell? ⟨b, 0, none⟩ = some (.int .i64 3) := by rw [← HK.out]; exact M0.out 0 _ rfl
  have q9 : w1.cell? ⟨b, 9, none⟩ = some (.bool m.h) := M0.out 9 _ rfl
  clear HK hz M0
  go_wp2_with (first | (go_at_call 53; refine (H53.out _).mono ?_; rintro e w' ⟨rfl, rfl⟩) | (go_at_call 55; refine (H55.out _).mono ?_; rintro e w' ⟨rfl, rfl⟩) | (go_at_call 57; refine (H57.out _).mono ?_; rintro e w' ⟨rfl, rfl⟩) | (go_at_call 58; refine (H58.out _).mono ?_; rintro e w' ⟨rfl, rfl⟩))
  go_ret
  exact ⟨by rw [E.out]; rfl, BA.out⟩
set_option maxHeartbeats 1600000 in
set_option maxRecDepth 1000000 in
theorem bod_k5 {w : World} (m : Ms) {li : List ByteArray} {le lx : List Ent} {ls : List Sh} (hT : Tab w) (hl : Ml w m li le ls lx) (hk : m.k = 5) : Calls Tryz.prog 39 #[m.V] w fun e w' => e = .returned (.bool (m.bodB 5 li le ls lx)) ∧ Below w.heap.size w w' := by
  obtain ⟨z, hz⟩ : ∃ z, Hid (m.bodB 5 li le ls lx = z) := ⟨_, hid rfl⟩
  rw [hz.out]
  have E : Hid (z = true) := hid (by
    rw [← hz.out]
    show ((!inK 5 79 || m.oB) && ((!inK 5 82 || chkX m.rc m.rn li == 0) && ((!inK 5 69 || m.eB le) && (!inH 5 m.h 71 || cgB m.cf m.cb ls lx)))) = _
    rw [show inK 5 79 = false from rfl, show inK 5 82 = false from rfl, show inK 5 69 = false from rfl, show inH 5 m.h 71 = false from (by cases m.h <;> rfl)]
    simp)
  have BA := hid (ba w (.cells m.cells.toArray 34))
  have M0 := hid (MsAt.new w m)
  have HK := hid hk
  clear hk
  have H53 : Hid (∀ W : World, Calls Tryz.prog 53 #[.int .i64 5] W fun e w' => e = .returned (.bool false) ∧ w' = W) := hid (fun W => has53 (k := 5) ⟨by omega, by omega⟩)
  have H55 : Hid (∀ W : World, Calls Tryz.prog 55 #[.int .i64 5] W fun e w' => e = .returned (.bool false) ∧ w' = W) := hid (fun W => has55 (k := 5) ⟨by omega, by omega⟩)
  have H57 : Hid (∀ W : World, Calls Tryz.prog 57 #[.int .i64 5] W fun e w' => e = .returned (.bool false) ∧ w' = W) := hid (fun W => has57 (k := 5) ⟨by omega, by omega⟩)
  have H58 : Hid (∀ W : World, Calls Tryz.prog 58 #[.int .i64 5, .bool m.h] W fun e w' => e = .returned (.bool false) ∧ w' = W) := hid (fun W => by
    have := has58 (w := W) (k := 5) m.h ⟨by omega, by omega⟩
    rw [show inH 5 m.h 71 = false from (by cases m.h <;> rfl)] at this
    exact this)
  clear hT hl
  go_enter Tryz.func39, Tryz.ntmps39
  go_upto_region 1 with fail
  obtain ⟨b, hbb⟩ : ∃ b, Hid (b = w.heap.size) := ⟨_, hid rfl⟩
  rw [← hbb.out] at M0 ⊢
  change Code.wp _ _ _ _ (w.alloc (.cells m.cells.toArray 34))
  generalize w.alloc (.cells m.cells.toArray 34) = w1 at BA M0 ⊢
  have q0 : w1.cell? ⟨b, 0, none⟩ = some (.int .i64 5) := by rw [← HK.out]; exact M0.out 0 _ rfl
  have q9 : w1.cell? ⟨b, 9, none⟩ = some (.bool m.h) := M0.out 9 _ rfl
  clear HK hz M0
  go_wp2_with (first | (go_at_call 53; refine (H53.out _).mono ?_; rintro e w' ⟨rfl, rfl⟩) | (go_at_call 55; refine (H55.out _).mono ?_; rintro e w' ⟨rfl, rfl⟩) | (go_at_call 57; refine (H57.out _).mono ?_; rintro e w' ⟨rfl, rfl⟩) | (go_at_call 58; refine (H58.out _).mono ?_; rintro e w' ⟨rfl, rfl⟩))
  go_ret
  exact ⟨by rw [E.out]; rfl, BA.out⟩
set_option maxHeartbeats 1600000 in
set_option maxRecDepth 1000000 in
theorem bod_k6 {w : World} (m : Ms) {li : List ByteArray} {le lx : List Ent} {ls : List Sh} (hT : Tab w) (hl : Ml w m li le ls lx) (hk : m.k = 6) : Calls Tryz.prog 39 #[m.V] w fun e w' => e = .returned (.bool (m.bodB 6 li le ls lx)) ∧ Below w.heap.size w w' := by
  obtain ⟨z, hz⟩ : ∃ z, Hid (m.bodB 6 li le ls lx = z) := ⟨_, hid rfl⟩
  rw [hz.out]
  have E : Hid (z = true) := hid (by
    rw [← hz.out]
    show ((!inK 6 79 || m.oB) && ((!inK 6 82 || chkX m.rc m.rn li == 0) && ((!inK 6 69 || m.eB le) && (!inH 6 m.h 71 || cgB m.cf m.cb ls lx)))) = _
    rw [show inK 6 79 = false from rfl, show inK 6 82 = false from rfl, show inK 6 69 = false from rfl, show inH 6 m.h 71 = false from (by cases m.h <;> rfl)]
    simp)
  have BA := hid (ba w (.cells m.cells.toArray 34))
  have M0 := hid (MsAt.new w m)
  have HK := hid hk
  clear hk
  have H53 : Hid (∀ W : World, Calls Tryz.prog 53 #[.int .i64 6] W fun e w' => e = .returned (.bool false) ∧ w' = W) := hid (fun W => has53 (k := 6) ⟨by omega, by omega⟩)
  have H55 : Hid (∀ W : World, Calls Tryz.prog 55 #[.int .i64 6] W fun e w' => e = .returned (.bool false) ∧ w' = W) := hid (fun W => has55 (k := 6) ⟨by omega, by omega⟩)
  have H57 : Hid (∀ W : World, Calls Tryz.prog 57 #[.int .i64 6] W fun e w' => e = .returned (.bool false) ∧ w' = W) := hid (fun W => has57 (k := 6) ⟨by omega, by omega⟩)
  have H58 : Hid (∀ W : World, Calls Tryz.prog 58 #[.int .i64 6, .bool m.h] W fun e w' => e = .returned (.bool false) ∧ w' = W) := hid (fun W => by
    have := has58 (w := W) (k := 6) m.h ⟨by omega, by omega⟩
    rw [show inH 6 m.h 71 = false from (by cases m.h <;> rfl)] at this
    exact this)
  clear hT hl
  go_enter Tryz.func39, Tryz.ntmps39
  go_upto_region 1 with fail
  obtain ⟨b, hbb⟩ : ∃ b, Hid (b = w.heap.size) := ⟨_, hid rfl⟩
  rw [← hbb.out] at M0 ⊢
  change Code.wp _ _ _ _ (w.alloc (.cells m.cells.toArray 34))
  generalize w.alloc (.cells m.cells.toArray 34) = w1 at BA M0 ⊢
  have q0 : w1.cell? ⟨b, 0, none⟩ = some (.int .i64 6) := by rw [← HK.out]; exact M0.out 0 _ rfl
  have q9 : w1.cell? ⟨b, 9, none⟩ = some (.bool m.h) := M0.out 9 _ rfl
  clear HK hz M0
  go_wp2_with (first | (go_at_call 53; refine (H53.out _).mono ?_; rintro e w' ⟨rfl, rfl⟩) | (go_at_call 55; refine (H55.out _).mono ?_; rintro e w' ⟨rfl, rfl⟩) | (go_at_call 57; refine (H57.out _).mono ?_; rintro e w' ⟨rfl, rfl⟩) | (go_at_call 58; refine (H58.out _).mono ?_; rintro e w' ⟨rfl, rfl⟩))
  go_ret
  exact ⟨by rw [E.out]; rfl, BA.out⟩
set_option maxHeartbeats 1600000 in
set_option maxRecDepth 1000000 in
theorem bod_k7 {w : World} (m : Ms) {li : List ByteArray} {le lx : List Ent} {ls : List Sh} (hT : Tab w) (hl : Ml w m li le ls lx) (hk : m.k = 7) : Calls Tryz.prog 39 #[m.V] w fun e w' => e = .returned (.bool (m.bodB 7 li le ls lx)) ∧ Below w.heap.size w w' := by
  obtain ⟨z, hz⟩ : ∃ z, Hid (m.bodB 7 li le ls lx = z) := ⟨_, hid rfl⟩
  rw [hz.out]
  have E : Hid (z = true) := hid (by
    rw [← hz.out]
    show ((!inK 7 79 || m.oB) && ((!inK 7 82 || chkX m.rc m.rn li == 0) && ((!inK 7 69 || m.eB le) && (!inH 7 m.h 71 || cgB m.cf m.cb ls lx)))) = _
    rw [show inK 7 79 = false from rfl, show inK 7 82 = false from rfl, show inK 7 69 = false from rfl, show inH 7 m.h 71 = false from (by cases m.h <;> rfl)]
    simp)
  have BA := hid (ba w (.cells m.cells.toArray 34))
  have M0 := hid (MsAt.new w m)
  have HK := hid hk
  clear hk
  have H53 : Hid (∀ W : World, Calls Tryz.prog 53 #[.int .i64 7] W fun e w' => e = .returned (.bool false) ∧ w' = W) := hid (fun W => has53 (k := 7) ⟨by omega, by omega⟩)
  have H55 : Hid (∀ W : World, Calls Tryz.prog 55 #[.int .i64 7] W fun e w' => e = .returned (.bool false) ∧ w' = W) := hid (fun W => has55 (k := 7) ⟨by omega, by omega⟩)
  have H57 : Hid (∀ W : World, Calls Tryz.prog 57 #[.int .i64 7] W fun e w' => e = .returned (.bool false) ∧ w' = W) := hid (fun W => has57 (k := 7) ⟨by omega, by omega⟩)
  have H58 : Hid (∀ W : World, Calls Tryz.prog 58 #[.int .i64 7, .bool m.h] W fun e w' => e = .returned (.bool false) ∧ w' = W) := hid (fun W => by
    have := has58 (w := W) (k := 7) m.h ⟨by omega, by omega⟩
    rw [show inH 7 m.h 71 = false from (by cases m.h <;> rfl)] at this
    exact this)
  clear hT hl
  go_enter Tryz.func39, Tryz.ntmps39
  go_upto_region 1 with fail
  obtain ⟨b, hbb⟩ : ∃ b, Hid (b = w.heap.size) := ⟨_, hid rfl⟩
  rw [← hbb.out] at M0 ⊢
  change Code.wp _ _ _ _ (w.alloc (.cells m.cells.toArray 34))
  generalize w.alloc (.cells m.cells.toArray 34) = w1 at BA M0 ⊢
  have q0 : w1.cell? ⟨b, 0, none⟩ = some (.int .i64 7) := by rw [← HK.out]; exact M0.out 0 _ rfl
  have q9 : w1.cell? ⟨b, 9, none⟩ = some (.bool m.h) := M0.out 9 _ rfl
  clear HK hz M0
  go_wp2_with (first | (go_at_call 53; refine (H53.out _).mono ?_; rintro e w' ⟨rfl, rfl⟩) | (go_at_call 55; refine (H55.out _).mono ?_; rintro e w' ⟨rfl, rfl⟩) | (go_at_call 57; refine (H57.out _).mono ?_; rintro e w' ⟨rfl, rfl⟩) | (go_at_call 58; refine (H58.out _).mono ?_; rintro e w' ⟨rfl, rfl⟩))
  go_ret
  exact ⟨by rw [E.out]; rfl, BA.out⟩
set_option maxHeartbeats 1600000 in
set_option maxRecDepth 1000000 in
theorem bod_k10 {w : World} (m : Ms) {li : List ByteArray} {le lx : List Ent} {ls : List Sh} (hT : Tab w) (hl : Ml w m li le ls lx) (hk : m.k = 10) : Calls Tryz.prog 39 #[m.V] w fun e w' => e = .returned (.bool (m.bodB 10 li le ls lx)) ∧ Below w.heap.size w w' := by
  obtain ⟨z, hz⟩ : ∃ z, Hid (m.bodB 10 li le ls lx = z) := ⟨_, hid rfl⟩
  rw [hz.out]
  have E : Hid (z = true) := hid (by
    rw [← hz.out]
    show ((!inK 10 79 || m.oB) && ((!inK 10 82 || chkX m.rc m.rn li == 0) && ((!inK 10 69 || m.eB le) && (!inH 10 m.h 71 || cgB m.cf m.cb ls lx)))) = _
    rw [show inK 10 79 = false from rfl, show inK 10 82 = false from rfl, show inK 10 69 = false from rfl, show inH 10 m.h 71 = false from (by cases m.h <;> rfl)]
    simp)
  have BA := hid (ba w (.cells m.cells.toArray 34))
  have M0 := hid (MsAt.new w m)
  have HK := hid hk
  clear hk
  have H53 : Hid (∀ W : World, Calls Tryz.prog 53 #[.int .i64 10] W fun e w' => e = .returned (.bool false) ∧ w' = W) := hid (fun W => has53 (k := 10) ⟨by omega, by omega⟩)
  have H55 : Hid (∀ W : World, Calls Tryz.prog 55 #[.int .i64 10] W fun e w' => e = .returned (.bool false) ∧ w' = W) := hid (fun W => has55 (k := 10) ⟨by omega, by omega⟩)
  have H57 : Hid (∀ W : World, Calls Tryz.prog 57 #[.int .i64 10] W fun e w' => e = .returned (.bool false) ∧ w' = W) := hid (fun W => has57 (k := 10) ⟨by omega, by omega⟩)
  have H58 : Hid (∀ W : World, Calls Tryz.prog 58 #[.int .i64 10, .bool m.h] W fun e w' => e = .returned (.bool false) ∧ w' = W) := hid (fun W => by
    have := has58 (w := W) (k := 10) m.h ⟨by omega, by omega⟩
    rw [show inH 10 m.h 71 = false from (by cases m.h <;> rfl)] at this
    exact this)
  clear hT hl
  go_enter Tryz.func39, Tryz.ntmps39
  go_upto_region 1 with fail
  obtain ⟨b, hbb⟩ : ∃ b, Hid (b = w.heap.size) := ⟨_, hid rfl⟩
  rw [← hbb.out] at M0 ⊢
  change Code.wp _ _ _ _ (w.alloc (.cells m.cells.toArray 34))
  generalize w.alloc (.cells m.cells.toArray 34) = w1 at BA M0 ⊢
  have q0 : w1.cell? ⟨b, 0, none⟩ = some (.int .i64 10) := by rw [← HK.out]; exact M0.out 0 _ rfl
  have q9 : w1.cell? ⟨b, 9, none⟩ = some (.bool m.h) := M0.out 9 _ rfl
  clear HK hz M0
  go_wp2_with (first | (go_at_call 53; refine (H53.out _).mono ?_; rintro e w' ⟨rfl, rfl⟩) | (go_at_call 55; refine (H55.out _).mono ?_; rintro e w' ⟨rfl, rfl⟩) | (go_at_call 57; refine (H57.out _).mono ?_; rintro e w' ⟨rfl, rfl⟩) | (go_at_call 58; refine (H58.out _).mono ?_; rintro e w' ⟨rfl, rfl⟩))
  go_ret
  exact ⟨by rw [E.out]; rfl, BA.out⟩
set_option maxHeartbeats 1600000 in
set_option maxRecDepth 1000000 in
theorem bod_k12 {w : World} (m : Ms) {li : List ByteArray} {le lx : List Ent} {ls : List Sh} (hT : Tab w) (hl : Ml w m li le ls lx) (hk : m.k = 12) : Calls Tryz.prog 39 #[m.V] w fun e w' => e = .returned (.bool (m.bodB 12 li le ls lx)) ∧ Below w.heap.size w w' := by
  obtain ⟨z, hz⟩ : ∃ z, Hid (m.bodB 12 li le ls lx = z) := ⟨_, hid rfl⟩
  rw [hz.out]
  have E : Hid (z = true) := hid (by
    rw [← hz.out]
    show ((!inK 12 79 || m.oB) && ((!inK 12 82 || chkX m.rc m.rn li == 0) && ((!inK 12 69 || m.eB le) && (!inH 12 m.h 71 || cgB m.cf m.cb ls lx)))) = _
    rw [show inK 12 79 = false from rfl, show inK 12 82 = false from rfl, show inK 12 69 = false from rfl, show inH 12 m.h 71 = false from (by cases m.h <;> rfl)]
    simp)
  have BA := hid (ba w (.cells m.cells.toArray 34))
  have M0 := hid (MsAt.new w m)
  have HK := hid hk
  clear hk
  have H53 : Hid (∀ W : World, Calls Tryz.prog 53 #[.int .i64 12] W fun e w' => e = .returned (.bool false) ∧ w' = W) := hid (fun W => has53 (k := 12) ⟨by omega, by omega⟩)
  have H55 : Hid (∀ W : World, Calls Tryz.prog 55 #[.int .i64 12] W fun e w' => e = .returned (.bool false) ∧ w' = W) := hid (fun W => has55 (k := 12) ⟨by omega, by omega⟩)
  have H57 : Hid (∀ W : World, Calls Tryz.prog 57 #[.int .i64 12] W fun e w' => e = .returned (.bool false) ∧ w' = W) := hid (fun W => has57 (k := 12) ⟨by omega, by omega⟩)
  have H58 : Hid (∀ W : World, Calls Tryz.prog 58 #[.int .i64 12, .bool m.h] W fun e w' => e = .returned (.bool false) ∧ w' = W) := hid (fun W => by
    have := has58 (w := W) (k := 12) m.h ⟨by omega, by omega⟩
    rw [show inH 12 m.h 71 = false from (by cases m.h <;> rfl)] at this
    exact this)
  clear hT hl
  go_enter Tryz.func39, Tryz.ntmps39
  go_upto_region 1 with fail
  obtain ⟨b, hbb⟩ : ∃ b, Hid (b = w.heap.size) := ⟨_, hid rfl⟩
  rw [← hbb.out] at M0 ⊢
  change Code.wp _ _ _ _ (w.alloc (.cells m.cells.toArray 34))
  generalize w.alloc (.cells m.cells.toArray 34) = w1 at BA M0 ⊢
  have q0 : w1.cell? ⟨b, 0, none⟩ = some (.int .i64 12) := by rw [← HK.out]; exact M0.out 0 _ rfl
  have q9 : w1.cell? ⟨b, 9, none⟩ = some (.bool m.h) := M0.out 9 _ rfl
  clear HK hz M0
  go_wp2_with (first | (go_at_call 53; refine (H53.out _).mono ?_; rintro e w' ⟨rfl, rfl⟩) | (go_at_call 55; refine (H55.out _).mono ?_; rintro e w' ⟨rfl, rfl⟩) | (go_at_call 57; refine (H57.out _).mono ?_; rintro e w' ⟨rfl, rfl⟩) | (go_at_call 58; refine (H58.out _).mono ?_; rintro e w' ⟨rfl, rfl⟩))
  go_ret
  exact ⟨by rw [E.out]; rfl, BA.out⟩
set_option maxHeartbeats 1600000 in
set_option maxRecDepth 1000000 in
theorem bod_k8 {w : World} (m : Ms) {li : List ByteArray} {le lx : List Ent} {ls : List Sh} (hT : Tab w) (hl : Ml w m li le ls lx) (hk : m.k = 8) : Calls Tryz.prog 39 #[m.V] w fun e w' => e = .returned (.bool (m.bodB 8 li le ls lx)) ∧ Below w.heap.size w w' := by
  obtain ⟨z, hz⟩ : ∃ z, Hid (m.bodB 8 li le ls lx = z) := ⟨_, hid rfl⟩
  rw [hz.out]
  have E : Hid (z = cgB m.cf m.cb ls lx) := hid (by
    rw [← hz.out]
    show ((!inK 8 79 || m.oB) && ((!inK 8 82 || chkX m.rc m.rn li == 0) && ((!inK 8 69 || m.eB le) && (!inH 8 m.h 71 || cgB m.cf m.cb ls lx)))) = _
    rw [show inK 8 79 = false from rfl, show inK 8 82 = false from rfl, show inK 8 69 = false from rfl, show inH 8 m.h 71 = true from (by cases m.h <;> rfl)]
    simp)
  have BA := hid (ba w (.cells m.cells.toArray 34))
  have M0 := hid (MsAt.new w m)
  have HK := hid hk
  clear hk
  have H53 : Hid (∀ W : World, Calls Tryz.prog 53 #[.int .i64 8] W fun e w' => e = .returned (.bool false) ∧ w' = W) := hid (fun W => has53 (k := 8) ⟨by omega, by omega⟩)
  have H55 : Hid (∀ W : World, Calls Tryz.prog 55 #[.int .i64 8] W fun e w' => e = .returned (.bool false) ∧ w' = W) := hid (fun W => has55 (k := 8) ⟨by omega, by omega⟩)
  have H57 : Hid (∀ W : World, Calls Tryz.prog 57 #[.int .i64 8] W fun e w' => e = .returned (.bool false) ∧ w' = W) := hid (fun W => has57 (k := 8) ⟨by omega, by omega⟩)
  have H58 : Hid (∀ W : World, Calls Tryz.prog 58 #[.int .i64 8, .bool m.h] W fun e w' => e = .returned (.bool true) ∧ w' = W) := hid (fun W => by
    have := has58 (w := W) (k := 8) m.h ⟨by omega, by omega⟩
    rw [show inH 8 m.h 71 = true from (by cases m.h <;> rfl)] at this
    exact this)
  have CG : Hid (∀ W, Below w.heap.size w W → Calls Tryz.prog 81 #[cgV m.cf m.cb m.sa m.sl m.sp m.xa m.xl m.xp] W fun e w' => e = .returned (.int .i64 (cgE (cgB m.cf m.cb ls lx))) ∧ Below w.heap.size w w') := hid (fun W hW => by
    have hL := hl.later hW
    have := rcargo_any m.cf m.cb hL.sh hL.ex m.sp m.xp (by have := hL.ns; have := hL.bs; omega) (by have := hL.nx; have := hL.bx; omega)
    rw [← hL.ns, ← hL.nx] at this
    exact this.mono fun e w' ⟨h1, h2⟩ => ⟨h1, hW.trans (h2.mono hW.size)⟩)
  generalize cgB m.cf m.cb ls lx = y at CG E
  have hy : Hid (y = (cgE y == 0)) := hid (by cases y <;> rfl)
  generalize cgE y = v at CG hy
  clear hT hl
  go_enter Tryz.func39, Tryz.ntmps39
  go_upto_region 1 with fail
  obtain ⟨b, hbb⟩ : ∃ b, Hid (b = w.heap.size) := ⟨_, hid rfl⟩
  rw [← hbb.out] at M0 ⊢
  change Code.wp _ _ _ _ (w.alloc (.cells m.cells.toArray 34))
  generalize w.alloc (.cells m.cells.toArray 34) = w1 at BA M0 ⊢
  have q0 : w1.cell? ⟨b, 0, none⟩ = some (.int .i64 8) := by rw [← HK.out]; exact M0.out 0 _ rfl
  have q9 : w1.cell? ⟨b, 9, none⟩ = some (.bool m.h) := M0.out 9 _ rfl
  have q19 : w1.cell? ⟨b, 19, none⟩ = some (.int .i64 m.cf) := M0.out 19 _ rfl
  have q20 : w1.cell? ⟨b, 20, none⟩ = some (.int .i64 m.cb) := M0.out 20 _ rfl
  have q21 : w1.cell? ⟨b, 21, none⟩ = some (.slice m.sa m.sl m.sp) := M0.out 21 _ rfl
  have q22 : w1.cell? ⟨b, 22, none⟩ = some (.slice m.xa m.xl m.xp) := M0.out 22 _ rfl
  clear HK hz M0
  go_wp2_with (first | (go_at_call 53; refine (H53.out _).mono ?_; rintro e w' ⟨rfl, rfl⟩) | (go_at_call 55; refine (H55.out _).mono ?_; rintro e w' ⟨rfl, rfl⟩) | (go_at_call 57; refine (H57.out _).mono ?_; rintro e w' ⟨rfl, rfl⟩) | (go_at_call 58; refine (H58.out _).mono ?_; rintro e w' ⟨rfl, rfl⟩) | (go_at_call 81; refine (CG.out _ BA.out).mono ?_; rintro e w2 ⟨rfl, hB2⟩; have B2 := hid hB2; clear hB2))
  go_ret
  exact ⟨by rw [E.out, hy.out]; rfl, B2.out⟩
set_option maxHeartbeats 1600000 in
set_option maxRecDepth 1000000 in
theorem bod_k9 {w : World} (m : Ms) {li : List ByteArray} {le lx : List Ent} {ls : List Sh} (hT : Tab w) (hl : Ml w m li le ls lx) (hk : m.k = 9) : Calls Tryz.prog 39 #[m.V] w fun e w' => e = .returned (.bool (m.bodB 9 li le ls lx)) ∧ Below w.heap.size w w' := by
  obtain ⟨z, hz⟩ : ∃ z, Hid (m.bodB 9 li le ls lx = z) := ⟨_, hid rfl⟩
  rw [hz.out]
  have E : Hid (z = cgB m.cf m.cb ls lx) := hid (by
    rw [← hz.out]
    show ((!inK 9 79 || m.oB) && ((!inK 9 82 || chkX m.rc m.rn li == 0) && ((!inK 9 69 || m.eB le) && (!inH 9 m.h 71 || cgB m.cf m.cb ls lx)))) = _
    rw [show inK 9 79 = false from rfl, show inK 9 82 = false from rfl, show inK 9 69 = false from rfl, show inH 9 m.h 71 = true from (by cases m.h <;> rfl)]
    simp)
  have BA := hid (ba w (.cells m.cells.toArray 34))
  have M0 := hid (MsAt.new w m)
  have HK := hid hk
  clear hk
  have H53 : Hid (∀ W : World, Calls Tryz.prog 53 #[.int .i64 9] W fun e w' => e = .returned (.bool false) ∧ w' = W) := hid (fun W => has53 (k := 9) ⟨by omega, by omega⟩)
  have H55 : Hid (∀ W : World, Calls Tryz.prog 55 #[.int .i64 9] W fun e w' => e = .returned (.bool false) ∧ w' = W) := hid (fun W => has55 (k := 9) ⟨by omega, by omega⟩)
  have H57 : Hid (∀ W : World, Calls Tryz.prog 57 #[.int .i64 9] W fun e w' => e = .returned (.bool false) ∧ w' = W) := hid (fun W => has57 (k := 9) ⟨by omega, by omega⟩)
  have H58 : Hid (∀ W : World, Calls Tryz.prog 58 #[.int .i64 9, .bool m.h] W fun e w' => e = .returned (.bool true) ∧ w' = W) := hid (fun W => by
    have := has58 (w := W) (k := 9) m.h ⟨by omega, by omega⟩
    rw [show inH 9 m.h 71 = true from (by cases m.h <;> rfl)] at this
    exact this)
  have CG : Hid (∀ W, Below w.heap.size w W → Calls Tryz.prog 81 #[cgV m.cf m.cb m.sa m.sl m.sp m.xa m.xl m.xp] W fun e w' => e = .returned (.int .i64 (cgE (cgB m.cf m.cb ls lx))) ∧ Below w.heap.size w w') := hid (fun W hW => by
    have hL := hl.later hW
    have := rcargo_any m.cf m.cb hL.sh hL.ex m.sp m.xp (by have := hL.ns; have := hL.bs; omega) (by have := hL.nx; have := hL.bx; omega)
    rw [← hL.ns, ← hL.nx] at this
    exact this.mono fun e w' ⟨h1, h2⟩ => ⟨h1, hW.trans (h2.mono hW.size)⟩)
  generalize cgB m.cf m.cb ls lx = y at CG E
  have hy : Hid (y = (cgE y == 0)) := hid (by cases y <;> rfl)
  generalize cgE y = v at CG hy
  clear hT hl
  go_enter Tryz.func39, Tryz.ntmps39
  go_upto_region 1 with fail
  obtain ⟨b, hbb⟩ : ∃ b, Hid (b = w.heap.size) := ⟨_, hid rfl⟩
  rw [← hbb.out] at M0 ⊢
  change Code.wp _ _ _ _ (w.alloc (.cells m.cells.toArray 34))
  generalize w.alloc (.cells m.cells.toArray 34) = w1 at BA M0 ⊢
  have q0 : w1.cell? ⟨b, 0, none⟩ = some (.int .i64 9) := by rw [← HK.out]; exact M0.out 0 _ rfl
  have q9 : w1.cell? ⟨b, 9, none⟩ = some (.bool m.h) := M0.out 9 _ rfl
  have q19 : w1.cell? ⟨b, 19, none⟩ = some (.int .i64 m.cf) := M0.out 19 _ rfl
  have q20 : w1.cell? ⟨b, 20, none⟩ = some (.int .i64 m.cb) := M0.out 20 _ rfl
  have q21 : w1.cell? ⟨b, 21, none⟩ = some (.slice m.sa m.sl m.sp) := M0.out 21 _ rfl
  have q22 : w1.cell? ⟨b, 22, none⟩ = some (.slice m.xa m.xl m.xp) := M0.out 22 _ rfl
  clear HK hz M0
  go_wp2_with (first | (go_at_call 53; refine (H53.out _).mono ?_; rintro e w' ⟨rfl, rfl⟩) | (go_at_call 55; refine (H55.out _).mono ?_; rintro e w' ⟨rfl, rfl⟩) | (go_at_call 57; refine (H57.out _).mono ?_; rintro e w' ⟨rfl, rfl⟩) | (go_at_call 58; refine (H58.out _).mono ?_; rintro e w' ⟨rfl, rfl⟩) | (go_at_call 81; refine (CG.out _ BA.out).mono ?_; rintro e w2 ⟨rfl, hB2⟩; have B2 := hid hB2; clear hB2))
  go_ret
  exact ⟨by rw [E.out, hy.out]; rfl, B2.out⟩
set_option maxHeartbeats 1600000 in
set_option maxRecDepth 1000000 in
theorem bod_k13 {w : World} (m : Ms) {li : List ByteArray} {le lx : List Ent} {ls : List Sh} (hT : Tab w) (hl : Ml w m li le ls lx) (hk : m.k = 13) : Calls Tryz.prog 39 #[m.V] w fun e w' => e = .returned (.bool (m.bodB 13 li le ls lx)) ∧ Below w.heap.size w w' := by
  obtain ⟨z, hz⟩ : ∃ z, Hid (m.bodB 13 li le ls lx = z) := ⟨_, hid rfl⟩
  rw [hz.out]
  have E : Hid (z = cgB m.cf m.cb ls lx) := hid (by
    rw [← hz.out]
    show ((!inK 13 79 || m.oB) && ((!inK 13 82 || chkX m.rc m.rn li == 0) && ((!inK 13 69 || m.eB le) && (!inH 13 m.h 71 || cgB m.cf m.cb ls lx)))) = _
    rw [show inK 13 79 = false from rfl, show inK 13 82 = false from rfl, show inK 13 69 = false from rfl, show inH 13 m.h 71 = true from (by cases m.h <;> rfl)]
    simp)
  have BA := hid (ba w (.cells m.cells.toArray 34))
  have M0 := hid (MsAt.new w m)
  have HK := hid hk
  clear hk
  have H53 : Hid (∀ W : World, Calls Tryz.prog 53 #[.int .i64 13] W fun e w' => e = .returned (.bool false) ∧ w' = W) := hid (fun W => has53 (k := 13) ⟨by omega, by omega⟩)
  have H55 : Hid (∀ W : World, Calls Tryz.prog 55 #[.int .i64 13] W fun e w' => e = .returned (.bool false) ∧ w' = W) := hid (fun W => has55 (k := 13) ⟨by omega, by omega⟩)
  have H57 : Hid (∀ W : World, Calls Tryz.prog 57 #[.int .i64 13] W fun e w' => e = .returned (.bool false) ∧ w' = W) := hid (fun W => has57 (k := 13) ⟨by omega, by omega⟩)
  have H58 : Hid (∀ W : World, Calls Tryz.prog 58 #[.int .i64 13, .bool m.h] W fun e w' => e = .returned (.bool true) ∧ w' = W) := hid (fun W => by
    have := has58 (w := W) (k := 13) m.h ⟨by omega, by omega⟩
    rw [show inH 13 m.h 71 = true from (by cases m.h <;> rfl)] at this
    exact this)
  have CG : Hid (∀ W, Below w.heap.size w W → Calls Tryz.prog 81 #[cgV m.cf m.cb m.sa m.sl m.sp m.xa m.xl m.xp] W fun e w' => e = .returned (.int .i64 (cgE (cgB m.cf m.cb ls lx))) ∧ Below w.heap.size w w') := hid (fun W hW => by
    have hL := hl.later hW
    have := rcargo_any m.cf m.cb hL.sh hL.ex m.sp m.xp (by have := hL.ns; have := hL.bs; omega) (by have := hL.nx; have := hL.bx; omega)
    rw [← hL.ns, ← hL.nx] at this
    exact this.mono fun e w' ⟨h1, h2⟩ => ⟨h1, hW.trans (h2.mono hW.size)⟩)
  generalize cgB m.cf m.cb ls lx = y at CG E
  have hy : Hid (y = (cgE y == 0)) := hid (by cases y <;> rfl)
  generalize cgE y = v at CG hy
  clear hT hl
  go_enter Tryz.func39, Tryz.ntmps39
  go_upto_region 1 with fail
  obtain ⟨b, hbb⟩ : ∃ b, Hid (b = w.heap.size) := ⟨_, hid rfl⟩
  rw [← hbb.out] at M0 ⊢
  change Code.wp _ _ _ _ (w.alloc (.cells m.cells.toArray 34))
  generalize w.alloc (.cells m.cells.toArray 34) = w1 at BA M0 ⊢
  have q0 : w1.cell? ⟨b, 0, none⟩ = some (.int .i64 13) := by rw [← HK.out]; exact M0.out 0 _ rfl
  have q9 : w1.cell? ⟨b, 9, none⟩ = some (.bool m.h) := M0.out 9 _ rfl
  have q19 : w1.cell? ⟨b, 19, none⟩ = some (.int .i64 m.cf) := M0.out 19 _ rfl
  have q20 : w1.cell? ⟨b, 20, none⟩ = some (.int .i64 m.cb) := M0.out 20 _ rfl
  have q21 : w1.cell? ⟨b, 21, none⟩ = some (.slice m.sa m.sl m.sp) := M0.out 21 _ rfl
  have q22 : w1.cell? ⟨b, 22, none⟩ = some (.slice m.xa m.xl m.xp) := M0.out 22 _ rfl
  clear HK hz M0
  go_wp2_with (first | (go_at_call 53; refine (H53.out _).mono ?_; rintro e w' ⟨rfl, rfl⟩) | (go_at_call 55; refine (H55.out _).mono ?_; rintro e w' ⟨rfl, rfl⟩) | (go_at_call 57; refine (H57.out _).mono ?_; rintro e w' ⟨rfl, rfl⟩) | (go_at_call 58; refine (H58.out _).mono ?_; rintro e w' ⟨rfl, rfl⟩) | (go_at_call 81; refine (CG.out _ BA.out).mono ?_; rintro e w2 ⟨rfl, hB2⟩; have B2 := hid hB2; clear hB2))
  go_ret
  exact ⟨by rw [E.out, hy.out]; rfl, B2.out⟩
set_option maxHeartbeats 1600000 in
set_option maxRecDepth 1000000 in
theorem bod_k11f {w : World} (m : Ms) {li : List ByteArray} {le lx : List Ent} {ls : List Sh} (hT : Tab w) (hl : Ml w m li le ls lx) (hk : m.k = 11) (hh : m.h = false) : Calls Tryz.prog 39 #[m.V] w fun e w' => e = .returned (.bool (m.bodB 11 li le ls lx)) ∧ Below w.heap.size w w' := by
  obtain ⟨z, hz⟩ : ∃ z, Hid (m.bodB 11 li le ls lx = z) := ⟨_, hid rfl⟩
  rw [hz.out]
  have E : Hid (z = true) := hid (by
    rw [← hz.out]
    show ((!inK 11 79 || m.oB) && ((!inK 11 82 || chkX m.rc m.rn li == 0) && ((!inK 11 69 || m.eB le) && (!inH 11 m.h 71 || cgB m.cf m.cb ls lx)))) = _
    rw [hh]
    rw [show inK 11 79 = false from rfl, show inK 11 82 = false from rfl, show inK 11 69 = false from rfl, show inH 11 false 71 = false from rfl]
    simp)
  have BA := hid (ba w (.cells m.cells.toArray 34))
  have M0 := hid (MsAt.new w m)
  have HK := hid hk
  have HH := hid hh
  clear hk hh
  have H53 : Hid (∀ W : World, Calls Tryz.prog 53 #[.int .i64 11] W fun e w' => e = .returned (.bool false) ∧ w' = W) := hid (fun W => has53 (k := 11) ⟨by omega, by omega⟩)
  have H55 : Hid (∀ W : World, Calls Tryz.prog 55 #[.int .i64 11] W fun e w' => e = .returned (.bool false) ∧ w' = W) := hid (fun W => has55 (k := 11) ⟨by omega, by omega⟩)
  have H57 : Hid (∀ W : World, Calls Tryz.prog 57 #[.int .i64 11] W fun e w' => e = .returned (.bool false) ∧ w' = W) := hid (fun W => has57 (k := 11) ⟨by omega, by omega⟩)
  have H58 : Hid (∀ W : World, Calls Tryz.prog 58 #[.int .i64 11, .bool false] W fun e w' => e = .returned (.bool false) ∧ w' = W) := hid (fun W => by
    have := has58 (w := W) (k := 11) false ⟨by omega, by omega⟩
    rw [show inH 11 false 71 = false from rfl] at this
    exact this)
  clear hT hl
  go_enter Tryz.func39, Tryz.ntmps39
  go_upto_region 1 with fail
  obtain ⟨b, hbb⟩ : ∃ b, Hid (b = w.heap.size) := ⟨_, hid rfl⟩
  rw [← hbb.out] at M0 ⊢
  change Code.wp _ _ _ _ (w.alloc (.cells m.cells.toArray 34))
  generalize w.alloc (.cells m.cells.toArray 34) = w1 at BA M0 ⊢
  have q0 : w1.cell? ⟨b, 0, none⟩ = some (.int .i64 11) := by rw [← HK.out]; exact M0.out 0 _ rfl
  have q9 : w1.cell? ⟨b, 9, none⟩ = some (.bool false) := by rw [← HH.out]; exact M0.out 9 _ rfl
  clear HK hz M0
  go_wp2_with (first | (go_at_call 53; refine (H53.out _).mono ?_; rintro e w' ⟨rfl, rfl⟩) | (go_at_call 55; refine (H55.out _).mono ?_; rintro e w' ⟨rfl, rfl⟩) | (go_at_call 57; refine (H57.out _).mono ?_; rintro e w' ⟨rfl, rfl⟩) | (go_at_call 58; refine (H58.out _).mono ?_; rintro e w' ⟨rfl, rfl⟩))
  go_ret
  exact ⟨by rw [E.out]; rfl, BA.out⟩
set_option maxHeartbeats 1600000 in
set_option maxRecDepth 1000000 in
theorem bod_k11t {w : World} (m : Ms) {li : List ByteArray} {le lx : List Ent} {ls : List Sh} (hT : Tab w) (hl : Ml w m li le ls lx) (hk : m.k = 11) (hh : m.h = true) : Calls Tryz.prog 39 #[m.V] w fun e w' => e = .returned (.bool (m.bodB 11 li le ls lx)) ∧ Below w.heap.size w w' := by
  obtain ⟨z, hz⟩ : ∃ z, Hid (m.bodB 11 li le ls lx = z) := ⟨_, hid rfl⟩
  rw [hz.out]
  have E : Hid (z = cgB m.cf m.cb ls lx) := hid (by
    rw [← hz.out]
    show ((!inK 11 79 || m.oB) && ((!inK 11 82 || chkX m.rc m.rn li == 0) && ((!inK 11 69 || m.eB le) && (!inH 11 m.h 71 || cgB m.cf m.cb ls lx)))) = _
    rw [hh]
    rw [show inK 11 79 = false from rfl, show inK 11 82 = false from rfl, show inK 11 69 = false from rfl, show inH 11 true 71 = true from rfl]
    simp)
  have BA := hid (ba w (.cells m.cells.toArray 34))
  have M0 := hid (MsAt.new w m)
  have HK := hid hk
  have HH := hid hh
  clear hk hh
  have H53 : Hid (∀ W : World, Calls Tryz.prog 53 #[.int .i64 11] W fun e w' => e = .returned (.bool false) ∧ w' = W) := hid (fun W => has53 (k := 11) ⟨by omega, by omega⟩)
  have H55 : Hid (∀ W : World, Calls Tryz.prog 55 #[.int .i64 11] W fun e w' => e = .returned (.bool false) ∧ w' = W) := hid (fun W => has55 (k := 11) ⟨by omega, by omega⟩)
  have H57 : Hid (∀ W : World, Calls Tryz.prog 57 #[.int .i64 11] W fun e w' => e = .returned (.bool false) ∧ w' = W) := hid (fun W => has57 (k := 11) ⟨by omega, by omega⟩)
  have H58 : Hid (∀ W : World, Calls Tryz.prog 58 #[.int .i64 11, .bool true] W fun e w' => e = .returned (.bool true) ∧ w' = W) := hid (fun W => by
    have := has58 (w := W) (k := 11) true ⟨by omega, by omega⟩
    rw [show inH 11 true 71 = true from rfl] at this
    exact this)
  have CG : Hid (∀ W, Below w.heap.size w W → Calls Tryz.prog 81 #[cgV m.cf m.cb m.sa m.sl m.sp m.xa m.xl m.xp] W fun e w' => e = .returned (.int .i64 (cgE (cgB m.cf m.cb ls lx))) ∧ Below w.heap.size w w') := hid (fun W hW => by
    have hL := hl.later hW
    have := rcargo_any m.cf m.cb hL.sh hL.ex m.sp m.xp (by have := hL.ns; have := hL.bs; omega) (by have := hL.nx; have := hL.bx; omega)
    rw [← hL.ns, ← hL.nx] at this
    exact this.mono fun e w' ⟨h1, h2⟩ => ⟨h1, hW.trans (h2.mono hW.size)⟩)
  generalize cgB m.cf m.cb ls lx = y at CG E
  have hy : Hid (y = (cgE y == 0)) := hid (by cases y <;> rfl)
  generalize cgE y = v at CG hy
  clear hT hl
  go_enter Tryz.func39, Tryz.ntmps39
  go_upto_region 1 with fail
  obtain ⟨b, hbb⟩ : ∃ b, Hid (b = w.heap.size) := ⟨_, hid rfl⟩
  rw [← hbb.out] at M0 ⊢
  change Code.wp _ _ _ _ (w.alloc (.cells m.cells.toArray 34))
  generalize w.alloc (.cells m.cells.toArray 34) = w1 at BA M0 ⊢
  have q0 : w1.cell? ⟨b, 0, none⟩ = some (.int .i64 11) := by rw [← HK.out]; exact M0.out 0 _ rfl
  have q9 : w1.cell? ⟨b, 9, none⟩ = some (.bool true) := by rw [← HH.out]; exact M0.out 9 _ rfl
  have q19 : w1.cell? ⟨b, 19, none⟩ = some (.int .i64 m.cf) := M0.out 19 _ rfl
  have q20 : w1.cell? ⟨b, 20, none⟩ = some (.int .i64 m.cb) := M0.out 20 _ rfl
  have q21 : w1.cell? ⟨b, 21, none⟩ = some (.slice m.sa m.sl m.sp) := M0.out 21 _ rfl
  have q22 : w1.cell? ⟨b, 22, none⟩ = some (.slice m.xa m.xl m.xp) := M0.out 22 _ rfl
  clear HK hz M0
  go_wp2_with (first | (go_at_call 53; refine (H53.out _).mono ?_; rintro e w' ⟨rfl, rfl⟩) | (go_at_call 55; refine (H55.out _).mono ?_; rintro e w' ⟨rfl, rfl⟩) | (go_at_call 57; refine (H57.out _).mono ?_; rintro e w' ⟨rfl, rfl⟩) | (go_at_call 58; refine (H58.out _).mono ?_; rintro e w' ⟨rfl, rfl⟩) | (go_at_call 81; refine (CG.out _ BA.out).mono ?_; rintro e w2 ⟨rfl, hB2⟩; have B2 := hid hB2; clear hB2))
  go_ret
  exact ⟨by rw [E.out, hy.out]; rfl, B2.out⟩
end Go.Proofs.YthoppemjfdnibaaGreatDoor
