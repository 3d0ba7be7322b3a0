import Derived.Test.YteloaggebkbeeaaDoorRm1
namespace Go.Proofs.YteloaggebkbeeaaDoor
open Go.RowKit
set_option linter.unusedVariables false

/-- Are the numbers in their bounds? -/
def Ms.numB (m : Ms) (k : Nat) : Bool := (!inK k 75 || inR m.n (lstK (k : Int)) 1099511627776) && ((!inK k 67 || inR m.c 0 1099511627776) && ((!inK k 78 || inR m.o 0 m.v) && ((!inK k 76 || inR m.l 1 1099511627776) && (!inK k 81 || inR m.q 1 1099511627776))))
set_option maxRecDepth 1000000 in
theorem num_k2 {w : World} (m : Ms) (hk : m.k = 2) : Calls Tryd.prog 44 #[m.V] w fun e w' => e = .returned (.bool (m.numB 2)) ∧ Below w.heap.size w w' := by
  obtain ⟨z, hz⟩ : ∃ z, Hid (m.numB 2 = z) := ⟨_, hid rfl⟩
  rw [hz.out]
  have E : Hid (z = (inR m.n 0 1099511627776 && (inR m.q 1 1099511627776))) := hid (by
    rw [← hz.out]
    show ((!inK 2 75 || inR m.n (lstK ((2 : Nat) : Int)) 1099511627776) && ((!inK 2 67 || inR m.c 0 1099511627776) && ((!inK 2 78 || inR m.o 0 m.v) && ((!inK 2 76 || inR m.l 1 1099511627776) && (!inK 2 81 || inR m.q 1 1099511627776))))) = _
    rw [show inK 2 75 = true from rfl, show inK 2 67 = false from rfl, show inK 2 78 = false from rfl, show inK 2 76 = false from rfl, show inK 2 81 = true from rfl, show lstK ((2 : Nat) : Int) = 0 from rfl]
    simp)
  have BA := hid (ba w (.cells m.cells.toArray 41))
  have M0 := hid (MsAt.new w m)
  have HK := hid hk
  clear hk
  have H46 : Hid (∀ W : World, Calls Tryd.prog 63 #[.int .i64 2] W fun e w' => e = .returned (.bool true) ∧ w' = W) := hid (fun W => has46 (k := 2) ⟨by omega, by omega⟩)
  have H47 : Hid (∀ W : World, Calls Tryd.prog 64 #[.int .i64 2] W fun e w' => e = .returned (.bool false) ∧ w' = W) := hid (fun W => has47 (k := 2) ⟨by omega, by omega⟩)
  have H48 : Hid (∀ W : World, Calls Tryd.prog 65 #[.int .i64 2] W fun e w' => e = .returned (.bool false) ∧ w' = W) := hid (fun W => has48 (k := 2) ⟨by omega, by omega⟩)
  have H49 : Hid (∀ W : World, Calls Tryd.prog 66 #[.int .i64 2] W fun e w' => e = .returned (.bool false) ∧ w' = W) := hid (fun W => has49 (k := 2) ⟨by omega, by omega⟩)
  have H50 : Hid (∀ W : World, Calls Tryd.prog 67 #[.int .i64 2] W fun e w' => e = .returned (.bool true) ∧ w' = W) := hid (fun W => has50 (k := 2) ⟨by omega, by omega⟩)
  go_enter Tryd.func44, Tryd.ntmps44
  go_upto_region 1 with fail
  obtain ⟨b, hbb⟩ : ∃ b, Hid (b = w.heap.size) := ⟨_, hid rfl⟩
  rw [← hbb.out] at M0 ⊢
  change Code.wp _ _ _ _ (w.alloc (.cells m.cells.toArray 41))
  generalize w.alloc (.cells m.cells.toArray 41) = w1 at BA M0 ⊢
  have q0 : w1.cell? ⟨b, 0, none⟩ = some (.int .i64 2) := by rw [← HK.out]; exact M0.out 0 _ rfl
  have q3 : w1.cell? ⟨b, 3, none⟩ = some (.int .i64 m.v) := M0.out 3 _ rfl
  have q4 : w1.cell? ⟨b, 4, none⟩ = some (.int .i64 m.n) := M0.out 4 _ rfl
  have q5 : w1.cell? ⟨b, 5, none⟩ = some (.int .i64 m.c) := M0.out 5 _ rfl
  have q6 : w1.cell? ⟨b, 6, none⟩ = some (.int .i64 m.o) := M0.out 6 _ rfl
  have q7 : w1.cell? ⟨b, 7, none⟩ = some (.int .i64 m.l) := M0.out 7 _ rfl
  have q8 : w1.cell? ⟨b, 8, none⟩ = some (.int .i64 m.q) := M0.out 8 _ rfl
  clear HK hz M0
  cases e0 : inR m.n 0 1099511627776 with
  | false =>
    have F : Hid (z = false) := hid (by rw [E.out, e0] <;> rfl)
    clear E
    go_wp2_with (first | (go_at_call 63; refine (H46.out _).mono ?_; rintro e w' ⟨rfl, rfl⟩) | (go_at_call 64; refine (H47.out _).mono ?_; rintro e w' ⟨rfl, rfl⟩) | (go_at_call 65; refine (H48.out _).mono ?_; rintro e w' ⟨rfl, rfl⟩) | (go_at_call 66; refine (H49.out _).mono ?_; rintro e w' ⟨rfl, rfl⟩) | (go_at_call 67; refine (H50.out _).mono ?_; rintro e w' ⟨rfl, rfl⟩) | (go_at_call 40; refine (rwithin_b _ _ _).mono ?_; rintro e w' ⟨rfl, rfl⟩))
    go_ret
    exact ⟨by rw [F.out]; rfl, BA.out⟩
  | true =>
  cases e1 : inR m.q 1 1099511627776 with
  | false =>
    have F : Hid (z = false) := hid (by rw [E.out, e0, e1] <;> rfl)
    clear E
    go_wp2_with (first | (go_at_call 63; refine (H46.out _).mono ?_; rintro e w' ⟨rfl, rfl⟩) | (go_at_call 64; refine (H47.out _).mono ?_; rintro e w' ⟨rfl, rfl⟩) | (go_at_call 65; refine (H48.out _).mono ?_; rintro e w' ⟨rfl, rfl⟩) | (go_at_call 66; refine (H49.out _).mono ?_; rintro e w' ⟨rfl, rfl⟩) | (go_at_call 67; refine (H50.out _).mono ?_; rintro e w' ⟨rfl, rfl⟩) | (go_at_call 40; refine (rwithin_b _ _ _).mono ?_; rintro e w' ⟨rfl, rfl⟩))
    go_ret
    exact ⟨by rw [F.out]; rfl, BA.out⟩
  | true =>
  have F : Hid (z = true) := hid (by rw [E.out, e0, e1] <;> rfl)
  clear E
  go_wp2_with (first | (go_at_call 63; refine (H46.out _).mono ?_; rintro e w' ⟨rfl, rfl⟩) | (go_at_call 64; refine (H47.out _).mono ?_; rintro e w' ⟨rfl, rfl⟩) | (go_at_call 65; refine (H48.out _).mono ?_; rintro e w' ⟨rfl, rfl⟩) | (go_at_call 66; refine (H49.out _).mono ?_; rintro e w' ⟨rfl, rfl⟩) | (go_at_call 67; refine (H50.out _).mono ?_; rintro e w' ⟨rfl, rfl⟩) | (go_at_call 40; refine (rwithin_b _ _ _).mono ?_; rintro e w' ⟨rfl, rfl⟩))
  go_ret
  exact ⟨by rw [F.out]; rfl, BA.out⟩
/-- May all else be? -/
def Ms.bodB (m : Ms) (k : Nat) (li : List ByteArray) (le : List Ent) (ls : List Sh) (lx : List Ent) : Bool := (!inK k 79 || m.oB) && ((!inK k 82 || chkX m.rc m.rn li == 0) && ((!inK k 69 || m.eB le) && (!inH k m.h 71 || cgB m.cf m.cb ls lx)))
set_option maxHeartbeats 1600000 in
set_option maxRecDepth 1000000 in
theorem bod_k2 {w : World} (m : Ms) {li : List ByteArray} {le lx : List Ent} {ls : List Sh} (hT : Tab w) (hl : Ml w m li le ls lx) (hk : m.k = 2) : Calls Tryd.prog 45 #[m.V] w fun e w' => e = .returned (.bool (m.bodB 2 li le ls lx)) ∧ Below w.heap.size w w' := by
  obtain ⟨z, hz⟩ : ∃ z, Hid (m.bodB 2 li le ls lx = z) := ⟨_, hid rfl⟩
  rw [hz.out]
  have E : Hid (z = (chkX m.rc m.rn li == 0)) := hid (by
    rw [← hz.out]
    show ((!inK 2 79 || m.oB) && ((!inK 2 82 || chkX m.rc m.rn li == 0) && ((!inK 2 69 || m.eB le) && (!inH 2 m.h 71 || cgB m.cf m.cb ls lx)))) = _
    rw [show inK 2 79 = false from rfl, show inK 2 82 = true from rfl, show inK 2 69 = false from rfl, show inH 2 m.h 71 = false from (by cases m.h <;> rfl)]
    simp)
  have BA := hid (ba w (.cells m.cells.toArray 41))
  have M0 := hid (MsAt.new w m)
  have HK := hid hk
  clear hk
  have H53 : Hid (∀ W : World, Calls Tryd.prog 68 #[.int .i64 2] W fun e w' => e = .returned (.bool false) ∧ w' = W) := hid (fun W => has53 (k := 2) ⟨by omega, by omega⟩)
  have H55 : Hid (∀ W : World, Calls Tryd.prog 70 #[.int .i64 2] W fun e w' => e = .returned (.bool true) ∧ w' = W) := hid (fun W => has55 (k := 2) ⟨by omega, by omega⟩)
  have H57 : Hid (∀ W : World, Calls Tryd.prog 72 #[.int .i64 2] W fun e w' => e = .returned (.bool false) ∧ w' = W) := hid (fun W => has57 (k := 2) ⟨by omega, by omega⟩)
  have H58 : Hid (∀ W : World, Calls Tryd.prog 73 #[.int .i64 2, .bool m.h] W fun e w' => e = .returned (.bool false) ∧ w' = W) := hid (fun W => by
    have := has58 (w := W) (k := 2) m.h ⟨by omega, by omega⟩
    rw [show inH 2 m.h 71 = false from (by cases m.h <;> rfl)] at this
    exact this)
  have CX : Hid (∀ W b, Below w.heap.size w W → MsAt W b m → Calls Tryd.prog 71 #[resV m.rc m.rn (.slice m.ra m.rl m.rp)] W fun e w' => e = .returned (.int .i64 (chkX m.rc m.rn li)) ∧ Below w.heap.size w w' ∧ MsAt w' b m) := hid (fun W b hW hM => by
    have hL := hl.later hW
    exact (checkX_ref m.rc m.rn hL.it (by have := hL.nr; have := hL.br; omega)).mono fun e w' ⟨h1, h2⟩ => ⟨h1, hW.trans (h2.mono hW.size), hM.under h2⟩)
  generalize chkX m.rc m.rn li = y at CX E
  clear hT hl
  go_enter Tryd.func45, Tryd.ntmps45
  go_upto_region 1 with fail
  obtain ⟨b, hbb⟩ : ∃ b, Hid (b = w.heap.size) := ⟨_, hid rfl⟩
  rw [← hbb.out] at M0 ⊢
  change Code.wp _ _ _ _ (w.alloc (.cells m.cells.toArray 41))
  generalize w.alloc (.cells m.cells.toArray 41) = w1 at BA M0 ⊢
  have q0 : w1.cell? ⟨b, 0, none⟩ = some (.int .i64 2) := by rw [← HK.out]; exact M0.out 0 _ rfl
  have q15 : w1.cell? ⟨b, 15, none⟩ = some (.int .i64 m.rc) := M0.out 15 _ rfl
  have q16 : w1.cell? ⟨b, 16, none⟩ = some (.int .i64 m.rn) := M0.out 16 _ rfl
  have q17 : w1.cell? ⟨b, 17, none⟩ = some (.slice m.ra m.rl m.rp) := M0.out 17 _ rfl
  go_wp2_with (first | (go_at_call 68; refine (H53.out _).mono ?_; rintro e w' ⟨rfl, rfl⟩) | (go_at_call 70; refine (H55.out _).mono ?_; rintro e w' ⟨rfl, rfl⟩))
  refine (CX.out _ b BA.out M0.out).mono ?_
  rintro e w2 ⟨rfl, hB2, hM2⟩
  have B2 := hid hB2
  clear q0 q15 q16 q17 hB2 hz M0 CX
  have q9 : w2.cell? ⟨b, 9, none⟩ = some (.bool m.h) := hM2 9 _ rfl
  clear hM2
  cases ey : (y == 0) with
  | false =>
    have F : Hid (z = false) := hid (by rw [E.out, ey])
    have ey' : (y != 0) = true := by simp only [bne, ey]; rfl
    clear ey E
    go_wp2
    go_ret
    exact ⟨by rw [F.out]; rfl, B2.out⟩
  | true =>
    have F : Hid (z = true) := hid (by rw [E.out, ey])
    have ey' : (y != 0) = false := by simp only [bne, ey]; rfl
    clear ey E
    go_wp2_with (first | (go_at_call 68; refine (H53.out _).mono ?_; rintro e w' ⟨rfl, rfl⟩) | (go_at_call 70; refine (H55.out _).mono ?_; rintro e w' ⟨rfl, rfl⟩) | (go_at_call 72; refine (H57.out _).mono ?_; rintro e w' ⟨rfl, rfl⟩) | (go_at_call 73; refine (H58.out _).mono ?_; rintro e w' ⟨rfl, rfl⟩))
    go_ret
    exact ⟨by rw [F.out]; rfl, B2.out⟩
end Go.Proofs.YteloaggebkbeeaaDoor
