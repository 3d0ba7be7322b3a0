import Derived.Test.YthoppemjfdnibaaGreatDoorJ39
namespace Go.Proofs.YthoppemjfdnibaaGreatDoor
open Go.RowKit
set_option linter.unusedVariables false

set_option maxHeartbeats 6400000 in
set_option maxRecDepth 1000000 in
theorem rext_k3 {w : World} (m : Ms) (hk : m.k = 3) : Calls Tryz.prog 40 #[m.V] w fun e w' => e = .returned (.bool (m.extB 3)) ∧ Below w.heap.size w w' := by
  have EE : m.extB 3 = (!((true || (m.v == 0)) && ((false || (m.n == 0)) && ((false || (m.c == 0)) && (false || (m.o == 0))))) || (!((false || (m.l == 0)) && ((true || (m.q == 0)) && ((false || (!m.h)) && (false || ((m.el : Int) == 0))))) || (!(false || m.zO) || (!(false || m.zR) || !(false || m.zG))))) := by rw [extB_or]; rfl
  rw [EE]
  clear EE
  obtain ⟨O3, h3⟩ : ∃ O3, Hid ((!((true || (m.v == 0)) && ((false || (m.n == 0)) && ((false || (m.c == 0)) && (false || (m.o == 0)))))) = O3) := ⟨_, hid rfl⟩
  obtain ⟨O5, h5⟩ : ∃ O5, Hid ((!((false || (m.l == 0)) && ((true || (m.q == 0)) && ((false || (!m.h)) && (false || ((m.el : Int) == 0)))))) = O5) := ⟨_, hid rfl⟩
  obtain ⟨O7, h7⟩ : ∃ O7, Hid ((!(false || m.zO)) = O7) := ⟨_, hid rfl⟩
  obtain ⟨O9, h9⟩ : ∃ O9, Hid ((!(false || m.zR)) = O9) := ⟨_, hid rfl⟩
  obtain ⟨O12, h12⟩ : ∃ O12, Hid ((!(false || m.zG)) = O12) := ⟨_, hid rfl⟩
  rw [h3.out, h5.out, h7.out, h9.out, h12.out]
  have H37 : Hid (∀ W : World, Calls Tryz.prog 37 #[.int .i64 3] W fun e w' => e = .returned (.bool true) ∧ w' = W) := hid (fun W => has37 (k := 3) ⟨by omega, by omega⟩)
  have H46 : Hid (∀ W : World, Calls Tryz.prog 46 #[.int .i64 3] W fun e w' => e = .returned (.bool false) ∧ w' = W) := hid (fun W => has46 (k := 3) ⟨by omega, by omega⟩)
  have H47 : Hid (∀ W : World, Calls Tryz.prog 47 #[.int .i64 3] W fun e w' => e = .returned (.bool false) ∧ w' = W) := hid (fun W => has47 (k := 3) ⟨by omega, by omega⟩)
  have H48 : Hid (∀ W : World, Calls Tryz.prog 48 #[.int .i64 3] W fun e w' => e = .returned (.bool false) ∧ w' = W) := hid (fun W => has48 (k := 3) ⟨by omega, by omega⟩)
  have H49 : Hid (∀ W : World, Calls Tryz.prog 49 #[.int .i64 3] W fun e w' => e = .returned (.bool false) ∧ w' = W) := hid (fun W => has49 (k := 3) ⟨by omega, by omega⟩)
  have H50 : Hid (∀ W : World, Calls Tryz.prog 50 #[.int .i64 3] W fun e w' => e = .returned (.bool true) ∧ w' = W) := hid (fun W => has50 (k := 3) ⟨by omega, by omega⟩)
  have H51 : Hid (∀ W : World, Calls Tryz.prog 51 #[.int .i64 3] W fun e w' => e = .returned (.bool false) ∧ w' = W) := hid (fun W => has51 (k := 3) ⟨by omega, by omega⟩)
  have H53 : Hid (∀ W : World, Calls Tryz.prog 53 #[.int .i64 3] W fun e w' => e = .returned (.bool false) ∧ w' = W) := hid (fun W => has53 (k := 3) ⟨by omega, by omega⟩)
  have H55 : Hid (∀ W : World, Calls Tryz.prog 55 #[.int .i64 3] W fun e w' => e = .returned (.bool false) ∧ w' = W) := hid (fun W => has55 (k := 3) ⟨by omega, by omega⟩)
  have H57 : Hid (∀ W : World, Calls Tryz.prog 57 #[.int .i64 3] W fun e w' => e = .returned (.bool false) ∧ w' = W) := hid (fun W => has57 (k := 3) ⟨by omega, by omega⟩)
  have H58 : Hid (∀ W : World, Calls Tryz.prog 58 #[.int .i64 3, .bool m.h] W fun e w' => e = .returned (.bool false) ∧ w' = W) := hid (fun W => has58 (k := 3) m.h ⟨by omega, by omega⟩)
  have BA := hid (ba w (.cells m.cells.toArray 34))
  have M0 := hid (MsAt.new w m)
  have HK := hid hk
  clear hk
  go_enter Tryz.func40, Tryz.ntmps40
  go_upto_region 1 with fail
  obtain ⟨b, hbb⟩ : ∃ b, Hid (b = w.heap.size) := ⟨_, hid rfl⟩
  rw [← hbb.out] at M0 ⊢
  change Code.wp _ _ _ _ (w.alloc (.cells m.cells.toArray 34))
  generalize w.alloc (.cells m.cells.toArray 34) = w1 at BA M0 ⊢
  have q0 : w1.cell? ⟨b, 0, none⟩ = some (.int .i64 3) := by rw [← HK.out]; exact M0.out 0 _ rfl
  have q3 : w1.cell? ⟨b, 3, none⟩ = some (.int .i64 m.v) := M0.out 3 _ rfl
  have q4 : w1.cell? ⟨b, 4, none⟩ = some (.int .i64 m.n) := M0.out 4 _ rfl
  have q5 : w1.cell? ⟨b, 5, none⟩ = some (.int .i64 m.c) := M0.out 5 _ rfl
  have q6 : w1.cell? ⟨b, 6, none⟩ = some (.int .i64 m.o) := M0.out 6 _ rfl
  have q7 : w1.cell? ⟨b, 7, none⟩ = some (.int .i64 m.l) := M0.out 7 _ rfl
  have q8 : w1.cell? ⟨b, 8, none⟩ = some (.int .i64 m.q) := M0.out 8 _ rfl
  have q9 : w1.cell? ⟨b, 9, none⟩ = some (.bool m.h) := M0.out 9 _ rfl
  have q10 : w1.cell? ⟨b, 10, none⟩ = some (.int .i64 m.ok) := M0.out 10 _ rfl
  have q11 : w1.cell? ⟨b, 11, none⟩ = some (.string m.onm) := M0.out 11 _ rfl
  have q12 : w1.cell? ⟨b, 12, none⟩ = some (.string m.otx) := M0.out 12 _ rfl
  have q13 : w1.cell? ⟨b, 13, none⟩ = some (.int .i64 m.on) := M0.out 13 _ rfl
  have q14 : w1.cell? ⟨b, 14, none⟩ = some (.int .i64 m.om) := M0.out 14 _ rfl
  have q15 : w1.cell? ⟨b, 15, none⟩ = some (.int .i64 m.rc) := M0.out 15 _ rfl
  have q16 : w1.cell? ⟨b, 16, none⟩ = some (.int .i64 m.rn) := M0.out 16 _ rfl
  have q17 : w1.cell? ⟨b, 17, none⟩ = some (.slice m.ra m.rl m.rp) := M0.out 17 _ rfl
  have q18 : w1.cell? ⟨b, 18, none⟩ = some (.slice m.ea m.el m.ep) := M0.out 18 _ rfl
  have q19 : w1.cell? ⟨b, 19, none⟩ = some (.int .i64 m.cf) := M0.out 19 _ rfl
  have q20 : w1.cell? ⟨b, 20, none⟩ = some (.int .i64 m.cb) := M0.out 20 _ rfl
  have q21 : w1.cell? ⟨b, 21, none⟩ = some (.slice m.sa m.sl m.sp) := M0.out 21 _ rfl
  have q22 : w1.cell? ⟨b, 22, none⟩ = some (.slice m.xa m.xl m.xp) := M0.out 22 _ rfl
  have hbw : b < w1.heap.size := World.block_lt_of_cell? _ _ q0
  go_upto_region 3 with fail
  have B2 : Hid (Below w.heap.size w (w1.alloc (.cells #[.int .i64 m.ok, .string m.onm, .string m.otx, .int .i64 m.on, .int .i64 m.om] 25))) := hid (BA.out.trans ((ba w1 _).mono BA.out.size))
  have M2 : Hid (MsAt (w1.alloc (.cells #[.int .i64 m.ok, .string m.onm, .string m.otx, .int .i64 m.on, .int .i64 m.om] 25)) b m) := hid (M0.out.under (ba w1 _))
  have P2 : Hid ((w1.alloc (.cells #[.int .i64 m.ok, .string m.onm, .string m.otx, .int .i64 m.on, .int .i64 m.om] 25)).heap[w1.heap.size]? = some (.cells #[.int .i64 m.ok, .string m.onm, .string m.otx, .int .i64 m.on, .int .i64 m.om] 25 (0, 0))) := hid (heap_alloc_new _ _)
  obtain ⟨p, hp⟩ : ∃ p, Hid (w1.heap.size = p) := ⟨_, hid rfl⟩
  rw [hp.out] at P2 ⊢
  generalize w1.alloc (.cells #[.int .i64 m.ok, .string m.onm, .string m.otx, .int .i64 m.on, .int .i64 m.om] 25) = w2 at B2 M2 P2 ⊢
  clear q0 q3 q4 q5 q6 q7 q8 q9 q10 q11 q12 q13 q14 q15 q16 q17 q18 q19 q20 q21 q22 hbw BA M0
  have q3 : w2.cell? ⟨b, 3, none⟩ = some (.int .i64 m.v) := M2.out 3 _ rfl
  have q4 : w2.cell? ⟨b, 4, none⟩ = some (.int .i64 m.n) := M2.out 4 _ rfl
  have q5 : w2.cell? ⟨b, 5, none⟩ = some (.int .i64 m.c) := M2.out 5 _ rfl
  have q6 : w2.cell? ⟨b, 6, none⟩ = some (.int .i64 m.o) := M2.out 6 _ rfl
  have q7 : w2.cell? ⟨b, 7, none⟩ = some (.int .i64 m.l) := M2.out 7 _ rfl
  have q8 : w2.cell? ⟨b, 8, none⟩ = some (.int .i64 m.q) := M2.out 8 _ rfl
  have q9 : w2.cell? ⟨b, 9, none⟩ = some (.bool m.h) := M2.out 9 _ rfl
  have q15 : w2.cell? ⟨b, 15, none⟩ = some (.int .i64 m.rc) := M2.out 15 _ rfl
  have q16 : w2.cell? ⟨b, 16, none⟩ = some (.int .i64 m.rn) := M2.out 16 _ rfl
  have q17 : w2.cell? ⟨b, 17, none⟩ = some (.slice m.ra m.rl m.rp) := M2.out 17 _ rfl
  have q18 : w2.cell? ⟨b, 18, none⟩ = some (.slice m.ea m.el m.ep) := M2.out 18 _ rfl
  have q19 : w2.cell? ⟨b, 19, none⟩ = some (.int .i64 m.cf) := M2.out 19 _ rfl
  have q20 : w2.cell? ⟨b, 20, none⟩ = some (.int .i64 m.cb) := M2.out 20 _ rfl
  have q21 : w2.cell? ⟨b, 21, none⟩ = some (.slice m.sa m.sl m.sp) := M2.out 21 _ rfl
  have q22 : w2.cell? ⟨b, 22, none⟩ = some (.slice m.xa m.xl m.xp) := M2.out 22 _ rfl
  have p0 : w2.cell? ⟨p, 0, none⟩ = some (.int .i64 m.ok) := by rw [cell_at P2.out]; rfl
  have p1 : w2.cell? ⟨p, 1, none⟩ = some (.string m.onm) := by rw [cell_at P2.out]; rfl
  have p2 : w2.cell? ⟨p, 2, none⟩ = some (.string m.otx) := by rw [cell_at P2.out]; rfl
  have p3 : w2.cell? ⟨p, 3, none⟩ = some (.int .i64 m.on) := by rw [cell_at P2.out]; rfl
  have p4 : w2.cell? ⟨p, 4, none⟩ = some (.int .i64 m.om) := by rw [cell_at P2.out]; rfl
  have hbw : b < w2.heap.size := World.block_lt_of_cell? _ _ q3
  clear HK M2 P2
  go_upto_region 3 with fail
  go_cut [47] (fun v wx => v = .bool O3 ∧ wx = w2)
  case first =>
    by_cases c26 : m.n = 0
    rotate_left
    · have L : Hid ((m.n == 0) = false) := hid (by simpa using c26)
      have e26 : (m.n != 0) = true := by simpa using c26
      clear c26
      have F : Hid (O3 = true) := hid (by rw [← h3.out, L.out] <;> rfl)
      clear h3 L
      go_wp2_with (first | (go_at_call 37; refine (H37.out _).mono ?_; rintro e w' ⟨rfl, hw'⟩; subst w') | (go_at_call 46; refine (H46.out _).mono ?_; rintro e w' ⟨rfl, hw'⟩; subst w') | (go_at_call 47; refine (H47.out _).mono ?_; rintro e w' ⟨rfl, hw'⟩; subst w') | (go_at_call 48; refine (H48.out _).mono ?_; rintro e w' ⟨rfl, hw'⟩; subst w') | (go_at_call 49; refine (H49.out _).mono ?_; rintro e w' ⟨rfl, hw'⟩; subst w') | (go_at_call 50; refine (H50.out _).mono ?_; rintro e w' ⟨rfl, hw'⟩; subst w') | (go_at_call 51; refine (H51.out _).mono ?_; rintro e w' ⟨rfl, hw'⟩; subst w') | (go_at_call 57; refine (H57.out _).mono ?_; rintro e w' ⟨rfl, hw'⟩; subst w') | (go_at_call 53; refine (H53.out _).mono ?_; rintro e w' ⟨rfl, hw'⟩; subst w') | (go_at_call 55; refine (H55.out _).mono ?_; rintro e w' ⟨rfl, hw'⟩; subst w') | (go_at_call 58; refine (H58.out _).mono ?_; rintro e w' ⟨rfl, hw'⟩; subst w'))
      go_meet
      exact ⟨by rw [F.out], rfl⟩
    have e26 : (m.n != 0) = false := by simpa using c26
    have LK : Hid ((m.n == 0) = true) := hid (by simpa using c26)
    clear c26
    by_cases c27 : m.c = 0
    rotate_left
    · have L : Hid ((m.c == 0) = false) := hid (by simpa using c27)
      have e27 : (m.c != 0) = true := by simpa using c27
      clear c27
      have F : Hid (O3 = true) := hid (by rw [← h3.out, LK.out, L.out] <;> rfl)
      clear h3 L
      go_wp2_with (first | (go_at_call 37; refine (H37.out _).mono ?_; rintro e w' ⟨rfl, hw'⟩; subst w') | (go_at_call 46; refine (H46.out _).mono ?_; rintro e w' ⟨rfl, hw'⟩; subst w') | (go_at_call 47; refine (H47.out _).mono ?_; rintro e w' ⟨rfl, hw'⟩; subst w') | (go_at_call 48; refine (H48.out _).mono ?_; rintro e w' ⟨rfl, hw'⟩; subst w') | (go_at_call 49; refine (H49.out _).mono ?_; rintro e w' ⟨rfl, hw'⟩; subst w') | (go_at_call 50; refine (H50.out _).mono ?_; rintro e w' ⟨rfl, hw'⟩; subst w') | (go_at_call 51; refine (H51.out _).mono ?_; rintro e w' ⟨rfl, hw'⟩; subst w') | (go_at_call 57; refine (H57.out _).mono ?_; rintro e w' ⟨rfl, hw'⟩; subst w') | (go_at_call 53; refine (H53.out _).mono ?_; rintro e w' ⟨rfl, hw'⟩; subst w') | (go_at_call 55; refine (H55.out _).mono ?_; rintro e w' ⟨rfl, hw'⟩; subst w') | (go_at_call 58; refine (H58.out _).mono ?_; rintro e w' ⟨rfl, hw'⟩; subst w'))
      go_meet
      exact ⟨by rw [F.out], rfl⟩
    have e27 : (m.c != 0) = false := by simpa using c27
    have LC : Hid ((m.c == 0) = true) := hid (by simpa using c27)
    clear c27
    by_cases c28 : m.o = 0
    rotate_left
    · have L : Hid ((m.o == 0) = false) := hid (by simpa using c28)
      have e28 : (m.o != 0) = true := by simpa using c28
      clear c28
      have F : Hid (O3 = true) := hid (by rw [← h3.out, LK.out, LC.out, L.out] <;> rfl)
      clear h3 L
      go_wp2_with (first | (go_at_call 37; refine (H37.out _).mono ?_; rintro e w' ⟨rfl, hw'⟩; subst w') | (go_at_call 46; refine (H46.out _).mono ?_; rintro e w' ⟨rfl, hw'⟩; subst w') | (go_at_call 47; refine (H47.out _).mono ?_; rintro e w' ⟨rfl, hw'⟩; subst w') | (go_at_call 48; refine (H48.out _).mono ?_; rintro e w' ⟨rfl, hw'⟩; subst w') | (go_at_call 49; refine (H49.out _).mono ?_; rintro e w' ⟨rfl, hw'⟩; subst w') | (go_at_call 50; refine (H50.out _).mono ?_; rintro e w' ⟨rfl, hw'⟩; subst w') | (go_at_call 51; refine (H51.out _).mono ?_; rintro e w' ⟨rfl, hw'⟩; subst w') | (go_at_call 57; refine (H57.out _).mono ?_; rintro e w' ⟨rfl, hw'⟩; subst w') | (go_at_call 53; refine (H53.out _).mono ?_; rintro e w' ⟨rfl, hw'⟩; subst w') | (go_at_call 55; refine (H55.out _).mono ?_; rintro e w' ⟨rfl, hw'⟩; subst w') | (go_at_call 58; refine (H58.out _).mono ?_; rintro e w' ⟨rfl, hw'⟩; subst w'))
      go_meet
      exact ⟨by rw [F.out], rfl⟩
    have e28 : (m.o != 0) = false := by simpa using c28
    have LN : Hid ((m.o == 0) = true) := hid (by simpa using c28)
    clear c28
    have F : Hid (O3 = false) := hid (by rw [← h3.out, LK.out, LC.out, LN.out] <;> rfl)
    clear h3
    go_wp2_with (first | (go_at_call 37; refine (H37.out _).mono ?_; rintro e w' ⟨rfl, hw'⟩; subst w') | (go_at_call 46; refine (H46.out _).mono ?_; rintro e w' ⟨rfl, hw'⟩; subst w') | (go_at_call 47; refine (H47.out _).mono ?_; rintro e w' ⟨rfl, hw'⟩; subst w') | (go_at_call 48; refine (H48.out _).mono ?_; rintro e w' ⟨rfl, hw'⟩; subst w') | (go_at_call 49; refine (H49.out _).mono ?_; rintro e w' ⟨rfl, hw'⟩; subst w') | (go_at_call 50; refine (H50.out _).mono ?_; rintro e w' ⟨rfl, hw'⟩; subst w') | (go_at_call 51; refine (H51.out _).mono ?_; rintro e w' ⟨rfl, hw'⟩; subst w') | (go_at_call 57; refine (H57.out _).mono ?_; rintro e w' ⟨rfl, hw'⟩; subst w') | (go_at_call 53; refine (H53.out _).mono ?_; rintro e w' ⟨rfl, hw'⟩; subst w') | (go_at_call 55; refine (H55.out _).mono ?_; rintro e w' ⟨rfl, hw'⟩; subst w') | (go_at_call 58; refine (H58.out _).mono ?_; rintro e w' ⟨rfl, hw'⟩; subst w'))
    go_meet
    exact ⟨by rw [F.out], rfl⟩
  obtain ⟨rfl, hwc⟩ := hcut
  subst wc
  cases O3 with
  | true =>
    go_wp2
    go_ret
    exact ⟨by simp, B2.out⟩
  | false =>
  go_upto_region 5 with fail
  go_cut [85] (fun v wx => v = .bool O5 ∧ wx = w2)
  case first =>
    by_cases c29 : m.l = 0
    rotate_left
    · have L : Hid ((m.l == 0) = false) := hid (by simpa using c29)
      have e29 : (m.l != 0) = true := by simpa using c29
      clear c29
      have F : Hid (O5 = true) := hid (by rw [← h5.out, L.out] <;> rfl)
      clear h5 L
      go_wp2_with (first | (go_at_call 37; refine (H37.out _).mono ?_; rintro e w' ⟨rfl, hw'⟩; subst w') | (go_at_call 46; refine (H46.out _).mono ?_; rintro e w' ⟨rfl, hw'⟩; subst w') | (go_at_call 47; refine (H47.out _).mono ?_; rintro e w' ⟨rfl, hw'⟩; subst w') | (go_at_call 48; refine (H48.out _).mono ?_; rintro e w' ⟨rfl, hw'⟩; subst w') | (go_at_call 49; refine (H49.out _).mono ?_; rintro e w' ⟨rfl, hw'⟩; subst w') | (go_at_call 50; refine (H50.out _).mono ?_; rintro e w' ⟨rfl, hw'⟩; subst w') | (go_at_call 51; refine (H51.out _).mono ?_; rintro e w' ⟨rfl, hw'⟩; subst w') | (go_at_call 57; refine (H57.out _).mono ?_; rintro e w' ⟨rfl, hw'⟩; subst w') | (go_at_call 53; refine (H53.out _).mono ?_; rintro e w' ⟨rfl, hw'⟩; subst w') | (go_at_call 55; refine (H55.out _).mono ?_; rintro e w' ⟨rfl, hw'⟩; subst w') | (go_at_call 58; refine (H58.out _).mono ?_; rintro e w' ⟨rfl, hw'⟩; subst w'))
      go_meet
      exact ⟨by rw [F.out], rfl⟩
    have e29 : (m.l != 0) = false := by simpa using c29
    have LL : Hid ((m.l == 0) = true) := hid (by simpa using c29)
    clear c29
    cases hh : m.h with
    | true =>
      rw [hh] at q9 h5
      have L : Hid ((!true) = false) := hid rfl
      clear hh
      have F : Hid (O5 = true) := hid (by rw [← h5.out, LL.out] <;> rfl)
      clear h5 L
      go_wp2_with (first | (go_at_call 37; refine (H37.out _).mono ?_; rintro e w' ⟨rfl, hw'⟩; subst w') | (go_at_call 46; refine (H46.out _).mono ?_; rintro e w' ⟨rfl, hw'⟩; subst w') | (go_at_call 47; refine (H47.out _).mono ?_; rintro e w' ⟨rfl, hw'⟩; subst w') | (go_at_call 48; refine (H48.out _).mono ?_; rintro e w' ⟨rfl, hw'⟩; subst w') | (go_at_call 49; refine (H49.out _).mono ?_; rintro e w' ⟨rfl, hw'⟩; subst w') | (go_at_call 50; refine (H50.out _).mono ?_; rintro e w' ⟨rfl, hw'⟩; subst w') | (go_at_call 51; refine (H51.out _).mono ?_; rintro e w' ⟨rfl, hw'⟩; subst w') | (go_at_call 57; refine (H57.out _).mono ?_; rintro e w' ⟨rfl, hw'⟩; subst w') | (go_at_call 53; refine (H53.out _).mono ?_; rintro e w' ⟨rfl, hw'⟩; subst w') | (go_at_call 55; refine (H55.out _).mono ?_; rintro e w' ⟨rfl, hw'⟩; subst w') | (go_at_call 58; refine (H58.out _).mono ?_; rintro e w' ⟨rfl, hw'⟩; subst w'))
      go_meet
      exact ⟨by rw [F.out], rfl⟩
    | false =>
      rw [hh] at q9 h5
      clear hh
      by_cases c30 : m.el = 0
      rotate_left
      · have L : Hid (((m.el : Int) == 0) = false) := hid (by simp; omega)
        have e30 : decide (0 < (m.el : Int)) = true := by simp; omega
        have f30 : decide (0 < (m.el)) = true := by simp; omega
        clear c30
        have F : Hid (O5 = true) := hid (by rw [← h5.out, LL.out, L.out] <;> rfl)
        clear h5 L
        go_wp2_with (first | (go_at_call 37; refine (H37.out _).mono ?_; rintro e w' ⟨rfl, hw'⟩; subst w') | (go_at_call 46; refine (H46.out _).mono ?_; rintro e w' ⟨rfl, hw'⟩; subst w') | (go_at_call 47; refine (H47.out _).mono ?_; rintro e w' ⟨rfl, hw'⟩; subst w') | (go_at_call 48; refine (H48.out _).mono ?_; rintro e w' ⟨rfl, hw'⟩; subst w') | (go_at_call 49; refine (H49.out _).mono ?_; rintro e w' ⟨rfl, hw'⟩; subst w') | (go_at_call 50; refine (H50.out _).mono ?_; rintro e w' ⟨rfl, hw'⟩; subst w') | (go_at_call 51; refine (H51.out _).mono ?_; rintro e w' ⟨rfl, hw'⟩; subst w') | (go_at_call 57; refine (H57.out _).mono ?_; rintro e w' ⟨rfl, hw'⟩; subst w') | (go_at_call 53; refine (H53.out _).mono ?_; rintro e w' ⟨rfl, hw'⟩; subst w') | (go_at_call 55; refine (H55.out _).mono ?_; rintro e w' ⟨rfl, hw'⟩; subst w') | (go_at_call 58; refine (H58.out _).mono ?_; rintro e w' ⟨rfl, hw'⟩; subst w'))
        go_meet
        exact ⟨by rw [F.out], rfl⟩
      have e30 : decide (0 < (m.el : Int)) = false := by simp; omega
      have f30 : decide (0 < (m.el)) = false := by simp; omega
      have LE : Hid (((m.el : Int) == 0) = true) := hid (by simp; omega)
      clear c30
      have F : Hid (O5 = false) := hid (by rw [← h5.out, LL.out, LE.out] <;> rfl)
      clear h5
      go_wp2_with (first | (go_at_call 37; refine (H37.out _).mono ?_; rintro e w' ⟨rfl, hw'⟩; subst w') | (go_at_call 46; refine (H46.out _).mono ?_; rintro e w' ⟨rfl, hw'⟩; subst w') | (go_at_call 47; refine (H47.out _).mono ?_; rintro e w' ⟨rfl, hw'⟩; subst w') | (go_at_call 48; refine (H48.out _).mono ?_; rintro e w' ⟨rfl, hw'⟩; subst w') | (go_at_call 49; refine (H49.out _).mono ?_; rintro e w' ⟨rfl, hw'⟩; subst w') | (go_at_call 50; refine (H50.out _).mono ?_; rintro e w' ⟨rfl, hw'⟩; subst w') | (go_at_call 51; refine (H51.out _).mono ?_; rintro e w' ⟨rfl, hw'⟩; subst w') | (go_at_call 57; refine (H57.out _).mono ?_; rintro e w' ⟨rfl, hw'⟩; subst w') | (go_at_call 53; refine (H53.out _).mono ?_; rintro e w' ⟨rfl, hw'⟩; subst w') | (go_at_call 55; refine (H55.out _).mono ?_; rintro e w' ⟨rfl, hw'⟩; subst w') | (go_at_call 58; refine (H58.out _).mono ?_; rintro e w' ⟨rfl, hw'⟩; subst w'))
      go_meet
      exact ⟨by rw [F.out], rfl⟩
  obtain ⟨rfl, hwc⟩ := hcut
  subst wc
  cases O5 with
  | true =>
    go_wp2
    go_ret
    exact ⟨by simp, B2.out⟩
  | false =>
  go_upto_region 7 with fail
  go_cut [113] (fun v wx => v = .bool O7 ∧ wx = w2)
  case first =>
    by_cases c31 : m.ok = 0
    rotate_left
    · have L : Hid (m.zO = false) := hid (by simp [Ms.zO, c31])
      have e31 : (m.ok != 0) = true := by simpa using c31
      clear c31
      have F : Hid (O7 = true) := hid (by rw [← h7.out, L.out] <;> rfl)
      clear h7 L
      go_wp2_with (first | (go_at_call 37; refine (H37.out _).mono ?_; rintro e w' ⟨rfl, hw'⟩; subst w') | (go_at_call 46; refine (H46.out _).mono ?_; rintro e w' ⟨rfl, hw'⟩; subst w') | (go_at_call 47; refine (H47.out _).mono ?_; rintro e w' ⟨rfl, hw'⟩; subst w') | (go_at_call 48; refine (H48.out _).mono ?_; rintro e w' ⟨rfl, hw'⟩; subst w') | (go_at_call 49; refine (H49.out _).mono ?_; rintro e w' ⟨rfl, hw'⟩; subst w') | (go_at_call 50; refine (H50.out _).mono ?_; rintro e w' ⟨rfl, hw'⟩; subst w') | (go_at_call 51; refine (H51.out _).mono ?_; rintro e w' ⟨rfl, hw'⟩; subst w') | (go_at_call 57; refine (H57.out _).mono ?_; rintro e w' ⟨rfl, hw'⟩; subst w') | (go_at_call 53; refine (H53.out _).mono ?_; rintro e w' ⟨rfl, hw'⟩; subst w') | (go_at_call 55; refine (H55.out _).mono ?_; rintro e w' ⟨rfl, hw'⟩; subst w') | (go_at_call 58; refine (H58.out _).mono ?_; rintro e w' ⟨rfl, hw'⟩; subst w'))
      go_meet
      exact ⟨by rw [F.out], rfl⟩
    have e31 : (m.ok != 0) = false := by simpa using c31
    by_cases c32 : m.onm.toList = []
    rotate_left
    · have L : Hid (m.zO = false) := hid (by simp [Ms.zO, c32])
      have e32 : ¬ (m.onm.toList = []) := c32
      clear c31 c32
      have F : Hid (O7 = true) := hid (by rw [← h7.out, L.out] <;> rfl)
      clear h7 L
      go_wp2_with (first | (go_at_call 37; refine (H37.out _).mono ?_; rintro e w' ⟨rfl, hw'⟩; subst w') | (go_at_call 46; refine (H46.out _).mono ?_; rintro e w' ⟨rfl, hw'⟩; subst w') | (go_at_call 47; refine (H47.out _).mono ?_; rintro e w' ⟨rfl, hw'⟩; subst w') | (go_at_call 48; refine (H48.out _).mono ?_; rintro e w' ⟨rfl, hw'⟩; subst w') | (go_at_call 49; refine (H49.out _).mono ?_; rintro e w' ⟨rfl, hw'⟩; subst w') | (go_at_call 50; refine (H50.out _).mono ?_; rintro e w' ⟨rfl, hw'⟩; subst w') | (go_at_call 51; refine (H51.out _).mono ?_; rintro e w' ⟨rfl, hw'⟩; subst w') | (go_at_call 57; refine (H57.out _).mono ?_; rintro e w' ⟨rfl, hw'⟩; subst w') | (go_at_call 53; refine (H53.out _).mono ?_; rintro e w' ⟨rfl, hw'⟩; subst w') | (go_at_call 55; refine (H55.out _).mono ?_; rintro e w' ⟨rfl, hw'⟩; subst w') | (go_at_call 58; refine (H58.out _).mono ?_; rintro e w' ⟨rfl, hw'⟩; subst w'))
      go_meet
      exact ⟨by rw [F.out], rfl⟩
    have e32 : m.onm.toList = [] := c32
    by_cases c33 : m.otx.toList = []
    rotate_left
    · have L : Hid (m.zO = false) := hid (by simp [Ms.zO, c33])
      have e33 : ¬ (m.otx.toList = []) := c33
      clear c31 c32 c33
      have F : Hid (O7 = true) := hid (by rw [← h7.out, L.out] <;> rfl)
      clear h7 L
      go_wp2_with (first | (go_at_call 37; refine (H37.out _).mono ?_; rintro e w' ⟨rfl, hw'⟩; subst w') | (go_at_call 46; refine (H46.out _).mono ?_; rintro e w' ⟨rfl, hw'⟩; subst w') | (go_at_call 47; refine (H47.out _).mono ?_; rintro e w' ⟨rfl, hw'⟩; subst w') | (go_at_call 48; refine (H48.out _).mono ?_; rintro e w' ⟨rfl, hw'⟩; subst w') | (go_at_call 49; refine (H49.out _).mono ?_; rintro e w' ⟨rfl, hw'⟩; subst w') | (go_at_call 50; refine (H50.out _).mono ?_; rintro e w' ⟨rfl, hw'⟩; subst w') | (go_at_call 51; refine (H51.out _).mono ?_; rintro e w' ⟨rfl, hw'⟩; subst w') | (go_at_call 57; refine (H57.out _).mono ?_; rintro e w' ⟨rfl, hw'⟩; subst w') | (go_at_call 53; refine (H53.out _).mono ?_; rintro e w' ⟨rfl, hw'⟩; subst w') | (go_at_call 55; refine (H55.out _).mono ?_; rintro e w' ⟨rfl, hw'⟩; subst w') | (go_at_call 58; refine (H58.out _).mono ?_; rintro e w' ⟨rfl, hw'⟩; subst w'))
      go_meet
      exact ⟨by rw [F.out], rfl⟩
    have e33 : m.otx.toList = [] := c33
    by_cases c34 : m.on = 0
    rotate_left
    · have L : Hid (m.zO = false) := hid (by simp [Ms.zO, c34])
      have e34 : (m.on != 0) = true := by simpa using c34
      clear c31 c32 c33 c34
      have F : Hid (O7 = true) := hid (by rw [← h7.out, L.out] <;> rfl)
      clear h7 L
      go_wp2_with (first | (go_at_call 37; refine (H37.out _).mono ?_; rintro e w' ⟨rfl, hw'⟩; subst w') | (go_at_call 46; refine (H46.out _).mono ?_; rintro e w' ⟨rfl, hw'⟩; subst w') | (go_at_call 47; refine (H47.out _).mono ?_; rintro e w' ⟨rfl, hw'⟩; subst w') | (go_at_call 48; refine (H48.out _).mono ?_; rintro e w' ⟨rfl, hw'⟩; subst w') | (go_at_call 49; refine (H49.out _).mono ?_; rintro e w' ⟨rfl, hw'⟩; subst w') | (go_at_call 50; refine (H50.out _).mono ?_; rintro e w' ⟨rfl, hw'⟩; subst w') | (go_at_call 51; refine (H51.out _).mono ?_; rintro e w' ⟨rfl, hw'⟩; subst w') | (go_at_call 57; refine (H57.out _).mono ?_; rintro e w' ⟨rfl, hw'⟩; subst w') | (go_at_call 53; refine (H53.out _).mono ?_; rintro e w' ⟨rfl, hw'⟩; subst w') | (go_at_call 55; refine (H55.out _).mono ?_; rintro e w' ⟨rfl, hw'⟩; subst w') | (go_at_call 58; refine (H58.out _).mono ?_; rintro e w' ⟨rfl, hw'⟩; subst w'))
      go_meet
      exact ⟨by rw [F.out], rfl⟩
    have e34 : (m.on != 0) = false := by simpa using c34
    by_cases c35 : m.om = 0
    rotate_left
    · have L : Hid (m.zO = false) := hid (by simp [Ms.zO, c35])
      have e35 : (m.om != 0) = true := by simpa using c35
      clear c31 c32 c33 c34 c35
      have F : Hid (O7 = true) := hid (by rw [← h7.out, L.out] <;> rfl)
      clear h7 L
      go_wp2_with (first | (go_at_call 37; refine (H37.out _).mono ?_; rintro e w' ⟨rfl, hw'⟩; subst w') | (go_at_call 46; refine (H46.out _).mono ?_; rintro e w' ⟨rfl, hw'⟩; subst w') | (go_at_call 47; refine (H47.out _).mono ?_; rintro e w' ⟨rfl, hw'⟩; subst w') | (go_at_call 48; refine (H48.out _).mono ?_; rintro e w' ⟨rfl, hw'⟩; subst w') | (go_at_call 49; refine (H49.out _).mono ?_; rintro e w' ⟨rfl, hw'⟩; subst w') | (go_at_call 50; refine (H50.out _).mono ?_; rintro e w' ⟨rfl, hw'⟩; subst w') | (go_at_call 51; refine (H51.out _).mono ?_; rintro e w' ⟨rfl, hw'⟩; subst w') | (go_at_call 57; refine (H57.out _).mono ?_; rintro e w' ⟨rfl, hw'⟩; subst w') | (go_at_call 53; refine (H53.out _).mono ?_; rintro e w' ⟨rfl, hw'⟩; subst w') | (go_at_call 55; refine (H55.out _).mono ?_; rintro e w' ⟨rfl, hw'⟩; subst w') | (go_at_call 58; refine (H58.out _).mono ?_; rintro e w' ⟨rfl, hw'⟩; subst w'))
      go_meet
      exact ⟨by rw [F.out], rfl⟩
    have e35 : (m.om != 0) = false := by simpa using c35
    have LO : Hid (m.zO = true) := hid (by simp [Ms.zO, c31, c32, c33, c34, c35])
    clear c31 c32 c33 c34 c35
    have F : Hid (O7 = false) := hid (by rw [← h7.out, LO.out] <;> rfl)
    clear h7
    go_wp2_with (first | (go_at_call 37; refine (H37.out _).mono ?_; rintro e w' ⟨rfl, hw'⟩; subst w') | (go_at_call 46; refine (H46.out _).mono ?_; rintro e w' ⟨rfl, hw'⟩; subst w') | (go_at_call 47; refine (H47.out _).mono ?_; rintro e w' ⟨rfl, hw'⟩; subst w') | (go_at_call 48; refine (H48.out _).mono ?_; rintro e w' ⟨rfl, hw'⟩; subst w') | (go_at_call 49; refine (H49.out _).mono ?_; rintro e w' ⟨rfl, hw'⟩; subst w') | (go_at_call 50; refine (H50.out _).mono ?_; rintro e w' ⟨rfl, hw'⟩; subst w') | (go_at_call 51; refine (H51.out _).mono ?_; rintro e w' ⟨rfl, hw'⟩; subst w') | (go_at_call 57; refine (H57.out _).mono ?_; rintro e w' ⟨rfl, hw'⟩; subst w') | (go_at_call 53; refine (H53.out _).mono ?_; rintro e w' ⟨rfl, hw'⟩; subst w') | (go_at_call 55; refine (H55.out _).mono ?_; rintro e w' ⟨rfl, hw'⟩; subst w') | (go_at_call 58; refine (H58.out _).mono ?_; rintro e w' ⟨rfl, hw'⟩; subst w'))
    go_meet
    exact ⟨by rw [F.out], rfl⟩
  obtain ⟨rfl, hwc⟩ := hcut
  subst wc
  cases O7 with
  | true =>
    go_wp2
    go_ret
    exact ⟨by simp, B2.out⟩
  | false =>
  go_upto_region 9 with fail
  go_cut [135] (fun v wx => v = .bool O9 ∧ wx = w2)
  case first =>
    by_cases c36 : m.rc = 0
    rotate_left
    · have L : Hid (m.zR = false) := hid (by simp [Ms.zR, c36])
      have e36 : (m.rc != 0) = true := by simpa using c36
      clear c36
      have F : Hid (O9 = true) := hid (by rw [← h9.out, L.out] <;> rfl)
      clear h9 L
      go_wp2_with (first | (go_at_call 37; refine (H37.out _).mono ?_; rintro e w' ⟨rfl, hw'⟩; subst w') | (go_at_call 46; refine (H46.out _).mono ?_; rintro e w' ⟨rfl, hw'⟩; subst w') | (go_at_call 47; refine (H47.out _).mono ?_; rintro e w' ⟨rfl, hw'⟩; subst w') | (go_at_call 48; refine (H48.out _).mono ?_; rintro e w' ⟨rfl, hw'⟩; subst w') | (go_at_call 49; refine (H49.out _).mono ?_; rintro e w' ⟨rfl, hw'⟩; subst w') | (go_at_call 50; refine (H50.out _).mono ?_; rintro e w' ⟨rfl, hw'⟩; subst w') | (go_at_call 51; refine (H51.out _).mono ?_; rintro e w' ⟨rfl, hw'⟩; subst w') | (go_at_call 57; refine (H57.out _).mono ?_; rintro e w' ⟨rfl, hw'⟩; subst w') | (go_at_call 53; refine (H53.out _).mono ?_; rintro e w' ⟨rfl, hw'⟩; subst w') | (go_at_call 55; refine (H55.out _).mono ?_; rintro e w' ⟨rfl, hw'⟩; subst w') | (go_at_call 58; refine (H58.out _).mono ?_; rintro e w' ⟨rfl, hw'⟩; subst w'))
      go_meet
      exact ⟨by rw [F.out], rfl⟩
    have e36 : (m.rc != 0) = false := by simpa using c36
    by_cases c37 : m.rn = 0
    rotate_left
    · have L : Hid (m.zR = false) := hid (by simp [Ms.zR, c37])
      have e37 : (m.rn != 0) = true := by simpa using c37
      clear c36 c37
      have F : Hid (O9 = true) := hid (by rw [← h9.out, L.out] <;> rfl)
      clear h9 L
      go_wp2_with (first | (go_at_call 37; refine (H37.out _).mono ?_; rintro e w' ⟨rfl, hw'⟩; subst w') | (go_at_call 46; refine (H46.out _).mono ?_; rintro e w' ⟨rfl, hw'⟩; subst w') | (go_at_call 47; refine (H47.out _).mono ?_; rintro e w' ⟨rfl, hw'⟩; subst w') | (go_at_call 48; refine (H48.out _).mono ?_; rintro e w' ⟨rfl, hw'⟩; subst w') | (go_at_call 49; refine (H49.out _).mono ?_; rintro e w' ⟨rfl, hw'⟩; subst w') | (go_at_call 50; refine (H50.out _).mono ?_; rintro e w' ⟨rfl, hw'⟩; subst w') | (go_at_call 51; refine (H51.out _).mono ?_; rintro e w' ⟨rfl, hw'⟩; subst w') | (go_at_call 57; refine (H57.out _).mono ?_; rintro e w' ⟨rfl, hw'⟩; subst w') | (go_at_call 53; refine (H53.out _).mono ?_; rintro e w' ⟨rfl, hw'⟩; subst w') | (go_at_call 55; refine (H55.out _).mono ?_; rintro e w' ⟨rfl, hw'⟩; subst w') | (go_at_call 58; refine (H58.out _).mono ?_; rintro e w' ⟨rfl, hw'⟩; subst w'))
      go_meet
      exact ⟨by rw [F.out], rfl⟩
    have e37 : (m.rn != 0) = false := by simpa using c37
    by_cases c38 : m.rl = 0
    rotate_left
    · have L : Hid (m.zR = false) := hid (by simp [Ms.zR, c38])
      have e38 : decide (0 < (m.rl : Int)) = true := by simp; omega
      have f38 : decide (0 < (m.rl)) = true := by simp; omega
      clear c36 c37 c38
      have F : Hid (O9 = true) := hid (by rw [← h9.out, L.out] <;> rfl)
      clear h9 L
      go_wp2_with (first | (go_at_call 37; refine (H37.out _).mono ?_; rintro e w' ⟨rfl, hw'⟩; subst w') | (go_at_call 46; refine (H46.out _).mono ?_; rintro e w' ⟨rfl, hw'⟩; subst w') | (go_at_call 47; refine (H47.out _).mono ?_; rintro e w' ⟨rfl, hw'⟩; subst w') | (go_at_call 48; refine (H48.out _).mono ?_; rintro e w' ⟨rfl, hw'⟩; subst w') | (go_at_call 49; refine (H49.out _).mono ?_; rintro e w' ⟨rfl, hw'⟩; subst w') | (go_at_call 50; refine (H50.out _).mono ?_; rintro e w' ⟨rfl, hw'⟩; subst w') | (go_at_call 51; refine (H51.out _).mono ?_; rintro e w' ⟨rfl, hw'⟩; subst w') | (go_at_call 57; refine (H57.out _).mono ?_; rintro e w' ⟨rfl, hw'⟩; subst w') | (go_at_call 53; refine (H53.out _).mono ?_; rintro e w' ⟨rfl, hw'⟩; subst w') | (go_at_call 55; refine (H55.out _).mono ?_; rintro e w' ⟨rfl, hw'⟩; subst w') | (go_at_call 58; refine (H58.out _).mono ?_; rintro e w' ⟨rfl, hw'⟩; subst w'))
      go_meet
      exact ⟨by rw [F.out], rfl⟩
    have e38 : decide (0 < (m.rl : Int)) = false := by simp; omega
    have f38 : decide (0 < (m.rl)) = false := by simp; omega
    have LR : Hid (m.zR = true) := hid (by simp [Ms.zR, c36, c37, c38])
    clear c36 c37 c38
    have F : Hid (O9 = false) := hid (by rw [← h9.out, LR.out] <;> rfl)
    clear h9
    go_wp2_with (first | (go_at_call 37; refine (H37.out _).mono ?_; rintro e w' ⟨rfl, hw'⟩; subst w') | (go_at_call 46; refine (H46.out _).mono ?_; rintro e w' ⟨rfl, hw'⟩; subst w') | (go_at_call 47; refine (H47.out _).mono ?_; rintro e w' ⟨rfl, hw'⟩; subst w') | (go_at_call 48; refine (H48.out _).mono ?_; rintro e w' ⟨rfl, hw'⟩; subst w') | (go_at_call 49; refine (H49.out _).mono ?_; rintro e w' ⟨rfl, hw'⟩; subst w') | (go_at_call 50; refine (H50.out _).mono ?_; rintro e w' ⟨rfl, hw'⟩; subst w') | (go_at_call 51; refine (H51.out _).mono ?_; rintro e w' ⟨rfl, hw'⟩; subst w') | (go_at_call 57; refine (H57.out _).mono ?_; rintro e w' ⟨rfl, hw'⟩; subst w') | (go_at_call 53; refine (H53.out _).mono ?_; rintro e w' ⟨rfl, hw'⟩; subst w') | (go_at_call 55; refine (H55.out _).mono ?_; rintro e w' ⟨rfl, hw'⟩; subst w') | (go_at_call 58; refine (H58.out _).mono ?_; rintro e w' ⟨rfl, hw'⟩; subst w'))
    go_meet
    exact ⟨by rw [F.out], rfl⟩
  obtain ⟨rfl, hwc⟩ := hcut
  subst wc
  cases O9 with
  | true =>
    go_wp2
    go_ret
    exact ⟨by simp, B2.out⟩
  | false =>
  go_upto_region 12 with fail
  have B3 : Hid (Below w.heap.size w (w2.alloc (.cells #[.int .i64 m.cf, .int .i64 m.cb, .slice m.sa m.sl m.sp, .slice m.xa m.xl m.xp] 32))) := hid (B2.out.trans ((ba w2 _).mono B2.out.size))
  have P3 : Hid ((w2.alloc (.cells #[.int .i64 m.cf, .int .i64 m.cb, .slice m.sa m.sl m.sp, .slice m.xa m.xl m.xp] 32)).heap[w2.heap.size]? = some (.cells #[.int .i64 m.cf, .int .i64 m.cb, .slice m.sa m.sl m.sp, .slice m.xa m.xl m.xp] 32 (0, 0))) := hid (heap_alloc_new _ _)
  have Q9 : Hid ((w2.alloc (.cells #[.int .i64 m.cf, .int .i64 m.cb, .slice m.sa m.sl m.sp, .slice m.xa m.xl m.xp] 32)).cell? ⟨b, 9, none⟩ = some (.bool m.h)) := hid (cell_under (ba w2 _) hbw q9)
  obtain ⟨s, hs⟩ : ∃ s, Hid (w2.heap.size = s) := ⟨_, hid rfl⟩
  rw [hs.out] at P3 ⊢
  generalize w2.alloc (.cells #[.int .i64 m.cf, .int .i64 m.cb, .slice m.sa m.sl m.sp, .slice m.xa m.xl m.xp] 32) = w3 at B3 P3 Q9 ⊢
  clear p0 p1 p2 p3 p4 hbw q3 q4 q5 q6 q7 q8 q9 q15 q16 q17 q18 q19 q20 q21 q22
  have q9 := Q9.out
  have p0 : w3.cell? ⟨s, 0, none⟩ = some (.int .i64 m.cf) := by rw [cell_at P3.out]; rfl
  have p1 : w3.cell? ⟨s, 1, none⟩ = some (.int .i64 m.cb) := by rw [cell_at P3.out]; rfl
  have p2 : w3.cell? ⟨s, 2, none⟩ = some (.slice m.sa m.sl m.sp) := by rw [cell_at P3.out]; rfl
  have p3 : w3.cell? ⟨s, 3, none⟩ = some (.slice m.xa m.xl m.xp) := by rw [cell_at P3.out]; rfl
  by_cases c39 : m.cf = 0
  rotate_left
  · have L : Hid (m.zG = false) := hid (by simp [Ms.zG, c39])
    have e39 : (m.cf != 0) = true := by simpa using c39
    clear c39
    have F : Hid (O12 = true) := hid (by rw [← h12.out, L.out] <;> rfl)
    clear h12 L
    go_wp2_with (first | (go_at_call 37; refine (H37.out _).mono ?_; rintro e w' ⟨rfl, hw'⟩; subst w') | (go_at_call 46; refine (H46.out _).mono ?_; rintro e w' ⟨rfl, hw'⟩; subst w') | (go_at_call 47; refine (H47.out _).mono ?_; rintro e w' ⟨rfl, hw'⟩; subst w') | (go_at_call 48; refine (H48.out _).mono ?_; rintro e w' ⟨rfl, hw'⟩; subst w') | (go_at_call 49; refine (H49.out _).mono ?_; rintro e w' ⟨rfl, hw'⟩; subst w') | (go_at_call 50; refine (H50.out _).mono ?_; rintro e w' ⟨rfl, hw'⟩; subst w') | (go_at_call 51; refine (H51.out _).mono ?_; rintro e w' ⟨rfl, hw'⟩; subst w') | (go_at_call 57; refine (H57.out _).mono ?_; rintro e w' ⟨rfl, hw'⟩; subst w') | (go_at_call 53; refine (H53.out _).mono ?_; rintro e w' ⟨rfl, hw'⟩; subst w') | (go_at_call 55; refine (H55.out _).mono ?_; rintro e w' ⟨rfl, hw'⟩; subst w') | (go_at_call 58; refine (H58.out _).mono ?_; rintro e w' ⟨rfl, hw'⟩; subst w'))
    go_ret
    exact ⟨by rw [F.out]; rfl, B3.out⟩
  have e39 : (m.cf != 0) = false := by simpa using c39
  by_cases c40 : m.cb = 0
  rotate_left
  · have L : Hid (m.zG = false) := hid (by simp [Ms.zG, c40])
    have e40 : (m.cb != 0) = true := by simpa using c40
    clear c39 c40
    have F : Hid (O12 = true) := hid (by rw [← h12.out, L.out] <;> rfl)
    clear h12 L
    go_wp2_with (first | (go_at_call 37; refine (H37.out _).mono ?_; rintro e w' ⟨rfl, hw'⟩; subst w') | (go_at_call 46; refine (H46.out _).mono ?_; rintro e w' ⟨rfl, hw'⟩; subst w') | (go_at_call 47; refine (H47.out _).mono ?_; rintro e w' ⟨rfl, hw'⟩; subst w') | (go_at_call 48; refine (H48.out _).mono ?_; rintro e w' ⟨rfl, hw'⟩; subst w') | (go_at_call 49; refine (H49.out _).mono ?_; rintro e w' ⟨rfl, hw'⟩; subst w') | (go_at_call 50; refine (H50.out _).mono ?_; rintro e w' ⟨rfl, hw'⟩; subst w') | (go_at_call 51; refine (H51.out _).mono ?_; rintro e w' ⟨rfl, hw'⟩; subst w') | (go_at_call 57; refine (H57.out _).mono ?_; rintro e w' ⟨rfl, hw'⟩; subst w') | (go_at_call 53; refine (H53.out _).mono ?_; rintro e w' ⟨rfl, hw'⟩; subst w') | (go_at_call 55; refine (H55.out _).mono ?_; rintro e w' ⟨rfl, hw'⟩; subst w') | (go_at_call 58; refine (H58.out _).mono ?_; rintro e w' ⟨rfl, hw'⟩; subst w'))
    go_ret
    exact ⟨by rw [F.out]; rfl, B3.out⟩
  have e40 : (m.cb != 0) = false := by simpa using c40
  by_cases c41 : m.sl = 0
  rotate_left
  · have L : Hid (m.zG = false) := hid (by simp [Ms.zG, c41])
    have e41 : decide (0 < (m.sl : Int)) = true := by simp; omega
    have f41 : decide (0 < (m.sl)) = true := by simp; omega
    clear c39 c40 c41
    have F : Hid (O12 = true) := hid (by rw [← h12.out, L.out] <;> rfl)
    clear h12 L
    go_wp2_with (first | (go_at_call 37; refine (H37.out _).mono ?_; rintro e w' ⟨rfl, hw'⟩; subst w') | (go_at_call 46; refine (H46.out _).mono ?_; rintro e w' ⟨rfl, hw'⟩; subst w') | (go_at_call 47; refine (H47.out _).mono ?_; rintro e w' ⟨rfl, hw'⟩; subst w') | (go_at_call 48; refine (H48.out _).mono ?_; rintro e w' ⟨rfl, hw'⟩; subst w') | (go_at_call 49; refine (H49.out _).mono ?_; rintro e w' ⟨rfl, hw'⟩; subst w') | (go_at_call 50; refine (H50.out _).mono ?_; rintro e w' ⟨rfl, hw'⟩; subst w') | (go_at_call 51; refine (H51.out _).mono ?_; rintro e w' ⟨rfl, hw'⟩; subst w') | (go_at_call 57; refine (H57.out _).mono ?_; rintro e w' ⟨rfl, hw'⟩; subst w') | (go_at_call 53; refine (H53.out _).mono ?_; rintro e w' ⟨rfl, hw'⟩; subst w') | (go_at_call 55; refine (H55.out _).mono ?_; rintro e w' ⟨rfl, hw'⟩; subst w') | (go_at_call 58; refine (H58.out _).mono ?_; rintro e w' ⟨rfl, hw'⟩; subst w'))
    go_ret
    exact ⟨by rw [F.out]; rfl, B3.out⟩
  have e41 : decide (0 < (m.sl : Int)) = false := by simp; omega
  have f41 : decide (0 < (m.sl)) = false := by simp; omega
  by_cases c42 : m.xl = 0
  rotate_left
  · have L : Hid (m.zG = false) := hid (by simp [Ms.zG, c42])
    have e42 : decide (0 < (m.xl : Int)) = true := by simp; omega
    have f42 : decide (0 < (m.xl)) = true := by simp; omega
    clear c39 c40 c41 c42
    have F : Hid (O12 = true) := hid (by rw [← h12.out, L.out] <;> rfl)
    clear h12 L
    go_wp2_with (first | (go_at_call 37; refine (H37.out _).mono ?_; rintro e w' ⟨rfl, hw'⟩; subst w') | (go_at_call 46; refine (H46.out _).mono ?_; rintro e w' ⟨rfl, hw'⟩; subst w') | (go_at_call 47; refine (H47.out _).mono ?_; rintro e w' ⟨rfl, hw'⟩; subst w') | (go_at_call 48; refine (H48.out _).mono ?_; rintro e w' ⟨rfl, hw'⟩; subst w') | (go_at_call 49; refine (H49.out _).mono ?_; rintro e w' ⟨rfl, hw'⟩; subst w') | (go_at_call 50; refine (H50.out _).mono ?_; rintro e w' ⟨rfl, hw'⟩; subst w') | (go_at_call 51; refine (H51.out _).mono ?_; rintro e w' ⟨rfl, hw'⟩; subst w') | (go_at_call 57; refine (H57.out _).mono ?_; rintro e w' ⟨rfl, hw'⟩; subst w') | (go_at_call 53; refine (H53.out _).mono ?_; rintro e w' ⟨rfl, hw'⟩; subst w') | (go_at_call 55; refine (H55.out _).mono ?_; rintro e w' ⟨rfl, hw'⟩; subst w') | (go_at_call 58; refine (H58.out _).mono ?_; rintro e w' ⟨rfl, hw'⟩; subst w'))
    go_ret
    exact ⟨by rw [F.out]; rfl, B3.out⟩
  have e42 : decide (0 < (m.xl : Int)) = false := by simp; omega
  have f42 : decide (0 < (m.xl)) = false := by simp; omega
  have LG : Hid (m.zG = true) := hid (by simp [Ms.zG, c39, c40, c41, c42])
  clear c39 c40 c41 c42
  have F : Hid (O12 = false) := hid (by rw [← h12.out, LG.out] <;> rfl)
  clear h12
  go_wp2_with (first | (go_at_call 37; refine (H37.out _).mono ?_; rintro e w' ⟨rfl, hw'⟩; subst w') | (go_at_call 46; refine (H46.out _).mono ?_; rintro e w' ⟨rfl, hw'⟩; subst w') | (go_at_call 47; refine (H47.out _).mono ?_; rintro e w' ⟨rfl, hw'⟩; subst w') | (go_at_call 48; refine (H48.out _).mono ?_; rintro e w' ⟨rfl, hw'⟩; subst w') | (go_at_call 49; refine (H49.out _).mono ?_; rintro e w' ⟨rfl, hw'⟩; subst w') | (go_at_call 50; refine (H50.out _).mono ?_; rintro e w' ⟨rfl, hw'⟩; subst w') | (go_at_call 51; refine (H51.out _).mono ?_; rintro e w' ⟨rfl, hw'⟩; subst w') | (go_at_call 57; refine (H57.out _).mono ?_; rintro e w' ⟨rfl, hw'⟩; subst w') | (go_at_call 53; refine (H53.out _).mono ?_; rintro e w' ⟨rfl, hw'⟩; subst w') | (go_at_call 55; refine (H55.out _).mono ?_; rintro e w' ⟨rfl, hw'⟩; subst w') | (go_at_call 58; refine (H58.out _).mono ?_; rintro e w' ⟨rfl, hw'⟩; subst w'))
  go_ret
  exact ⟨by rw [F.out]; rfl, B3.out⟩
set_option maxHeartbeats 6400000 in
set_option maxRecDepth 1000000 in
theorem rext_k4 {w : World} (m : Ms) (hk : m.k = 4) : Calls Tryz.prog 40 #[m.V] w fun e w' => e = .returned (.bool (m.extB 4)) ∧ Below w.heap.size w w' := by
  have EE : m.extB 4 = (!((true || (m.v == 0)) && ((true || (m.n == 0)) && ((true || (m.c == 0)) && (false || (m.o == 0))))) || (!((false || (m.l == 0)) && ((false || (m.q == 0)) && ((false || (!m.h)) && (true || ((m.el : Int) == 0))))) || (!(false || m.zO) || (!(false || m.zR) || !(false || m.zG))))) := by rw [extB_or]; rfl
  rw [EE]
  clear EE
  obtain ⟨O3, h3⟩ : ∃ O3, Hid ((!((true || (m.v == 0)) && ((true || (m.n == 0)) && ((true || (m.c == 0)) && (false || (m.o == 0)))))) = O3) := ⟨_, hid rfl⟩
  obtain ⟨O5, h5⟩ : ∃ O5, Hid ((!((false || (m.l == 0)) && ((false || (m.q == 0)) && ((false || (!m.h)) && (true || ((m.el : Int) == 0)))))) = O5) := ⟨_, hid rfl⟩
  obtain ⟨O7, h7⟩ : ∃ O7, Hid ((!(false || m.zO)) = O7) := ⟨_, hid rfl⟩
  obtain ⟨O9, h9⟩ : ∃ O9, Hid ((!(false || m.zR)) = O9) := ⟨_, hid rfl⟩
  obtain ⟨O12, h12⟩ : ∃ O12, Hid ((!(false || m.zG)) = O12) := ⟨_, hid rfl⟩
  rw [h3.out, h5.out, h7.out, h9.out, h12.out]
  have H37 : Hid (∀ W : World, Calls Tryz.prog 37 #[.int .i64 4] W fun e w' => e = .returned (.bool true) ∧ w' = W) := hid (fun W => has37 (k := 4) ⟨by omega, by omega⟩)
  have H46 : Hid (∀ W : World, Calls Tryz.prog 46 #[.int .i64 4] W fun e w' => e = .returned (.bool true) ∧ w' = W) := hid (fun W => has46 (k := 4) ⟨by omega, by omega⟩)
  have H47 : Hid (∀ W : World, Calls Tryz.prog 47 #[.int .i64 4] W fun e w' => e = .returned (.bool true) ∧ w' = W) := hid (fun W => has47 (k := 4) ⟨by omega, by omega⟩)
  have H48 : Hid (∀ W : World, Calls Tryz.prog 48 #[.int .i64 4] W fun e w' => e = .returned (.bool false) ∧ w' = W) := hid (fun W => has48 (k := 4) ⟨by omega, by omega⟩)
  have H49 : Hid (∀ W : World, Calls Tryz.prog 49 #[.int .i64 4] W fun e w' => e = .returned (.bool false) ∧ w' = W) := hid (fun W => has49 (k := 4) ⟨by omega, by omega⟩)
  have H50 : Hid (∀ W : World, Calls Tryz.prog 50 #[.int .i64 4] W fun e w' => e = .returned (.bool false) ∧ w' = W) := hid (fun W => has50 (k := 4) ⟨by omega, by omega⟩)
  have H51 : Hid (∀ W : World, Calls Tryz.prog 51 #[.int .i64 4] W fun e w' => e = .returned (.bool false) ∧ w' = W) := hid (fun W => has51 (k := 4) ⟨by omega, by omega⟩)
  have H53 : Hid (∀ W : World, Calls Tryz.prog 53 #[.int .i64 4] W fun e w' => e = .returned (.bool false) ∧ w' = W) := hid (fun W => has53 (k := 4) ⟨by omega, by omega⟩)
  have H55 : Hid (∀ W : World, Calls Tryz.prog 55 #[.int .i64 4] W fun e w' => e = .returned (.bool false) ∧ w' = W) := hid (fun W => has55 (k := 4) ⟨by omega, by omega⟩)
  have H57 : Hid (∀ W : World, Calls Tryz.prog 57 #[.int .i64 4] W fun e w' => e = .returned (.bool true) ∧ w' = W) := hid (fun W => has57 (k := 4) ⟨by omega, by omega⟩)
  have H58 : Hid (∀ W : World, Calls Tryz.prog 58 #[.int .i64 4, .bool m.h] W fun e w' => e = .returned (.bool false) ∧ w' = W) := hid (fun W => has58 (k := 4) m.h ⟨by omega, by omega⟩)
  have BA := hid (ba w (.cells m.cells.toArray 34))
  have M0 := hid (MsAt.new w m)
  have HK := hid hk
  clear hk
  go_enter Tryz.func40, Tryz.ntmps40
  go_upto_region 1 with fail
  obtain ⟨b, hbb⟩ : ∃ b, Hid (b = w.heap.size) := ⟨_, hid rfl⟩
  rw [← hbb.out] at M0 ⊢
  change Code.wp _ _ _ _ (w.alloc (.cells m.cells.toArray 34))
  generalize w.alloc (.cells m.cells.toArray 34) = w1 at BA M0 ⊢
  have q0 : w1.cell? ⟨b, 0, none⟩ = some (.int .i64 4) := by rw [← HK.out]; exact M0.out 0 _ rfl
  have q3 : w1.cell? ⟨b, 3, none⟩ = some (.int .i64 m.v) := M0.out 3 _ rfl
  have q4 : w1.cell? ⟨b, 4, none⟩ = some (.int .i64 m.n) := M0.out 4 _ rfl
  have q5 : w1.cell? ⟨b, 5, none⟩ = some (.int .i64 m.c) := M0.out 5 _ rfl
  have q6 : w1.cell? ⟨b, 6, none⟩ = some (.int .i64 m.o) := M0.out 6 _ rfl
  have q7 : w1.cell? ⟨b, 7, none⟩ = some (.int .i64 m.l) := M0.out 7 _ rfl
  have q8 : w1.cell? ⟨b, 8, none⟩ = some (.int .i64 m.q) := M0.out 8 _ rfl
  have q9 : w1.cell? ⟨b, 9, none⟩ = some (.bool m.h) := M0.out 9 _ rfl
  have q10 : w1.cell? ⟨b, 10, none⟩ = some (.int .i64 m.ok) := M0.out 10 _ rfl
  have q11 : w1.cell? ⟨b, 11, none⟩ = some (.string m.onm) := M0.out 11 _ rfl
  have q12 : w1.cell? ⟨b, 12, none⟩ = some (.string m.otx) := M0.out 12 _ rfl
  have q13 : w1.cell? ⟨b, 13, none⟩ = some (.int .i64 m.on) := M0.out 13 _ rfl
  have q14 : w1.cell? ⟨b, 14, none⟩ = some (.int .i64 m.om) := M0.out 14 _ rfl
  have q15 : w1.cell? ⟨b, 15, none⟩ = some (.int .i64 m.rc) := M0.out 15 _ rfl
  have q16 : w1.cell? ⟨b, 16, none⟩ = some (.int .i64 m.rn) := M0.out 16 _ rfl
  have q17 : w1.cell? ⟨b, 17, none⟩ = some (.slice m.ra m.rl m.rp) := M0.out 17 _ rfl
  have q18 : w1.cell? ⟨b, 18, none⟩ = some (.slice m.ea m.el m.ep) := M0.out 18 _ rfl
  have q19 : w1.cell? ⟨b, 19, none⟩ = some (.int .i64 m.cf) := M0.out 19 _ rfl
  have q20 : w1.cell? ⟨b, 20, none⟩ = some (.int .i64 m.cb) := M0.out 20 _ rfl
  have q21 : w1.cell? ⟨b, 21, none⟩ = some (.slice m.sa m.sl m.sp) := M0.out 21 _ rfl
  have q22 : w1.cell? ⟨b, 22, none⟩ = some (.slice m.xa m.xl m.xp) := M0.out 22 _ rfl
  have hbw : b < w1.heap.size := World.block_lt_of_cell? _ _ q0
  go_upto_region 3 with fail
  have B2 : Hid (Below w.heap.size w (w1.alloc (.cells #[.int .i64 m.ok, .string m.onm, .string m.otx, .int .i64 m.on, .int .i64 m.om] 25))) := hid (BA.out.trans ((ba w1 _).mono BA.out.size))
  have M2 : Hid (MsAt (w1.alloc (.cells #[.int .i64 m.ok, .string m.onm, .string m.otx, .int .i64 m.on, .int .i64 m.om] 25)) b m) := hid (M0.out.under (ba w1 _))
  have P2 : Hid ((w1.alloc (.cells #[.int .i64 m.ok, .string m.onm, .string m.otx, .int .i64 m.on, .int .i64 m.om] 25)).heap[w1.heap.size]? = some (.cells #[.int .i64 m.ok, .string m.onm, .string m.otx, .int .i64 m.on, .int .i64 m.om] 25 (0, 0))) := hid (heap_alloc_new _ _)
  obtain ⟨p, hp⟩ : ∃ p, Hid (w1.heap.size = p) := ⟨_, hid rfl⟩
  rw [hp.out] at P2 ⊢
  generalize w1.alloc (.cells #[.int .i64 m.ok, .string m.onm, .string m.otx, .int .i64 m.on, .int .i64 m.om] 25) = w2 at B2 M2 P2 ⊢
  clear q0 q3 q4 q5 q6 q7 q8 q9 q10 q11 q12 q13 q14 q15 q16 q17 q18 q19 q20 q21 q22 hbw BA M0
  have q3 : w2.cell? ⟨b, 3, none⟩ = some (.int .i64 m.v) := M2.out 3 _ rfl
  have q4 : w2.cell? ⟨b, 4, none⟩ = some (.int .i64 m.n) := M2.out 4 _ rfl
  have q5 : w2.cell? ⟨b, 5, none⟩ = some (.int .i64 m.c) := M2.out 5 _ rfl
  have q6 : w2.cell? ⟨b, 6, none⟩ = some (.int .i64 m.o) := M2.out 6 _ rfl
  have q7 : w2.cell? ⟨b, 7, none⟩ = some (.int .i64 m.l) := M2.out 7 _ rfl
  have q8 : w2.cell? ⟨b, 8, none⟩ = some (.int .i64 m.q) := M2.out 8 _ rfl
  have q9 : w2.cell? ⟨b, 9, none⟩ = some (.bool m.h) := M2.out 9 _ rfl
  have q15 : w2.cell? ⟨b, 15, none⟩ = some (.int .i64 m.rc) := M2.out 15 _ rfl
  have q16 : w2.cell? ⟨b, 16, none⟩ = some (.int .i64 m.rn) := M2.out 16 _ rfl
  have q17 : w2.cell? ⟨b, 17, none⟩ = some (.slice m.ra m.rl m.rp) := M2.out 17 _ rfl
  have q18 : w2.cell? ⟨b, 18, none⟩ = some (.slice m.ea m.el m.ep) := M2.out 18 _ rfl
  have q19 : w2.cell? ⟨b, 19, none⟩ = some (.int .i64 m.cf) := M2.out 19 _ rfl
  have q20 : w2.cell? ⟨b, 20, none⟩ = some (.int .i64 m.cb) := M2.out 20 _ rfl
  have q21 : w2.cell? ⟨b, 21, none⟩ = some (.slice m.sa m.sl m.sp) := M2.out 21 _ rfl
  have q22 : w2.cell? ⟨b, 22, none⟩ = some (.slice m.xa m.xl m.xp) := M2.out 22 _ rfl
  have p0 : w2.cell? ⟨p, 0, none⟩ = some (.int .i64 m.ok) := by rw [cell_at P2.out]; rfl
  have p1 : w2.cell? ⟨p, 1, none⟩ = some (.string m.onm) := by rw [cell_at P2.out]; rfl
  have p2 : w2.cell? ⟨p, 2, none⟩ = some (.string m.otx) := by rw [cell_at P2.out]; rfl
  have p3 : w2.cell? ⟨p, 3, none⟩ = some (.int .i64 m.on) := by rw [cell_at P2.out]; rfl
  have p4 : w2.cell? ⟨p, 4, none⟩ = some (.int .i64 m.om) := by rw [cell_at P2.out]; rfl
  have hbw : b < w2.heap.size := World.block_lt_of_cell? _ _ q3
  clear HK M2 P2
  go_upto_region 3 with fail
  go_cut [47] (fun v wx => v = .bool O3 ∧ wx = w2)
  case first =>
    by_cases c43 : m.o = 0
    rotate_left
    · have L : Hid ((m.o == 0) = false) := hid (by simpa using c43)
      have e43 : (m.o != 0) = true := by simpa using c43
      clear c43
      have F : Hid (O3 = true) := hid (by rw [← h3.out, L.out] <;> rfl)
      clear h3 L
      go_wp2_with (first | (go_at_call 37; refine (H37.out _).mono ?_; rintro e w' ⟨rfl, hw'⟩; subst w') | (go_at_call 46; refine (H46.out _).mono ?_; rintro e w' ⟨rfl, hw'⟩; subst w') | (go_at_call 47; refine (H47.out _).mono ?_; rintro e w' ⟨rfl, hw'⟩; subst w') | (go_at_call 48; refine (H48.out _).mono ?_; rintro e w' ⟨rfl, hw'⟩; subst w') | (go_at_call 49; refine (H49.out _).mono ?_; rintro e w' ⟨rfl, hw'⟩; subst w') | (go_at_call 50; refine (H50.out _).mono ?_; rintro e w' ⟨rfl, hw'⟩; subst w') | (go_at_call 51; refine (H51.out _).mono ?_; rintro e w' ⟨rfl, hw'⟩; subst w') | (go_at_call 57; refine (H57.out _).mono ?_; rintro e w' ⟨rfl, hw'⟩; subst w') | (go_at_call 53; refine (H53.out _).mono ?_; rintro e w' ⟨rfl, hw'⟩; subst w') | (go_at_call 55; refine (H55.out _).mono ?_; rintro e w' ⟨rfl, hw'⟩; subst w') | (go_at_call 58; refine (H58.out _).mono ?_; rintro e w' ⟨rfl, hw'⟩; subst w'))
      go_meet
      exact ⟨by rw [F.out], rfl⟩
    have e43 : (m.o != 0) = false := by simpa using c43
    have LN : Hid ((m.o == 0) = true) := hid (by simpa using c43)
    clear c43
    have F : Hid (O3 = false) := hid (by rw [← h3.out, LN.out] <;> rfl)
    clear h3
    go_wp2_with (first | (go_at_call 37; refine (H37.out _).mono ?_; rintro e w' ⟨rfl, hw'⟩; subst w') | (go_at_call 46; refine (H46.out _).mono ?_; rintro e w' ⟨rfl, hw'⟩; subst w') | (go_at_call 47; refine (H47.out _).mono ?_; rintro e w' ⟨rfl, hw'⟩; subst w') | (go_at_call 48; refine (H48.out _).mono ?_; rintro e w' ⟨rfl, hw'⟩; subst w') | (go_at_call 49; refine (H49.out _).mono ?_; rintro e w' ⟨rfl, hw'⟩; subst w') | (go_at_call 50; refine (H50.out _).mono ?_; rintro e w' ⟨rfl, hw'⟩; subst w') | (go_at_call 51; refine (H51.out _).mono ?_; rintro e w' ⟨rfl, hw'⟩; subst w') | (go_at_call 57; refine (H57.out _).mono ?_; rintro e w' ⟨rfl, hw'⟩; subst w') | (go_at_call 53; refine (H53.out _).mono ?_; rintro e w' ⟨rfl, hw'⟩; subst w') | (go_at_call 55; refine (H55.out _).mono ?_; rintro e w' ⟨rfl, hw'⟩; subst w') | (go_at_call 58; refine (H58.out _).mono ?_; rintro e w' ⟨rfl, hw'⟩; subst w'))
    go_meet
    exact ⟨by rw [F.out], rfl⟩
  obtain ⟨rfl, hwc⟩ := hcut
  subst wc
  cases O3 with
  | true =>
    go_wp2
    go_ret
    exact ⟨by simp, B2.out⟩
  | false =>
  go_upto_region 5 with fail
  go_cut [85] (fun v wx => v = .bool O5 ∧ wx = w2)
  case first =>
    by_cases c44 : m.l = 0
    rotate_left
    · have L : Hid ((m.l == 0) = false) := hid (by simpa using c44)
      have e44 : (m.l != 0) = true := by simpa using c44
      clear c44
      have F : Hid (O5 = true) := hid (by rw [← h5.out, L.out] <;> rfl)
      clear h5 L
      go_wp2_with (first | (go_at_call 37; refine (H37.out _).mono ?_; rintro e w' ⟨rfl, hw'⟩; subst w') | (go_at_call 46; refine (H46.out _).mono ?_; rintro e w' ⟨rfl, hw'⟩; subst w') | (go_at_call 47; refine (H47.out _).mono ?_; rintro e w' ⟨rfl, hw'⟩; subst w') | (go_at_call 48; refine (H48.out _).mono ?_; rintro e w' ⟨rfl, hw'⟩; subst w') | (go_at_call 49; refine (H49.out _).mono ?_; rintro e w' ⟨rfl, hw'⟩; subst w') | (go_at_call 50; refine (H50.out _).mono ?_; rintro e w' ⟨rfl, hw'⟩; subst w') | (go_at_call 51; refine (H51.out _).mono ?_; rintro e w' ⟨rfl, hw'⟩; subst w') | (go_at_call 57; refine (H57.out _).mono ?_; rintro e w' ⟨rfl, hw'⟩; subst w') | (go_at_call 53; refine (H53.out _).mono ?_; rintro e w' ⟨rfl, hw'⟩; subst w') | (go_at_call 55; refine (H55.out _).mono ?_; rintro e w' ⟨rfl, hw'⟩; subst w') | (go_at_call 58; refine (H58.out _).mono ?_; rintro e w' ⟨rfl, hw'⟩; subst w'))
      go_meet
      exact ⟨by rw [F.out], rfl⟩
    have e44 : (m.l != 0) = false := by simpa using c44
    have LL : Hid ((m.l == 0) = true) := hid (by simpa using c44)
    clear c44
    by_cases c45 : m.q = 0
    rotate_left
    · have L : Hid ((m.q == 0) = false) := hid (by simpa using c45)
      have e45 : (m.q != 0) = true := by simpa using c45
      clear c45
      have F : Hid (O5 = true) := hid (by rw [← h5.out, LL.out, L.out] <;> rfl)
      clear h5 L
      go_wp2_with (first | (go_at_call 37; refine (H37.out _).mono ?_; rintro e w' ⟨rfl, hw'⟩; subst w') | (go_at_call 46; refine (H46.out _).mono ?_; rintro e w' ⟨rfl, hw'⟩; subst w') | (go_at_call 47; refine (H47.out _).mono ?_; rintro e w' ⟨rfl, hw'⟩; subst w') | (go_at_call 48; refine (H48.out _).mono ?_; rintro e w' ⟨rfl, hw'⟩; subst w') | (go_at_call 49; refine (H49.out _).mono ?_; rintro e w' ⟨rfl, hw'⟩; subst w') | (go_at_call 50; refine (H50.out _).mono ?_; rintro e w' ⟨rfl, hw'⟩; subst w') | (go_at_call 51; refine (H51.out _).mono ?_; rintro e w' ⟨rfl, hw'⟩; subst w') | (go_at_call 57; refine (H57.out _).mono ?_; rintro e w' ⟨rfl, hw'⟩; subst w') | (go_at_call 53; refine (H53.out _).mono ?_; rintro e w' ⟨rfl, hw'⟩; subst w') | (go_at_call 55; refine (H55.out _).mono ?_; rintro e w' ⟨rfl, hw'⟩; subst w') | (go_at_call 58; refine (H58.out _).mono ?_; rintro e w' ⟨rfl, hw'⟩; subst w'))
      go_meet
      exact ⟨by rw [F.out], rfl⟩
    have e45 : (m.q != 0) = false := by simpa using c45
    have LQ : Hid ((m.q == 0) = true) := hid (by simpa using c45)
    clear c45
    cases hh : m.h with
    | true =>
      rw [hh] at q9 h5
      have L : Hid ((!true) = false) := hid rfl
      clear hh
      have F : Hid (O5 = true) := hid (by rw [← h5.out, LL.out, LQ.out] <;> rfl)
      clear h5 L
      go_wp2_with (first | (go_at_call 37; refine (H37.out _).mono ?_; rintro e w' ⟨rfl, hw'⟩; subst w') | (go_at_call 46; refine (H46.out _).mono ?_; rintro e w' ⟨rfl, hw'⟩; subst w') | (go_at_call 47; refine (H47.out _).mono ?_; rintro e w' ⟨rfl, hw'⟩; subst w') | (go_at_call 48; refine (H48.out _).mono ?_; rintro e w' ⟨rfl, hw'⟩; subst w') | (go_at_call 49; refine (H49.out _).mono ?_; rintro e w' ⟨rfl, hw'⟩; subst w') | (go_at_call 50; refine (H50.out _).mono ?_; rintro e w' ⟨rfl, hw'⟩; subst w') | (go_at_call 51; refine (H51.out _).mono ?_; rintro e w' ⟨rfl, hw'⟩; subst w') | (go_at_call 57; refine (H57.out _).mono ?_; rintro e w' ⟨rfl, hw'⟩; subst w') | (go_at_call 53; refine (H53.out _).mono ?_; rintro e w' ⟨rfl, hw'⟩; subst w') | (go_at_call 55; refine (H55.out _).mono ?_; rintro e w' ⟨rfl, hw'⟩; subst w') | (go_at_call 58; refine (H58.out _).mono ?_; rintro e w' ⟨rfl, hw'⟩; subst w'))
      go_meet
      exact ⟨by rw [F.out], rfl⟩
    | false =>
      rw [hh] at q9 h5
      clear hh
      have F : Hid (O5 = false) := hid (by rw [← h5.out, LL.out, LQ.out] <;> rfl)
      clear h5
      go_wp2_with (first | (go_at_call 37; refine (H37.out _).mono ?_; rintro e w' ⟨rfl, hw'⟩; subst w') | (go_at_call 46; refine (H46.out _).mono ?_; rintro e w' ⟨rfl, hw'⟩; subst w') | (go_at_call 47; refine (H47.out _).mono ?_; rintro e w' ⟨rfl, hw'⟩; subst w') | (go_at_call 48; refine (H48.out _).mono ?_; rintro e w' ⟨rfl, hw'⟩; subst w') | (go_at_call 49; refine (H49.out _).mono ?_; rintro e w' ⟨rfl, hw'⟩; subst w') | (go_at_call 50; refine (H50.out _).mono ?_; rintro e w' ⟨rfl, hw'⟩; subst w') | (go_at_call 51; refine (H51.out _).mono ?_; rintro e w' ⟨rfl, hw'⟩; subst w') | (go_at_call 57; refine (H57.out _).mono ?_; rintro e w' ⟨rfl, hw'⟩; subst w') | (go_at_call 53; refine (H53.out _).mono ?_; rintro e w' ⟨rfl, hw'⟩; subst w') | (go_at_call 55; refine (H55.out _).mono ?_; rintro e w' ⟨rfl, hw'⟩; subst w') | (go_at_call 58; refine (H58.out _).mono ?_; rintro e w' ⟨rfl, hw'⟩; subst w'))
      go_meet
      exact ⟨by rw [F.out], rfl⟩
  obtain ⟨rfl, hwc⟩ := hcut
  subst wc
  cases O5 with
  | true =>
    go_wp2
    go_ret
    exact ⟨by simp, B2.out⟩
  | false =>
  go_upto_region 7 with fail
  go_cut [113] (fun v wx => v = .bool O7 ∧ wx = w2)
  case first =>
    by_cases c46 : m.ok = 0
    rotate_left
    · have L : Hid (m.zO = false) := hid (by simp [Ms.zO, c46])
      have e46 : (m.ok != 0) = true := by simpa using c46
      clear c46
      have F : Hid (O7 = true) := hid (by rw [← h7.out, L.out] <;> rfl)
      clear h7 L
      go_wp2_with (first | (go_at_call 37; refine (H37.out _).mono ?_; rintro e w' ⟨rfl, hw'⟩; subst w') | (go_at_call 46; refine (H46.out _).mono ?_; rintro e w' ⟨rfl, hw'⟩; subst w') | (go_at_call 47; refine (H47.out _).mono ?_; rintro e w' ⟨rfl, hw'⟩; subst w') | (go_at_call 48; refine (H48.out _).mono ?_; rintro e w' ⟨rfl, hw'⟩; subst w') | (go_at_call 49; refine (H49.out _).mono ?_; rintro e w' ⟨rfl, hw'⟩; subst w') | (go_at_call 50; refine (H50.out _).mono ?_; rintro e w' ⟨rfl, hw'⟩; subst w') | (go_at_call 51; refine (H51.out _).mono ?_; rintro e w' ⟨rfl, hw'⟩; subst w') | (go_at_call 57; refine (H57.out _).mono ?_; rintro e w' ⟨rfl, hw'⟩; subst w') | (go_at_call 53; refine (H53.out _).mono ?_; rintro e w' ⟨rfl, hw'⟩; subst w') | (go_at_call 55; refine (H55.out _).mono ?_; rintro e w' ⟨rfl, hw'⟩; subst w') | (go_at_call 58; refine (H58.out _).mono ?_; rintro e w' ⟨rfl, hw'⟩; subst w'))
      go_meet
      exact ⟨by rw [F.out], rfl⟩
    have e46 : (m.ok != 0) = false := by simpa using c46
    by_cases c47 : m.onm.toList = []
    rotate_left
    · have L : Hid (m.zO = false) := hid (by simp [Ms.zO, c47])
      have e47 : ¬ (m.onm.toList = []) := c47
      clear c46 c47
      have F : Hid (O7 = true) := hid (by rw [← h7.out, L.out] <;> rfl)
      clear h7 L
      go_wp2_with (first | (go_at_call 37; refine (H37.out _).mono ?_; rintro e w' ⟨rfl, hw'⟩; subst w') | (go_at_call 46; refine (H46.out _).mono ?_; rintro e w' ⟨rfl, hw'⟩; subst w') | (go_at_call 47; refine (H47.out _).mono ?_; rintro e w' ⟨rfl, hw'⟩; subst w') | (go_at_call 48; refine (H48.out _).mono ?_; rintro e w' ⟨rfl, hw'⟩; subst w') | (go_at_call 49; refine (H49.out _).mono ?_; rintro e w' ⟨rfl, hw'⟩; subst w') | (go_at_call 50; refine (H50.out _).mono ?_; rintro e w' ⟨rfl, hw'⟩; subst w') | (go_at_call 51; refine (H51.out _).mono ?_; rintro e w' ⟨rfl, hw'⟩; subst w') | (go_at_call 57; refine (H57.out _).mono ?_; rintro e w' ⟨rfl, hw'⟩; subst w') | (go_at_call 53; refine (H53.out _).mono ?_; rintro e w' ⟨rfl, hw'⟩; subst w') | (go_at_call 55; refine (H55.out _).mono ?_; rintro e w' ⟨rfl, hw'⟩; subst w') | (go_at_call 58; refine (H58.out _).mono ?_; rintro e w' ⟨rfl, hw'⟩; subst w'))
      go_meet
      exact ⟨by rw [F.out], rfl⟩
    have e47 : m.onm.toList = [] := c47
    by_cases c48 : m.otx.toList = []
    rotate_left
    · have L : Hid (m.zO = false) := hid (by simp [Ms.zO, c48])
      have e48 : ¬ (m.otx.toList = []) := c48
      clear c46 c47 c48
      have F : Hid (O7 = true) := hid (by rw [← h7.out, L.out] <;> rfl)
      clear h7 L
      go_wp2_with (first | (go_at_call 37; refine (H37.out _).mono ?_; rintro e w' ⟨rfl, hw'⟩; subst w') | (go_at_call 46; refine (H46.out _).mono ?_; rintro e w' ⟨rfl, hw'⟩; subst w') | (go_at_call 47; refine (H47.out _).mono ?_; rintro e w' ⟨rfl, hw'⟩; subst w') | (go_at_call 48; refine (H48.out _).mono ?_; rintro e w' ⟨rfl, hw'⟩; subst w') | (go_at_call 49; refine (H49.out _).mono ?_; rintro e w' ⟨rfl, hw'⟩; subst w') | (go_at_call 50; refine (H50.out _).mono ?_; rintro e w' ⟨rfl, hw'⟩; subst w') | (go_at_call 51; refine (H51.out _).mono ?_; rintro e w' ⟨rfl, hw'⟩; subst w') | (go_at_call 57; refine (H57.out _).mono ?_; rintro e w' ⟨rfl, hw'⟩; subst w') | (go_at_call 53; refine (H53.out _).mono ?_; rintro e w' ⟨rfl, hw'⟩; subst w') | (go_at_call 55; refine (H55.out _).mono ?_; rintro e w' ⟨rfl, hw'⟩; subst w') | (go_at_call 58; refine (H58.out _).mono ?_; rintro e w' ⟨rfl, hw'⟩; subst w'))
      go_meet
      exact ⟨by rw [F.out], rfl⟩
    have e48 : m.otx.toList = [] := c48
    by_cases c49 : m.on = 0
    rotate_left
    · have L : Hid (m.zO = false) := hid (by simp [Ms.zO, c49])
      have e49 : (m.on != 0) = true := by simpa using c49
      clear c46 c47 c48 c49
      have F : Hid (O7 = true) := hid (by rw [← h7.out, L.out] <;> rfl)
      clear h7 L
      go_wp2_with (first | (go_at_call 37; refine (H37.out _).mono ?_; rintro e w' ⟨rfl, hw'⟩; subst w') | (go_at_call 46; refine (H46.out _).mono ?_; rintro e w' ⟨rfl, hw'⟩; subst w') | (go_at_call 47; refine (H47.out _).mono ?_; rintro e w' ⟨rfl, hw'⟩; subst w') | (go_at_call 48; refine (H48.out _).mono ?_; rintro e w' ⟨rfl, hw'⟩; subst w') | (go_at_call 49; refine (H49.out _).mono ?_; rintro e w' ⟨rfl, hw'⟩; subst w') | (go_at_call 50; refine (H50.out _).mono ?_; rintro e w' ⟨rfl, hw'⟩; subst w') | (go_at_call 51; refine (H51.out _).mono ?_; rintro e w' ⟨rfl, hw'⟩; subst w') | (go_at_call 57; refine (H57.out _).mono ?_; rintro e w' ⟨rfl, hw'⟩; subst w') | (go_at_call 53; refine (H53.out _).mono ?_; rintro e w' ⟨rfl, hw'⟩; subst w') | (go_at_call 55; refine (H55.out _).mono ?_; rintro e w' ⟨rfl, hw'⟩; subst w') | (go_at_call 58; refine (H58.out _).mono ?_; rintro e w' ⟨rfl, hw'⟩; subst w'))
      go_meet
      exact ⟨by rw [F.out], rfl⟩
    have e49 : (m.on != 0) = false := by simpa using c49
    by_cases c50 : m.om = 0
    rotate_left
    · have L : Hid (m.zO = false) := hid (by simp [Ms.zO, c50])
      have e50 : (m.om != 0) = true := by simpa using c50
      clear c46 c47 c48 c49 c50
      have F : Hid (O7 = true) := hid (by rw [← h7.out, L.out] <;> rfl)
      clear h7 L
      go_wp2_with (first | (go_at_call 37; refine (H37.out _).mono ?_; rintro e w' ⟨rfl, hw'⟩; subst w') | (go_at_call 46; refine (H46.out _).mono ?_; rintro e w' ⟨rfl, hw'⟩; subst w') | (go_at_call 47; refine (H47.out _).mono ?_; rintro e w' ⟨rfl, hw'⟩; subst w') | (go_at_call 48; refine (H48.out _).mono ?_; rintro e w' ⟨rfl, hw'⟩; subst w') | (go_at_call 49; refine (H49.out _).mono ?_; rintro e w' ⟨rfl, hw'⟩; subst w') | (go_at_call 50; refine (H50.out _).mono ?_; rintro e w' ⟨rfl, hw'⟩; subst w') | (go_at_call 51; refine (H51.out _).mono ?_; rintro e w' ⟨rfl, hw'⟩; subst w') | (go_at_call 57; refine (H57.out _).mono ?_; rintro e w' ⟨rfl, hw'⟩; subst w') | (go_at_call 53; refine (H53.out _).mono ?_; rintro e w' ⟨rfl, hw'⟩; subst w') | (go_at_call 55; refine (H55.out _).mono ?_; rintro e w' ⟨rfl, hw'⟩; subst w') | (go_at_call 58; refine (H58.out _).mono ?_; rintro e w' ⟨rfl, hw'⟩; subst w'))
      go_meet
      exact ⟨by rw [F.out], rfl⟩
    have e50 : (m.om != 0) = false := by simpa using c50
    have LO : Hid (m.zO = true) := hid (by simp [Ms.zO, c46, c47, c48, c49, c50])
    clear c46 c47 c48 c49 c50
    have F : Hid (O7 = false) := hid (by rw [← h7.out, LO.out] <;> rfl)
    clear h7
    go_wp2_with (first | (go_at_call 37; refine (H37.out _).mono ?_; rintro e w' ⟨rfl, hw'⟩; subst w') | (go_at_call 46; refine (H46.out _).mono ?_; rintro e w' ⟨rfl, hw'⟩; subst w') | (go_at_call 47; refine (H47.out _).mono ?_; rintro e w' ⟨rfl, hw'⟩; subst w') | (go_at_call 48; refine (H48.out _).mono ?_; rintro e w' ⟨rfl, hw'⟩; subst w') | (go_at_call 49; refine (H49.out _).mono ?_; rintro e w' ⟨rfl, hw'⟩; subst w') | (go_at_call 50; refine (H50.out _).mono ?_; rintro e w' ⟨rfl, hw'⟩; subst w') | (go_at_call 51; refine (H51.out _).mono ?_; rintro e w' ⟨rfl, hw'⟩; subst w') | (go_at_call 57; refine (H57.out _).mono ?_; rintro e w' ⟨rfl, hw'⟩; subst w') | (go_at_call 53; refine (H53.out _).mono ?_; rintro e w' ⟨rfl, hw'⟩; subst w') | (go_at_call 55; refine (H55.out _).mono ?_; rintro e w' ⟨rfl, hw'⟩; subst w') | (go_at_call 58; refine (H58.out _).mono ?_; rintro e w' ⟨rfl, hw'⟩; subst w'))
    go_meet
    exact ⟨by rw [F.out], rfl⟩
  obtain ⟨rfl, hwc⟩ := hcut
  subst wc
  cases O7 with
  | true =>
    go_wp2
    go_ret
    exact ⟨by simp, B2.out⟩
  | false =>
  go_upto_region 9 with fail
  go_cut [135] (fun v wx => v = .bool O9 ∧ wx = w2)
  case first =>
    by_cases c51 : m.rc = 0
    rotate_left
    · have L : Hid (m.zR = false) := hid (by simp [Ms.zR, c51])
      have e51 : (m.rc != 0) = true := by simpa using c51
      clear c51
      have F : Hid (O9 = true) := hid (by rw [← h9.out, L.out] <;> rfl)
      clear h9 L
      go_wp2_with (first | (go_at_call 37; refine (H37.out _).mono ?_; rintro e w' ⟨rfl, hw'⟩; subst w') | (go_at_call 46; refine (H46.out _).mono ?_; rintro e w' ⟨rfl, hw'⟩; subst w') | (go_at_call 47; refine (H47.out _).mono ?_; rintro e w' ⟨rfl, hw'⟩; subst w') | (go_at_call 48; refine (H48.out _).mono ?_; rintro e w' ⟨rfl, hw'⟩; subst w') | (go_at_call 49; refine (H49.out _).mono ?_; rintro e w' ⟨rfl, hw'⟩; subst w') | (go_at_call 50; refine (H50.out _).mono ?_; rintro e w' ⟨rfl, hw'⟩; subst w') | (go_at_call 51; refine (H51.out _).mono ?_; rintro e w' ⟨rfl, hw'⟩; subst w') | (go_at_call 57; refine (H57.out _).mono ?_; rintro e w' ⟨rfl, hw'⟩; subst w') | (go_at_call 53; refine (H53.out _).mono ?_; rintro e w' ⟨rfl, hw'⟩; subst w') | (go_at_call 55; refine (H55.out _).mono ?_; rintro e w' ⟨rfl, hw'⟩; subst w') | (go_at_call 58; refine (H58.out _).mono ?_; rintro e w' ⟨rfl, hw'⟩; subst w'))
      go_meet
      exact ⟨by rw [F.out], rfl⟩
    have e51 : (m.rc != 0) = false := by simpa using c51
    by_cases c52 : m.rn = 0
    rotate_left
    · have L : Hid (m.zR = false) := hid (by simp [Ms.zR, c52])
      have e52 : (m.rn != 0) = true := by simpa using c52
      clear c51 c52
      have F : Hid (O9 = true) := hid (by rw [← h9.out, L.out] <;> rfl)
      clear h9 L
      go_wp2_with (first | (go_at_call 37; refine (H37.out _).mono ?_; rintro e w' ⟨rfl, hw'⟩; subst w') | (go_at_call 46; refine (H46.out _).mono ?_; rintro e w' ⟨rfl, hw'⟩; subst w') | (go_at_call 47; refine (H47.out _).mono ?_; rintro e w' ⟨rfl, hw'⟩; subst w') | (go_at_call 48; refine (H48.out _).mono ?_; rintro e w' ⟨rfl, hw'⟩; subst w') | (go_at_call 49; refine (H49.out _).mono ?_; rintro e w' ⟨rfl, hw'⟩; subst w') | (go_at_call 50; refine (H50.out _).mono ?_; rintro e w' ⟨rfl, hw'⟩; subst w') | (go_at_call 51; refine (H51.out _).mono ?_; rintro e w' ⟨rfl, hw'⟩; subst w') | (go_at_call 57; refine (H57.out _).mono ?_; rintro e w' ⟨rfl, hw'⟩; subst w') | (go_at_call 53; refine (H53.out _).mono ?_; rintro e w' ⟨rfl, hw'⟩; subst w') | (go_at_call 55; refine (H55.out _).mono ?_; rintro e w' ⟨rfl, hw'⟩; subst w') | (go_at_call 58; refine (H58.out _).mono ?_; rintro e w' ⟨rfl, hw'⟩; subst w'))
      go_meet
      exact ⟨by rw [F.out], rfl⟩
    have e52 : (m.rn != 0) = false := by simpa using c52
    by_cases c53 : m.rl = 0
    rotate_left
    · have L : Hid (m.zR = false) := hid (by simp [Ms.zR, c53])
      have e53 : decide (0 < (m.rl : Int)) = true := by simp; omega
      have f53 : decide (0 < (m.rl)) = true := by simp; omega
      clear c51 c52 c53
      have F : Hid (O9 = true) := hid (by rw [← h9.out, L.out] <;> rfl)
      clear h9 L
      go_wp2_with (first | (go_at_call 37; refine (H37.out _).mono ?_; rintro e w' ⟨rfl, hw'⟩; subst w') | (go_at_call 46; refine (H46.out _).mono ?_; rintro e w' ⟨rfl, hw'⟩; subst w') | (go_at_call 47; refine (H47.out _).mono ?_; rintro e w' ⟨rfl, hw'⟩; subst w') | (go_at_call 48; refine (H48.out _).mono ?_; rintro e w' ⟨rfl, hw'⟩; subst w') | (go_at_call 49; refine (H49.out _).mono ?_; rintro e w' ⟨rfl, hw'⟩; subst w') | (go_at_call 50; refine (H50.out _).mono ?_; rintro e w' ⟨rfl, hw'⟩; subst w') | (go_at_call 51; refine (H51.out _).mono ?_; rintro e w' ⟨rfl, hw'⟩; subst w') | (go_at_call 57; refine (H57.out _).mono ?_; rintro e w' ⟨rfl, hw'⟩; subst w') | (go_at_call 53; refine (H53.out _).mono ?_; rintro e w' ⟨rfl, hw'⟩; subst w') | (go_at_call 55; refine (H55.out _).mono ?_; rintro e w' ⟨rfl, hw'⟩; subst w') | (go_at_call 58; refine (H58.out _).mono ?_; rintro e w' ⟨rfl, hw'⟩; subst w'))
      go_meet
      exact ⟨by rw [F.out], rfl⟩
    have e53 : decide (0 < (m.rl : Int)) = false := by simp; omega
    have f53 : decide (0 < (m.rl)) = false := by simp; omega
    have LR : Hid (m.zR = true) := hid (by simp [Ms.zR, c51, c52, c53])
    clear c51 c52 c53
    have F : Hid (O9 = false) := hid (by rw [← h9.out, LR.out] <;> rfl)
    clear h9
    go_wp2_with (first | (go_at_call 37; refine (H37.out _).mono ?_; rintro e w' ⟨rfl, hw'⟩; subst w') | (go_at_call 46; refine (H46.out _).mono ?_; rintro e w' ⟨rfl, hw'⟩; subst w') | (go_at_call 47; refine (H47.out _).mono ?_; rintro e w' ⟨rfl, hw'⟩; subst w') | (go_at_call 48; refine (H48.out _).mono ?_; rintro e w' ⟨rfl, hw'⟩; subst w') | (go_at_call 49; refine (H49.out _).mono ?_; rintro e w' ⟨rfl, hw'⟩; subst w') | (go_at_call 50; refine (H50.out _).mono ?_; rintro e w' ⟨rfl, hw'⟩; subst w') | (go_at_call 51; refine (H51.out _).mono ?_; rintro e w' ⟨rfl, hw'⟩; subst w') | (go_at_call 57; refine (H57.out _).mono ?_; rintro e w' ⟨rfl, hw'⟩; subst w') | (go_at_call 53; refine (H53.out _).mono ?_; rintro e w' ⟨rfl, hw'⟩; subst w') | (go_at_call 55; refine (H55.out _).mono ?_; rintro e w' ⟨rfl, hw'⟩; subst w') | (go_at_call 58; refine (H58.out _).mono ?_; rintro e w' ⟨rfl, hw'⟩; subst w'))
    go_meet
    exact ⟨by rw [F.out], rfl⟩
  obtain ⟨rfl, hwc⟩ := hcut
  subst wc
  cases O9 with
  | true =>
    go_wp2
    go_ret
    exact ⟨by simp, B2.out⟩
  | false =>
  go_upto_region 12 with fail
  have B3 : Hid (Below w.heap.size w (w2.alloc (.cells #[.int .i64 m.cf, .int .i64 m.cb, .slice m.sa m.sl m.sp, .slice m.xa m.xl m.xp] 32))) := hid (B2.out.trans ((ba w2 _).mono B2.out.size))
  have P3 : Hid ((w2.alloc (.cells #[.int .i64 m.cf, .int .i64 m.cb, .slice m.sa m.sl m.sp, .slice m.xa m.xl m.xp] 32)).heap[w2.heap.size]? = some (.cells #[.int .i64 m.cf, .int .i64 m.cb, .slice m.sa m.sl m.sp, .slice m.xa m.xl m.xp] 32 (0, 0))) := hid (heap_alloc_new _ _)
  have Q9 : Hid ((w2.alloc (.cells #[.int .i64 m.cf, .int .i64 m.cb, .slice m.sa m.sl m.sp, .slice m.xa m.xl m.xp] 32)).cell? ⟨b, 9, none⟩ = some (.bool m.h)) := hid (cell_under (ba w2 _) hbw q9)
  obtain ⟨s, hs⟩ : ∃ s, Hid (w2.heap.size = s) := ⟨_, hid rfl⟩
  rw [hs.out] at P3 ⊢
  generalize w2.alloc (.cells #[.int .i64 m.cf, .int .i64 m.cb, .slice m.sa m.sl m.sp, .slice m.xa m.xl m.xp] 32) = w3 at B3 P3 Q9 ⊢
  clear p0 p1 p2 p3 p4 hbw q3 q4 q5 q6 q7 q8 q9 q15 q16 q17 q18 q19 q20 q21 q22
  have q9 := Q9.out
  have p0 : w3.cell? ⟨s, 0, none⟩ = some (.int .i64 m.cf) := by rw [cell_at P3.out]; rfl
  have p1 : w3.cell? ⟨s, 1, none⟩ = some (.int .i64 m.cb) := by rw [cell_at P3.out]; rfl
  have p2 : w3.cell? ⟨s, 2, none⟩ = some (.slice m.sa m.sl m.sp) := by rw [cell_at P3.out]; rfl
  have p3 : w3.cell? ⟨s, 3, none⟩ = some (.slice m.xa m.xl m.xp) := by rw [cell_at P3.out]; rfl
  by_cases c54 : m.cf = 0
  rotate_left
  · have L : Hid (m.zG = false) := hid (by simp [Ms.zG, c54])
    have e54 : (m.cf != 0) = true := by simpa using c54
    clear c54
    have F : Hid (O12 = true) := hid (by rw [← h12.out, L.out] <;> rfl)
    clear h12 L
    go_wp2_with (first | (go_at_call 37; refine (H37.out _).mono ?_; rintro e w' ⟨rfl, hw'⟩; subst w') | (go_at_call 46; refine (H46.out _).mono ?_; rintro e w' ⟨rfl, hw'⟩; subst w') | (go_at_call 47; refine (H47.out _).mono ?_; rintro e w' ⟨rfl, hw'⟩; subst w') | (go_at_call 48; refine (H48.out _).mono ?_; rintro e w' ⟨rfl, hw'⟩; subst w') | (go_at_call 49; refine (H49.out _).mono ?_; rintro e w' ⟨rfl, hw'⟩; subst w') | (go_at_call 50; refine (H50.out _).mono ?_; rintro e w' ⟨rfl, hw'⟩; subst w') | (go_at_call 51; refine (H51.out _).mono ?_; rintro e w' ⟨rfl, hw'⟩; subst w') | (go_at_call 57; refine (H57.out _).mono ?_; rintro e w' ⟨rfl, hw'⟩; subst w') | (go_at_call 53; refine (H53.out _).mono ?_; rintro e w' ⟨rfl, hw'⟩; subst w') | (go_at_call 55; refine (H55.out _).mono ?_; rintro e w' ⟨rfl, hw'⟩; subst w') | (go_at_call 58; refine (H58.out _).mono ?_; rintro e w' ⟨rfl, hw'⟩; subst w'))
    go_ret
    exact ⟨by rw [F.out]; rfl, B3.out⟩
  have e54 : (m.cf != 0) = false := by simpa using c54
  by_cases c55 : m.cb = 0
  rotate_left
  · have L : Hid (m.zG = false) := hid (by simp [Ms.zG, c55])
    have e55 : (m.cb != 0) = true := by simpa using c55
    clear c54 c55
    have F : Hid (O12 = true) := hid (by rw [← h12.out, L.out] <;> rfl)
    clear h12 L
    go_wp2_with (first | (go_at_call 37; refine (H37.out _).mono ?_; rintro e w' ⟨rfl, hw'⟩; subst w') | (go_at_call 46; refine (H46.out _).mono ?_; rintro e w' ⟨rfl, hw'⟩; subst w') | (go_at_call 47; refine (H47.out _).mono ?_; rintro e w' ⟨rfl, hw'⟩; subst w') | (go_at_call 48; refine (H48.out _).mono ?_; rintro e w' ⟨rfl, hw'⟩; subst w') | (go_at_call 49; refine (H49.out _).mono ?_; rintro e w' ⟨rfl, hw'⟩; subst w') | (go_at_call 50; refine (H50.out _).mono ?_; rintro e w' ⟨rfl, hw'⟩; subst w') | (go_at_call 51; refine (H51.out _).mono ?_; rintro e w' ⟨rfl, hw'⟩; subst w') | (go_at_call 57; refine (H57.out _).mono ?_; rintro e w' ⟨rfl, hw'⟩; subst w') | (go_at_call 53; refine (H53.out _).mono ?_; rintro e w' ⟨rfl, hw'⟩; subst w') | (go_at_call 55; refine (H55.out _).mono ?_; rintro e w' ⟨rfl, hw'⟩; subst w') | (go_at_call 58; refine (H58.out _).mono ?_; rintro e w' ⟨rfl, hw'⟩; subst w'))
    go_ret
    exact ⟨by rw [F.out]; rfl, B3.out⟩
  have e55 : (m.cb != 0) = false := by simpa using c55
  by_cases c56 : m.sl = 0
  rotate_left
  · have L : Hid (m.zG = false) := hid (by simp [Ms.zG, c56])
    have e56 : decide (0 < (m.sl : Int)) = true := by simp; omega
    have f56 : decide (0 < (m.sl)) = true := by simp; omega
    clear c54 c55 c56
    have F : Hid (O12 = true) := hid (by rw [← h12.out, L.out] <;> rfl)
    clear h12 L
    go_wp2_with (first | (go_at_call 37; refine (H37.out _).mono ?_; rintro e w' ⟨rfl, hw'⟩; subst w') | (go_at_call 46; refine (H46.out _).mono ?_; rintro e w' ⟨rfl, hw'⟩; subst w') | (go_at_call 47; refine (H47.out _).mono ?_; rintro e w' ⟨rfl, hw'⟩; subst w') | (go_at_call 48; refine (H48.out _).mono ?_; rintro e w' ⟨rfl, hw'⟩; subst w') | (go_at_call 49; refine (H49.out _).mono ?_; rintro e w' ⟨rfl, hw'⟩; subst w') | (go_at_call 50; refine (H50.out _).mono ?_; rintro e w' ⟨rfl, hw'⟩; subst w') | (go_at_call 51; refine (H51.out _).mono ?_; rintro e w' ⟨rfl, hw'⟩; subst w') | (go_at_call 57; refine (H57.out _).mono ?_; rintro e w' ⟨rfl, hw'⟩; subst w') | (go_at_call 53; refine (H53.out _).mono ?_; rintro e w' ⟨rfl, hw'⟩; subst w') | (go_at_call 55; refine (H55.out _).mono ?_; rintro e w' ⟨rfl, hw'⟩; subst w') | (go_at_call 58; refine (H58.out _).mono ?_; rintro e w' ⟨rfl, hw'⟩; subst w'))
    go_ret
    exact ⟨by rw [F.out]; rfl, B3.out⟩
  have e56 : decide (0 < (m.sl : Int)) = false := by simp; omega
  have f56 : decide (0 < (m.sl)) = false := by simp; omega
  by_cases c57 : m.xl = 0
  rotate_left
  · have L : Hid (m.zG = false) := hid (by simp [Ms.zG, c57])
    have e57 : decide (0 < (m.xl : Int)) = true := by simp; omega
    have f57 : decide (0 < (m.xl)) = true := by simp; omega
    clear c54 c55 c56 c57
    have F : Hid (O12 = true) := hid (by rw [← h12.out, L.out] <;> rfl)
    clear h12 L
    go_wp2_with (first | (go_at_call 37; refine (H37.out _).mono ?_; rintro e w' ⟨rfl, hw'⟩; subst w') | (go_at_call 46; refine (H46.out _).mono ?_; rintro e w' ⟨rfl, hw'⟩; subst w') | (go_at_call 47; refine (H47.out _).mono ?_; rintro e w' ⟨rfl, hw'⟩; subst w') | (go_at_call 48; refine (H48.out _).mono ?_; rintro e w' ⟨rfl, hw'⟩; subst w') | (go_at_call 49; refine (H49.out _).mono ?_; rintro e w' ⟨rfl, hw'⟩; subst w') | (go_at_call 50; refine (H50.out _).mono ?_; rintro e w' ⟨rfl, hw'⟩; subst w') | (go_at_call 51; refine (H51.out _).mono ?_; rintro e w' ⟨rfl, hw'⟩; subst w') | (go_at_call 57; refine (H57.out _).mono ?_; rintro e w' ⟨rfl, hw'⟩; subst w') | (go_at_call 53; refine (H53.out _).mono ?_; rintro e w' ⟨rfl, hw'⟩; subst w') | (go_at_call 55; refine (H55.out _).mono ?_; rintro e w' ⟨rfl, hw'⟩; subst w') | (go_at_call 58; refine (H58.out _).mono ?_; rintro e w' ⟨rfl, hw'⟩; subst w'))
    go_ret
    exact ⟨by rw [F.out]; rfl, B3.out⟩
  have e57 : decide (0 < (m.xl : Int)) = false := by simp; omega
  have f57 : decide (0 < (m.xl)) = false := by simp; omega
  have LG : Hid (m.zG = true) := hid (by simp [Ms.zG, c54, c55, c56, c57])
  clear c54 c55 c56 c57
  have F : Hid (O12 = false) := hid (by rw [← h12.out, LG.out] <;> rfl)
  clear h12
  go_wp2_with (first | (go_at_call 37; refine (H37.out _).mono ?_; rintro e w' ⟨rfl, hw'⟩; subst w') | (go_at_call 46; refine (H46.out _).mono ?_; rintro e w' ⟨rfl, hw'⟩; subst w') | (go_at_call 47; refine (H47.out _).mono ?_; rintro e w' ⟨rfl, hw'⟩; subst w') | (go_at_call 48; refine (H48.out _).mono ?_; rintro e w' ⟨rfl, hw'⟩; subst w') | (go_at_call 49; refine (H49.out _).mono ?_; rintro e w' ⟨rfl, hw'⟩; subst w') | (go_at_call 50; refine (H50.out _).mono ?_; rintro e w' ⟨rfl, hw'⟩; subst w') | (go_at_call 51; refine (H51.out _).mono ?_; rintro e w' ⟨rfl, hw'⟩; subst w') | (go_at_call 57; refine (H57.out _).mono ?_; rintro e w' ⟨rfl, hw'⟩; subst w') | (go_at_call 53; refine (H53.out _).mono ?_; rintro e w' ⟨rfl, hw'⟩; subst w') | (go_at_call 55; refine (H55.out _).mono ?_; rintro e w' ⟨rfl, hw'⟩; subst w') | (go_at_call 58; refine (H58.out _).mono ?_; rintro e w' ⟨rfl, hw'⟩; subst w'))
  go_ret
  exact ⟨by rw [F.out]; rfl, B3.out⟩
end Go.Proofs.YthoppemjfdnibaaGreatDoor
