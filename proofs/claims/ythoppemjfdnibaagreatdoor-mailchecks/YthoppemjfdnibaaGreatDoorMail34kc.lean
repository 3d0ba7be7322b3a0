import Derived.Test.YthoppemjfdnibaaGreatDoorJ39
namespace Go.Proofs.YthoppemjfdnibaaGreatDoor
open Go.RowKit
set_option linter.unusedVariables false

set_option maxHeartbeats 6400000 in
set_option maxRecDepth 1000000 in
theorem rext_k5 {w : World} (m : Ms) (hk : m.k = 5) : Calls Tryz.prog 40 #[m.V] w fun e w' => e = .returned (.bool (m.extB 5)) ∧ Below w.heap.size w w' := by
  have EE : m.extB 5 = (!((true || (m.v == 0)) && ((true || (m.n == 0)) && ((false || (m.c == 0)) && (false || (m.o == 0))))) || (!((false || (m.l == 0)) && ((false || (m.q == 0)) && ((false || (!m.h)) && (false || ((m.el : Int) == 0))))) || (!(false || m.zO) || (!(false || m.zR) || !(false || m.zG))))) := by rw [extB_or]; rfl
  rw [EE]
  clear EE
  obtain ⟨O3, h3⟩ : ∃ O3, Hid ((!((true || (m.v == 0)) && ((true || (m.n == 0)) && ((false || (m.c == 0)) && (false || (m.o == 0)))))) = O3) := ⟨_, hid rfl⟩
  obtain ⟨O5, h5⟩ : ∃ O5, Hid ((!((false || (m.l == 0)) && ((false || (m.q == 0)) && ((false || (!m.h)) && (false || ((m.el : Int) == 0)))))) = O5) := ⟨_, hid rfl⟩
  obtain ⟨O7, h7⟩ : ∃ O7, Hid ((!(false || m.zO)) = O7) := ⟨_, hid rfl⟩
  obtain ⟨O9, h9⟩ : ∃ O9, Hid ((!(false || m.zR)) = O9) := ⟨_, hid rfl⟩
  obtain ⟨O12, h12⟩ : ∃ O12, Hid ((!(false || m.zG)) = O12) := ⟨_, hid rfl⟩
  rw [h3.out, h5.out, h7.out, h9.out, h12.out]
  have H37 : Hid (∀ W : World, Calls Tryz.prog 37 #[.int .i64 5] W fun e w' => e = .returned (.bool true) ∧ w' = W) := hid (fun W => has37 (k := 5) ⟨by omega, by omega⟩)
  have H46 : Hid (∀ W : World, Calls Tryz.prog 46 #[.int .i64 5] W fun e w' => e = .returned (.bool true) ∧ w' = W) := hid (fun W => has46 (k := 5) ⟨by omega, by omega⟩)
  have H47 : Hid (∀ W : World, Calls Tryz.prog 47 #[.int .i64 5] W fun e w' => e = .returned (.bool false) ∧ w' = W) := hid (fun W => has47 (k := 5) ⟨by omega, by omega⟩)
  have H48 : Hid (∀ W : World, Calls Tryz.prog 48 #[.int .i64 5] W fun e w' => e = .returned (.bool false) ∧ w' = W) := hid (fun W => has48 (k := 5) ⟨by omega, by omega⟩)
  have H49 : Hid (∀ W : World, Calls Tryz.prog 49 #[.int .i64 5] W fun e w' => e = .returned (.bool false) ∧ w' = W) := hid (fun W => has49 (k := 5) ⟨by omega, by omega⟩)
  have H50 : Hid (∀ W : World, Calls Tryz.prog 50 #[.int .i64 5] W fun e w' => e = .returned (.bool false) ∧ w' = W) := hid (fun W => has50 (k := 5) ⟨by omega, by omega⟩)
  have H51 : Hid (∀ W : World, Calls Tryz.prog 51 #[.int .i64 5] W fun e w' => e = .returned (.bool false) ∧ w' = W) := hid (fun W => has51 (k := 5) ⟨by omega, by omega⟩)
  have H53 : Hid (∀ W : World, Calls Tryz.prog 53 #[.int .i64 5] W fun e w' => e = .returned (.bool false) ∧ w' = W) := hid (fun W => has53 (k := 5) ⟨by omega, by omega⟩)
  have H55 : Hid (∀ W : World, Calls Tryz.prog 55 #[.int .i64 5] W fun e w' => e = .returned (.bool false) ∧ w' = W) := hid (fun W => has55 (k := 5) ⟨by omega, by omega⟩)
  have H57 : Hid (∀ W : World, Calls Tryz.prog 57 #[.int .i64 5] W fun e w' => e = .returned (.bool false) ∧ w' = W) := hid (fun W => has57 (k := 5) ⟨by omega, by omega⟩)
  have H58 : Hid (∀ W : World, Calls Tryz.prog 58 #[.int .i64 5, .bool m.h] W fun e w' => e = .returned (.bool false) ∧ w' = W) := hid (fun W => has58 (k := 5) m.h ⟨by omega, by omega⟩)
  have BA := hid (ba w (.cells m.cells.toArray 34))
  have M0 := hid (MsAt.new w m)
  have HK := hid hk
  clear hk
  go_enter Tryz.func40, Tryz.ntmps40
  go_upto_region 1 with fail
  obtain ⟨b, hbb⟩ : ∃ b, Hid (b = w.heap.size) := ⟨_, hid rfl⟩
  rw [← hbb.out] at M0 ⊢
  change Code.wp _ _ _ _ (w.alloc (.cells m.cells.toArray 34))
  generalize w.alloc (.cells m.cells.toArray 34) = w1 at BA M0 ⊢
  have q0 : w1.cell? ⟨b, 0, none⟩ = some (.int .i64 5) := by rw [← HK.out]; exact M0.out 0 _ rfl
  have q3 : w1.cell? ⟨b, 3, none⟩ = some (.int .i64 m.v) := M0.out 3 _ rfl
  have q4 : w1.cell? ⟨b, 4, none⟩ = some (.int .i64 m.n) := M0.out 4 _ rfl
  have q5 : w1.cell? ⟨b, 5, none⟩ = some (.int .i64 m.c) := M0.out 5 _ rfl
  have q6 : w1.cell? ⟨b, 6, none⟩ = some (.int .i64 m.o) := M0.out 6 _ rfl
  have q7 : w1.cell? ⟨b, 7, none⟩ = some (.int .i64 m.l) := M0.out 7 _ rfl
  have q8 : w1.cell? ⟨b, 8, none⟩ = some (.int .i64 m.q) := M0.out 8 _ rfl
  have q9 : w1.cell? ⟨b, 9, none⟩ = some (.bool m.h) := M0.out 9 _ rfl
  have q10 : w1.cell? ⟨b, 10, none⟩ = some (.int .i64 m.ok) := M0.out 10 _ rfl
  have q11 : w1.cell? ⟨b, 11, none⟩ = some (.string m.onm) := M0.out 11 _ rfl
  have q12 : w1.cell? ⟨b, 12, none⟩ = some (.string m.otx) := M0.out 12 _ rfl
  have q13 : w1.cell? ⟨b, 13, none⟩ = some (.int .i64 m.on) := M0.out 13 _ rfl
  have q14 : w1.cell? ⟨b, 14, none⟩ = some (.int .i64 m.om) := M0.out 14 _ rfl
  have q15 : w1.cell? ⟨b, 15, none⟩ = some (.int .i64 m.rc) := M0.out 15 _ rfl
  have q16 : w1.cell? ⟨b, 16, none⟩ = some (.int .i64 m.rn) := M0.out 16 _ rfl
  have q17 : w1.cell? ⟨b, 17, none⟩ = some (.slice m.ra m.rl m.rp) := M0.out 17 _ rfl
  have q18 : w1.cell? ⟨b, 18, none⟩ = some (.slice m.ea m.el m.ep) := M0.out 18 _ rfl
  have q19 : w1.cell? ⟨b, 19, none⟩ = some (.int .i64 m.cf) := M0.out 19 _ rfl
  have q20 : w1.cell? ⟨b, 20, none⟩ = some (.int .i64 m.cb) := M0.out 20 _ rfl
  have q21 : w1.cell? ⟨b, 21, none⟩ = some (.slice m.sa m.sl m.sp) := M0.out 21 _ rfl
  have q22 : w1.cell? ⟨b, 22, none⟩ = some (.slice m.xa m.xl m.xp) := M0.out 22 _ rfl
  have hbw : b < w1.heap.size := World.block_lt_of_cell? _ _ q0
  go_upto_region 3 with fail
  have B2 : Hid (Below w.heap.size w (w1.alloc (.cells #[.int .i64 m.ok, .string m.onm, .string m.otx, .int .i64 m.on, .int .i64 m.om] 25))) := hid (BA.out.trans ((ba w1 _).mono BA.out.size))
  have M2 : Hid (MsAt (w1.alloc (.cells #[.int .i64 m.ok, .string m.onm, .string m.otx, .int .i64 m.on, .int .i64 m.om] 25)) b m) := hid (M0.out.under (ba w1 _))
  have P2 : Hid ((w1.alloc (.cells #[.int .i64 m.ok, .string m.onm, .string m.otx, .int .i64 m.on, .int .i64 m.om] 25)).heap[w1.heap.size]? = some (.cells #[.int .i64 m.ok, .string m.onm, .string m.otx, .int .i64 m.on, .int .i64 m.om] 25 (0, 0))) := hid (heap_alloc_new _ _)
  obtain ⟨p, hp⟩ : ∃ p, Hid (w1.heap.size = p) := ⟨_, hid rfl⟩
  rw [hp.out] at P2 ⊢
  generalize w1.alloc (.cells #[.int .i64 m.ok, .string m.onm, .string m.otx, .int .i64 m.on, .int .i64 m.om] 25) = w2 at B2 M2 P2 ⊢
  clear q0 q3 q4 q5 q6 q7 q8 q9 q10 q11 q12 q13 q14 q15 q16 q17 q18 q19 q20 q21 q22 hbw BA M0
  have q3 : w2.cell? ⟨b, 3, none⟩ = some (.int .i64 m.v) := M2.out 3 _ rfl
  have q4 : w2.cell? ⟨b, 4, none⟩ = some (.int .i64 m.n) := M2.out 4 _ rfl
  have q5 : w2.cell? ⟨b, 5, none⟩ = some (.int .i64 m.c) := M2.out 5 _ rfl
  have q6 : w2.cell? ⟨b, 6, none⟩ = some (.int .i64 m.o) := M2.out 6 _ rfl
  have q7 : w2.cell? ⟨b, 7, none⟩ = some (.int .i64 m.l) := M2.out 7 _ rfl
  have q8 : w2.cell? ⟨b, 8, none⟩ = some (.int .i64 m.q) := M2.out 8 _ rfl
  have q9 : w2.cell? ⟨b, 9, none⟩ = some (.bool m.h) := M2.out 9 _ rfl
  have q15 : w2.cell? ⟨b, 15, none⟩ = some (.int .i64 m.rc) := M2.out 15 _ rfl
  have q16 : w2.cell? ⟨b, 16, none⟩ = some (.int .i64 m.rn) := M2.out 16 _ rfl
  have q17 : w2.cell? ⟨b, 17, none⟩ = some (.slice m.ra m.rl m.rp) := M2.out 17 _ rfl
  have q18 : w2.cell? ⟨b, 18, none⟩ = some (.slice m.ea m.el m.ep) := M2.out 18 _ rfl
  have q19 : w2.cell? ⟨b, 19, none⟩ = some (.int .i64 m.cf) := M2.out 19 _ rfl
  have q20 : w2.cell? ⟨b, 20, none⟩ = some (.int .i64 m.cb) := M2.out 20 _ rfl
  have q21 : w2.cell? ⟨b, 21, none⟩ = some (.slice m.sa m.sl m.sp) := M2.out 21 _ rfl
  have q22 : w2.cell? ⟨b, 22, none⟩ = some (.slice m.xa m.xl m.xp) := M2.out 22 _ rfl
  have p0 : w2.cell? ⟨p, 0, none⟩ = some (.int .i64 m.ok) := by rw [cell_at P2.out]; rfl
  have p1 : w2.cell? ⟨p, 1, none⟩ = some (.string m.onm) := by rw [cell_at P2.out]; rfl
  have p2 : w2.cell? ⟨p, 2, none⟩ = some (.string m.otx) := by rw [cell_at P2.out]; rfl
  have p3 : w2.cell? ⟨p, 3, none⟩ = some (.int .i64 m.on) := by rw [cell_at P2.out]; rfl
  have p4 : w2.cell? ⟨p, 4, none⟩ = some (.int .i64 m.om) := by rw [cell_at P2.out]; rfl
  have hbw : b < w2.heap.size := World.block_lt_of_cell? _ _ q3
  clear HK M2 P2
  go_upto_region 3 with fail
  go_cut [47] (fun v wx => v = .bool O3 ∧ wx = w2)
  case first =>
    by_cases c58 : m.c = 0
    rotate_left
    · have L : Hid ((m.c == 0) = false) := hid (by simpa using c58)
      have e58 : (m.c != 0) = true := by simpa using c58
      clear c58
      have F : Hid (O3 = true) := hid (by rw [← h3.out, L.out] <;> rfl)
      clear h3 L
      go_wp2_with (first | (go_at_call 37; refine (H37.out _).mono ?_; rintro e w' ⟨rfl, hw'⟩; subst w') | (go_at_call 46; refine (H46.out _).mono ?_; rintro e w' ⟨rfl, hw'⟩; subst w') | (go_at_call 47; refine (H47.out _).mono ?_; rintro e w' ⟨rfl, hw'⟩; subst w') | (go_at_call 48; refine (H48.out _).mono ?_; rintro e w' ⟨rfl, hw'⟩; subst w') | (go_at_call 49; refine (H49.out _).mono ?_; rintro e w' ⟨rfl, hw'⟩; subst w') | (go_at_call 50; refine (H50.out _).mono ?_; rintro e w' ⟨rfl, hw'⟩; subst w') | (go_at_call 51; refine (H51.out _).mono ?_; rintro e w' ⟨rfl, hw'⟩; subst w') | (go_at_call 57; refine (H57.out _).mono ?_; rintro e w' ⟨rfl, hw'⟩; subst w') | (go_at_call 53; refine (H53.out _).mono ?_; rintro e w' ⟨rfl, hw'⟩; subst w') | (go_at_call 55; refine (H55.out _).mono ?_; rintro e w' ⟨rfl, hw'⟩; subst w') | (go_at_call 58; refine (H58.out _).mono ?_; rintro e w' ⟨rfl, hw'⟩; subst w'))
      go_meet
      exact ⟨by rw [F.out], rfl⟩
    have e58 : (m.c != 0) = false := by simpa using c58
    have LC : Hid ((m.c == 0) = true) := hid (by simpa using c58)
    clear c58
    by_cases c59 : m.o = 0
    rotate_left
    · have L : Hid ((m.o == 0) = false) := hid (by simpa using c59)
      have e59 : (m.o != 0) = true := by simpa using c59
      clear c59
      have F : Hid (O3 = true) := hid (by rw [← h3.out, LC.out, L.out] <;> rfl)
      clear h3 L
      go_wp2_with (first | (go_at_call 37; refine (H37.out _).mono ?_; rintro e w' ⟨rfl, hw'⟩; subst w') | (go_at_call 46; refine (H46.out _).mono ?_; rintro e w' ⟨rfl, hw'⟩; subst w') | (go_at_call 47; refine (H47.out _).mono ?_; rintro e w' ⟨rfl, hw'⟩; subst w') | (go_at_call 48; refine (H48.out _).mono ?_; rintro e w' ⟨rfl, hw'⟩; subst w') | (go_at_call 49; refine (H49.out _).mono ?_; rintro e w' ⟨rfl, hw'⟩; subst w') | (go_at_call 50; refine (H50.out _).mono ?_; rintro e w' ⟨rfl, hw'⟩; subst w') | (go_at_call 51; refine (H51.out _).mono ?_; rintro e w' ⟨rfl, hw'⟩; subst w') | (go_at_call 57; refine (H57.out _).mono ?_; rintro e w' ⟨rfl, hw'⟩; subst w') | (go_at_call 53; refine (H53.out _).mono ?_; rintro e w' ⟨rfl, hw'⟩; subst w') | (go_at_call 55; refine (H55.out _).mono ?_; rintro e w' ⟨rfl, hw'⟩; subst w') | (go_at_call 58; refine (H58.out _).mono ?_; rintro e w' ⟨rfl, hw'⟩; subst w'))
      go_meet
      exact ⟨by rw [F.out], rfl⟩
    have e59 : (m.o != 0) = false := by simpa using c59
    have LN : Hid ((m.o == 0) = true) := hid (by simpa using c59)
    clear c59
    have F : Hid (O3 = false) := hid (by rw [← h3.out, LC.out, LN.out] <;> rfl)
    clear h3
    go_wp2_with (first | (go_at_call 37; refine (H37.out _).mono ?_; rintro e w' ⟨rfl, hw'⟩; subst w') | (go_at_call 46; refine (H46.out _).mono ?_; rintro e w' ⟨rfl, hw'⟩; subst w') | (go_at_call 47; refine (H47.out _).mono ?_; rintro e w' ⟨rfl, hw'⟩; subst w') | (go_at_call 48; refine (H48.out _).mono ?_; rintro e w' ⟨rfl, hw'⟩; subst w') | (go_at_call 49; refine (H49.out _).mono ?_; rintro e w' ⟨rfl, hw'⟩; subst w') | (go_at_call 50; refine (H50.out _).mono ?_; rintro e w' ⟨rfl, hw'⟩; subst w') | (go_at_call 51; refine (H51.out _).mono ?_; rintro e w' ⟨rfl, hw'⟩; subst w') | (go_at_call 57; refine (H57.out _).mono ?_; rintro e w' ⟨rfl, hw'⟩; subst w') | (go_at_call 53; refine (H53.out _).mono ?_; rintro e w' ⟨rfl, hw'⟩; subst w') | (go_at_call 55; refine (H55.out _).mono ?_; rintro e w' ⟨rfl, hw'⟩; subst w') | (go_at_call 58; refine (H58.out _).mono ?_; rintro e w' ⟨rfl, hw'⟩; subst w'))
    go_meet
    exact ⟨by rw [F.out], rfl⟩
  obtain ⟨rfl, hwc⟩ := hcut
  subst wc
  cases O3 with
  | true =>
    go_wp2
    go_ret
    exact ⟨by simp, B2.out⟩
  | false =>
  go_upto_region 5 with fail
  go_cut [85] (fun v wx => v = .bool O5 ∧ wx = w2)
  case first =>
    by_cases c60 : m.l = 0
    rotate_left
    · have L : Hid ((m.l == 0) = false) := hid (by simpa using c60)
      have e60 : (m.l != 0) = true := by simpa using c60
      clear c60
      have F : Hid (O5 = true) := hid (by rw [← h5.out, L.out] <;> rfl)
      clear h5 L
      go_wp2_with (first | (go_at_call 37; refine (H37.out _).mono ?_; rintro e w' ⟨rfl, hw'⟩; subst w') | (go_at_call 46; refine (H46.out _).mono ?_; rintro e w' ⟨rfl, hw'⟩; subst w') | (go_at_call 47; refine (H47.out _).mono ?_; rintro e w' ⟨rfl, hw'⟩; subst w') | (go_at_call 48; refine (H48.out _).mono ?_; rintro e w' ⟨rfl, hw'⟩; subst w') | (go_at_call 49; refine (H49.out _).mono ?_; rintro e w' ⟨rfl, hw'⟩; subst w') | (go_at_call 50; refine (H50.out _).mono ?_; rintro e w' ⟨rfl, hw'⟩; subst w') | (go_at_call 51; refine (H51.out _).mono ?_; rintro e w' ⟨rfl, hw'⟩; subst w') | (go_at_call 57; refine (H57.out _).mono ?_; rintro e w' ⟨rfl, hw'⟩; subst w') | (go_at_call 53; refine (H53.out _).mono ?_; rintro e w' ⟨rfl, hw'⟩; subst w') | (go_at_call 55; refine (H55.out _).mono ?_; rintro e w' ⟨rfl, hw'⟩; subst w') | (go_at_call 58; refine (H58.out _).mono ?_; rintro e w' ⟨rfl, hw'⟩; subst w'))
      go_meet
      exact ⟨by rw [F.out], rfl⟩
    have e60 : (m.l != 0) = false := by simpa using c60
    have LL : Hid ((m.l == 0) = true) := hid (by simpa using c60)
    clear c60
    by_cases c61 : m.q = 0
    rotate_left
    · have L : Hid ((m.q == 0) = false) := hid (by simpa using c61)
      have e61 : (m.q != 0) = true := by simpa using c61
      clear c61
      have F : Hid (O5 = true) := hid (by rw [← h5.out, LL.out, L.out] <;> rfl)
      clear h5 L
      go_wp2_with (first | (go_at_call 37; refine (H37.out _).mono ?_; rintro e w' ⟨rfl, hw'⟩; subst w') | (go_at_call 46; refine (H46.out _).mono ?_; rintro e w' ⟨rfl, hw'⟩; subst w') | (go_at_call 47; refine (H47.out _).mono ?_; rintro e w' ⟨rfl, hw'⟩; subst w') | (go_at_call 48; refine (H48.out _).mono ?_; rintro e w' ⟨rfl, hw'⟩; subst w') | (go_at_call 49; refine (H49.out _).mono ?_; rintro e w' ⟨rfl, hw'⟩; subst w') | (go_at_call 50; refine (H50.out _).mono ?_; rintro e w' ⟨rfl, hw'⟩; subst w') | (go_at_call 51; refine (H51.out _).mono ?_; rintro e w' ⟨rfl, hw'⟩; subst w') | (go_at_call 57; refine (H57.out _).mono ?_; rintro e w' ⟨rfl, hw'⟩; subst w') | (go_at_call 53; refine (H53.out _).mono ?_; rintro e w' ⟨rfl, hw'⟩; subst w') | (go_at_call 55; refine (H55.out _).mono ?_; rintro e w' ⟨rfl, hw'⟩; subst w') | (go_at_call 58; refine (H58.out _).mono ?_; rintro e w' ⟨rfl, hw'⟩; subst w'))
      go_meet
      exact ⟨by rw [F.out], rfl⟩
    have e61 : (m.q != 0) = false := by simpa using c61
    have LQ : Hid ((m.q == 0) = true) := hid (by simpa using c61)
    clear c61
    cases hh : m.h with
    | true =>
      rw [hh] at q9 h5
      have L : Hid ((!true) = false) := hid rfl
      clear hh
      have F : Hid (O5 = true) := hid (by rw [← h5.out, LL.out, LQ.out] <;> rfl)
      clear h5 L
      go_wp2_with (first | (go_at_call 37; refine (H37.out _).mono ?_; rintro e w' ⟨rfl, hw'⟩; subst w') | (go_at_call 46; refine (H46.out _).mono ?_; rintro e w' ⟨rfl, hw'⟩; subst w') | (go_at_call 47; refine (H47.out _).mono ?_; rintro e w' ⟨rfl, hw'⟩; subst w') | (go_at_call 48; refine (H48.out _).mono ?_; rintro e w' ⟨rfl, hw'⟩; subst w') | (go_at_call 49; refine (H49.out _).mono ?_; rintro e w' ⟨rfl, hw'⟩; subst w') | (go_at_call 50; refine (H50.out _).mono ?_; rintro e w' ⟨rfl, hw'⟩; subst w') | (go_at_call 51; refine (H51.out _).mono ?_; rintro e w' ⟨rfl, hw'⟩; subst w') | (go_at_call 57; refine (H57.out _).mono ?_; rintro e w' ⟨rfl, hw'⟩; subst w') | (go_at_call 53; refine (H53.out _).mono ?_; rintro e w' ⟨rfl, hw'⟩; subst w') | (go_at_call 55; refine (H55.out _).mono ?_; rintro e w' ⟨rfl, hw'⟩; subst w') | (go_at_call 58; refine (H58.out _).mono ?_; rintro e w' ⟨rfl, hw'⟩; subst w'))
      go_meet
      exact ⟨by rw [F.out], rfl⟩
    | false =>
      rw [hh] at q9 h5
      clear hh
      by_cases c62 : m.el = 0
      rotate_left
      · have L : Hid (((m.el : Int) == 0) = false) := hid (by simp; omega)
        have e62 : decide (0 < (m.el : Int)) = true := by simp; omega
        have f62 : decide (0 < (m.el)) = true := by simp; omega
        clear c62
        have F : Hid (O5 = true) := hid (by rw [← h5.out, LL.out, LQ.out, L.out] <;> rfl)
        clear h5 L
        go_wp2_with (first | (go_at_call 37; refine (H37.out _).mono ?_; rintro e w' ⟨rfl, hw'⟩; subst w') | (go_at_call 46; refine (H46.out _).mono ?_; rintro e w' ⟨rfl, hw'⟩; subst w') | (go_at_call 47; refine (H47.out _).mono ?_; rintro e w' ⟨rfl, hw'⟩; subst w') | (go_at_call 48; refine (H48.out _).mono ?_; rintro e w' ⟨rfl, hw'⟩; subst w') | (go_at_call 49; refine (H49.out _).mono ?_; rintro e w' ⟨rfl, hw'⟩; subst w') | (go_at_call 50; refine (H50.out _).mono ?_; rintro e w' ⟨rfl, hw'⟩; subst w') | (go_at_call 51; refine (H51.out _).mono ?_; rintro e w' ⟨rfl, hw'⟩; subst w') | (go_at_call 57; refine (H57.out _).mono ?_; rintro e w' ⟨rfl, hw'⟩; subst w') | (go_at_call 53; refine (H53.out _).mono ?_; rintro e w' ⟨rfl, hw'⟩; subst w') | (go_at_call 55; refine (H55.out _).mono ?_; rintro e w' ⟨rfl, hw'⟩; subst w') | (go_at_call 58; refine (H58.out _).mono ?_; rintro e w' ⟨rfl, hw'⟩; subst w'))
        go_meet
        exact ⟨by rw [F.out], rfl⟩
      have e62 : decide (0 < (m.el : Int)) = false := by simp; omega
      have f62 : decide (0 < (m.el)) = false := by simp; omega
      have LE : Hid (((m.el : Int) == 0) = true) := hid (by simp; omega)
      clear c62
      have F : Hid (O5 = false) := hid (by rw [← h5.out, LL.out, LQ.out, LE.out] <;> rfl)
      clear h5
      go_wp2_with (first | (go_at_call 37; refine (H37.out _).mono ?_; rintro e w' ⟨rfl, hw'⟩; subst w') | (go_at_call 46; refine (H46.out _).mono ?_; rintro e w' ⟨rfl, hw'⟩; subst w') | (go_at_call 47; refine (H47.out _).mono ?_; rintro e w' ⟨rfl, hw'⟩; subst w') | (go_at_call 48; refine (H48.out _).mono ?_; rintro e w' ⟨rfl, hw'⟩; subst w') | (go_at_call 49; refine (H49.out _).mono ?_; rintro e w' ⟨rfl, hw'⟩; subst w') | (go_at_call 50; refine (H50.out _).mono ?_; rintro e w' ⟨rfl, hw'⟩; subst w') | (go_at_call 51; refine (H51.out _).mono ?_; rintro e w' ⟨rfl, hw'⟩; subst w') | (go_at_call 57; refine (H57.out _).mono ?_; rintro e w' ⟨rfl, hw'⟩; subst w') | (go_at_call 53; refine (H53.out _).mono ?_; rintro e w' ⟨rfl, hw'⟩; subst w') | (go_at_call 55; refine (H55.out _).mono ?_; rintro e w' ⟨rfl, hw'⟩; subst w') | (go_at_call 58; refine (H58.out _).mono ?_; rintro e w' ⟨rfl, hw'⟩; subst w'))
      go_meet
      exact ⟨by rw [F.out], rfl⟩
  obtain ⟨rfl, hwc⟩ := hcut
  subst wc
  cases O5 with
  | true =>
    go_wp2
    go_ret
    exact ⟨by simp, B2.out⟩
  | false =>
  go_upto_region 7 with fail
  go_cut [113] (fun v wx => v = .bool O7 ∧ wx = w2)
  case first =>
    by_cases c63 : m.ok = 0
    rotate_left
    · have L : Hid (m.zO = false) := hid (by simp [Ms.zO, c63])
      have e63 : (m.ok != 0) = true := by simpa using c63
      clear c63
      have F : Hid (O7 = true) := hid (by rw [← h7.out, L.out] <;> rfl)
      clear h7 L
      go_wp2_with (first | (go_at_call 37; refine (H37.out _).mono ?_; rintro e w' ⟨rfl, hw'⟩; subst w') | (go_at_call 46; refine (H46.out _).mono ?_; rintro e w' ⟨rfl, hw'⟩; subst w') | (go_at_call 47; refine (H47.out _).mono ?_; rintro e w' ⟨rfl, hw'⟩; subst w') | (go_at_call 48; refine (H48.out _).mono ?_; rintro e w' ⟨rfl, hw'⟩; subst w') | (go_at_call 49; refine (H49.out _).mono ?_; rintro e w' ⟨rfl, hw'⟩; subst w') | (go_at_call 50; refine (H50.out _).mono ?_; rintro e w' ⟨rfl, hw'⟩; subst w') | (go_at_call 51; refine (H51.out _).mono ?_; rintro e w' ⟨rfl, hw'⟩; subst w') | (go_at_call 57; refine (H57.out _).mono ?_; rintro e w' ⟨rfl, hw'⟩; subst w') | (go_at_call 53; refine (H53.out _).mono ?_; rintro e w' ⟨rfl, hw'⟩; subst w') | (go_at_call 55; refine (H55.out _).mono ?_; rintro e w' ⟨rfl, hw'⟩; subst w') | (go_at_call 58; refine (H58.out _).mono ?_; rintro e w' ⟨rfl, hw'⟩; subst w'))
      go_meet
      exact ⟨by rw [F.out], rfl⟩
    have e63 : (m.ok != 0) = false := by simpa using c63
    by_cases c64 : m.onm.toList = []
    rotate_left
    · have L : Hid (m.zO = false) := hid (by simp [Ms.zO, c64])
      have e64 : ¬ (m.onm.toList = []) := c64
      clear c63 c64
      have F : Hid (O7 = true) := hid (by rw [← h7.out, L.out] <;> rfl)
      clear h7 L
      go_wp2_with (first | (go_at_call 37; refine (H37.out _).mono ?_; rintro e w' ⟨rfl, hw'⟩; subst w') | (go_at_call 46; refine (H46.out _).mono ?_; rintro e w' ⟨rfl, hw'⟩; subst w') | (go_at_call 47; refine (H47.out _).mono ?_; rintro e w' ⟨rfl, hw'⟩; subst w') | (go_at_call 48; refine (H48.out _).mono ?_; rintro e w' ⟨rfl, hw'⟩; subst w') | (go_at_call 49; refine (H49.out _).mono ?_; rintro e w' ⟨rfl, hw'⟩; subst w') | (go_at_call 50; refine (H50.out _).mono ?_; rintro e w' ⟨rfl, hw'⟩; subst w') | (go_at_call 51; refine (H51.out _).mono ?_; rintro e w' ⟨rfl, hw'⟩; subst w') | (go_at_call 57; refine (H57.out _).mono ?_; rintro e w' ⟨rfl, hw'⟩; subst w') | (go_at_call 53; refine (H53.out _).mono ?_; rintro e w' ⟨rfl, hw'⟩; subst w') | (go_at_call 55; refine (H55.out _).mono ?_; rintro e w' ⟨rfl, hw'⟩; subst w') | (go_at_call 58; refine (H58.out _).mono ?_; rintro e w' ⟨rfl, hw'⟩; subst w'))
      go_meet
      exact ⟨by rw [F.out], rfl⟩
    have e64 : m.onm.toList = [] := c64
    by_cases c65 : m.otx.toList = []
    rotate_left
    · have L : Hid (m.zO = false) := hid (by simp [Ms.zO, c65])
      have e65 : ¬ (m.otx.toList = []) := c65
      clear c63 c64 c65
      have F : Hid (O7 = true) := hid (by rw [← h7.out, L.out] <;> rfl)
      clear h7 L
      go_wp2_with (first | (go_at_call 37; refine (H37.out _).mono ?_; rintro e w' ⟨rfl, hw'⟩; subst w') | (go_at_call 46; refine (H46.out _).mono ?_; rintro e w' ⟨rfl, hw'⟩; subst w') | (go_at_call 47; refine (H47.out _).mono ?_; rintro e w' ⟨rfl, hw'⟩; subst w') | (go_at_call 48; refine (H48.out _).mono ?_; rintro e w' ⟨rfl, hw'⟩; subst w') | (go_at_call 49; refine (H49.out _).mono ?_; rintro e w' ⟨rfl, hw'⟩; subst w') | (go_at_call 50; refine (H50.out _).mono ?_; rintro e w' ⟨rfl, hw'⟩; subst w') | (go_at_call 51; refine (H51.out _).mono ?_; rintro e w' ⟨rfl, hw'⟩; subst w') | (go_at_call 57; refine (H57.out _).mono ?_; rintro e w' ⟨rfl, hw'⟩; subst w') | (go_at_call 53; refine (H53.out _).mono ?_; rintro e w' ⟨rfl, hw'⟩; subst w') | (go_at_call 55; refine (H55.out _).mono ?_; rintro e w' ⟨rfl, hw'⟩; subst w') | (go_at_call 58; refine (H58.out _).mono ?_; rintro e w' ⟨rfl, hw'⟩; subst w'))
      go_meet
      exact ⟨by rw [F.out], rfl⟩
    have e65 : m.otx.toList = [] := c65
    by_cases c66 : m.on = 0
    rotate_left
    · have L : Hid (m.zO = false) := hid (by simp [Ms.zO, c66])
      have e66 : (m.on != 0) = true := by simpa using c66
      clear c63 c64 c65 c66
      have F : Hid (O7 = true) := hid (by rw [← h7.out, L.out] <;> rfl)
      clear h7 L
      go_wp2_with (first | (go_at_call 37; refine (H37.out _).mono ?_; rintro e w' ⟨rfl, hw'⟩; subst w') | (go_at_call 46; refine (H46.out _).mono ?_; rintro e w' ⟨rfl, hw'⟩; subst w') | (go_at_call 47; refine (H47.out _).mono ?_; rintro e w' ⟨rfl, hw'⟩; subst w') | (go_at_call 48; refine (H48.out _).mono ?_; rintro e w' ⟨rfl, hw'⟩; subst w') | (go_at_call 49; refine (H49.out _).mono ?_; rintro e w' ⟨rfl, hw'⟩; subst w') | (go_at_call 50; refine (H50.out _).mono ?_; rintro e w' ⟨rfl, hw'⟩; subst w') | (go_at_call 51; refine (H51.out _).mono ?_; rintro e w' ⟨rfl, hw'⟩; subst w') | (go_at_call 57; refine (H57.out _).mono ?_; rintro e w' ⟨rfl, hw'⟩; subst w') | (go_at_call 53; refine (H53.out _).mono ?_; rintro e w' ⟨rfl, hw'⟩; subst w') | (go_at_call 55; refine (H55.out _).mono ?_; rintro e w' ⟨rfl, hw'⟩; subst w') | (go_at_call 58; refine (H58.out _).mono ?_; rintro e w' ⟨rfl, hw'⟩; subst w'))
      go_meet
      exact ⟨by rw [F.out], rfl⟩
    have e66 : (m.on != 0) = false := by simpa using c66
    by_cases c67 : m.om = 0
    rotate_left
    · have L : Hid (m.zO = false) := hid (by simp [Ms.zO, c67])
      have e67 : (m.om != 0) = true := by simpa using c67
      clear c63 c64 c65 c66 c67
      have F : Hid (O7 = true) := hid (by rw [← h7.out, L.out] <;> rfl)
      clear h7 L
      go_wp2_with (first | (go_at_call 37; refine (H37.out _).mono ?_; rintro e w' ⟨rfl, hw'⟩; subst w') | (go_at_call 46; refine (H46.out _).mono ?_; rintro e w' ⟨rfl, hw'⟩; subst w') | (go_at_call 47; refine (H47.out _).mono ?_; rintro e w' ⟨rfl, hw'⟩; subst w') | (go_at_call 48; refine (H48.out _).mono ?_; rintro e w' ⟨rfl, hw'⟩; subst w') | (go_at_call 49; refine (H49.out _).mono ?_; rintro e w' ⟨rfl, hw'⟩; subst w') | (go_at_call 50; refine (H50.out _).mono ?_; rintro e w' ⟨rfl, hw'⟩; subst w') | (go_at_call 51; refine (H51.out _).mono ?_; rintro e w' ⟨rfl, hw'⟩; subst w') | (go_at_call 57; refine (H57.out _).mono ?_; rintro e w' ⟨rfl, hw'⟩; subst w') | (go_at_call 53; refine (H53.out _).mono ?_; rintro e w' ⟨rfl, hw'⟩; subst w') | (go_at_call 55; refine (H55.out _).mono ?_; rintro e w' ⟨rfl, hw'⟩; subst w') | (go_at_call 58; refine (H58.out _).mono ?_; rintro e w' ⟨rfl, hw'⟩; subst w'))
      go_meet
      exact ⟨by rw [F.out], rfl⟩
    have e67 : (m.om != 0) = false := by simpa using c67
    have LO : Hid (m.zO = true) := hid (by simp [Ms.zO, c63, c64, c65, c66, c67])
    clear c63 c64 c65 c66 c67
    have F : Hid (O7 = false) := hid (by rw [← h7.out, LO.out] <;> rfl)
    clear h7
    go_wp2_with (first | (go_at_call 37; refine (H37.out _).mono ?_; rintro e w' ⟨rfl, hw'⟩; subst w') | (go_at_call 46; refine (H46.out _).mono ?_; rintro e w' ⟨rfl, hw'⟩; subst w') | (go_at_call 47; refine (H47.out _).mono ?_; rintro e w' ⟨rfl, hw'⟩; subst w') | (go_at_call 48; refine (H48.out _).mono ?_; rintro e w' ⟨rfl, hw'⟩; subst w') | (go_at_call 49; refine (H49.out _).mono ?_; rintro e w' ⟨rfl, hw'⟩; subst w') | (go_at_call 50; refine (H50.out _).mono ?_; rintro e w' ⟨rfl, hw'⟩; subst w') | (go_at_call 51; refine (H51.out _).mono ?_; rintro e w' ⟨rfl, hw'⟩; subst w') | (go_at_call 57; refine (H57.out _).mono ?_; rintro e w' ⟨rfl, hw'⟩; subst w') | (go_at_call 53; refine (H53.out _).mono ?_; rintro e w' ⟨rfl, hw'⟩; subst w') | (go_at_call 55; refine (H55.out _).mono ?_; rintro e w' ⟨rfl, hw'⟩; subst w') | (go_at_call 58; refine (H58.out _).mono ?_; rintro e w' ⟨rfl, hw'⟩; subst w'))
    go_meet
    exact ⟨by rw [F.out], rfl⟩
  obtain ⟨rfl, hwc⟩ := hcut
  subst wc
  cases O7 with
  | true =>
    go_wp2
    go_ret
    exact ⟨by simp, B2.out⟩
  | false =>
  go_upto_region 9 with fail
  go_cut [135] (fun v wx => v = .bool O9 ∧ wx = w2)
  case first =>
    by_cases c68 : m.rc = 0
    rotate_left
    · have L : Hid (m.zR = false) := hid (by simp [Ms.zR, c68])
      have e68 : (m.rc != 0) = true := by simpa using c68
      clear c68
      have F : Hid (O9 = true) := hid (by rw [← h9.out, L.out] <;> rfl)
      clear h9 L
      go_wp2_with (first | (go_at_call 37; refine (H37.out _).mono ?_; rintro e w' ⟨rfl, hw'⟩; subst w') | (go_at_call 46; refine (H46.out _).mono ?_; rintro e w' ⟨rfl, hw'⟩; subst w') | (go_at_call 47; refine (H47.out _).mono ?_; rintro e w' ⟨rfl, hw'⟩; subst w') | (go_at_call 48; refine (H48.out _).mono ?_; rintro e w' ⟨rfl, hw'⟩; subst w') | (go_at_call 49; refine (H49.out _).mono ?_; rintro e w' ⟨rfl, hw'⟩; subst w') | (go_at_call 50; refine (H50.out _).mono ?_; rintro e w' ⟨rfl, hw'⟩; subst w') | (go_at_call 51; refine (H51.out _).mono ?_; rintro e w' ⟨rfl, hw'⟩; subst w') | (go_at_call 57; refine (H57.out _).mono ?_; rintro e w' ⟨rfl, hw'⟩; subst w') | (go_at_call 53; refine (H53.out _).mono ?_; rintro e w' ⟨rfl, hw'⟩; subst w') | (go_at_call 55; refine (H55.out _).mono ?_; rintro e w' ⟨rfl, hw'⟩; subst w') | (go_at_call 58; refine (H58.out _).mono ?_; rintro e w' ⟨rfl, hw'⟩; subst w'))
      go_meet
      exact ⟨by rw [F.out], rfl⟩
    have e68 : (m.rc != 0) = false := by simpa using c68
    by_cases c69 : m.rn = 0
    rotate_left
    · have L : Hid (m.zR = false) := hid (by simp [Ms.zR, c69])
      have e69 : (m.rn != 0) = true := by simpa using c69
      clear c68 c69
      have F : Hid (O9 = true) := hid (by rw [← h9.out, L.out] <;> rfl)
      clear h9 L
      go_wp2_with (first | (go_at_call 37; refine (H37.out _).mono ?_; rintro e w' ⟨rfl, hw'⟩; subst w') | (go_at_call 46; refine (H46.out _).mono ?_; rintro e w' ⟨rfl, hw'⟩; subst w') | (go_at_call 47; refine (H47.out _).mono ?_; rintro e w' ⟨rfl, hw'⟩; subst w') | (go_at_call 48; refine (H48.out _).mono ?_; rintro e w' ⟨rfl, hw'⟩; subst w') | (go_at_call 49; refine (H49.out _).mono ?_; rintro e w' ⟨rfl, hw'⟩; subst w') | (go_at_call 50; refine (H50.out _).mono ?_; rintro e w' ⟨rfl, hw'⟩; subst w') | (go_at_call 51; refine (H51.out _).mono ?_; rintro e w' ⟨rfl, hw'⟩; subst w') | (go_at_call 57; refine (H57.out _).mono ?_; rintro e w' ⟨rfl, hw'⟩; subst w') | (go_at_call 53; refine (H53.out _).mono ?_; rintro e w' ⟨rfl, hw'⟩; subst w') | (go_at_call 55; refine (H55.out _).mono ?_; rintro e w' ⟨rfl, hw'⟩; subst w') | (go_at_call 58; refine (H58.out _).mono ?_; rintro e w' ⟨rfl, hw'⟩; subst w'))
      go_meet
      exact ⟨by rw [F.out], rfl⟩
    have e69 : (m.rn != 0) = false := by simpa using c69
    by_cases c70 : m.rl = 0
    rotate_left
    · have L : Hid (m.zR = false) := hid (by simp [Ms.zR, c70])
      have e70 : decide (0 < (m.rl : Int)) = true := by simp; omega
      have f70 : decide (0 < (m.rl)) = true := by simp; omega
      clear c68 c69 c70
      have F : Hid (O9 = true) := hid (by rw [← h9.out, L.out] <;> rfl)
      clear h9 L
      go_wp2_with (first | (go_at_call 37; refine (H37.out _).mono ?_; rintro e w' ⟨rfl, hw'⟩; subst w') | (go_at_call 46; refine (H46.out _).mono ?_; rintro e w' ⟨rfl, hw'⟩; subst w') | (go_at_call 47; refine (H47.out _).mono ?_; rintro e w' ⟨rfl, hw'⟩; subst w') | (go_at_call 48; refine (H48.out _).mono ?_; rintro e w' ⟨rfl, hw'⟩; subst w') | (go_at_call 49; refine (H49.out _).mono ?_; rintro e w' ⟨rfl, hw'⟩; subst w') | (go_at_call 50; refine (H50.out _).mono ?_; rintro e w' ⟨rfl, hw'⟩; subst w') | (go_at_call 51; refine (H51.out _).mono ?_; rintro e w' ⟨rfl, hw'⟩; subst w') | (go_at_call 57; refine (H57.out _).mono ?_; rintro e w' ⟨rfl, hw'⟩; subst w') | (go_at_call 53; refine (H53.out _).mono ?_; rintro e w' ⟨rfl, hw'⟩; subst w') | (go_at_call 55; refine (H55.out _).mono ?_; rintro e w' ⟨rfl, hw'⟩; subst w') | (go_at_call 58; refine (H58.out _).mono ?_; rintro e w' ⟨rfl, hw'⟩; subst w'))
      go_meet
      exact ⟨by rw [F.out], rfl⟩
    have e70 : decide (0 < (m.rl : Int)) = false := by simp; omega
    have f70 : decide (0 < (m.rl)) = false := by simp; omega
    have LR : Hid (m.zR = true) := hid (by simp [Ms.zR, c68, c69, c70])
    clear c68 c69 c70
    have F : Hid (O9 = false) := hid (by rw [← h9.out, LR.out] <;> rfl)
    clear h9
    go_wp2_with (first | (go_at_call 37; refine (H37.out _).mono ?_; rintro e w' ⟨rfl, hw'⟩; subst w') | (go_at_call 46; refine (H46.out _).mono ?_; rintro e w' ⟨rfl, hw'⟩; subst w') | (go_at_call 47; refine (H47.out _).mono ?_; rintro e w' ⟨rfl, hw'⟩; subst w') | (go_at_call 48; refine (H48.out _).mono ?_; rintro e w' ⟨rfl, hw'⟩; subst w') | (go_at_call 49; refine (H49.out _).mono ?_; rintro e w' ⟨rfl, hw'⟩; subst w') | (go_at_call 50; refine (H50.out _).mono ?_; rintro e w' ⟨rfl, hw'⟩; subst w') | (go_at_call 51; refine (H51.out _).mono ?_; rintro e w' ⟨rfl, hw'⟩; subst w') | (go_at_call 57; refine (H57.out _).mono ?_; rintro e w' ⟨rfl, hw'⟩; subst w') | (go_at_call 53; refine (H53.out _).mono ?_; rintro e w' ⟨rfl, hw'⟩; subst w') | (go_at_call 55; refine (H55.out _).mono ?_; rintro e w' ⟨rfl, hw'⟩; subst w') | (go_at_call 58; refine (H58.out _).mono ?_; rintro e w' ⟨rfl, hw'⟩; subst w'))
    go_meet
    exact ⟨by rw [F.out], rfl⟩
  obtain ⟨rfl, hwc⟩ := hcut
  subst wc
  cases O9 with
  | true =>
    go_wp2
    go_ret
    exact ⟨by simp, B2.out⟩
  | false =>
  go_upto_region 12 with fail
  have B3 : Hid (Below w.heap.size w (w2.alloc (.cells #[.int .i64 m.cf, .int .i64 m.cb, .slice m.sa m.sl m.sp, .slice m.xa m.xl m.xp] 32))) := hid (B2.out.trans ((ba w2 _).mono B2.out.size))
  have P3 : Hid ((w2.alloc (.cells #[.int .i64 m.cf, .int .i64 m.cb, .slice m.sa m.sl m.sp, .slice m.xa m.xl m.xp] 32)).heap[w2.heap.size]? = some (.cells #[.int .i64 m.cf, .int .i64 m.cb, .slice m.sa m.sl m.sp, .slice m.xa m.xl m.xp] 32 (0, 0))) := hid (heap_alloc_new _ _)
  have Q9 : Hid ((w2.alloc (.cells #[.int .i64 m.cf, .int .i64 m.cb, .slice m.sa m.sl m.sp, .slice m.xa m.xl m.xp] 32)).cell? ⟨b, 9, none⟩ = some (.bool m.h)) := hid (cell_under (ba w2 _) hbw q9)
  obtain ⟨s, hs⟩ : ∃ s, Hid (w2.heap.size = s) := ⟨_, hid rfl⟩
  rw [hs.out] at P3 ⊢
  generalize w2.alloc (.cells #[.int .i64 m.cf, .int .i64 m.cb, .slice m.sa m.sl m.sp, .slice m.xa m.xl m.xp] 32) = w3 at B3 P3 Q9 ⊢
  clear p0 p1 p2 p3 p4 hbw q3 q4 q5 q6 q7 q8 q9 q15 q16 q17 q18 q19 q20 q21 q22
  have q9 := Q9.out
  have p0 : w3.cell? ⟨s, 0, none⟩ = some (.int .i64 m.cf) := by rw [cell_at P3.out]; rfl
  have p1 : w3.cell? ⟨s, 1, none⟩ = some (.int .i64 m.cb) := by rw [cell_at P3.out]; rfl
  have p2 : w3.cell? ⟨s, 2, none⟩ = some (.slice m.sa m.sl m.sp) := by rw [cell_at P3.out]; rfl
  have p3 : w3.cell? ⟨s, 3, none⟩ = some (.slice m.xa m.xl m.xp) := by rw [cell_at P3.out]; rfl
  by_cases c71 : m.cf = 0
  rotate_left
  · have L : Hid (m.zG = false) := hid (by simp [Ms.zG, c71])
    have e71 : (m.cf != 0) = true := by simpa using c71
    clear c71
    have F : Hid (O12 = true) := hid (by rw [← h12.out, L.out] <;> rfl)
    clear h12 L
    go_wp2_with (first | (go_at_call 37; refine (H37.out _).mono ?_; rintro e w' ⟨rfl, hw'⟩; subst w') | (go_at_call 46; refine (H46.out _).mono ?_; rintro e w' ⟨rfl, hw'⟩; subst w') | (go_at_call 47; refine (H47.out _).mono ?_; rintro e w' ⟨rfl, hw'⟩; subst w') | (go_at_call 48; refine (H48.out _).mono ?_; rintro e w' ⟨rfl, hw'⟩; subst w') | (go_at_call 49; refine (H49.out _).mono ?_; rintro e w' ⟨rfl, hw'⟩; subst w') | (go_at_call 50; refine (H50.out _).mono ?_; rintro e w' ⟨rfl, hw'⟩; subst w') | (go_at_call 51; refine (H51.out _).mono ?_; rintro e w' ⟨rfl, hw'⟩; subst w') | (go_at_call 57; refine (H57.out _).mono ?_; rintro e w' ⟨rfl, hw'⟩; subst w') | (go_at_call 53; refine (H53.out _).mono ?_; rintro e w' ⟨rfl, hw'⟩; subst w') | (go_at_call 55; refine (H55.out _).mono ?_; rintro e w' ⟨rfl, hw'⟩; subst w') | (go_at_call 58; refine (H58.out _).mono ?_; rintro e w' ⟨rfl, hw'⟩; subst w'))
    go_ret
    exact ⟨by rw [F.out]; rfl, B3.out⟩
  have e71 : (m.cf != 0) = false := by simpa using c71
  by_cases c72 : m.cb = 0
  rotate_left
  · have L : Hid (m.zG = false) := hid (by simp [Ms.zG, c72])
    have e72 : (m.cb != 0) = true := by simpa using c72
    clear c71 c72
    have F : Hid (O12 = true) := hid (by rw [← h12.out, L.out] <;> rfl)
    clear h12 L
    go_wp2_with (first | (go_at_call 37; refine (H37.out _).mono ?_; rintro e w' ⟨rfl, hw'⟩; subst w') | (go_at_call 46; refine (H46.out _).mono ?_; rintro e w' ⟨rfl, hw'⟩; subst w') | (go_at_call 47; refine (H47.out _).mono ?_; rintro e w' ⟨rfl, hw'⟩; subst w') | (go_at_call 48; refine (H48.out _).mono ?_; rintro e w' ⟨rfl, hw'⟩; subst w') | (go_at_call 49; refine (H49.out _).mono ?_; rintro e w' ⟨rfl, hw'⟩; subst w') | (go_at_call 50; refine (H50.out _).mono ?_; rintro e w' ⟨rfl, hw'⟩; subst w') | (go_at_call 51; refine (H51.out _).mono ?_; rintro e w' ⟨rfl, hw'⟩; subst w') | (go_at_call 57; refine (H57.out _).mono ?_; rintro e w' ⟨rfl, hw'⟩; subst w') | (go_at_call 53; refine (H53.out _).mono ?_; rintro e w' ⟨rfl, hw'⟩; subst w') | (go_at_call 55; refine (H55.out _).mono ?_; rintro e w' ⟨rfl, hw'⟩; subst w') | (go_at_call 58; refine (H58.out _).mono ?_; rintro e w' ⟨rfl, hw'⟩; subst w'))
    go_ret
    exact ⟨by rw [F.out]; rfl, B3.out⟩
  have e72 : (m.cb != 0) = false := by simpa using c72
  by_cases c73 : m.sl = 0
  rotate_left
  · have L : Hid (m.zG = false) := hid (by simp [Ms.zG, c73])
    have e73 : decide (0 < (m.sl : Int)) = true := by simp; omega
    have f73 : decide (0 < (m.sl)) = true := by simp; omega
    clear c71 c72 c73
    have F : Hid (O12 = true) := hid (by rw [← h12.out, L.out] <;> rfl)
    clear h12 L
    go_wp2_with (first | (go_at_call 37; refine (H37.out _).mono ?_; rintro e w' ⟨rfl, hw'⟩; subst w') | (go_at_call 46; refine (H46.out _).mono ?_; rintro e w' ⟨rfl, hw'⟩; subst w') | (go_at_call 47; refine (H47.out _).mono ?_; rintro e w' ⟨rfl, hw'⟩; subst w') | (go_at_call 48; refine (H48.out _).mono ?_; rintro e w' ⟨rfl, hw'⟩; subst w') | (go_at_call 49; refine (H49.out _).mono ?_; rintro e w' ⟨rfl, hw'⟩; subst w') | (go_at_call 50; refine (H50.out _).mono ?_; rintro e w' ⟨rfl, hw'⟩; subst w') | (go_at_call 51; refine (H51.out _).mono ?_; rintro e w' ⟨rfl, hw'⟩; subst w') | (go_at_call 57; refine (H57.out _).mono ?_; rintro e w' ⟨rfl, hw'⟩; subst w') | (go_at_call 53; refine (H53.out _).mono ?_; rintro e w' ⟨rfl, hw'⟩; subst w') | (go_at_call 55; refine (H55.out _).mono ?_; rintro e w' ⟨rfl, hw'⟩; subst w') | (go_at_call 58; refine (H58.out _).mono ?_; rintro e w' ⟨rfl, hw'⟩; subst w'))
    go_ret
    exact ⟨by rw [F.out]; rfl, B3.out⟩
  have e73 : decide (0 < (m.sl : Int)) = false := by simp; omega
  have f73 : decide (0 < (m.sl)) = false := by simp; omega
  by_cases c74 : m.xl = 0
  rotate_left
  · have L : Hid (m.zG = false) := hid (by simp [Ms.zG, c74])
    have e74 : decide (0 < (m.xl : Int)) = true := by simp; omega
    have f74 : decide (0 < (m.xl)) = true := by simp; omega
    clear c71 c72 c73 c74
    have F : Hid (O12 = true) := hid (by rw [← h12.out, L.out] <;> rfl)
    clear h12 L
    go_wp2_with (first | (go_at_call 37; refine (H37.out _).mono ?_; rintro e w' ⟨rfl, hw'⟩; subst w') | (go_at_call 46; refine (H46.out _).mono ?_; rintro e w' ⟨rfl, hw'⟩; subst w') | (go_at_call 47; refine (H47.out _).mono ?_; rintro e w' ⟨rfl, hw'⟩; subst w') | (go_at_call 48; refine (H48.out _).mono ?_; rintro e w' ⟨rfl, hw'⟩; subst w') | (go_at_call 49; refine (H49.out _).mono ?_; rintro e w' ⟨rfl, hw'⟩; subst w') | (go_at_call 50; refine (H50.out _).mono ?_; rintro e w' ⟨rfl, hw'⟩; subst w') | (go_at_call 51; refine (H51.out _).mono ?_; rintro e w' ⟨rfl, hw'⟩; subst w') | (go_at_call 57; refine (H57.out _).mono ?_; rintro e w' ⟨rfl, hw'⟩; subst w') | (go_at_call 53; refine (H53.out _).mono ?_; rintro e w' ⟨rfl, hw'⟩; subst w') | (go_at_call 55; refine (H55.out _).mono ?_; rintro e w' ⟨rfl, hw'⟩; subst w') | (go_at_call 58; refine (H58.out _).mono ?_; rintro e w' ⟨rfl, hw'⟩; subst w'))
    go_ret
    exact ⟨by rw [F.out]; rfl, B3.out⟩
  have e74 : decide (0 < (m.xl : Int)) = false := by simp; omega
  have f74 : decide (0 < (m.xl)) = false := by simp; omega
  have LG : Hid (m.zG = true) := hid (by simp [Ms.zG, c71, c72, c73, c74])
  clear c71 c72 c73 c74
  have F : Hid (O12 = false) := hid (by rw [← h12.out, LG.out] <;> rfl)
  clear h12
  go_wp2_with (first | (go_at_call 37; refine (H37.out _).mono ?_; rintro e w' ⟨rfl, hw'⟩; subst w') | (go_at_call 46; refine (H46.out _).mono ?_; rintro e w' ⟨rfl, hw'⟩; subst w') | (go_at_call 47; refine (H47.out _).mono ?_; rintro e w' ⟨rfl, hw'⟩; subst w') | (go_at_call 48; refine (H48.out _).mono ?_; rintro e w' ⟨rfl, hw'⟩; subst w') | (go_at_call 49; refine (H49.out _).mono ?_; rintro e w' ⟨rfl, hw'⟩; subst w') | (go_at_call 50; refine (H50.out _).mono ?_; rintro e w' ⟨rfl, hw'⟩; subst w') | (go_at_call 51; refine (H51.out _).mono ?_; rintro e w' ⟨rfl, hw'⟩; subst w') | (go_at_call 57; refine (H57.out _).mono ?_; rintro e w' ⟨rfl, hw'⟩; subst w') | (go_at_call 53; refine (H53.out _).mono ?_; rintro e w' ⟨rfl, hw'⟩; subst w') | (go_at_call 55; refine (H55.out _).mono ?_; rintro e w' ⟨rfl, hw'⟩; subst w') | (go_at_call 58; refine (H58.out _).mono ?_; rintro e w' ⟨rfl, hw'⟩; subst w'))
  go_ret
  exact ⟨by rw [F.out]; rfl, B3.out⟩
set_option maxHeartbeats 6400000 in
set_option maxRecDepth 1000000 in
theorem rext_k6 {w : World} (m : Ms) (hk : m.k = 6) : Calls Tryz.prog 40 #[m.V] w fun e w' => e = .returned (.bool (m.extB 6)) ∧ Below w.heap.size w w' := by
  have EE : m.extB 6 = (!((true || (m.v == 0)) && ((true || (m.n == 0)) && ((true || (m.c == 0)) && (false || (m.o == 0))))) || (!((false || (m.l == 0)) && ((false || (m.q == 0)) && ((false || (!m.h)) && (false || ((m.el : Int) == 0))))) || (!(false || m.zO) || (!(false || m.zR) || !(false || m.zG))))) := by rw [extB_or]; rfl
  rw [EE]
  clear EE
  obtain ⟨O3, h3⟩ : ∃ O3, Hid ((!((true || (m.v == 0)) && ((true || (m.n == 0)) && ((true || (m.c == 0)) && (false || (m.o == 0)))))) = O3) := ⟨_, hid rfl⟩
  obtain ⟨O5, h5⟩ : ∃ O5, Hid ((!((false || (m.l == 0)) && ((false || (m.q == 0)) && ((false || (!m.h)) && (false || ((m.el : Int) == 0)))))) = O5) := ⟨_, hid rfl⟩
  obtain ⟨O7, h7⟩ : ∃ O7, Hid ((!(false || m.zO)) = O7) := ⟨_, hid rfl⟩
  obtain ⟨O9, h9⟩ : ∃ O9, Hid ((!(false || m.zR)) = O9) := ⟨_, hid rfl⟩
  obtain ⟨O12, h12⟩ : ∃ O12, Hid ((!(false || m.zG)) = O12) := ⟨_, hid rfl⟩
  rw [h3.out, h5.out, h7.out, h9.out, h12.out]
  have H37 : Hid (∀ W : World, Calls Tryz.prog 37 #[.int .i64 6] W fun e w' => e = .returned (.bool true) ∧ w' = W) := hid (fun W => has37 (k := 6) ⟨by omega, by omega⟩)
  have H46 : Hid (∀ W : World, Calls Tryz.prog 46 #[.int .i64 6] W fun e w' => e = .returned (.bool true) ∧ w' = W) := hid (fun W => has46 (k := 6) ⟨by omega, by omega⟩)
  have H47 : Hid (∀ W : World, Calls Tryz.prog 47 #[.int .i64 6] W fun e w' => e = .returned (.bool true) ∧ w' = W) := hid (fun W => has47 (k := 6) ⟨by omega, by omega⟩)
  have H48 : Hid (∀ W : World, Calls Tryz.prog 48 #[.int .i64 6] W fun e w' => e = .returned (.bool false) ∧ w' = W) := hid (fun W => has48 (k := 6) ⟨by omega, by omega⟩)
  have H49 : Hid (∀ W : World, Calls Tryz.prog 49 #[.int .i64 6] W fun e w' => e = .returned (.bool false) ∧ w' = W) := hid (fun W => has49 (k := 6) ⟨by omega, by omega⟩)
  have H50 : Hid (∀ W : World, Calls Tryz.prog 50 #[.int .i64 6] W fun e w' => e = .returned (.bool false) ∧ w' = W) := hid (fun W => has50 (k := 6) ⟨by omega, by omega⟩)
  have H51 : Hid (∀ W : World, Calls Tryz.prog 51 #[.int .i64 6] W fun e w' => e = .returned (.bool false) ∧ w' = W) := hid (fun W => has51 (k := 6) ⟨by omega, by omega⟩)
  have H53 : Hid (∀ W : World, Calls Tryz.prog 53 #[.int .i64 6] W fun e w' => e = .returned (.bool false) ∧ w' = W) := hid (fun W => has53 (k := 6) ⟨by omega, by omega⟩)
  have H55 : Hid (∀ W : World, Calls Tryz.prog 55 #[.int .i64 6] W fun e w' => e = .returned (.bool false) ∧ w' = W) := hid (fun W => has55 (k := 6) ⟨by omega, by omega⟩)
  have H57 : Hid (∀ W : World, Calls Tryz.prog 57 #[.int .i64 6] W fun e w' => e = .returned (.bool false) ∧ w' = W) := hid (fun W => has57 (k := 6) ⟨by omega, by omega⟩)
  have H58 : Hid (∀ W : World, Calls Tryz.prog 58 #[.int .i64 6, .bool m.h] W fun e w' => e = .returned (.bool false) ∧ w' = W) := hid (fun W => has58 (k := 6) m.h ⟨by omega, by omega⟩)
  have BA := hid (ba w (.cells m.cells.toArray 34))
  have M0 := hid (MsAt.new w m)
  have HK := hid hk
  clear hk
  go_enter Tryz.func40, Tryz.ntmps40
  go_upto_region 1 with fail
  obtain ⟨b, hbb⟩ : ∃ b, Hid (b = w.heap.size) := ⟨_, hid rfl⟩
  rw [← hbb.out] at M0 ⊢
  change Code.wp _ _ _ _ (w.alloc (.cells m.cells.toArray 34))
  generalize w.alloc (.cells m.cells.toArray 34) = w1 at BA M0 ⊢
  have q0 : w1.cell? ⟨b, 0, none⟩ = some (.int .i64 6) := by rw [← HK.out]; exact M0.out 0 _ rfl
  have q3 : w1.cell? ⟨b, 3, none⟩ = some (.int .i64 m.v) := M0.out 3 _ rfl
  have q4 : w1.cell? ⟨b, 4, none⟩ = some (.int .i64 m.n) := M0.out 4 _ rfl
  have q5 : w1.cell? ⟨b, 5, none⟩ = some (.int .i64 m.c) := M0.out 5 _ rfl
  have q6 : w1.cell? ⟨b, 6, none⟩ = some (.int .i64 m.o) := M0.out 6 _ rfl
  have q7 : w1.cell? ⟨b, 7, none⟩ = some (.int .i64 m.l) := M0.out 7 _ rfl
  have q8 : w1.cell? ⟨b, 8, none⟩ = some (.int .i64 m.q) := M0.out 8 _ rfl
  have q9 : w1.cell? ⟨b, 9, none⟩ = some (.bool m.h) := M0.out 9 _ rfl
  have q10 : w1.cell? ⟨b, 10, none⟩ = some (.int .i64 m.ok) := M0.out 10 _ rfl
  have q11 : w1.cell? ⟨b, 11, none⟩ = some (.string m.onm) := M0.out 11 _ rfl
  have q12 : w1.cell? ⟨b, 12, none⟩ = some (.string m.otx) := M0.out 12 _ rfl
  have q13 : w1.cell? ⟨b, 13, none⟩ = some (.int .i64 m.on) := M0.out 13 _ rfl
  have q14 : w1.cell? ⟨b, 14, none⟩ = some (.int .i64 m.om) := M0.out 14 _ rfl
  have q15 : w1.cell? ⟨b, 15, none⟩ = some (.int .i64 m.rc) := M0.out 15 _ rfl
  have q16 : w1.cell? ⟨b, 16, none⟩ = some (.int .i64 m.rn) := M0.out 16 _ rfl
  have q17 : w1.cell? ⟨b, 17, none⟩ = some (.slice m.ra m.rl m.rp) := M0.out 17 _ rfl
  have q18 : w1.cell? ⟨b, 18, none⟩ = some (.slice m.ea m.el m.ep) := M0.out 18 _ rfl
  have q19 : w1.cell? ⟨b, 19, none⟩ = some (.int .i64 m.cf) := M0.out 19 _ rfl
  have q20 : w1.cell? ⟨b, 20, none⟩ = some (.int .i64 m.cb) := M0.out 20 _ rfl
  have q21 : w1.cell? ⟨b, 21, none⟩ = some (.slice m.sa m.sl m.sp) := M0.out 21 _ rfl
  have q22 : w1.cell? ⟨b, 22, none⟩ = some (.slice m.xa m.xl m.xp) := M0.out 22 _ rfl
  have hbw : b < w1.heap.size := World.block_lt_of_cell? _ _ q0
  go_upto_region 3 with fail
  have B2 : Hid (Below w.heap.size w (w1.alloc (.cells #[.int .i64 m.ok, .string m.onm, .string m.otx, .int .i64 m.on, .int .i64 m.om] 25))) := hid (BA.out.trans ((ba w1 _).mono BA.out.size))
  have M2 : Hid (MsAt (w1.alloc (.cells #[.int .i64 m.ok, .string m.onm, .string m.otx, .int .i64 m.on, .int .i64 m.om] 25)) b m) := hid (M0.out.under (ba w1 _))
  have P2 : Hid ((w1.alloc (.cells #[.int .i64 m.ok, .string m.onm, .string m.otx, .int .i64 m.on, .int .i64 m.om] 25)).heap[w1.heap.size]? = some (.cells #[.int .i64 m.ok, .string m.onm, .string m.otx, .int .i64 m.on, .int .i64 m.om] 25 (0, 0))) := hid (heap_alloc_new _ _)
  obtain ⟨p, hp⟩ : ∃ p, Hid (w1.heap.size = p) := ⟨_, hid rfl⟩
  rw [hp.out] at P2 ⊢
  generalize w1.alloc (.cells #[.int .i64 m.ok, .string m.onm, .string m.otx, .int .i64 m.on, .int .i64 m.om] 25) = w2 at B2 M2 P2 ⊢
  clear q0 q3 q4 q5 q6 q7 q8 q9 q10 q11 q12 q13 q14 q15 q16 q17 q18 q19 q20 q21 q22 hbw BA M0
  have q3 : w2.cell? ⟨b, 3, none⟩ = some (.int .i64 m.v) := M2.out 3 _ rfl
  have q4 : w2.cell? ⟨b, 4, none⟩ = some (.int .i64 m.n) := M2.out 4 _ rfl
  have q5 : w2.cell? ⟨b, 5, none⟩ = some (.int .i64 m.c) := M2.out 5 _ rfl
  have q6 : w2.cell? ⟨b, 6, none⟩ = some (.int .i64 m.o) := M2.out 6 _ rfl
  have q7 : w2.cell? ⟨b, 7, none⟩ = some (.int .i64 m.l) := M2.out 7 _ rfl
  have q8 : w2.cell? ⟨b, 8, none⟩ = some (.int .i64 m.q) := M2.out 8 _ rfl
  have q9 : w2.cell? ⟨b, 9, none⟩ = some (.bool m.h) := M2.out 9 _ rfl
  have q15 : w2.cell? ⟨b, 15, none⟩ = some (.int .i64 m.rc) := M2.out 15 _ rfl
  have q16 : w2.cell? ⟨b, 16, none⟩ = some (.int .i64 m.rn) := M2.out 16 _ rfl
  have q17 : w2.cell? ⟨b, 17, none⟩ = some (.slice m.ra m.rl m.rp) := M2.out 17 _ rfl
  have q18 : w2.cell? ⟨b, 18, none⟩ = some (.slice m.ea m.el m.ep) := M2.out 18 _ rfl
  have q19 : w2.cell? ⟨b, 19, none⟩ = some (.int .i64 m.cf) := M2.out 19 _ rfl
  have q20 : w2.cell? ⟨b, 20, none⟩ = some (.int .i64 m.cb) := M2.out 20 _ rfl
  have q21 : w2.cell? ⟨b, 21, none⟩ = some (.slice m.sa m.sl m.sp) := M2.out 21 _ rfl
  have q22 : w2.cell? ⟨b, 22, none⟩ = some (.slice m.xa m.xl m.xp) := M2.out 22 _ rfl
  have p0 : w2.cell? ⟨p, 0, none⟩ = some (.int .i64 m.ok) := by rw [cell_at P2.out]; rfl
  have p1 : w2.cell? ⟨p, 1, none⟩ = some (.string m.onm) := by rw [cell_at P2.out]; rfl
  have p2 : w2.cell? ⟨p, 2, none⟩ = some (.string m.otx) := by rw [cell_at P2.out]; rfl
  have p3 : w2.cell? ⟨p, 3, none⟩ = some (.int .i64 m.on) := by rw [cell_at P2.out]; rfl
  have p4 : w2.cell? ⟨p, 4, none⟩ = some (.int .i64 m.om) := by rw [cell_at P2.out]; rfl
  have hbw : b < w2.heap.size := World.block_lt_of_cell? _ _ q3
  clear HK M2 P2
  go_upto_region 3 with fail
  go_cut [47] (fun v wx => v = .bool O3 ∧ wx = w2)
  case first =>
    by_cases c75 : m.o = 0
    rotate_left
    · have L : Hid ((m.o == 0) = false) := hid (by simpa using c75)
      have e75 : (m.o != 0) = true := by simpa using c75
      clear c75
      have F : Hid (O3 = true) := hid (by rw [← h3.out, L.out] <;> rfl)
      clear h3 L
      go_wp2_with (first | (go_at_call 37; refine (H37.out _).mono ?_; rintro e w' ⟨rfl, hw'⟩; subst w') | (go_at_call 46; refine (H46.out _).mono ?_; rintro e w' ⟨rfl, hw'⟩; subst w') | (go_at_call 47; refine (H47.out _).mono ?_; rintro e w' ⟨rfl, hw'⟩; subst w') | (go_at_call 48; refine (H48.out _).mono ?_; rintro e w' ⟨rfl, hw'⟩; subst w') | (go_at_call 49; refine (H49.out _).mono ?_; rintro e w' ⟨rfl, hw'⟩; subst w') | (go_at_call 50; refine (H50.out _).mono ?_; rintro e w' ⟨rfl, hw'⟩; subst w') | (go_at_call 51; refine (H51.out _).mono ?_; rintro e w' ⟨rfl, hw'⟩; subst w') | (go_at_call 57; refine (H57.out _).mono ?_; rintro e w' ⟨rfl, hw'⟩; subst w') | (go_at_call 53; refine (H53.out _).mono ?_; rintro e w' ⟨rfl, hw'⟩; subst w') | (go_at_call 55; refine (H55.out _).mono ?_; rintro e w' ⟨rfl, hw'⟩; subst w') | (go_at_call 58; refine (H58.out _).mono ?_; rintro e w' ⟨rfl, hw'⟩; subst w'))
      go_meet
      exact ⟨by rw [F.out], rfl⟩
    have e75 : (m.o != 0) = false := by simpa using c75
    have LN : Hid ((m.o == 0) = true) := hid (by simpa using c75)
    clear c75
    have F : Hid (O3 = false) := hid (by rw [← h3.out, LN.out] <;> rfl)
    clear h3
    go_wp2_with (first | (go_at_call 37; refine (H37.out _).mono ?_; rintro e w' ⟨rfl, hw'⟩; subst w') | (go_at_call 46; refine (H46.out _).mono ?_; rintro e w' ⟨rfl, hw'⟩; subst w') | (go_at_call 47; refine (H47.out _).mono ?_; rintro e w' ⟨rfl, hw'⟩; subst w') | (go_at_call 48; refine (H48.out _).mono ?_; rintro e w' ⟨rfl, hw'⟩; subst w') | (go_at_call 49; refine (H49.out _).mono ?_; rintro e w' ⟨rfl, hw'⟩; subst w') | (go_at_call 50; refine (H50.out _).mono ?_; rintro e w' ⟨rfl, hw'⟩; subst w') | (go_at_call 51; refine (H51.out _).mono ?_; rintro e w' ⟨rfl, hw'⟩; subst w') | (go_at_call 57; refine (H57.out _).mono ?_; rintro e w' ⟨rfl, hw'⟩; subst w') | (go_at_call 53; refine (H53.out _).mono ?_; rintro e w' ⟨rfl, hw'⟩; subst w') | (go_at_call 55; refine (H55.out _).mono ?_; rintro e w' ⟨rfl, hw'⟩; subst w') | (go_at_call 58; refine (H58.out _).mono ?_; rintro e w' ⟨rfl, hw'⟩; subst w'))
    go_meet
    exact ⟨by rw [F.out], rfl⟩
  obtain ⟨rfl, hwc⟩ := hcut
  subst wc
  cases O3 with
  | true =>
    go_wp2
    go_ret
    exact ⟨by simp, B2.out⟩
  | false =>
  go_upto_region 5 with fail
  go_cut [85] (fun v wx => v = .bool O5 ∧ wx = w2)
  case first =>
    by_cases c76 : m.l = 0
    rotate_left
    · have L : Hid ((m.l == 0) = false) := hid (by simpa using c76)
      have e76 : (m.l != 0) = true := by simpa using c76
      clear c76
      have F : Hid (O5 = true) := hid (by rw [← h5.out, L.out] <;> rfl)
      clear h5 L
      go_wp2_with (first | (go_at_call 37; refine (H37.out _).mono ?_; rintro e w' ⟨rfl, hw'⟩; subst w') | (go_at_call 46; refine (H46.out _).mono ?_; rintro e w' ⟨rfl, hw'⟩; subst w') | (go_at_call 47; refine (H47.out _).mono ?_; rintro e w' ⟨rfl, hw'⟩; subst w') | (go_at_call 48; refine (H48.out _).mono ?_; rintro e w' ⟨rfl, hw'⟩; subst w') | (go_at_call 49; refine (H49.out _).mono ?_; rintro e w' ⟨rfl, hw'⟩; subst w') | (go_at_call 50; refine (H50.out _).mono ?_; rintro e w' ⟨rfl, hw'⟩; subst w') | (go_at_call 51; refine (H51.out _).mono ?_; rintro e w' ⟨rfl, hw'⟩; subst w') | (go_at_call 57; refine (H57.out _).mono ?_; rintro e w' ⟨rfl, hw'⟩; subst w') | (go_at_call 53; refine (H53.out _).mono ?_; rintro e w' ⟨rfl, hw'⟩; subst w') | (go_at_call 55; refine (H55.out _).mono ?_; rintro e w' ⟨rfl, hw'⟩; subst w') | (go_at_call 58; refine (H58.out _).mono ?_; rintro e w' ⟨rfl, hw'⟩; subst w'))
      go_meet
      exact ⟨by rw [F.out], rfl⟩
    have e76 : (m.l != 0) = false := by simpa using c76
    have LL : Hid ((m.l == 0) = true) := hid (by simpa using c76)
    clear c76
    by_cases c77 : m.q = 0
    rotate_left
    · have L : Hid ((m.q == 0) = false) := hid (by simpa using c77)
      have e77 : (m.q != 0) = true := by simpa using c77
      clear c77
      have F : Hid (O5 = true) := hid (by rw [← h5.out, LL.out, L.out] <;> rfl)
      clear h5 L
      go_wp2_with (first | (go_at_call 37; refine (H37.out _).mono ?_; rintro e w' ⟨rfl, hw'⟩; subst w') | (go_at_call 46; refine (H46.out _).mono ?_; rintro e w' ⟨rfl, hw'⟩; subst w') | (go_at_call 47; refine (H47.out _).mono ?_; rintro e w' ⟨rfl, hw'⟩; subst w') | (go_at_call 48; refine (H48.out _).mono ?_; rintro e w' ⟨rfl, hw'⟩; subst w') | (go_at_call 49; refine (H49.out _).mono ?_; rintro e w' ⟨rfl, hw'⟩; subst w') | (go_at_call 50; refine (H50.out _).mono ?_; rintro e w' ⟨rfl, hw'⟩; subst w') | (go_at_call 51; refine (H51.out _).mono ?_; rintro e w' ⟨rfl, hw'⟩; subst w') | (go_at_call 57; refine (H57.out _).mono ?_; rintro e w' ⟨rfl, hw'⟩; subst w') | (go_at_call 53; refine (H53.out _).mono ?_; rintro e w' ⟨rfl, hw'⟩; subst w') | (go_at_call 55; refine (H55.out _).mono ?_; rintro e w' ⟨rfl, hw'⟩; subst w') | (go_at_call 58; refine (H58.out _).mono ?_; rintro e w' ⟨rfl, hw'⟩; subst w'))
      go_meet
      exact ⟨by rw [F.out], rfl⟩
    have e77 : (m.q != 0) = false := by simpa using c77
    have LQ : Hid ((m.q == 0) = true) := hid (by simpa using c77)
    clear c77
    cases hh : m.h with
    | true =>
      rw [hh] at q9 h5
      have L : Hid ((!true) = false) := hid rfl
      clear hh
      have F : Hid (O5 = true) := hid (by rw [← h5.out, LL.out, LQ.out] <;> rfl)
      clear h5 L
      go_wp2_with (first | (go_at_call 37; refine (H37.out _).mono ?_; rintro e w' ⟨rfl, hw'⟩; subst w') | (go_at_call 46; refine (H46.out _).mono ?_; rintro e w' ⟨rfl, hw'⟩; subst w') | (go_at_call 47; refine (H47.out _).mono ?_; rintro e w' ⟨rfl, hw'⟩; subst w') | (go_at_call 48; refine (H48.out _).mono ?_; rintro e w' ⟨rfl, hw'⟩; subst w') | (go_at_call 49; refine (H49.out _).mono ?_; rintro e w' ⟨rfl, hw'⟩; subst w') | (go_at_call 50; refine (H50.out _).mono ?_; rintro e w' ⟨rfl, hw'⟩; subst w') | (go_at_call 51; refine (H51.out _).mono ?_; rintro e w' ⟨rfl, hw'⟩; subst w') | (go_at_call 57; refine (H57.out _).mono ?_; rintro e w' ⟨rfl, hw'⟩; subst w') | (go_at_call 53; refine (H53.out _).mono ?_; rintro e w' ⟨rfl, hw'⟩; subst w') | (go_at_call 55; refine (H55.out _).mono ?_; rintro e w' ⟨rfl, hw'⟩; subst w') | (go_at_call 58; refine (H58.out _).mono ?_; rintro e w' ⟨rfl, hw'⟩; subst w'))
      go_meet
      exact ⟨by rw [F.out], rfl⟩
    | false =>
      rw [hh] at q9 h5
      clear hh
      by_cases c78 : m.el = 0
      rotate_left
      · have L : Hid (((m.el : Int) == 0) = false) := hid (by simp; omega)
        have e78 : decide (0 < (m.el : Int)) = true := by simp; omega
        have f78 : decide (0 < (m.el)) = true := by simp; omega
        clear c78
        have F : Hid (O5 = true) := hid (by rw [← h5.out, LL.out, LQ.out, L.out] <;> rfl)
        clear h5 L
        go_wp2_with (first | (go_at_call 37; refine (H37.out _).mono ?_; rintro e w' ⟨rfl, hw'⟩; subst w') | (go_at_call 46; refine (H46.out _).mono ?_; rintro e w' ⟨rfl, hw'⟩; subst w') | (go_at_call 47; refine (H47.out _).mono ?_; rintro e w' ⟨rfl, hw'⟩; subst w') | (go_at_call 48; refine (H48.out _).mono ?_; rintro e w' ⟨rfl, hw'⟩; subst w') | (go_at_call 49; refine (H49.out _).mono ?_; rintro e w' ⟨rfl, hw'⟩; subst w') | (go_at_call 50; refine (H50.out _).mono ?_; rintro e w' ⟨rfl, hw'⟩; subst w') | (go_at_call 51; refine (H51.out _).mono ?_; rintro e w' ⟨rfl, hw'⟩; subst w') | (go_at_call 57; refine (H57.out _).mono ?_; rintro e w' ⟨rfl, hw'⟩; subst w') | (go_at_call 53; refine (H53.out _).mono ?_; rintro e w' ⟨rfl, hw'⟩; subst w') | (go_at_call 55; refine (H55.out _).mono ?_; rintro e w' ⟨rfl, hw'⟩; subst w') | (go_at_call 58; refine (H58.out _).mono ?_; rintro e w' ⟨rfl, hw'⟩; subst w'))
        go_meet
        exact ⟨by rw [F.out], rfl⟩
      have e78 : decide (0 < (m.el : Int)) = false := by simp; omega
      have f78 : decide (0 < (m.el)) = false := by simp; omega
      have LE : Hid (((m.el : Int) == 0) = true) := hid (by simp; omega)
      clear c78
      have F : Hid (O5 = false) := hid (by rw [← h5.out, LL.out, LQ.out, LE.out] <;> rfl)
      clear h5
      go_wp2_with (first | (go_at_call 37; refine (H37.out _).mono ?_; rintro e w' ⟨rfl, hw'⟩; subst w') | (go_at_call 46; refine (H46.out _).mono ?_; rintro e w' ⟨rfl, hw'⟩; subst w') | (go_at_call 47; refine (H47.out _).mono ?_; rintro e w' ⟨rfl, hw'⟩; subst w') | (go_at_call 48; refine (H48.out _).mono ?_; rintro e w' ⟨rfl, hw'⟩; subst w') | (go_at_call 49; refine (H49.out _).mono ?_; rintro e w' ⟨rfl, hw'⟩; subst w') | (go_at_call 50; refine (H50.out _).mono ?_; rintro e w' ⟨rfl, hw'⟩; subst w') | (go_at_call 51; refine (H51.out _).mono ?_; rintro e w' ⟨rfl, hw'⟩; subst w') | (go_at_call 57; refine (H57.out _).mono ?_; rintro e w' ⟨rfl, hw'⟩; subst w') | (go_at_call 53; refine (H53.out _).mono ?_; rintro e w' ⟨rfl, hw'⟩; subst w') | (go_at_call 55; refine (H55.out _).mono ?_; rintro e w' ⟨rfl, hw'⟩; subst w') | (go_at_call 58; refine (H58.out _).mono ?_; rintro e w' ⟨rfl, hw'⟩; subst w'))
      go_meet
      exact ⟨by rw [F.out], rfl⟩
  obtain ⟨rfl, hwc⟩ := hcut
  subst wc
  cases O5 with
  | true =>
    go_wp2
    go_ret
    exact ⟨by simp, B2.out⟩
  | false =>
  go_upto_region 7 with fail
  go_cut [113] (fun v wx => v = .bool O7 ∧ wx = w2)
  case first =>
    by_cases c79 : m.ok = 0
    rotate_left
    · have L : Hid (m.zO = false) := hid (by simp [Ms.zO, c79])
      have e79 : (m.ok != 0) = true := by simpa using c79
      clear c79
      have F : Hid (O7 = true) := hid (by rw [← h7.out, L.out] <;> rfl)
      clear h7 L
      go_wp2_with (first | (go_at_call 37; refine (H37.out _).mono ?_; rintro e w' ⟨rfl, hw'⟩; subst w') | (go_at_call 46; refine (H46.out _).mono ?_; rintro e w' ⟨rfl, hw'⟩; subst w') | (go_at_call 47; refine (H47.out _).mono ?_; rintro e w' ⟨rfl, hw'⟩; subst w') | (go_at_call 48; refine (H48.out _).mono ?_; rintro e w' ⟨rfl, hw'⟩; subst w') | (go_at_call 49; refine (H49.out _).mono ?_; rintro e w' ⟨rfl, hw'⟩; subst w') | (go_at_call 50; refine (H50.out _).mono ?_; rintro e w' ⟨rfl, hw'⟩; subst w') | (go_at_call 51; refine (H51.out _).mono ?_; rintro e w' ⟨rfl, hw'⟩; subst w') | (go_at_call 57; refine (H57.out _).mono ?_; rintro e w' ⟨rfl, hw'⟩; subst w') | (go_at_call 53; refine (H53.out _).mono ?_; rintro e w' ⟨rfl, hw'⟩; subst w') | (go_at_call 55; refine (H55.out _).mono ?_; rintro e w' ⟨rfl, hw'⟩; subst w') | (go_at_call 58; refine (H58.out _).mono ?_; rintro e w' ⟨rfl, hw'⟩; subst w'))
      go_meet
      exact ⟨by rw [F.out], rfl⟩
    have e79 : (m.ok != 0) = false := by simpa using c79
    by_cases c80 : m.onm.toList = []
    rotate_left
    · have L : Hid (m.zO = false) := hid (by simp [Ms.zO, c80])
      have e80 : ¬ (m.onm.toList = []) := c80
      clear c79 c80
      have F : Hid (O7 = true) := hid (by rw [← h7.out, L.out] <;> rfl)
      clear h7 L
      go_wp2_with (first | (go_at_call 37; refine (H37.out _).mono ?_; rintro e w' ⟨rfl, hw'⟩; subst w') | (go_at_call 46; refine (H46.out _).mono ?_; rintro e w' ⟨rfl, hw'⟩; subst w') | (go_at_call 47; refine (H47.out _).mono ?_; rintro e w' ⟨rfl, hw'⟩; subst w') | (go_at_call 48; refine (H48.out _).mono ?_; rintro e w' ⟨rfl, hw'⟩; subst w') | (go_at_call 49; refine (H49.out _).mono ?_; rintro e w' ⟨rfl, hw'⟩; subst w') | (go_at_call 50; refine (H50.out _).mono ?_; rintro e w' ⟨rfl, hw'⟩; subst w') | (go_at_call 51; refine (H51.out _).mono ?_; rintro e w' ⟨rfl, hw'⟩; subst w') | (go_at_call 57; refine (H57.out _).mono ?_; rintro e w' ⟨rfl, hw'⟩; subst w') | (go_at_call 53; refine (H53.out _).mono ?_; rintro e w' ⟨rfl, hw'⟩; subst w') | (go_at_call 55; refine (H55.out _).mono ?_; rintro e w' ⟨rfl, hw'⟩; subst w') | (go_at_call 58; refine (H58.out _).mono ?_; rintro e w' ⟨rfl, hw'⟩; subst w'))
      go_meet
      exact ⟨by rw [F.out], rfl⟩
    have e80 : m.onm.toList = [] := c80
    by_cases c81 : m.otx.toList = []
    rotate_left
    · have L : Hid (m.zO = false) := hid (by simp [Ms.zO, c81])
      have e81 : ¬ (m.otx.toList = []) := c81
      clear c79 c80 c81
      have F : Hid (O7 = true) := hid (by rw [← h7.out, L.out] <;> rfl)
      clear h7 L
      go_wp2_with (first | (go_at_call 37; refine (H37.out _).mono ?_; rintro e w' ⟨rfl, hw'⟩; subst w') | (go_at_call 46; refine (H46.out _).mono ?_; rintro e w' ⟨rfl, hw'⟩; subst w') | (go_at_call 47; refine (H47.out _).mono ?_; rintro e w' ⟨rfl, hw'⟩; subst w') | (go_at_call 48; refine (H48.out _).mono ?_; rintro e w' ⟨rfl, hw'⟩; subst w') | (go_at_call 49; refine (H49.out _).mono ?_; rintro e w' ⟨rfl, hw'⟩; subst w') | (go_at_call 50; refine (H50.out _).mono ?_; rintro e w' ⟨rfl, hw'⟩; subst w') | (go_at_call 51; refine (H51.out _).mono ?_; rintro e w' ⟨rfl, hw'⟩; subst w') | (go_at_call 57; refine (H57.out _).mono ?_; rintro e w' ⟨rfl, hw'⟩; subst w') | (go_at_call 53; refine (H53.out _).mono ?_; rintro e w' ⟨rfl, hw'⟩; subst w') | (go_at_call 55; refine (H55.out _).mono ?_; rintro e w' ⟨rfl, hw'⟩; subst w') | (go_at_call 58; refine (H58.out _).mono ?_; rintro e w' ⟨rfl, hw'⟩; subst w'))
      go_meet
      exact ⟨by rw [F.out], rfl⟩
    have e81 : m.otx.toList = [] := c81
    by_cases c82 : m.on = 0
    rotate_left
    · have L : Hid (m.zO = false) := hid (by simp [Ms.zO, c82])
      have e82 : (m.on != 0) = true := by simpa using c82
      clear c79 c80 c81 c82
      have F : Hid (O7 = true) := hid (by rw [← h7.out, L.out] <;> rfl)
      clear h7 L
      go_wp2_with (first | (go_at_call 37; refine (H37.out _).mono ?_; rintro e w' ⟨rfl, hw'⟩; subst w') | (go_at_call 46; refine (H46.out _).mono ?_; rintro e w' ⟨rfl, hw'⟩; subst w') | (go_at_call 47; refine (H47.out _).mono ?_; rintro e w' ⟨rfl, hw'⟩; subst w') | (go_at_call 48; refine (H48.out _).mono ?_; rintro e w' ⟨rfl, hw'⟩; subst w') | (go_at_call 49; refine (H49.out _).mono ?_; rintro e w' ⟨rfl, hw'⟩; subst w') | (go_at_call 50; refine (H50.out _).mono ?_; rintro e w' ⟨rfl, hw'⟩; subst w') | (go_at_call 51; refine (H51.out _).mono ?_; rintro e w' ⟨rfl, hw'⟩; subst w') | (go_at_call 57; refine (H57.out _).mono ?_; rintro e w' ⟨rfl, hw'⟩; subst w') | (go_at_call 53; refine (H53.out _).mono ?_; rintro e w' ⟨rfl, hw'⟩; subst w') | (go_at_call 55; refine (H55.out _).mono ?_; rintro e w' ⟨rfl, hw'⟩; subst w') | (go_at_call 58; refine (H58.out _).mono ?_; rintro e w' ⟨rfl, hw'⟩; subst w'))
      go_meet
      exact ⟨by rw [F.out], rfl⟩
    have e82 : (m.on != 0) = false := by simpa using c82
    by_cases c83 : m.om = 0
    rotate_left
    · have L : Hid (m.zO = false) := hid (by simp [Ms.zO, c83])
      have e83 : (m.om != 0) = true := by simpa using c83
      clear c79 c80 c81 c82 c83
      have F : Hid (O7 = true) := hid (by rw [← h7.out, L.out] <;> rfl)
      clear h7 L
      go_wp2_with (first | (go_at_call 37; refine (H37.out _).mono ?_; rintro e w' ⟨rfl, hw'⟩; subst w') | (go_at_call 46; refine (H46.out _).mono ?_; rintro e w' ⟨rfl, hw'⟩; subst w') | (go_at_call 47; refine (H47.out _).mono ?_; rintro e w' ⟨rfl, hw'⟩; subst w') | (go_at_call 48; refine (H48.out _).mono ?_; rintro e w' ⟨rfl, hw'⟩; subst w') | (go_at_call 49; refine (H49.out _).mono ?_; rintro e w' ⟨rfl, hw'⟩; subst w') | (go_at_call 50; refine (H50.out _).mono ?_; rintro e w' ⟨rfl, hw'⟩; subst w') | (go_at_call 51; refine (H51.out _).mono ?_; rintro e w' ⟨rfl, hw'⟩; subst w') | (go_at_call 57; refine (H57.out _).mono ?_; rintro e w' ⟨rfl, hw'⟩; subst w') | (go_at_call 53; refine (H53.out _).mono ?_; rintro e w' ⟨rfl, hw'⟩; subst w') | (go_at_call 55; refine (H55.out _).mono ?_; rintro e w' ⟨rfl, hw'⟩; subst w') | (go_at_call 58; refine (H58.out _).mono ?_; rintro e w' ⟨rfl, hw'⟩; subst w'))
      go_meet
      exact ⟨by rw [F.out], rfl⟩
    have e83 : (m.om != 0) = false := by simpa using c83
    have LO : Hid (m.zO = true) := hid (by simp [Ms.zO, c79, c80, c81, c82, c83])
    clear c79 c80 c81 c82 c83
    have F : Hid (O7 = false) := hid (by rw [← h7.out, LO.out] <;> rfl)
    clear h7
    go_wp2_with (first | (go_at_call 37; refine (H37.out _).mono ?_; rintro e w' ⟨rfl, hw'⟩; subst w') | (go_at_call 46; refine (H46.out _).mono ?_; rintro e w' ⟨rfl, hw'⟩; subst w') | (go_at_call 47; refine (H47.out _).mono ?_; rintro e w' ⟨rfl, hw'⟩; subst w') | (go_at_call 48; refine (H48.out _).mono ?_; rintro e w' ⟨rfl, hw'⟩; subst w') | (go_at_call 49; refine (H49.out _).mono ?_; rintro e w' ⟨rfl, hw'⟩; subst w') | (go_at_call 50; refine (H50.out _).mono ?_; rintro e w' ⟨rfl, hw'⟩; subst w') | (go_at_call 51; refine (H51.out _).mono ?_; rintro e w' ⟨rfl, hw'⟩; subst w') | (go_at_call 57; refine (H57.out _).mono ?_; rintro e w' ⟨rfl, hw'⟩; subst w') | (go_at_call 53; refine (H53.out _).mono ?_; rintro e w' ⟨rfl, hw'⟩; subst w') | (go_at_call 55; refine (H55.out _).mono ?_; rintro e w' ⟨rfl, hw'⟩; subst w') | (go_at_call 58; refine (H58.out _).mono ?_; rintro e w' ⟨rfl, hw'⟩; subst w'))
    go_meet
    exact ⟨by rw [F.out], rfl⟩
  obtain ⟨rfl, hwc⟩ := hcut
  subst wc
  cases O7 with
  | true =>
    go_wp2
    go_ret
    exact ⟨by simp, B2.out⟩
  | false =>
  go_upto_region 9 with fail
  go_cut [135] (fun v wx => v = .bool O9 ∧ wx = w2)
  case first =>
    by_cases c84 : m.rc = 0
    rotate_left
    · have L : Hid (m.zR = false) := hid (by simp [Ms.zR, c84])
      have e84 : (m.rc != 0) = true := by simpa using c84
      clear c84
      have F : Hid (O9 = true) := hid (by rw [← h9.out, L.out] <;> rfl)
      clear h9 L
      go_wp2_with (first | (go_at_call 37; refine (H37.out _).mono ?_; rintro e w' ⟨rfl, hw'⟩; subst w') | (go_at_call 46; refine (H46.out _).mono ?_; rintro e w' ⟨rfl, hw'⟩; subst w') | (go_at_call 47; refine (H47.out _).mono ?_; rintro e w' ⟨rfl, hw'⟩; subst w') | (go_at_call 48; refine (H48.out _).mono ?_; rintro e w' ⟨rfl, hw'⟩; subst w') | (go_at_call 49; refine (H49.out _).mono ?_; rintro e w' ⟨rfl, hw'⟩; subst w') | (go_at_call 50; refine (H50.out _).mono ?_; rintro e w' ⟨rfl, hw'⟩; subst w') | (go_at_call 51; refine (H51.out _).mono ?_; rintro e w' ⟨rfl, hw'⟩; subst w') | (go_at_call 57; refine (H57.out _).mono ?_; rintro e w' ⟨rfl, hw'⟩; subst w') | (go_at_call 53; refine (H53.out _).mono ?_; rintro e w' ⟨rfl, hw'⟩; subst w') | (go_at_call 55; refine (H55.out _).mono ?_; rintro e w' ⟨rfl, hw'⟩; subst w') | (go_at_call 58; refine (H58.out _).mono ?_; rintro e w' ⟨rfl, hw'⟩; subst w'))
      go_meet
      exact ⟨by rw [F.out], rfl⟩
    have e84 : (m.rc != 0) = false := by simpa using c84
    by_cases c85 : m.rn = 0
    rotate_left
    · have L : Hid (m.zR = false) := hid (by simp [Ms.zR, c85])
      have e85 : (m.rn != 0) = true := by simpa using c85
      clear c84 c85
      have F : Hid (O9 = true) := hid (by rw [← h9.out, L.out] <;> rfl)
      clear h9 L
      go_wp2_with (first | (go_at_call 37; refine (H37.out _).mono ?_; rintro e w' ⟨rfl, hw'⟩; subst w') | (go_at_call 46; refine (H46.out _).mono ?_; rintro e w' ⟨rfl, hw'⟩; subst w') | (go_at_call 47; refine (H47.out _).mono ?_; rintro e w' ⟨rfl, hw'⟩; subst w') | (go_at_call 48; refine (H48.out _).mono ?_; rintro e w' ⟨rfl, hw'⟩; subst w') | (go_at_call 49; refine (H49.out _).mono ?_; rintro e w' ⟨rfl, hw'⟩; subst w') | (go_at_call 50; refine (H50.out _).mono ?_; rintro e w' ⟨rfl, hw'⟩; subst w') | (go_at_call 51; refine (H51.out _).mono ?_; rintro e w' ⟨rfl, hw'⟩; subst w') | (go_at_call 57; refine (H57.out _).mono ?_; rintro e w' ⟨rfl, hw'⟩; subst w') | (go_at_call 53; refine (H53.out _).mono ?_; rintro e w' ⟨rfl, hw'⟩; subst w') | (go_at_call 55; refine (H55.out _).mono ?_; rintro e w' ⟨rfl, hw'⟩; subst w') | (go_at_call 58; refine (H58.out _).mono ?_; rintro e w' ⟨rfl, hw'⟩; subst w'))
      go_meet
      exact ⟨by rw [F.out], rfl⟩
    have e85 : (m.rn != 0) = false := by simpa using c85
    by_cases c86 : m.rl = 0
    rotate_left
    · have L : Hid (m.zR = false) := hid (by simp [Ms.zR, c86])
      have e86 : decide (0 < (m.rl : Int)) = true := by simp; omega
      have f86 : decide (0 < (m.rl)) = true := by simp; omega
      clear c84 c85 c86
      have F : Hid (O9 = true) := hid (by rw [← h9.out, L.out] <;> rfl)
      clear h9 L
      go_wp2_with (first | (go_at_call 37; refine (H37.out _).mono ?_; rintro e w' ⟨rfl, hw'⟩; subst w') | (go_at_call 46; refine (H46.out _).mono ?_; rintro e w' ⟨rfl, hw'⟩; subst w') | (go_at_call 47; refine (H47.out _).mono ?_; rintro e w' ⟨rfl, hw'⟩; subst w') | (go_at_call 48; refine (H48.out _).mono ?_; rintro e w' ⟨rfl, hw'⟩; subst w') | (go_at_call 49; refine (H49.out _).mono ?_; rintro e w' ⟨rfl, hw'⟩; subst w') | (go_at_call 50; refine (H50.out _).mono ?_; rintro e w' ⟨rfl, hw'⟩; subst w') | (go_at_call 51; refine (H51.out _).mono ?_; rintro e w' ⟨rfl, hw'⟩; subst w') | (go_at_call 57; refine (H57.out _).mono ?_; rintro e w' ⟨rfl, hw'⟩; subst w') | (go_at_call 53; refine (H53.out _).mono ?_; rintro e w' ⟨rfl, hw'⟩; subst w') | (go_at_call 55; refine (H55.out _).mono ?_; rintro e w' ⟨rfl, hw'⟩; subst w') | (go_at_call 58; refine (H58.out _).mono ?_; rintro e w' ⟨rfl, hw'⟩; subst w'))
      go_meet
      exact ⟨by rw [F.out], rfl⟩
    have e86 : decide (0 < (m.rl : Int)) = false := by simp; omega
    have f86 : decide (0 < (m.rl)) = false := by simp; omega
    have LR : Hid (m.zR = true) := hid (by simp [Ms.zR, c84, c85, c86])
    clear c84 c85 c86
    have F : Hid (O9 = false) := hid (by rw [← h9.out, LR.out] <;> rfl)
    clear h9
    go_wp2_with (first | (go_at_call 37; refine (H37.out _).mono ?_; rintro e w' ⟨rfl, hw'⟩; subst w') | (go_at_call 46; refine (H46.out _).mono ?_; rintro e w' ⟨rfl, hw'⟩; subst w') | (go_at_call 47; refine (H47.out _).mono ?_; rintro e w' ⟨rfl, hw'⟩; subst w') | (go_at_call 48; refine (H48.out _).mono ?_; rintro e w' ⟨rfl, hw'⟩; subst w') | (go_at_call 49; refine (H49.out _).mono ?_; rintro e w' ⟨rfl, hw'⟩; subst w') | (go_at_call 50; refine (H50.out _).mono ?_; rintro e w' ⟨rfl, hw'⟩; subst w') | (go_at_call 51; refine (H51.out _).mono ?_; rintro e w' ⟨rfl, hw'⟩; subst w') | (go_at_call 57; refine (H57.out _).mono ?_; rintro e w' ⟨rfl, hw'⟩; subst w') | (go_at_call 53; refine (H53.out _).mono ?_; rintro e w' ⟨rfl, hw'⟩; subst w') | (go_at_call 55; refine (H55.out _).mono ?_; rintro e w' ⟨rfl, hw'⟩; subst w') | (go_at_call 58; refine (H58.out _).mono ?_; rintro e w' ⟨rfl, hw'⟩; subst w'))
    go_meet
    exact ⟨by rw [F.out], rfl⟩
  obtain ⟨rfl, hwc⟩ := hcut
  subst wc
  cases O9 with
  | true =>
    go_wp2
    go_ret
    exact ⟨by simp, B2.out⟩
  | false =>
  go_upto_region 12 with fail
  have B3 : Hid (Below w.heap.size w (w2.alloc (.cells #[.int .i64 m.cf, .int .i64 m.cb, .slice m.sa m.sl m.sp, .slice m.xa m.xl m.xp] 32))) := hid (B2.out.trans ((ba w2 _).mono B2.out.size))
  have P3 : Hid ((w2.alloc (.cells #[.int .i64 m.cf, .int .i64 m.cb, .slice m.sa m.sl m.sp, .slice m.xa m.xl m.xp] 32)).heap[w2.heap.size]? = some (.cells #[.int .i64 m.cf, .int .i64 m.cb, .slice m.sa m.sl m.sp, .slice m.xa m.xl m.xp] 32 (0, 0))) := hid (heap_alloc_new _ _)
  have Q9 : Hid ((w2.alloc (.cells #[.int .i64 m.cf, .int .i64 m.cb, .slice m.sa m.sl m.sp, .slice m.xa m.xl m.xp] 32)).cell? ⟨b, 9, none⟩ = some (.bool m.h)) := hid (cell_under (ba w2 _) hbw q9)
  obtain ⟨s, hs⟩ : ∃ s, Hid (w2.heap.size = s) := ⟨_, hid rfl⟩
  rw [hs.out] at P3 ⊢
  generalize w2.alloc (.cells #[.int .i64 m.cf, .int .i64 m.cb, .slice m.sa m.sl m.sp, .slice m.xa m.xl m.xp] 32) = w3 at B3 P3 Q9 ⊢
  clear p0 p1 p2 p3 p4 hbw q3 q4 q5 q6 q7 q8 q9 q15 q16 q17 q18 q19 q20 q21 q22
  have q9 := Q9.out
  have p0 : w3.cell? ⟨s, 0, none⟩ = some (.int .i64 m.cf) := by rw [cell_at P3.out]; rfl
  have p1 : w3.cell? ⟨s, 1, none⟩ = some (.int .i64 m.cb) := by rw [cell_at P3.out]; rfl
  have p2 : w3.cell? ⟨s, 2, none⟩ = some (.slice m.sa m.sl m.sp) := by rw [cell_at P3.out]; rfl
  have p3 : w3.cell? ⟨s, 3, none⟩ = some (.slice m.xa m.xl m.xp) := by rw [cell_at P3.out]; rfl
  by_cases c87 : m.cf = 0
  rotate_left
  · have L : Hid (m.zG = false) := hid (by simp [Ms.zG, c87])
    have e87 : (m.cf != 0) = true := by simpa using c87
    clear c87
    have F : Hid (O12 = true) := hid (by rw [← h12.out, L.out] <;> rfl)
    clear h12 L
    go_wp2_with (first | (go_at_call 37; refine (H37.out _).mono ?_; rintro e w' ⟨rfl, hw'⟩; subst w') | (go_at_call 46; refine (H46.out _).mono ?_; rintro e w' ⟨rfl, hw'⟩; subst w') | (go_at_call 47; refine (H47.out _).mono ?_; rintro e w' ⟨rfl, hw'⟩; subst w') | (go_at_call 48; refine (H48.out _).mono ?_; rintro e w' ⟨rfl, hw'⟩; subst w') | (go_at_call 49; refine (H49.out _).mono ?_; rintro e w' ⟨rfl, hw'⟩; subst w') | (go_at_call 50; refine (H50.out _).mono ?_; rintro e w' ⟨rfl, hw'⟩; subst w') | (go_at_call 51; refine (H51.out _).mono ?_; rintro e w' ⟨rfl, hw'⟩; subst w') | (go_at_call 57; refine (H57.out _).mono ?_; rintro e w' ⟨rfl, hw'⟩; subst w') | (go_at_call 53; refine (H53.out _).mono ?_; rintro e w' ⟨rfl, hw'⟩; subst w') | (go_at_call 55; refine (H55.out _).mono ?_; rintro e w' ⟨rfl, hw'⟩; subst w') | (go_at_call 58; refine (H58.out _).mono ?_; rintro e w' ⟨rfl, hw'⟩; subst w'))
    go_ret
    exact ⟨by rw [F.out]; rfl, B3.out⟩
  have e87 : (m.cf != 0) = false := by simpa using c87
  by_cases c88 : m.cb = 0
  rotate_left
  · have L : Hid (m.zG = false) := hid (by simp [Ms.zG, c88])
    have e88 : (m.cb != 0) = true := by simpa using c88
    clear c87 c88
    have F : Hid (O12 = true) := hid (by rw [← h12.out, L.out] <;> rfl)
    clear h12 L
    go_wp2_with (first | (go_at_call 37; refine (H37.out _).mono ?_; rintro e w' ⟨rfl, hw'⟩; subst w') | (go_at_call 46; refine (H46.out _).mono ?_; rintro e w' ⟨rfl, hw'⟩; subst w') | (go_at_call 47; refine (H47.out _).mono ?_; rintro e w' ⟨rfl, hw'⟩; subst w') | (go_at_call 48; refine (H48.out _).mono ?_; rintro e w' ⟨rfl, hw'⟩; subst w') | (go_at_call 49; refine (H49.out _).mono ?_; rintro e w' ⟨rfl, hw'⟩; subst w') | (go_at_call 50; refine (H50.out _).mono ?_; rintro e w' ⟨rfl, hw'⟩; subst w') | (go_at_call 51; refine (H51.out _).mono ?_; rintro e w' ⟨rfl, hw'⟩; subst w') | (go_at_call 57; refine (H57.out _).mono ?_; rintro e w' ⟨rfl, hw'⟩; subst w') | (go_at_call 53; refine (H53.out _).mono ?_; rintro e w' ⟨rfl, hw'⟩; subst w') | (go_at_call 55; refine (H55.out _).mono ?_; rintro e w' ⟨rfl, hw'⟩; subst w') | (go_at_call 58; refine (H58.out _).mono ?_; rintro e w' ⟨rfl, hw'⟩; subst w'))
    go_ret
    exact ⟨by rw [F.out]; rfl, B3.out⟩
  have e88 : (m.cb != 0) = false := by simpa using c88
  by_cases c89 : m.sl = 0
  rotate_left
  · have L : Hid (m.zG = false) := hid (by simp [Ms.zG, c89])
    have e89 : decide (0 < (m.sl : Int)) = true := by simp; omega
    have f89 : decide (0 < (m.sl)) = true := by simp; omega
    clear c87 c88 c89
    have F : Hid (O12 = true) := hid (by rw [← h12.out, L.out] <;> rfl)
    clear h12 L
    go_wp2_with (first | (go_at_call 37; refine (H37.out _).mono ?_; rintro e w' ⟨rfl, hw'⟩; subst w') | (go_at_call 46; refine (H46.out _).mono ?_; rintro e w' ⟨rfl, hw'⟩; subst w') | (go_at_call 47; refine (H47.out _).mono ?_; rintro e w' ⟨rfl, hw'⟩; subst w') | (go_at_call 48; refine (H48.out _).mono ?_; rintro e w' ⟨rfl, hw'⟩; subst w') | (go_at_call 49; refine (H49.out _).mono ?_; rintro e w' ⟨rfl, hw'⟩; subst w') | (go_at_call 50; refine (H50.out _).mono ?_; rintro e w' ⟨rfl, hw'⟩; subst w') | (go_at_call 51; refine (H51.out _).mono ?_; rintro e w' ⟨rfl, hw'⟩; subst w') | (go_at_call 57; refine (H57.out _).mono ?_; rintro e w' ⟨rfl, hw'⟩; subst w') | (go_at_call 53; refine (H53.out _).mono ?_; rintro e w' ⟨rfl, hw'⟩; subst w') | (go_at_call 55; refine (H55.out _).mono ?_; rintro e w' ⟨rfl, hw'⟩; subst w') | (go_at_call 58; refine (H58.out _).mono ?_; rintro e w' ⟨rfl, hw'⟩; subst w'))
    go_ret
    exact ⟨by rw [F.out]; rfl, B3.out⟩
  have e89 : decide (0 < (m.sl : Int)) = false := by simp; omega
  have f89 : decide (0 < (m.sl)) = false := by simp; omega
  by_cases c90 : m.xl = 0
  rotate_left
  · have L : Hid (m.zG = false) := hid (by simp [Ms.zG, c90])
    have e90 : decide (0 < (m.xl : Int)) = true := by simp; omega
    have f90 : decide (0 < (m.xl)) = true := by simp; omega
    clear c87 c88 c89 c90
    have F : Hid (O12 = true) := hid (by rw [← h12.out, L.out] <;> rfl)
    clear h12 L
    go_wp2_with (first | (go_at_call 37; refine (H37.out _).mono ?_; rintro e w' ⟨rfl, hw'⟩; subst w') | (go_at_call 46; refine (H46.out _).mono ?_; rintro e w' ⟨rfl, hw'⟩; subst w') | (go_at_call 47; refine (H47.out _).mono ?_; rintro e w' ⟨rfl, hw'⟩; subst w') | (go_at_call 48; refine (H48.out _).mono ?_; rintro e w' ⟨rfl, hw'⟩; subst w') | (go_at_call 49; refine (H49.out _).mono ?_; rintro e w' ⟨rfl, hw'⟩; subst w') | (go_at_call 50; refine (H50.out _).mono ?_; rintro e w' ⟨rfl, hw'⟩; subst w') | (go_at_call 51; refine (H51.out _).mono ?_; rintro e w' ⟨rfl, hw'⟩; subst w') | (go_at_call 57; refine (H57.out _).mono ?_; rintro e w' ⟨rfl, hw'⟩; subst w') | (go_at_call 53; refine (H53.out _).mono ?_; rintro e w' ⟨rfl, hw'⟩; subst w') | (go_at_call 55; refine (H55.out _).mono ?_; rintro e w' ⟨rfl, hw'⟩; subst w') | (go_at_call 58; refine (H58.out _).mono ?_; rintro e w' ⟨rfl, hw'⟩; subst w'))
    go_ret
    exact ⟨by rw [F.out]; rfl, B3.out⟩
  have e90 : decide (0 < (m.xl : Int)) = false := by simp; omega
  have f90 : decide (0 < (m.xl)) = false := by simp; omega
  have LG : Hid (m.zG = true) := hid (by simp [Ms.zG, c87, c88, c89, c90])
  clear c87 c88 c89 c90
  have F : Hid (O12 = false) := hid (by rw [← h12.out, LG.out] <;> rfl)
  clear h12
  go_wp2_with (first | (go_at_call 37; refine (H37.out _).mono ?_; rintro e w' ⟨rfl, hw'⟩; subst w') | (go_at_call 46; refine (H46.out _).mono ?_; rintro e w' ⟨rfl, hw'⟩; subst w') | (go_at_call 47; refine (H47.out _).mono ?_; rintro e w' ⟨rfl, hw'⟩; subst w') | (go_at_call 48; refine (H48.out _).mono ?_; rintro e w' ⟨rfl, hw'⟩; subst w') | (go_at_call 49; refine (H49.out _).mono ?_; rintro e w' ⟨rfl, hw'⟩; subst w') | (go_at_call 50; refine (H50.out _).mono ?_; rintro e w' ⟨rfl, hw'⟩; subst w') | (go_at_call 51; refine (H51.out _).mono ?_; rintro e w' ⟨rfl, hw'⟩; subst w') | (go_at_call 57; refine (H57.out _).mono ?_; rintro e w' ⟨rfl, hw'⟩; subst w') | (go_at_call 53; refine (H53.out _).mono ?_; rintro e w' ⟨rfl, hw'⟩; subst w') | (go_at_call 55; refine (H55.out _).mono ?_; rintro e w' ⟨rfl, hw'⟩; subst w') | (go_at_call 58; refine (H58.out _).mono ?_; rintro e w' ⟨rfl, hw'⟩; subst w'))
  go_ret
  exact ⟨by rw [F.out]; rfl, B3.out⟩
end Go.Proofs.YthoppemjfdnibaaGreatDoor
