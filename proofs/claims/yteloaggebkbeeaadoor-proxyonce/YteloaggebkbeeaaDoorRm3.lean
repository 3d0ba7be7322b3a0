import Derived.Test.YteloaggebkbeeaaDoorRm2
namespace Go.Proofs.YteloaggebkbeeaaDoor
open Go.RowKit
set_option linter.unusedVariables false

/-- Is there something that its kind has not? -/
def Ms.extB (m : Ms) (k : Nat) : Bool := !(allF.data.toList.all fun r => inH k m.h r.toNat || m.nil r.toNat)
theorem inH_K {k : Nat} {h : Bool} {r : Nat} (hr : r ≠ 71) : inH k h r = inK k r := by simp [inH, hr]
theorem or11 (cV cK cC cN cL cQ cH cO cR cE cG : Bool) : (!(cV && (cK && (cC && (cN && (cL && (cQ && (cH && (cO && (cR && (cE && (cG && true)))))))))))) = (!(cV && (cK && (cC && cN))) || (!(cL && (cQ && (cH && cE))) || (!cO || (!cR || !cG)))) := by
  cases cV <;> cases cK <;> cases cC <;> cases cN <;> cases cL <;> cases cQ <;> simp <;> cases cH <;> cases cO <;> cases cR <;> simp <;> cases cE <;> cases cG <;> rfl
theorem extB_or (m : Ms) (k : Nat) : m.extB k = (!((inK k 86 || (m.v == 0)) && ((inK k 75 || (m.n == 0)) && ((inK k 67 || (m.c == 0)) && (inK k 78 || (m.o == 0))))) || (!((inK k 76 || (m.l == 0)) && ((inK k 81 || (m.q == 0)) && ((inK k 72 || (!m.h)) && (inK k 69 || ((m.el : Int) == 0))))) || (!(inK k 79 || m.zO) || (!(inK k 82 || m.zR) || !(inH k m.h 71 || m.zG))))) := by
  rw [← or11]
  show (!((inH k m.h 86 || _) && ((inH k m.h 75 || _) && ((inH k m.h 67 || _) && ((inH k m.h 78 || _) && ((inH k m.h 76 || _) && ((inH k m.h 81 || _) && ((inH k m.h 72 || _) && ((inH k m.h 79 || _) && ((inH k m.h 82 || _) && ((inH k m.h 69 || _) && ((inH k m.h 71 || _) && true)))))))))))) = _
  rw [inH_K (r := 86) (by omega), inH_K (r := 75) (by omega), inH_K (r := 67) (by omega), inH_K (r := 78) (by omega), inH_K (r := 76) (by omega), inH_K (r := 81) (by omega), inH_K (r := 72) (by omega), inH_K (r := 79) (by omega), inH_K (r := 82) (by omega), inH_K (r := 69) (by omega)]
  rfl
set_option maxHeartbeats 6400000 in
set_option maxRecDepth 1000000 in
theorem rext_k2 {w : World} (m : Ms) (hk : m.k = 2) : Calls Tryd.prog 46 #[m.V] w fun e w' => e = .returned (.bool (m.extB 2)) ∧ Below w.heap.size w w' := by
  have EE : m.extB 2 = (!((true || (m.v == 0)) && ((true || (m.n == 0)) && ((false || (m.c == 0)) && (false || (m.o == 0))))) || (!((false || (m.l == 0)) && ((true || (m.q == 0)) && ((false || (!m.h)) && (false || ((m.el : Int) == 0))))) || (!(false || m.zO) || (!(true || m.zR) || !(false || m.zG))))) := by rw [extB_or]; rfl
  rw [EE]
  clear EE
  obtain ⟨O3, h3⟩ : ∃ O3, Hid ((!((true || (m.v == 0)) && ((true || (m.n == 0)) && ((false || (m.c == 0)) && (false || (m.o == 0)))))) = O3) := ⟨_, hid rfl⟩
  obtain ⟨O5, h5⟩ : ∃ O5, Hid ((!((false || (m.l == 0)) && ((true || (m.q == 0)) && ((false || (!m.h)) && (false || ((m.el : Int) == 0)))))) = O5) := ⟨_, hid rfl⟩
  obtain ⟨O7, h7⟩ : ∃ O7, Hid ((!(false || m.zO)) = O7) := ⟨_, hid rfl⟩
  obtain ⟨O9, h9⟩ : ∃ O9, Hid ((!(true || m.zR)) = O9) := ⟨_, hid rfl⟩
  obtain ⟨O12, h12⟩ : ∃ O12, Hid ((!(false || m.zG)) = O12) := ⟨_, hid rfl⟩
  rw [h3.out, h5.out, h7.out, h9.out, h12.out]
  have H37 : Hid (∀ W : World, Calls Tryd.prog 43 #[.int .i64 2] W fun e w' => e = .returned (.bool true) ∧ w' = W) := hid (fun W => has37 (k := 2) ⟨by omega, by omega⟩)
  have H46 : Hid (∀ W : World, Calls Tryd.prog 63 #[.int .i64 2] W fun e w' => e = .returned (.bool true) ∧ w' = W) := hid (fun W => has46 (k := 2) ⟨by omega, by omega⟩)
  have H47 : Hid (∀ W : World, Calls Tryd.prog 64 #[.int .i64 2] W fun e w' => e = .returned (.bool false) ∧ w' = W) := hid (fun W => has47 (k := 2) ⟨by omega, by omega⟩)
  have H48 : Hid (∀ W : World, Calls Tryd.prog 65 #[.int .i64 2] W fun e w' => e = .returned (.bool false) ∧ w' = W) := hid (fun W => has48 (k := 2) ⟨by omega, by omega⟩)
  have H49 : Hid (∀ W : World, Calls Tryd.prog 66 #[.int .i64 2] W fun e w' => e = .returned (.bool false) ∧ w' = W) := hid (fun W => has49 (k := 2) ⟨by omega, by omega⟩)
  have H50 : Hid (∀ W : World, Calls Tryd.prog 67 #[.int .i64 2] W fun e w' => e = .returned (.bool true) ∧ w' = W) := hid (fun W => has50 (k := 2) ⟨by omega, by omega⟩)
  have H51 : Hid (∀ W : World, Calls Tryd.prog 75 #[.int .i64 2] W fun e w' => e = .returned (.bool false) ∧ w' = W) := hid (fun W => has51 (k := 2) ⟨by omega, by omega⟩)
  have H53 : Hid (∀ W : World, Calls Tryd.prog 68 #[.int .i64 2] W fun e w' => e = .returned (.bool false) ∧ w' = W) := hid (fun W => has53 (k := 2) ⟨by omega, by omega⟩)
  have H55 : Hid (∀ W : World, Calls Tryd.prog 70 #[.int .i64 2] W fun e w' => e = .returned (.bool true) ∧ w' = W) := hid (fun W => has55 (k := 2) ⟨by omega, by omega⟩)
  have H57 : Hid (∀ W : World, Calls Tryd.prog 72 #[.int .i64 2] W fun e w' => e = .returned (.bool false) ∧ w' = W) := hid (fun W => has57 (k := 2) ⟨by omega, by omega⟩)
  have H58 : Hid (∀ W : World, Calls Tryd.prog 73 #[.int .i64 2, .bool m.h] W fun e w' => e = .returned (.bool false) ∧ w' = W) := hid (fun W => has58 (k := 2) m.h ⟨by omega, by omega⟩)
  have BA := hid (ba w (.cells m.cells.toArray 41))
  have M0 := hid (MsAt.new w m)
  have HK := hid hk
  clear hk
  go_enter Tryd.func46, Tryd.ntmps46
  go_upto_region 1 with fail
  obtain ⟨b, hbb⟩ : ∃ b, Hid (b = w.heap.size) := ⟨_, hid rfl⟩
  rw [← hbb.out] at M0 ⊢
  change Code.wp _ _ _ _ (w.alloc (.cells m.cells.toArray 41))
  generalize w.alloc (.cells m.cells.toArray 41) = w1 at BA M0 ⊢
  have q0 : w1.cell? ⟨b, 0, none⟩ = some (.int .i64 2) := by rw [← HK.out]; exact M0.out 0 _ rfl
  have q3 : w1.cell? ⟨b, 3, none⟩ = some (.int .i64 m.v) := M0.out 3 _ rfl
  have q4 : w1.cell? ⟨b, 4, none⟩ = some (.int .i64 m.n) := M0.out 4 _ rfl
  have q5 : w1.cell? ⟨b, 5, none⟩ = some (.int .i64 m.c) := M0.out 5 _ rfl
  have q6 : w1.cell? ⟨b, 6, none⟩ = some (.int .i64 m.o) := M0.out 6 _ rfl
  have q7 : w1.cell? ⟨b, 7, none⟩ = some (.int .i64 m.l) := M0.out 7 _ rfl
  have q8 : w1.cell? ⟨b, 8, none⟩ = some (.int .i64 m.q) := M0.out 8 _ rfl
  have q9 : w1.cell? ⟨b, 9, none⟩ = some (.bool m.h) := M0.out 9 _ rfl
  have q10 : w1.cell? ⟨b, 10, none⟩ = some (.int .i64 m.ok) := M0.out 10 _ rfl
  have q11 : w1.cell? ⟨b, 11, none⟩ = some (.string m.onm) := M0.out 11 _ rfl
  have q12 : w1.cell? ⟨b, 12, none⟩ = some (.string m.otx) := M0.out 12 _ rfl
  have q13 : w1.cell? ⟨b, 13, none⟩ = some (.int .i64 m.on) := M0.out 13 _ rfl
  have q14 : w1.cell? ⟨b, 14, none⟩ = some (.int .i64 m.om) := M0.out 14 _ rfl
  have q15 : w1.cell? ⟨b, 15, none⟩ = some (.int .i64 m.rc) := M0.out 15 _ rfl
  have q16 : w1.cell? ⟨b, 16, none⟩ = some (.int .i64 m.rn) := M0.out 16 _ rfl
  have q17 : w1.cell? ⟨b, 17, none⟩ = some (.slice m.ra m.rl m.rp) := M0.out 17 _ rfl
  have q18 : w1.cell? ⟨b, 18, none⟩ = some (.slice m.ea m.el m.ep) := M0.out 18 _ rfl
  have q19 : w1.cell? ⟨b, 19, none⟩ = some (.int .i64 m.cf) := M0.out 19 _ rfl
  have q20 : w1.cell? ⟨b, 20, none⟩ = some (.int .i64 m.cb) := M0.out 20 _ rfl
  have q21 : w1.cell? ⟨b, 21, none⟩ = some (.slice m.sa m.sl m.sp) := M0.out 21 _ rfl
  have q22 : w1.cell? ⟨b, 22, none⟩ = some (.slice m.xa m.xl m.xp) := M0.out 22 _ rfl
  have hbw : b < w1.heap.size := World.block_lt_of_cell? _ _ q0
  go_upto_region 3 with fail
  have B2 : Hid (Below w.heap.size w (w1.alloc (.cells #[.int .i64 m.ok, .string m.onm, .string m.otx, .int .i64 m.on, .int .i64 m.om] 32))) := hid (BA.out.trans ((ba w1 _).mono BA.out.size))
  have M2 : Hid (MsAt (w1.alloc (.cells #[.int .i64 m.ok, .string m.onm, .string m.otx, .int .i64 m.on, .int .i64 m.om] 32)) b m) := hid (M0.out.under (ba w1 _))
  have P2 : Hid ((w1.alloc (.cells #[.int .i64 m.ok, .string m.onm, .string m.otx, .int .i64 m.on, .int .i64 m.om] 32)).heap[w1.heap.size]? = some (.cells #[.int .i64 m.ok, .string m.onm, .string m.otx, .int .i64 m.on, .int .i64 m.om] 32 (0, 0))) := hid (heap_alloc_new _ _)
  obtain ⟨p, hp⟩ : ∃ p, Hid (w1.heap.size = p) := ⟨_, hid rfl⟩
  rw [hp.out] at P2 ⊢
  generalize w1.alloc (.cells #[.int .i64 m.ok, .string m.onm, .string m.otx, .int .i64 m.on, .int .i64 m.om] 32) = w2 at B2 M2 P2 ⊢
  clear q0 q3 q4 q5 q6 q7 q8 q9 q10 q11 q12 q13 q14 q15 q16 q17 q18 q19 q20 q21 q22 hbw BA M0
  have q3 : w2.cell? ⟨b, 3, none⟩ = some (.int .i64 m.v) := M2.out 3 _ rfl
  have q4 : w2.cell? ⟨b, 4, none⟩ = some (.int .i64 m.n) := M2.out 4 _ rfl
  have q5 : w2.cell? ⟨b, 5, none⟩ = some (.int .i64 m.c) := M2.out 5 _ rfl
  have q6 : w2.cell? ⟨b, 6, none⟩ = some (.int .i64 m.o) := M2.out 6 _ rfl
  have q7 : w2.cell? ⟨b, 7, none⟩ = some (.int .i64 m.l) := M2.out 7 _ rfl
  have q8 : w2.cell? ⟨b, 8, none⟩ = some (.int .i64 m.q) := M2.out 8 _ rfl
  have q9 : w2.cell? ⟨b, 9, none⟩ = some (.bool m.h) := M2.out 9 _ rfl
  have q15 : w2.cell? ⟨b, 15, none⟩ = some (.int .i64 m.rc) := M2.out 15 _ rfl
  have q16 : w2.cell? ⟨b, 16, none⟩ = some (.int .i64 m.rn) := M2.out 16 _ rfl
  have q17 : w2.cell? ⟨b, 17, none⟩ = some (.slice m.ra m.rl m.rp) := M2.out 17 _ rfl
  have q18 : w2.cell? ⟨b, 18, none⟩ = some (.slice m.ea m.el m.ep) := M2.out 18 _ rfl
  have q19 : w2.cell? ⟨b, 19, none⟩ = some (.int .i64 m.cf) := M2.out 19 _ rfl
  have q20 : w2.cell? ⟨b, 20, none⟩ = some (.int .i64 m.cb) := M2.out 20 _ rfl
  have q21 : w2.cell? ⟨b, 21, none⟩ = some (.slice m.sa m.sl m.sp) := M2.out 21 _ rfl
  have q22 : w2.cell? ⟨b, 22, none⟩ = some (.slice m.xa m.xl m.xp) := M2.out 22 _ rfl
  have p0 : w2.cell? ⟨p, 0, none⟩ = some (.int .i64 m.ok) := by rw [cell_at P2.out]; rfl
  have p1 : w2.cell? ⟨p, 1, none⟩ = some (.string m.onm) := by rw [cell_at P2.out]; rfl
  have p2 : w2.cell? ⟨p, 2, none⟩ = some (.string m.otx) := by rw [cell_at P2.out]; rfl
  have p3 : w2.cell? ⟨p, 3, none⟩ = some (.int .i64 m.on) := by rw [cell_at P2.out]; rfl
  have p4 : w2.cell? ⟨p, 4, none⟩ = some (.int .i64 m.om) := by rw [cell_at P2.out]; rfl
  have hbw : b < w2.heap.size := World.block_lt_of_cell? _ _ q3
  clear HK M2 P2
  go_upto_region 3 with fail
  go_cut [47] (fun v wx => v = .bool O3 ∧ wx = w2)
  case first =>
    by_cases c13 : m.c = 0
    rotate_left
    · have L : Hid ((m.c == 0) = false) := hid (by simpa using c13)
      have e13 : (m.c != 0) = true := by simpa using c13
      clear c13
      have F : Hid (O3 = true) := hid (by rw [← h3.out, L.out] <;> rfl)
      clear h3 L
      go_wp2_with (first | (go_at_call 43; refine (H37.out _).mono ?_; rintro e w' ⟨rfl, hw'⟩; subst w') | (go_at_call 63; refine (H46.out _).mono ?_; rintro e w' ⟨rfl, hw'⟩; subst w') | (go_at_call 64; refine (H47.out _).mono ?_; rintro e w' ⟨rfl, hw'⟩; subst w') | (go_at_call 65; refine (H48.out _).mono ?_; rintro e w' ⟨rfl, hw'⟩; subst w') | (go_at_call 66; refine (H49.out _).mono ?_; rintro e w' ⟨rfl, hw'⟩; subst w') | (go_at_call 67; refine (H50.out _).mono ?_; rintro e w' ⟨rfl, hw'⟩; subst w') | (go_at_call 75; refine (H51.out _).mono ?_; rintro e w' ⟨rfl, hw'⟩; subst w') | (go_at_call 72; refine (H57.out _).mono ?_; rintro e w' ⟨rfl, hw'⟩; subst w') | (go_at_call 68; refine (H53.out _).mono ?_; rintro e w' ⟨rfl, hw'⟩; subst w') | (go_at_call 70; refine (H55.out _).mono ?_; rintro e w' ⟨rfl, hw'⟩; subst w') | (go_at_call 73; refine (H58.out _).mono ?_; rintro e w' ⟨rfl, hw'⟩; subst w'))
      go_meet
      exact ⟨by rw [F.out], rfl⟩
    have e13 : (m.c != 0) = false := by simpa using c13
    have LC : Hid ((m.c == 0) = true) := hid (by simpa using c13)
    clear c13
    by_cases c14 : m.o = 0
    rotate_left
    · have L : Hid ((m.o == 0) = false) := hid (by simpa using c14)
      have e14 : (m.o != 0) = true := by simpa using c14
      clear c14
      have F : Hid (O3 = true) := hid (by rw [← h3.out, LC.out, L.out] <;> rfl)
      clear h3 L
      go_wp2_with (first | (go_at_call 43; refine (H37.out _).mono ?_; rintro e w' ⟨rfl, hw'⟩; subst w') | (go_at_call 63; refine (H46.out _).mono ?_; rintro e w' ⟨rfl, hw'⟩; subst w') | (go_at_call 64; refine (H47.out _).mono ?_; rintro e w' ⟨rfl, hw'⟩; subst w') | (go_at_call 65; refine (H48.out _).mono ?_; rintro e w' ⟨rfl, hw'⟩; subst w') | (go_at_call 66; refine (H49.out _).mono ?_; rintro e w' ⟨rfl, hw'⟩; subst w') | (go_at_call 67; refine (H50.out _).mono ?_; rintro e w' ⟨rfl, hw'⟩; subst w') | (go_at_call 75; refine (H51.out _).mono ?_; rintro e w' ⟨rfl, hw'⟩; subst w') | (go_at_call 72; refine (H57.out _).mono ?_; rintro e w' ⟨rfl, hw'⟩; subst w') | (go_at_call 68; refine (H53.out _).mono ?_; rintro e w' ⟨rfl, hw'⟩; subst w') | (go_at_call 70; refine (H55.out _).mono ?_; rintro e w' ⟨rfl, hw'⟩; subst w') | (go_at_call 73; refine (H58.out _).mono ?_; rintro e w' ⟨rfl, hw'⟩; subst w'))
      go_meet
      exact ⟨by rw [F.out], rfl⟩
    have e14 : (m.o != 0) = false := by simpa using c14
    have LN : Hid ((m.o == 0) = true) := hid (by simpa using c14)
    clear c14
    have F : Hid (O3 = false) := hid (by rw [← h3.out, LC.out, LN.out] <;> rfl)
    clear h3
    go_wp2_with (first | (go_at_call 43; refine (H37.out _).mono ?_; rintro e w' ⟨rfl, hw'⟩; subst w') | (go_at_call 63; refine (H46.out _).mono ?_; rintro e w' ⟨rfl, hw'⟩; subst w') | (go_at_call 64; refine (H47.out _).mono ?_; rintro e w' ⟨rfl, hw'⟩; subst w') | (go_at_call 65; refine (H48.out _).mono ?_; rintro e w' ⟨rfl, hw'⟩; subst w') | (go_at_call 66; refine (H49.out _).mono ?_; rintro e w' ⟨rfl, hw'⟩; subst w') | (go_at_call 67; refine (H50.out _).mono ?_; rintro e w' ⟨rfl, hw'⟩; subst w') | (go_at_call 75; refine (H51.out _).mono ?_; rintro e w' ⟨rfl, hw'⟩; subst w') | (go_at_call 72; refine (H57.out _).mono ?_; rintro e w' ⟨rfl, hw'⟩; subst w') | (go_at_call 68; refine (H53.out _).mono ?_; rintro e w' ⟨rfl, hw'⟩; subst w') | (go_at_call 70; refine (H55.out _).mono ?_; rintro e w' ⟨rfl, hw'⟩; subst w') | (go_at_call 73; refine (H58.out _).mono ?_; rintro e w' ⟨rfl, hw'⟩; subst w'))
    go_meet
    exact ⟨by rw [F.out], rfl⟩
  obtain ⟨rfl, hwc⟩ := hcut
  subst wc
  cases O3 with
  | true =>
    go_wp2
    go_ret
    exact ⟨by simp, B2.out⟩
  | false =>
  go_upto_region 5 with fail
  go_cut [85] (fun v wx => v = .bool O5 ∧ wx = w2)
  case first =>
    by_cases c15 : m.l = 0
    rotate_left
    · have L : Hid ((m.l == 0) = false) := hid (by simpa using c15)
      have e15 : (m.l != 0) = true := by simpa using c15
      clear c15
      have F : Hid (O5 = true) := hid (by rw [← h5.out, L.out] <;> rfl)
      clear h5 L
      go_wp2_with (first | (go_at_call 43; refine (H37.out _).mono ?_; rintro e w' ⟨rfl, hw'⟩; subst w') | (go_at_call 63; refine (H46.out _).mono ?_; rintro e w' ⟨rfl, hw'⟩; subst w') | (go_at_call 64; refine (H47.out _).mono ?_; rintro e w' ⟨rfl, hw'⟩; subst w') | (go_at_call 65; refine (H48.out _).mono ?_; rintro e w' ⟨rfl, hw'⟩; subst w') | (go_at_call 66; refine (H49.out _).mono ?_; rintro e w' ⟨rfl, hw'⟩; subst w') | (go_at_call 67; refine (H50.out _).mono ?_; rintro e w' ⟨rfl, hw'⟩; subst w') | (go_at_call 75; refine (H51.out _).mono ?_; rintro e w' ⟨rfl, hw'⟩; subst w') | (go_at_call 72; refine (H57.out _).mono ?_; rintro e w' ⟨rfl, hw'⟩; subst w') | (go_at_call 68; refine (H53.out _).mono ?_; rintro e w' ⟨rfl, hw'⟩; subst w') | (go_at_call 70; refine (H55.out _).mono ?_; rintro e w' ⟨rfl, hw'⟩; subst w') | (go_at_call 73; refine (H58.out _).mono ?_; rintro e w' ⟨rfl, hw'⟩; subst w'))
      go_meet
      exact ⟨by rw [F.out], rfl⟩
    have e15 : (m.l != 0) = false := by simpa using c15
    have LL : Hid ((m.l == 0) = true) := hid (by simpa using c15)
    clear c15
    cases hh : m.h with
    | true =>
      rw [hh] at q9 h5
      have L : Hid ((!true) = false) := hid rfl
      clear hh
      have F : Hid (O5 = true) := hid (by rw [← h5.out, LL.out] <;> rfl)
      clear h5 L
      go_wp2_with (first | (go_at_call 43; refine (H37.out _).mono ?_; rintro e w' ⟨rfl, hw'⟩; subst w') | (go_at_call 63; refine (H46.out _).mono ?_; rintro e w' ⟨rfl, hw'⟩; subst w') | (go_at_call 64; refine (H47.out _).mono ?_; rintro e w' ⟨rfl, hw'⟩; subst w') | (go_at_call 65; refine (H48.out _).mono ?_; rintro e w' ⟨rfl, hw'⟩; subst w') | (go_at_call 66; refine (H49.out _).mono ?_; rintro e w' ⟨rfl, hw'⟩; subst w') | (go_at_call 67; refine (H50.out _).mono ?_; rintro e w' ⟨rfl, hw'⟩; subst w') | (go_at_call 75; refine (H51.out _).mono ?_; rintro e w' ⟨rfl, hw'⟩; subst w') | (go_at_call 72; refine (H57.out _).mono ?_; rintro e w' ⟨rfl, hw'⟩; subst w') | (go_at_call 68; refine (H53.out _).mono ?_; rintro e w' ⟨rfl, hw'⟩; subst w') | (go_at_call 70; refine (H55.out _).mono ?_; rintro e w' ⟨rfl, hw'⟩; subst w') | (go_at_call 73; refine (H58.out _).mono ?_; rintro e w' ⟨rfl, hw'⟩; subst w'))
      go_meet
      exact ⟨by rw [F.out], rfl⟩
    | false =>
      rw [hh] at q9 h5
      clear hh
      by_cases c16 : m.el = 0
      rotate_left
      · have L : Hid (((m.el : Int) == 0) = false) := hid (by simp; omega)
        have e16 : decide (0 < (m.el : Int)) = true := by simp; omega
        have f16 : decide (0 < (m.el)) = true := by simp; omega
        clear c16
        have F : Hid (O5 = true) := hid (by rw [← h5.out, LL.out, L.out] <;> rfl)
        clear h5 L
        go_wp2_with (first | (go_at_call 43; refine (H37.out _).mono ?_; rintro e w' ⟨rfl, hw'⟩; subst w') | (go_at_call 63; refine (H46.out _).mono ?_; rintro e w' ⟨rfl, hw'⟩; subst w') | (go_at_call 64; refine (H47.out _).mono ?_; rintro e w' ⟨rfl, hw'⟩; subst w') | (go_at_call 65; refine (H48.out _).mono ?_; rintro e w' ⟨rfl, hw'⟩; subst w') | (go_at_call 66; refine (H49.out _).mono ?_; rintro e w' ⟨rfl, hw'⟩; subst w') | (go_at_call 67; refine (H50.out _).mono ?_; rintro e w' ⟨rfl, hw'⟩; subst w') | (go_at_call 75; refine (H51.out _).mono ?_; rintro e w' ⟨rfl, hw'⟩; subst w') | (go_at_call 72; refine (H57.out _).mono ?_; rintro e w' ⟨rfl, hw'⟩; subst w') | (go_at_call 68; refine (H53.out _).mono ?_; rintro e w' ⟨rfl, hw'⟩; subst w') | (go_at_call 70; refine (H55.out _).mono ?_; rintro e w' ⟨rfl, hw'⟩; subst w') | (go_at_call 73; refine (H58.out _).mono ?_; rintro e w' ⟨rfl, hw'⟩; subst w'))
        go_meet
        exact ⟨by rw [F.out], rfl⟩
      have e16 : decide (0 < (m.el : Int)) = false := by simp; omega
      have f16 : decide (0 < (m.el)) = false := by simp; omega
      have LE : Hid (((m.el : Int) == 0) = true) := hid (by simp; omega)
      clear c16
      have F : Hid (O5 = false) := hid (by rw [← h5.out, LL.out, LE.out] <;> rfl)
      clear h5
      go_wp2_with (first | (go_at_call 43; refine (H37.out _).mono ?_; rintro e w' ⟨rfl, hw'⟩; subst w') | (go_at_call 63; refine (H46.out _).mono ?_; rintro e w' ⟨rfl, hw'⟩; subst w') | (go_at_call 64; refine (H47.out _).mono ?_; rintro e w' ⟨rfl, hw'⟩; subst w') | (go_at_call 65; refine (H48.out _).mono ?_; rintro e w' ⟨rfl, hw'⟩; subst w') | (go_at_call 66; refine (H49.out _).mono ?_; rintro e w' ⟨rfl, hw'⟩; subst w') | (go_at_call 67; refine (H50.out _).mono ?_; rintro e w' ⟨rfl, hw'⟩; subst w') | (go_at_call 75; refine (H51.out _).mono ?_; rintro e w' ⟨rfl, hw'⟩; subst w') | (go_at_call 72; refine (H57.out _).mono ?_; rintro e w' ⟨rfl, hw'⟩; subst w') | (go_at_call 68; refine (H53.out _).mono ?_; rintro e w' ⟨rfl, hw'⟩; subst w') | (go_at_call 70; refine (H55.out _).mono ?_; rintro e w' ⟨rfl, hw'⟩; subst w') | (go_at_call 73; refine (H58.out _).mono ?_; rintro e w' ⟨rfl, hw'⟩; subst w'))
      go_meet
      exact ⟨by rw [F.out], rfl⟩
  obtain ⟨rfl, hwc⟩ := hcut
  subst wc
  cases O5 with
  | true =>
    go_wp2
    go_ret
    exact ⟨by simp, B2.out⟩
  | false =>
  go_upto_region 7 with fail
  go_cut [113] (fun v wx => v = .bool O7 ∧ wx = w2)
  case first =>
    by_cases c17 : m.ok = 0
    rotate_left
    · have L : Hid (m.zO = false) := hid (by simp [Ms.zO, c17])
      have e17 : (m.ok != 0) = true := by simpa using c17
      clear c17
      have F : Hid (O7 = true) := hid (by rw [← h7.out, L.out] <;> rfl)
      clear h7 L
      go_wp2_with (first | (go_at_call 43; refine (H37.out _).mono ?_; rintro e w' ⟨rfl, hw'⟩; subst w') | (go_at_call 63; refine (H46.out _).mono ?_; rintro e w' ⟨rfl, hw'⟩; subst w') | (go_at_call 64; refine (H47.out _).mono ?_; rintro e w' ⟨rfl, hw'⟩; subst w') | (go_at_call 65; refine (H48.out _).mono ?_; rintro e w' ⟨rfl, hw'⟩; subst w') | (go_at_call 66; refine (H49.out _).mono ?_; rintro e w' ⟨rfl, hw'⟩; subst w') | (go_at_call 67; refine (H50.out _).mono ?_; rintro e w' ⟨rfl, hw'⟩; subst w') | (go_at_call 75; refine (H51.out _).mono ?_; rintro e w' ⟨rfl, hw'⟩; subst w') | (go_at_call 72; refine (H57.out _).mono ?_; rintro e w' ⟨rfl, hw'⟩; subst w') | (go_at_call 68; refine (H53.out _).mono ?_; rintro e w' ⟨rfl, hw'⟩; subst w') | (go_at_call 70; refine (H55.out _).mono ?_; rintro e w' ⟨rfl, hw'⟩; subst w') | (go_at_call 73; refine (H58.out _).mono ?_; rintro e w' ⟨rfl, hw'⟩; subst w'))
      go_meet
      exact ⟨by rw [F.out], rfl⟩
    have e17 : (m.ok != 0) = false := by simpa using c17
    by_cases c18 : m.onm.toList = []
    rotate_left
    · have L : Hid (m.zO = false) := hid (by simp [Ms.zO, c18])
      have e18 : ¬ (m.onm.toList = []) := c18
      clear c17 c18
      have F : Hid (O7 = true) := hid (by rw [← h7.out, L.out] <;> rfl)
      clear h7 L
      go_wp2_with (first | (go_at_call 43; refine (H37.out _).mono ?_; rintro e w' ⟨rfl, hw'⟩; subst w') | (go_at_call 63; refine (H46.out _).mono ?_; rintro e w' ⟨rfl, hw'⟩; subst w') | (go_at_call 64; refine (H47.out _).mono ?_; rintro e w' ⟨rfl, hw'⟩; subst w') | (go_at_call 65; refine (H48.out _).mono ?_; rintro e w' ⟨rfl, hw'⟩; subst w') | (go_at_call 66; refine (H49.out _).mono ?_; rintro e w' ⟨rfl, hw'⟩; subst w') | (go_at_call 67; refine (H50.out _).mono ?_; rintro e w' ⟨rfl, hw'⟩; subst w') | (go_at_call 75; refine (H51.out _).mono ?_; rintro e w' ⟨rfl, hw'⟩; subst w') | (go_at_call 72; refine (H57.out _).mono ?_; rintro e w' ⟨rfl, hw'⟩; subst w') | (go_at_call 68; refine (H53.out _).mono ?_; rintro e w' ⟨rfl, hw'⟩; subst w') | (go_at_call 70; refine (H55.out _).mono ?_; rintro e w' ⟨rfl, hw'⟩; subst w') | (go_at_call 73; refine (H58.out _).mono ?_; rintro e w' ⟨rfl, hw'⟩; subst w'))
      go_meet
      exact ⟨by rw [F.out], rfl⟩
    have e18 : m.onm.toList = [] := c18
    by_cases c19 : m.otx.toList = []
    rotate_left
    · have L : Hid (m.zO = false) := hid (by simp [Ms.zO, c19])
      have e19 : ¬ (m.otx.toList = []) := c19
      clear c17 c18 c19
      have F : Hid (O7 = true) := hid (by rw [← h7.out, L.out] <;> rfl)
      clear h7 L
      go_wp2_with (first | (go_at_call 43; refine (H37.out _).mono ?_; rintro e w' ⟨rfl, hw'⟩; subst w') | (go_at_call 63; refine (H46.out _).mono ?_; rintro e w' ⟨rfl, hw'⟩; subst w') | (go_at_call 64; refine (H47.out _).mono ?_; rintro e w' ⟨rfl, hw'⟩; subst w') | (go_at_call 65; refine (H48.out _).mono ?_; rintro e w' ⟨rfl, hw'⟩; subst w') | (go_at_call 66; refine (H49.out _).mono ?_; rintro e w' ⟨rfl, hw'⟩; subst w') | (go_at_call 67; refine (H50.out _).mono ?_; rintro e w' ⟨rfl, hw'⟩; subst w') | (go_at_call 75; refine (H51.out _).mono ?_; rintro e w' ⟨rfl, hw'⟩; subst w') | (go_at_call 72; refine (H57.out _).mono ?_; rintro e w' ⟨rfl, hw'⟩; subst w') | (go_at_call 68; refine (H53.out _).mono ?_; rintro e w' ⟨rfl, hw'⟩; subst w') | (go_at_call 70; refine (H55.out _).mono ?_; rintro e w' ⟨rfl, hw'⟩; subst w') | (go_at_call 73; refine (H58.out _).mono ?_; rintro e w' ⟨rfl, hw'⟩; subst w'))
      go_meet
      exact ⟨by rw [F.out], rfl⟩
    have e19 : m.otx.toList = [] := c19
    by_cases c20 : m.on = 0
    rotate_left
    · have L : Hid (m.zO = false) := hid (by simp [Ms.zO, c20])
      have e20 : (m.on != 0) = true := by simpa using c20
      clear c17 c18 c19 c20
      have F : Hid (O7 = true) := hid (by rw [← h7.out, L.out] <;> rfl)
      clear h7 L
      go_wp2_with (first | (go_at_call 43; refine (H37.out _).mono ?_; rintro e w' ⟨rfl, hw'⟩; subst w') | (go_at_call 63; refine (H46.out _).mono ?_; rintro e w' ⟨rfl, hw'⟩; subst w') | (go_at_call 64; refine (H47.out _).mono ?_; rintro e w' ⟨rfl, hw'⟩; subst w') | (go_at_call 65; refine (H48.out _).mono ?_; rintro e w' ⟨rfl, hw'⟩; subst w') | (go_at_call 66; refine (H49.out _).mono ?_; rintro e w' ⟨rfl, hw'⟩; subst w') | (go_at_call 67; refine (H50.out _).mono ?_; rintro e w' ⟨rfl, hw'⟩; subst w') | (go_at_call 75; refine (H51.out _).mono ?_; rintro e w' ⟨rfl, hw'⟩; subst w') | (go_at_call 72; refine (H57.out _).mono ?_; rintro e w' ⟨rfl, hw'⟩; subst w') | (go_at_call 68; refine (H53.out _).mono ?_; rintro e w' ⟨rfl, hw'⟩; subst w') | (go_at_call 70; refine (H55.out _).mono ?_; rintro e w' ⟨rfl, hw'⟩; subst w') | (go_at_call 73; refine (H58.out _).mono ?_; rintro e w' ⟨rfl, hw'⟩; subst w'))
      go_meet
      exact ⟨by rw [F.out], rfl⟩
    have e20 : (m.on != 0) = false := by simpa using c20
    by_cases c21 : m.om = 0
    rotate_left
    · have L : Hid (m.zO = false) := hid (by simp [Ms.zO, c21])
      have e21 : (m.om != 0) = true := by simpa using c21
      clear c17 c18 c19 c20 c21
      have F : Hid (O7 = true) := hid (by rw [← h7.out, L.out] <;> rfl)
      clear h7 L
      go_wp2_with (first | (go_at_call 43; refine (H37.out _).mono ?_; rintro e w' ⟨rfl, hw'⟩; subst w') | (go_at_call 63; refine (H46.out _).mono ?_; rintro e w' ⟨rfl, hw'⟩; subst w') | (go_at_call 64; refine (H47.out _).mono ?_; rintro e w' ⟨rfl, hw'⟩; subst w') | (go_at_call 65; refine (H48.out _).mono ?_; rintro e w' ⟨rfl, hw'⟩; subst w') | (go_at_call 66; refine (H49.out _).mono ?_; rintro e w' ⟨rfl, hw'⟩; subst w') | (go_at_call 67; refine (H50.out _).mono ?_; rintro e w' ⟨rfl, hw'⟩; subst w') | (go_at_call 75; refine (H51.out _).mono ?_; rintro e w' ⟨rfl, hw'⟩; subst w') | (go_at_call 72; refine (H57.out _).mono ?_; rintro e w' ⟨rfl, hw'⟩; subst w') | (go_at_call 68; refine (H53.out _).mono ?_; rintro e w' ⟨rfl, hw'⟩; subst w') | (go_at_call 70; refine (H55.out _).mono ?_; rintro e w' ⟨rfl, hw'⟩; subst w') | (go_at_call 73; refine (H58.out _).mono ?_; rintro e w' ⟨rfl, hw'⟩; subst w'))
      go_meet
      exact ⟨by rw [F.out], rfl⟩
    have e21 : (m.om != 0) = false := by simpa using c21
    have LO : Hid (m.zO = true) := hid (by simp [Ms.zO, c17, c18, c19, c20, c21])
    clear c17 c18 c19 c20 c21
    have F : Hid (O7 = false) := hid (by rw [← h7.out, LO.out] <;> rfl)
    clear h7
    go_wp2_with (first | (go_at_call 43; refine (H37.out _).mono ?_; rintro e w' ⟨rfl, hw'⟩; subst w') | (go_at_call 63; refine (H46.out _).mono ?_; rintro e w' ⟨rfl, hw'⟩; subst w') | (go_at_call 64; refine (H47.out _).mono ?_; rintro e w' ⟨rfl, hw'⟩; subst w') | (go_at_call 65; refine (H48.out _).mono ?_; rintro e w' ⟨rfl, hw'⟩; subst w') | (go_at_call 66; refine (H49.out _).mono ?_; rintro e w' ⟨rfl, hw'⟩; subst w') | (go_at_call 67; refine (H50.out _).mono ?_; rintro e w' ⟨rfl, hw'⟩; subst w') | (go_at_call 75; refine (H51.out _).mono ?_; rintro e w' ⟨rfl, hw'⟩; subst w') | (go_at_call 72; refine (H57.out _).mono ?_; rintro e w' ⟨rfl, hw'⟩; subst w') | (go_at_call 68; refine (H53.out _).mono ?_; rintro e w' ⟨rfl, hw'⟩; subst w') | (go_at_call 70; refine (H55.out _).mono ?_; rintro e w' ⟨rfl, hw'⟩; subst w') | (go_at_call 73; refine (H58.out _).mono ?_; rintro e w' ⟨rfl, hw'⟩; subst w'))
    go_meet
    exact ⟨by rw [F.out], rfl⟩
  obtain ⟨rfl, hwc⟩ := hcut
  subst wc
  cases O7 with
  | true =>
    go_wp2
    go_ret
    exact ⟨by simp, B2.out⟩
  | false =>
  go_upto_region 9 with fail
  go_cut [135] (fun v wx => v = .bool O9 ∧ wx = w2)
  case first =>
    have F : Hid (O9 = false) := hid (by rw [← h9.out] <;> rfl)
    clear h9
    go_wp2_with (first | (go_at_call 43; refine (H37.out _).mono ?_; rintro e w' ⟨rfl, hw'⟩; subst w') | (go_at_call 63; refine (H46.out _).mono ?_; rintro e w' ⟨rfl, hw'⟩; subst w') | (go_at_call 64; refine (H47.out _).mono ?_; rintro e w' ⟨rfl, hw'⟩; subst w') | (go_at_call 65; refine (H48.out _).mono ?_; rintro e w' ⟨rfl, hw'⟩; subst w') | (go_at_call 66; refine (H49.out _).mono ?_; rintro e w' ⟨rfl, hw'⟩; subst w') | (go_at_call 67; refine (H50.out _).mono ?_; rintro e w' ⟨rfl, hw'⟩; subst w') | (go_at_call 75; refine (H51.out _).mono ?_; rintro e w' ⟨rfl, hw'⟩; subst w') | (go_at_call 72; refine (H57.out _).mono ?_; rintro e w' ⟨rfl, hw'⟩; subst w') | (go_at_call 68; refine (H53.out _).mono ?_; rintro e w' ⟨rfl, hw'⟩; subst w') | (go_at_call 70; refine (H55.out _).mono ?_; rintro e w' ⟨rfl, hw'⟩; subst w') | (go_at_call 73; refine (H58.out _).mono ?_; rintro e w' ⟨rfl, hw'⟩; subst w'))
    go_meet
    exact ⟨by rw [F.out], rfl⟩
  obtain ⟨rfl, hwc⟩ := hcut
  subst wc
  cases O9 with
  | true =>
    go_wp2
    go_ret
    exact ⟨by simp, B2.out⟩
  | false =>
  go_upto_region 12 with fail
  have B3 : Hid (Below w.heap.size w (w2.alloc (.cells #[.int .i64 m.cf, .int .i64 m.cb, .slice m.sa m.sl m.sp, .slice m.xa m.xl m.xp] 39))) := hid (B2.out.trans ((ba w2 _).mono B2.out.size))
  have P3 : Hid ((w2.alloc (.cells #[.int .i64 m.cf, .int .i64 m.cb, .slice m.sa m.sl m.sp, .slice m.xa m.xl m.xp] 39)).heap[w2.heap.size]? = some (.cells #[.int .i64 m.cf, .int .i64 m.cb, .slice m.sa m.sl m.sp, .slice m.xa m.xl m.xp] 39 (0, 0))) := hid (heap_alloc_new _ _)
  have Q9 : Hid ((w2.alloc (.cells #[.int .i64 m.cf, .int .i64 m.cb, .slice m.sa m.sl m.sp, .slice m.xa m.xl m.xp] 39)).cell? ⟨b, 9, none⟩ = some (.bool m.h)) := hid (cell_under (ba w2 _) hbw q9)
  obtain ⟨s, hs⟩ : ∃ s, Hid (w2.heap.size = s) := ⟨_, hid rfl⟩
  rw [hs.out] at P3 ⊢
  generalize w2.alloc (.cells #[.int .i64 m.cf, .int .i64 m.cb, .slice m.sa m.sl m.sp, .slice m.xa m.xl m.xp] 39) = w3 at B3 P3 Q9 ⊢
  clear p0 p1 p2 p3 p4 hbw q3 q4 q5 q6 q7 q8 q9 q15 q16 q17 q18 q19 q20 q21 q22
  have q9 := Q9.out
  have p0 : w3.cell? ⟨s, 0, none⟩ = some (.int .i64 m.cf) := by rw [cell_at P3.out]; rfl
  have p1 : w3.cell? ⟨s, 1, none⟩ = some (.int .i64 m.cb) := by rw [cell_at P3.out]; rfl
  have p2 : w3.cell? ⟨s, 2, none⟩ = some (.slice m.sa m.sl m.sp) := by rw [cell_at P3.out]; rfl
  have p3 : w3.cell? ⟨s, 3, none⟩ = some (.slice m.xa m.xl m.xp) := by rw [cell_at P3.out]; rfl
  by_cases c22 : m.cf = 0
  rotate_left
  · have L : Hid (m.zG = false) := hid (by simp [Ms.zG, c22])
    have e22 : (m.cf != 0) = true := by simpa using c22
    clear c22
    have F : Hid (O12 = true) := hid (by rw [← h12.out, L.out] <;> rfl)
    clear h12 L
    go_wp2_with (first | (go_at_call 43; refine (H37.out _).mono ?_; rintro e w' ⟨rfl, hw'⟩; subst w') | (go_at_call 63; refine (H46.out _).mono ?_; rintro e w' ⟨rfl, hw'⟩; subst w') | (go_at_call 64; refine (H47.out _).mono ?_; rintro e w' ⟨rfl, hw'⟩; subst w') | (go_at_call 65; refine (H48.out _).mono ?_; rintro e w' ⟨rfl, hw'⟩; subst w') | (go_at_call 66; refine (H49.out _).mono ?_; rintro e w' ⟨rfl, hw'⟩; subst w') | (go_at_call 67; refine (H50.out _).mono ?_; rintro e w' ⟨rfl, hw'⟩; subst w') | (go_at_call 75; refine (H51.out _).mono ?_; rintro e w' ⟨rfl, hw'⟩; subst w') | (go_at_call 72; refine (H57.out _).mono ?_; rintro e w' ⟨rfl, hw'⟩; subst w') | (go_at_call 68; refine (H53.out _).mono ?_; rintro e w' ⟨rfl, hw'⟩; subst w') | (go_at_call 70; refine (H55.out _).mono ?_; rintro e w' ⟨rfl, hw'⟩; subst w') | (go_at_call 73; refine (H58.out _).mono ?_; rintro e w' ⟨rfl, hw'⟩; subst w'))
    go_ret
    exact ⟨by rw [F.out]; rfl, B3.out⟩
  have e22 : (m.cf != 0) = false := by simpa using c22
  by_cases c23 : m.cb = 0
  rotate_left
  · have L : Hid (m.zG = false) := hid (by simp [Ms.zG, c23])
    have e23 : (m.cb != 0) = true := by simpa using c23
    clear c22 c23
    have F : Hid (O12 = true) := hid (by rw [← h12.out, L.out] <;> rfl)
    clear h12 L
    go_wp2_with (first | (go_at_call 43; refine (H37.out _).mono ?_; rintro e w' ⟨rfl, hw'⟩; subst w') | (go_at_call 63; refine (H46.out _).mono ?_; rintro e w' ⟨rfl, hw'⟩; subst w') | (go_at_call 64; refine (H47.out _).mono ?_; rintro e w' ⟨rfl, hw'⟩; subst w') | (go_at_call 65; refine (H48.out _).mono ?_; rintro e w' ⟨rfl, hw'⟩; subst w') | (go_at_call 66; refine (H49.out _).mono ?_; rintro e w' ⟨rfl, hw'⟩; subst w') | (go_at_call 67; refine (H50.out _).mono ?_; rintro e w' ⟨rfl, hw'⟩; subst w') | (go_at_call 75; refine (H51.out _).mono ?_; rintro e w' ⟨rfl, hw'⟩; subst w') | (go_at_call 72; refine (H57.out _).mono ?_; rintro e w' ⟨rfl, hw'⟩; subst w') | (go_at_call 68; refine (H53.out _).mono ?_; rintro e w' ⟨rfl, hw'⟩; subst w') | (go_at_call 70; refine (H55.out _).mono ?_; rintro e w' ⟨rfl, hw'⟩; subst w') | (go_at_call 73; refine (H58.out _).mono ?_; rintro e w' ⟨rfl, hw'⟩; subst w'))
    go_ret
    exact ⟨by rw [F.out]; rfl, B3.out⟩
  have e23 : (m.cb != 0) = false := by simpa using c23
  by_cases c24 : m.sl = 0
  rotate_left
  · have L : Hid (m.zG = false) := hid (by simp [Ms.zG, c24])
    have e24 : decide (0 < (m.sl : Int)) = true := by simp; omega
    have f24 : decide (0 < (m.sl)) = true := by simp; omega
    clear c22 c23 c24
    have F : Hid (O12 = true) := hid (by rw [← h12.out, L.out] <;> rfl)
    clear h12 L
    go_wp2_with (first | (go_at_call 43; refine (H37.out _).mono ?_; rintro e w' ⟨rfl, hw'⟩; subst w') | (go_at_call 63; refine (H46.out _).mono ?_; rintro e w' ⟨rfl, hw'⟩; subst w') | (go_at_call 64; refine (H47.out _).mono ?_; rintro e w' ⟨rfl, hw'⟩; subst w') | (go_at_call 65; refine (H48.out _).mono ?_; rintro e w' ⟨rfl, hw'⟩; subst w') | (go_at_call 66; refine (H49.out _).mono ?_; rintro e w' ⟨rfl, hw'⟩; subst w') | (go_at_call 67; refine (H50.out _).mono ?_; rintro e w' ⟨rfl, hw'⟩; subst w') | (go_at_call 75; refine (H51.out _).mono ?_; rintro e w' ⟨rfl, hw'⟩; subst w') | (go_at_call 72; refine (H57.out _).mono ?_; rintro e w' ⟨rfl, hw'⟩; subst w') | (go_at_call 68; refine (H53.out _).mono ?_; rintro e w' ⟨rfl, hw'⟩; subst w') | (go_at_call 70; refine (H55.out _).mono ?_; rintro e w' ⟨rfl, hw'⟩; subst w') | (go_at_call 73; refine (H58.out _).mono ?_; rintro e w' ⟨rfl, hw'⟩; subst w'))
    go_ret
    exact ⟨by rw [F.out]; rfl, B3.out⟩
  have e24 : decide (0 < (m.sl : Int)) = false := by simp; omega
  have f24 : decide (0 < (m.sl)) = false := by simp; omega
  by_cases c25 : m.xl = 0
  rotate_left
  · have L : Hid (m.zG = false) := hid (by simp [Ms.zG, c25])
    have e25 : decide (0 < (m.xl : Int)) = true := by simp; omega
    have f25 : decide (0 < (m.xl)) = true := by simp; omega
    clear c22 c23 c24 c25
    have F : Hid (O12 = true) := hid (by rw [← h12.out, L.out] <;> rfl)
    clear h12 L
    go_wp2_with (first | (go_at_call 43; refine (H37.out _).mono ?_; rintro e w' ⟨rfl, hw'⟩; subst w') | (go_at_call 63; refine (H46.out _).mono ?_; rintro e w' ⟨rfl, hw'⟩; subst w') | (go_at_call 64; refine (H47.out _).mono ?_; rintro e w' ⟨rfl, hw'⟩; subst w') | (go_at_call 65; refine (H48.out _).mono ?_; rintro e w' ⟨rfl, hw'⟩; subst w') | (go_at_call 66; refine (H49.out _).mono ?_; rintro e w' ⟨rfl, hw'⟩; subst w') | (go_at_call 67; refine (H50.out _).mono ?_; rintro e w' ⟨rfl, hw'⟩; subst w') | (go_at_call 75; refine (H51.out _).mono ?_; rintro e w' ⟨rfl, hw'⟩; subst w') | (go_at_call 72; refine (H57.out _).mono ?_; rintro e w' ⟨rfl, hw'⟩; subst w') | (go_at_call 68; refine (H53.out _).mono ?_; rintro e w' ⟨rfl, hw'⟩; subst w') | (go_at_call 70; refine (H55.out _).mono ?_; rintro e w' ⟨rfl, hw'⟩; subst w') | (go_at_call 73; refine (H58.out _).mono ?_; rintro e w' ⟨rfl, hw'⟩; subst w'))
    go_ret
    exact ⟨by rw [F.out]; rfl, B3.out⟩
  have e25 : decide (0 < (m.xl : Int)) = false := by simp; omega
  have f25 : decide (0 < (m.xl)) = false := by simp; omega
  have LG : Hid (m.zG = true) := hid (by simp [Ms.zG, c22, c23, c24, c25])
  clear c22 c23 c24 c25
  have F : Hid (O12 = false) := hid (by rw [← h12.out, LG.out] <;> rfl)
  clear h12
  go_wp2_with (first | (go_at_call 43; refine (H37.out _).mono ?_; rintro e w' ⟨rfl, hw'⟩; subst w') | (go_at_call 63; refine (H46.out _).mono ?_; rintro e w' ⟨rfl, hw'⟩; subst w') | (go_at_call 64; refine (H47.out _).mono ?_; rintro e w' ⟨rfl, hw'⟩; subst w') | (go_at_call 65; refine (H48.out _).mono ?_; rintro e w' ⟨rfl, hw'⟩; subst w') | (go_at_call 66; refine (H49.out _).mono ?_; rintro e w' ⟨rfl, hw'⟩; subst w') | (go_at_call 67; refine (H50.out _).mono ?_; rintro e w' ⟨rfl, hw'⟩; subst w') | (go_at_call 75; refine (H51.out _).mono ?_; rintro e w' ⟨rfl, hw'⟩; subst w') | (go_at_call 72; refine (H57.out _).mono ?_; rintro e w' ⟨rfl, hw'⟩; subst w') | (go_at_call 68; refine (H53.out _).mono ?_; rintro e w' ⟨rfl, hw'⟩; subst w') | (go_at_call 70; refine (H55.out _).mono ?_; rintro e w' ⟨rfl, hw'⟩; subst w') | (go_at_call 73; refine (H58.out _).mono ?_; rintro e w' ⟨rfl, hw'⟩; subst w'))
  go_ret
  exact ⟨by rw [F.out]; rfl, B3.out⟩
end Go.Proofs.YteloaggebkbeeaaDoor
