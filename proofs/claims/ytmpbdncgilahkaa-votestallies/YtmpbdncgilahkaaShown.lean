import Derived.Test.YtmpbdncgilahkaaPoint
import Derived.Test.YtmpbdncgilahkaaCfg
import Derived.Test.YtmpbdncgilahkaaCntI
namespace Go.Proofs.Ytmpbdncgilahkaa
open Go.RowKit Go.Sort
set_option linter.unusedVariables false

theorem pnt_ex : pnt 5 [1, 1, 7, 0, 7] = 1 := by
  have h : srt [1, 1, 7, 0, 7] = [0, 1, 1, 7, 7] := by
    simp [srt, List.mergeSort, List.MergeSort.Internal.splitInTwo]
  simp only [pnt, h]
  rfl

theorem plain_c {w : World} : Calls Try.prog 27 #[] w fun e w' => e = .returned (cfgV 3 1 2 3 8 64 6 4 8 2) ∧ Below w.heap.size w w' :=
  plain_any.mono fun e w' ⟨h, h'⟩ => ⟨h, h' ▸ ba _ _⟩
theorem chk_c {w : World} : Calls Try.prog 10 #[cfgV 3 1 2 3 8 64 6 4 8 2] w fun e w' => e = .returned (.int .i64 0) ∧ Below w.heap.size w w' :=
  (chk_any 3 1 2 3 8 64 6 4 8 2).mono fun e w' ⟨h, h'⟩ => ⟨h.trans (by rw [show chkE (cfgOK 3 1 2 3 8 64 6 4 8 2) = 0 by decide +kernel]), h'⟩
theorem chk_d {w : World} : Calls Try.prog 10 #[cfgV 4 1 2 3 8 64 6 4 8 2] w fun e w' => e = .returned (.int .i64 42) ∧ Below w.heap.size w w' :=
  chk_any 4 1 2 3 8 64 6 4 8 2

set_option maxRecDepth 1000000 in
theorem shown_any {w : World} : Calls Try.prog 9 #[] w fun e w' => e = .returned (.bool true) ∧ Below w.heap.size w w' := by
  go_enter Try.func9, Try.ntmps9
  go_wp2_with fail
  refine plain_c.mono ?_
  rintro e w1 ⟨rfl, B1⟩
  have B1 := hid B1
  go_wp2_with fail
  refine chk_c.mono ?_
  rintro e w2 ⟨rfl, B2⟩
  have B2 := hid (B1.out.trans (B2.mono B1.out.size))
  clear B1
  go_wp2_with fail
  refine plain_c.mono ?_
  rintro e w3 ⟨rfl, B3⟩
  have B3 := hid (B2.out.trans (B3.mono B2.out.size))
  clear B2
  go_wp2_with fail
  refine chk_d.mono ?_
  rintro e w4 ⟨rfl, B4⟩
  have B4 := hid ((B3.out.alloc B3.out.size _).trans (B4.mono (by have := B3.out.size; simp; omega)))
  clear B3
  go_wp2_with fail
  have B5 := hid (B4.out.alloc B4.out.size (.cells #[.int .i64 1, .int .i64 1, .int .i64 7, .int .i64 0, .int .i64 7] 3))
  have hh := heap_alloc_new w4 (.cells #[.int .i64 1, .int .i64 1, .int .i64 7, .int .i64 0, .int .i64 7] 3)
  refine (Point_ok (n := 5) (off := 0) (xs := [1, 1, 7, 0, 7]) rfl rfl ?_).mono ?_
  · intro j hj
    rw [Nat.zero_add, cell_at hh]
    obtain rfl | rfl | rfl | rfl | rfl : j = 0 ∨ j = 1 ∨ j = 2 ∨ j = 3 ∨ j = 4 := by simp at hj; omega
    all_goals rfl
  clear hh B4
  rw [show ((5 : Nat) : Int) = 5 from rfl, pnt_ex]
  rintro e w5 ⟨rfl, B6⟩
  have B6 := hid (B5.out.trans (B6.mono B5.out.size))
  clear B5
  go_wp2_with fail
  refine (NewI_ok (by omega) (by omega)).mono ?_
  rintro e w6 ⟨P, rfl, B7, hP, T⟩
  have hP : w.heap.size ≤ P := Nat.le_trans B6.out.size hP
  have B7 := hid (B6.out.trans (B7.mono B6.out.size))
  have T := hid T
  clear B6
  go_wp2_with fail
  refine (AddI_ok (k := 1) T.out (by omega) (by omega) (by omega) rfl).mono ?_
  rintro e w7 ⟨rfl, hw7⟩
  have T2 := T.out.put (k := 1) (by omega) 5
  have B8 := hid ((B7.out.setCell (p := ⟨P, 1 + 1 * 2, none⟩) hP (.int .i64 5)).setCell (p := ⟨P, 1 + 1 * 2 + 1, none⟩) hP (.bool true))
  rw [← hw7] at T2 B8
  have T2 := hid T2
  clear B7 T hw7
  go_wp2_with fail
  refine (AddI_ok (k := 1) T2.out (by omega) (by omega) (by omega) rfl).mono ?_
  rintro e w8 ⟨rfl, hw8⟩
  have T3 := T2.out.put (k := 1) (by omega) 6
  have B9 := hid ((B8.out.setCell (p := ⟨P, 1 + 1 * 2, none⟩) hP (.int .i64 6)).setCell (p := ⟨P, 1 + 1 * 2 + 1, none⟩) hP (.bool true))
  rw [← hw8] at T3 B9
  have T3 := hid T3
  clear B8 T2 hw8
  go_wp2_with fail
  refine (GetI_ok (k := 1) T3.out (by omega) (by omega) (by omega) rfl).mono ?_
  rintro e w9 ⟨rfl, q, hw9⟩
  have T4 : TalI w9 P 3 [none, some 6, none, none, none, none, none] := by rw [hw9]; exact T3.out
  have B10 := hid (show Below w.heap.size w w9 by rw [hw9]; exact ⟨B9.out.os, B9.out.tape, B9.out.output, B9.out.size, B9.out.block⟩)
  have T4 := hid T4
  clear B9 T3 hw9
  go_wp2_with fail
  refine (CountI T4.out).mono ?_
  rintro e w10 ⟨rfl, hB⟩
  have B11 := hid (B10.out.trans (hB.mono B10.out.size))
  clear B10 T4 hB
  have M := @Majority_any w10 5
  have F := @Faults_any w10 5
  have Q := @Primary_any w10 5 12
  rw [show maj 5 = 3 by decide +kernel] at M
  rw [show fau 5 = 2 by decide +kernel] at F
  rw [show pri 5 12 = 2 by decide +kernel] at Q
  have M := hid M
  have F := hid F
  have Q := hid Q
  go_wp2_with fail
  refine M.out.mono ?_
  rintro e w11 ⟨rfl, rfl⟩
  go_wp2_with fail
  refine F.out.mono ?_
  rintro e w11 ⟨rfl, rfl⟩
  go_wp2_with fail
  refine Q.out.mono ?_
  rintro e w11 ⟨rfl, rfl⟩
  go_wp2
  go_ret
  exact ⟨rfl, B11.out⟩
end Go.Proofs.Ytmpbdncgilahkaa
