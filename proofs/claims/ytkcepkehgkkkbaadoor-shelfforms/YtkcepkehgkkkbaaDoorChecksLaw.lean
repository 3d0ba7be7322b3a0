import Derived.Test.YtkcepkehgkkkbaaDoorShow
namespace Go.Proofs.YtkcepkehgkkkbaaDoor
open Go.RowKit
set_option linter.unusedVariables false

/-- What Check tells, of any op. -/
def chkA (k : Int) (s t n m : Int) : Int := if k < 1 ∨ 8 < k then 50 else chkT k.toNat s t n m
theorem chkA_in {k : Int} (h1 : 1 ≤ k) (h8 : k ≤ 8) (s t n m : Int) : chkA k s t n m = chkT k.toNat s t n m := by unfold chkA; rw [if_neg (by omega)]
theorem chkA_out {k : Int} (h : k < 1 ∨ 8 < k) (s t n m : Int) : chkA k s t n m = 50 := by unfold chkA; rw [if_pos h]

set_option maxRecDepth 1000000 in
theorem check_out {w : World} {k : Int} (h : k < 1 ∨ 8 < k) (nm tx : ByteArray) (n m : Int) : Calls Tryd.prog 7 #[opV k nm tx n m] w fun e w' => e = .returned (.int .i64 50) ∧ Below w.heap.size w w' := by
  by_cases h1 : k < 1
  · have e1 : decide (k < 1) = true := by simpa using h1
    clear h
    go_enter Tryd.func7, Tryd.ntmps7
    go_wp2
    go_ret
    exact ⟨rfl, ba _ _⟩
  · have e1 : decide (k < 1) = false := by simpa using h1
    have e2 : decide (8 < k) = true := by simp; omega
    clear h
    go_enter Tryd.func7, Tryd.ntmps7
    go_wp2
    go_ret
    exact ⟨rfl, ba _ _⟩
set_option maxRecDepth 1000000 in
theorem rcheck_out {w : World} {k : Int} (h : k < 1 ∨ 8 < k) (nm tx : ByteArray) (n m : Int) : Calls Tryd.prog 10 #[opV k nm tx n m] w fun e w' => e = .returned (.int .i64 50) ∧ Below w.heap.size w w' := by
  by_cases h1 : k < 1
  · have e1 : decide (k < 1) = true := by simpa using h1
    clear h
    go_enter Tryd.func10, Tryd.ntmps10
    go_wp2
    go_ret
    exact ⟨rfl, ba _ _⟩
  · have e1 : decide (k < 1) = false := by simpa using h1
    have e2 : decide (8 < k) = true := by simp; omega
    clear h
    go_enter Tryd.func10, Tryd.ntmps10
    go_wp2
    go_ret
    exact ⟨rfl, ba _ _⟩

theorem check_any {w : World} (hT : Tab w) (k : Int) (nm tx : ByteArray) (n m : Int) : Calls Tryd.prog 7 #[opV k nm tx n m] w fun e w' => e = .returned (.int .i64 (chkA k nm.size tx.size n m)) ∧ Below w.heap.size w w' := by
  by_cases h : k < 1 ∨ 8 < k
  · rw [chkA_out h]
    exact check_out h nm tx n m
  · rw [chkA_in (by omega) (by omega)]
    have := check_tab hT k.toNat (by omega) (by omega) nm tx n m
    rw [show ((k.toNat : Nat) : Int) = k by omega] at this
    exact this
theorem rcheck_any {w : World} (k : Int) (nm tx : ByteArray) (n m : Int) : Calls Tryd.prog 10 #[opV k nm tx n m] w fun e w' => e = .returned (.int .i64 (chkA k nm.size tx.size n m)) ∧ Below w.heap.size w w' := by
  by_cases h : k < 1 ∨ 8 < k
  · rw [chkA_out h]
    exact rcheck_out h nm tx n m
  · rw [chkA_in (by omega) (by omega)]
    obtain rfl | rfl | rfl | rfl | rfl | rfl | rfl | rfl : k = 1 ∨ k = 2 ∨ k = 3 ∨ k = 4 ∨ k = 5 ∨ k = 6 ∨ k = 7 ∨ k = 8 := by omega
    · exact rc1 nm tx n m
    · exact rc2 nm tx n m
    · exact rc3 nm tx n m
    · exact rc4 nm tx n m
    · exact rc5 nm tx n m
    · exact rc6 nm tx n m
    · exact rc7 nm tx n m
    · exact rc8 nm tx n m

set_option maxHeartbeats 1600000 in
set_option maxRecDepth 1000000 in
theorem checks_any {w : World} (hT : Tab w) (k : Int) (nm tx : ByteArray) (n m : Int) (c x : Int) {s : Value} {l : List ByteArray} (hs : Txts w s l) (hl : l.length ≤ 9223372036854775807) (kind : Int) :
    Calls Tryd.prog 3 #[opV k nm tx n m, resV c x s, .int .i64 kind] w fun e w' => e = .returned (.bool true) ∧ Below w.heap.size w w' := by
  obtain ⟨ao, cp, rfl⟩ := hs.form
  have hh := heap_alloc_new w (opB k nm tx n m)
  have B0 := b2 (ba w (opB k nm tx n m)) (ba _ (.cells #[.int .i64 c, .int .i64 x, .slice ao l.length cp] 26))
  have T0 := hid (show Two w ((w.alloc (opB k nm tx n m)).alloc (.cells #[.int .i64 c, .int .i64 x, .slice ao l.length cp] 26)) (opB k nm tx n m) (.cells #[.int .i64 c, .int .i64 x, .slice ao l.length cp] 26) from Two.first w _ _)
  have HT := hid hT
  have HS := hid hs
  clear hs hT hh B0
  go_enter Tryd.func3, Tryd.ntmps3
  go_wp2_with fail
  refine (shown_any (HT.out.below T0.out.below)).mono ?_
  rintro e w1 ⟨rfl, B⟩
  have T := hid (T0.out.next B)
  clear T0 B
  have o0 : w1.cell? ⟨w.heap.size, 0, none⟩ = some (.int .i64 k) := by rw [cell_at T.out.op]; rfl
  have o1 : w1.cell? ⟨w.heap.size, 1, none⟩ = some (.string nm) := by rw [cell_at T.out.op]; rfl
  have o2 : w1.cell? ⟨w.heap.size, 2, none⟩ = some (.string tx) := by rw [cell_at T.out.op]; rfl
  have o3 : w1.cell? ⟨w.heap.size, 3, none⟩ = some (.int .i64 n) := by rw [cell_at T.out.op]; rfl
  have o4 : w1.cell? ⟨w.heap.size, 4, none⟩ = some (.int .i64 m) := by rw [cell_at T.out.op]; rfl
  go_wp2_with fail
  refine (check_any (HT.out.below T.out.below) k nm tx n m).mono ?_
  rintro e w2 ⟨rfl, B⟩
  generalize hA : chkA k nm.size tx.size n m = A
  have HA := hid hA
  have T := hid (T.out.next B)
  clear B hA o0 o1 o2 o3 o4
  have r0 : w2.cell? ⟨w.heap.size + 1, 0, none⟩ = some (.int .i64 c) := by rw [cell_at T.out.row]; rfl
  have r1 : w2.cell? ⟨w.heap.size + 1, 1, none⟩ = some (.int .i64 x) := by rw [cell_at T.out.row]; rfl
  have r2 : w2.cell? ⟨w.heap.size + 1, 2, none⟩ = some (.slice ao l.length cp) := by rw [cell_at T.out.row]; rfl
  go_wp2_with fail
  refine (checkX_any c x (HS.out.later T.out.below) hl).mono ?_
  rintro e w3 ⟨rfl, B⟩
  generalize hX : chkX c x l = X
  have HX := hid hX
  have T := hid (T.out.next B)
  clear B hX r0 r1 r2
  go_wp2_with fail
  refine (query_any kind).mono ?_
  rintro e w4 ⟨rfl, rfl⟩
  have o0 : w4.cell? ⟨w.heap.size, 0, none⟩ = some (.int .i64 k) := by rw [cell_at T.out.op]; rfl
  have o1 : w4.cell? ⟨w.heap.size, 1, none⟩ = some (.string nm) := by rw [cell_at T.out.op]; rfl
  have o2 : w4.cell? ⟨w.heap.size, 2, none⟩ = some (.string tx) := by rw [cell_at T.out.op]; rfl
  have o3 : w4.cell? ⟨w.heap.size, 3, none⟩ = some (.int .i64 n) := by rw [cell_at T.out.op]; rfl
  have o4 : w4.cell? ⟨w.heap.size, 4, none⟩ = some (.int .i64 m) := by rw [cell_at T.out.op]; rfl
  generalize hQ1 : decide (6 ≤ kind ∧ kind ≤ 8) = q1
  have HQ1 := hid hQ1
  clear hQ1
  go_wp2_with fail
  refine (query_any k).mono ?_
  rintro e w5 ⟨rfl, rfl⟩
  generalize hQ2 : decide (6 ≤ k ∧ k ≤ 8) = q2
  have HQ2 := hid hQ2
  clear hQ2
  go_wp2_with fail
  refine (rcheck_any k nm tx n m).mono ?_
  rw [HA.out]
  rintro e w6 ⟨rfl, B⟩
  have T := hid (T.out.next B)
  clear B o0 o1 o2 o3 o4
  have o0 : w6.cell? ⟨w.heap.size, 0, none⟩ = some (.int .i64 k) := by rw [cell_at T.out.op]; rfl
  have r0 : w6.cell? ⟨w.heap.size + 1, 0, none⟩ = some (.int .i64 c) := by rw [cell_at T.out.row]; rfl
  have r1 : w6.cell? ⟨w.heap.size + 1, 1, none⟩ = some (.int .i64 x) := by rw [cell_at T.out.row]; rfl
  have r2 : w6.cell? ⟨w.heap.size + 1, 2, none⟩ = some (.slice ao l.length cp) := by rw [cell_at T.out.row]; rfl
  go_wp2_with fail
  refine (checkX_ref c x (HS.out.later T.out.below) hl).mono ?_
  rw [HX.out]
  rintro e w7 ⟨rfl, B⟩
  have T := hid (T.out.next B)
  clear B o0 r0 r1 r2
  have o0 : w7.cell? ⟨w.heap.size, 0, none⟩ = some (.int .i64 k) := by rw [cell_at T.out.op]; rfl
  go_wp2_with fail
  refine (query_ref kind).mono ?_
  rw [HQ1.out]
  rintro e w8 ⟨rfl, rfl⟩
  go_wp2_with fail
  refine (query_ref k).mono ?_
  rw [HQ2.out]
  rintro e w9 ⟨rfl, rfl⟩
  go_wp2
  go_ret
  exact ⟨rfl, T.out.below⟩
end Go.Proofs.YtkcepkehgkkkbaaDoor
