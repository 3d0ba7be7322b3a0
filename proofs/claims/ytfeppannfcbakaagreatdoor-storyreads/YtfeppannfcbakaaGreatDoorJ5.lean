import Derived.Test.YtfeppannfcbakaaGreatDoorRC1
namespace Go.Proofs.YtfeppannfcbakaaGreatDoor
open Go.RowKit
set_option linter.unusedVariables false
set_option maxRecDepth 1000000
set_option maxHeartbeats 3200000
theorem rc5 {w : World} (nm tx : ByteArray) (n m : Int) : Calls Tryz.prog 98 #[opV 5 nm tx n m] w fun e w' => e = .returned (.int .i64 (chkR 1 16 1 16 0 0 0 0 nm.size tx.size n m)) ∧ Below w.heap.size w w' := by
 have N : ∀ W : World, Calls Tryz.prog 124 #[.int .i64 5] W fun e w' => e = .returned (.bool true) ∧ w' = W := fun W => hasName_any 5
 have L : ∀ W : World, Calls Tryz.prog 125 #[.int .i64 5] W fun e w' => e = .returned (.int .i64 16) ∧ w' = W := fun W => textMost_any 5
 have S : ∀ W : World, Calls Tryz.prog 126 #[.int .i64 5] W fun e w' => e = .returned (.int .i64 1) ∧ w' = W := fun W => textLeast_any 5
 have M : ∀ W : World, Calls Tryz.prog 127 #[.int .i64 5] W fun e w' => e = .returned (.bool false) ∧ w' = W := fun W => hasNum_any 5
 have N := hid N
 have L := hid L
 have S := hid S
 have M := hid M
 go_enter Tryz.func98, Tryz.ntmps98
 go_wp2_with fail
 refine (N.out _).mono ?_
 rintro e w1 ⟨rfl, hw⟩
 have T := hid (Bx.first w 5 nm tx n m)
 have T : Hid (Bx w w1 5 nm tx n m) := hid (by rw [hw]; exact T.out)
 clear hw
 have o0 : w1.cell? ⟨w.heap.size, 0, none⟩ = some (.int .i64 5) := by rw [cell_at T.out.op]; rfl
 have o1 : w1.cell? ⟨w.heap.size, 1, none⟩ = some (.string nm) := by rw [cell_at T.out.op]; rfl
 have o2 : w1.cell? ⟨w.heap.size, 2, none⟩ = some (.string tx) := by rw [cell_at T.out.op]; rfl
 have o3 : w1.cell? ⟨w.heap.size, 3, none⟩ = some (.int .i64 n) := by rw [cell_at T.out.op]; rfl
 have o4 : w1.cell? ⟨w.heap.size, 4, none⟩ = some (.int .i64 m) := by rw [cell_at T.out.op]; rfl
 by_cases s1 : (nm.size : Int) < 1
 · have es1 : decide ((nm.size : Int) < 1) = true := by simp; omega
   go_wp2
   go_ret
   have Z : chkR 1 16 1 16 0 0 0 0 nm.size tx.size n m = 51 := by
     revert s1
     generalize nm.size = s
     generalize tx.size = t
     intro s1
     simp [chkR, wr, ex, hs, hl] <;> omega
   exact ⟨by rw [Z]; rfl, T.out.below⟩
 have es1 : decide ((nm.size : Int) < 1) = false := by simp; omega
 by_cases s2 : (16 : Int) < (nm.size : Int)
 · have es2 : decide ((16 : Int) < (nm.size : Int)) = true := by simp; omega
   go_wp2
   go_ret
   have Z : chkR 1 16 1 16 0 0 0 0 nm.size tx.size n m = 51 := by
     revert s1 s2
     generalize nm.size = s
     generalize tx.size = t
     intro s1 s2
     simp [chkR, wr, ex, hs, hl] <;> omega
   exact ⟨by rw [Z]; rfl, T.out.below⟩
 have es2 : decide ((16 : Int) < (nm.size : Int)) = false := by simp; omega
 by_cases t1 : (tx.size : Int) < 1
 · have et1 : decide ((tx.size : Int) < 1) = true := by simp; omega
   go_wp2
   go_quiet (first | (go_at_call 125; exact Calls.quiet_of_same (L.out _)) | (go_at_call 126; exact Calls.quiet_of_same (S.out _)))
   have T := hid (T.out.drewN nq)
   clear o0 o1 o2 o3 o4
   generalize w1.drewN nq = w2 at T ⊢
   have o0 : w2.cell? ⟨w.heap.size, 0, none⟩ = some (.int .i64 5) := by rw [cell_at T.out.op]; rfl
   have o1 : w2.cell? ⟨w.heap.size, 1, none⟩ = some (.string nm) := by rw [cell_at T.out.op]; rfl
   have o2 : w2.cell? ⟨w.heap.size, 2, none⟩ = some (.string tx) := by rw [cell_at T.out.op]; rfl
   have o3 : w2.cell? ⟨w.heap.size, 3, none⟩ = some (.int .i64 n) := by rw [cell_at T.out.op]; rfl
   have o4 : w2.cell? ⟨w.heap.size, 4, none⟩ = some (.int .i64 m) := by rw [cell_at T.out.op]; rfl
   go_wp2
   go_ret
   have Z : chkR 1 16 1 16 0 0 0 0 nm.size tx.size n m = 52 := by
     revert s1 s2 t1
     generalize nm.size = s
     generalize tx.size = t
     intro s1 s2 t1
     simp [chkR, wr, ex, hs, hl] <;> omega
   exact ⟨by rw [Z]; rfl, T.out.below⟩
 have et1 : decide ((tx.size : Int) < 1) = false := by simp; omega
 by_cases t2 : (16 : Int) < (tx.size : Int)
 · have et2 : decide ((16 : Int) < (tx.size : Int)) = true := by simp; omega
   go_wp2
   go_quiet (first | (go_at_call 125; exact Calls.quiet_of_same (L.out _)) | (go_at_call 126; exact Calls.quiet_of_same (S.out _)))
   have T := hid (T.out.drewN nq)
   clear o0 o1 o2 o3 o4
   generalize w1.drewN nq = w2 at T ⊢
   have o0 : w2.cell? ⟨w.heap.size, 0, none⟩ = some (.int .i64 5) := by rw [cell_at T.out.op]; rfl
   have o1 : w2.cell? ⟨w.heap.size, 1, none⟩ = some (.string nm) := by rw [cell_at T.out.op]; rfl
   have o2 : w2.cell? ⟨w.heap.size, 2, none⟩ = some (.string tx) := by rw [cell_at T.out.op]; rfl
   have o3 : w2.cell? ⟨w.heap.size, 3, none⟩ = some (.int .i64 n) := by rw [cell_at T.out.op]; rfl
   have o4 : w2.cell? ⟨w.heap.size, 4, none⟩ = some (.int .i64 m) := by rw [cell_at T.out.op]; rfl
   go_wp2
   go_ret
   have Z : chkR 1 16 1 16 0 0 0 0 nm.size tx.size n m = 52 := by
     revert s1 s2 t1 t2
     generalize nm.size = s
     generalize tx.size = t
     intro s1 s2 t1 t2
     simp [chkR, wr, ex, hs, hl] <;> omega
   exact ⟨by rw [Z]; rfl, T.out.below⟩
 have et2 : decide ((16 : Int) < (tx.size : Int)) = false := by simp; omega
 go_wp2
 go_quiet (first | (go_at_call 125; exact Calls.quiet_of_same (L.out _)) | (go_at_call 126; exact Calls.quiet_of_same (S.out _)))
 have T := hid (T.out.drewN nq)
 clear o0 o1 o2 o3 o4
 generalize w1.drewN nq = w2 at T ⊢
 have o0 : w2.cell? ⟨w.heap.size, 0, none⟩ = some (.int .i64 5) := by rw [cell_at T.out.op]; rfl
 have o1 : w2.cell? ⟨w.heap.size, 1, none⟩ = some (.string nm) := by rw [cell_at T.out.op]; rfl
 have o2 : w2.cell? ⟨w.heap.size, 2, none⟩ = some (.string tx) := by rw [cell_at T.out.op]; rfl
 have o3 : w2.cell? ⟨w.heap.size, 3, none⟩ = some (.int .i64 n) := by rw [cell_at T.out.op]; rfl
 have o4 : w2.cell? ⟨w.heap.size, 4, none⟩ = some (.int .i64 m) := by rw [cell_at T.out.op]; rfl
 go_wp2_with fail
 refine (M.out _).mono ?_
 rintro e w3 ⟨rfl, rfl⟩
 go_wp2_with fail
 refine (N.out _).mono ?_
 rintro e w4 ⟨rfl, rfl⟩
 go_wp2_with fail
 refine (L.out _).mono ?_
 rintro e w5 ⟨rfl, rfl⟩
 go_wp2_with fail
 refine (M.out _).mono ?_
 rintro e w6 ⟨rfl, rfl⟩
 by_cases x3 : n = 0
 case neg =>
   have qn : (n != 0) = true := by simpa using x3
   go_wp2
   go_ret
   have Z : chkR 1 16 1 16 0 0 0 0 nm.size tx.size n m = 55 := by
     revert s1 s2 t1 t2 x3
     generalize nm.size = s
     generalize tx.size = t
     intro s1 s2 t1 t2 x3
     simp [chkR, wr, ex, hs, hl] <;> omega
   exact ⟨by rw [Z]; rfl, T.out.below⟩
 have qn : (n != 0) = false := by simpa using x3
 have xx3 := hid x3
 clear x3
 by_cases x4 : m = 0
 case neg =>
   have qm : (m != 0) = true := by simpa using x4
   go_wp2
   go_ret
   have Z : chkR 1 16 1 16 0 0 0 0 nm.size tx.size n m = 55 := by
     revert s1 s2 t1 t2 xx3 x4
     generalize nm.size = s
     generalize tx.size = t
     intro s1 s2 t1 t2 xx3 x4
     have xx3 := xx3.out
     simp [chkR, wr, ex, hs, hl] <;> omega
   exact ⟨by rw [Z]; rfl, T.out.below⟩
 have qm : (m != 0) = false := by simpa using x4
 have xx4 := hid x4
 clear x4
 go_wp2
 go_ret
 have Z : chkR 1 16 1 16 0 0 0 0 nm.size tx.size n m = 0 := by
   revert s1 s2 t1 t2 xx3 xx4
   generalize nm.size = s
   generalize tx.size = t
   intro s1 s2 t1 t2 xx3 xx4
   have xx3 := xx3.out
   have xx4 := xx4.out
   simp [chkR, wr, ex, hs, hl] <;> omega
 exact ⟨by rw [Z]; rfl, T.out.below⟩
theorem rc6 {w : World} (nm tx : ByteArray) (n m : Int) : Calls Tryz.prog 98 #[opV 6 nm tx n m] w fun e w' => e = .returned (.int .i64 (chkR 1 16 0 0 0 1099511627776 1 8 nm.size tx.size n m)) ∧ Below w.heap.size w w' := by
 have N : ∀ W : World, Calls Tryz.prog 124 #[.int .i64 6] W fun e w' => e = .returned (.bool true) ∧ w' = W := fun W => hasName_any 6
 have L : ∀ W : World, Calls Tryz.prog 125 #[.int .i64 6] W fun e w' => e = .returned (.int .i64 (-1)) ∧ w' = W := fun W => textMost_any 6
 have S : ∀ W : World, Calls Tryz.prog 126 #[.int .i64 6] W fun e w' => e = .returned (.int .i64 0) ∧ w' = W := fun W => textLeast_any 6
 have M : ∀ W : World, Calls Tryz.prog 127 #[.int .i64 6] W fun e w' => e = .returned (.bool true) ∧ w' = W := fun W => hasNum_any 6
 have N := hid N
 have L := hid L
 have S := hid S
 have M := hid M
 go_enter Tryz.func98, Tryz.ntmps98
 go_wp2_with fail
 refine (N.out _).mono ?_
 rintro e w1 ⟨rfl, hw⟩
 have T := hid (Bx.first w 6 nm tx n m)
 have T : Hid (Bx w w1 6 nm tx n m) := hid (by rw [hw]; exact T.out)
 clear hw
 have o0 : w1.cell? ⟨w.heap.size, 0, none⟩ = some (.int .i64 6) := by rw [cell_at T.out.op]; rfl
 have o1 : w1.cell? ⟨w.heap.size, 1, none⟩ = some (.string nm) := by rw [cell_at T.out.op]; rfl
 have o2 : w1.cell? ⟨w.heap.size, 2, none⟩ = some (.string tx) := by rw [cell_at T.out.op]; rfl
 have o3 : w1.cell? ⟨w.heap.size, 3, none⟩ = some (.int .i64 n) := by rw [cell_at T.out.op]; rfl
 have o4 : w1.cell? ⟨w.heap.size, 4, none⟩ = some (.int .i64 m) := by rw [cell_at T.out.op]; rfl
 by_cases s1 : (nm.size : Int) < 1
 · have es1 : decide ((nm.size : Int) < 1) = true := by simp; omega
   go_wp2
   go_ret
   have Z : chkR 1 16 0 0 0 1099511627776 1 8 nm.size tx.size n m = 51 := by
     revert s1
     generalize nm.size = s
     generalize tx.size = t
     intro s1
     simp [chkR, wr, ex, hs, hl] <;> omega
   exact ⟨by rw [Z]; rfl, T.out.below⟩
 have es1 : decide ((nm.size : Int) < 1) = false := by simp; omega
 by_cases s2 : (16 : Int) < (nm.size : Int)
 · have es2 : decide ((16 : Int) < (nm.size : Int)) = true := by simp; omega
   go_wp2
   go_ret
   have Z : chkR 1 16 0 0 0 1099511627776 1 8 nm.size tx.size n m = 51 := by
     revert s1 s2
     generalize nm.size = s
     generalize tx.size = t
     intro s1 s2
     simp [chkR, wr, ex, hs, hl] <;> omega
   exact ⟨by rw [Z]; rfl, T.out.below⟩
 have es2 : decide ((16 : Int) < (nm.size : Int)) = false := by simp; omega
 go_wp2
 go_quiet (first | (go_at_call 125; exact Calls.quiet_of_same (L.out _)))
 have T := hid (T.out.drewN nq)
 clear o0 o1 o2 o3 o4
 generalize w1.drewN nq = w2 at T ⊢
 have o0 : w2.cell? ⟨w.heap.size, 0, none⟩ = some (.int .i64 6) := by rw [cell_at T.out.op]; rfl
 have o1 : w2.cell? ⟨w.heap.size, 1, none⟩ = some (.string nm) := by rw [cell_at T.out.op]; rfl
 have o2 : w2.cell? ⟨w.heap.size, 2, none⟩ = some (.string tx) := by rw [cell_at T.out.op]; rfl
 have o3 : w2.cell? ⟨w.heap.size, 3, none⟩ = some (.int .i64 n) := by rw [cell_at T.out.op]; rfl
 have o4 : w2.cell? ⟨w.heap.size, 4, none⟩ = some (.int .i64 m) := by rw [cell_at T.out.op]; rfl
 go_wp2_with fail
 refine (M.out _).mono ?_
 rintro e w3 ⟨rfl, rfl⟩
 by_cases n1 : n < 0
 · have en1 : decide (n < 0) = true := by simp; omega
   go_wp2
   go_ret
   have Z : chkR 1 16 0 0 0 1099511627776 1 8 nm.size tx.size n m = 53 := by
     revert s1 s2 n1
     generalize nm.size = s
     generalize tx.size = t
     intro s1 s2 n1
     simp [chkR, wr, ex, hs, hl] <;> omega
   exact ⟨by rw [Z]; rfl, T.out.below⟩
 have en1 : decide (n < 0) = false := by simp; omega
 by_cases n2 : (1099511627776 : Int) < n
 · have en2 : decide ((1099511627776 : Int) < n) = true := by simp; omega
   go_wp2
   go_ret
   have Z : chkR 1 16 0 0 0 1099511627776 1 8 nm.size tx.size n m = 53 := by
     revert s1 s2 n1 n2
     generalize nm.size = s
     generalize tx.size = t
     intro s1 s2 n1 n2
     simp [chkR, wr, ex, hs, hl] <;> omega
   exact ⟨by rw [Z]; rfl, T.out.below⟩
 have en2 : decide ((1099511627776 : Int) < n) = false := by simp; omega
 by_cases m1 : m < 1
 · have em1 : decide (m < 1) = true := by simp; omega
   go_wp2
   go_ret
   have Z : chkR 1 16 0 0 0 1099511627776 1 8 nm.size tx.size n m = 54 := by
     revert s1 s2 n1 n2 m1
     generalize nm.size = s
     generalize tx.size = t
     intro s1 s2 n1 n2 m1
     simp [chkR, wr, ex, hs, hl] <;> omega
   exact ⟨by rw [Z]; rfl, T.out.below⟩
 have em1 : decide (m < 1) = false := by simp; omega
 by_cases m2 : (8 : Int) < m
 · have em2 : decide ((8 : Int) < m) = true := by simp; omega
   go_wp2
   go_ret
   have Z : chkR 1 16 0 0 0 1099511627776 1 8 nm.size tx.size n m = 54 := by
     revert s1 s2 n1 n2 m1 m2
     generalize nm.size = s
     generalize tx.size = t
     intro s1 s2 n1 n2 m1 m2
     simp [chkR, wr, ex, hs, hl] <;> omega
   exact ⟨by rw [Z]; rfl, T.out.below⟩
 have em2 : decide ((8 : Int) < m) = false := by simp; omega
 go_wp2_with fail
 refine (N.out _).mono ?_
 rintro e w4 ⟨rfl, rfl⟩
 go_wp2_with fail
 refine (L.out _).mono ?_
 rintro e w5 ⟨rfl, rfl⟩
 by_cases x2 : tx.size = 0
 case neg =>
   have qtx := nonempty tx x2
   go_wp2
   go_ret
   have Z : chkR 1 16 0 0 0 1099511627776 1 8 nm.size tx.size n m = 55 := by
     revert s1 s2 n1 n2 m1 m2 x2
     generalize nm.size = s
     generalize tx.size = t
     intro s1 s2 n1 n2 m1 m2 x2
     simp [chkR, wr, ex, hs, hl] <;> omega
   exact ⟨by rw [Z]; rfl, T.out.below⟩
 have qtx := isempty tx x2
 go_wp2_with fail
 refine (M.out _).mono ?_
 rintro e w6 ⟨rfl, rfl⟩
 go_wp2
 go_ret
 have Z : chkR 1 16 0 0 0 1099511627776 1 8 nm.size tx.size n m = 0 := by
   revert s1 s2 n1 n2 m1 m2 x2
   generalize nm.size = s
   generalize tx.size = t
   intro s1 s2 n1 n2 m1 m2 x2
   simp [chkR, wr, ex, hs, hl] <;> omega
 exact ⟨by rw [Z]; rfl, T.out.below⟩
theorem rc7 {w : World} (nm tx : ByteArray) (n m : Int) : Calls Tryz.prog 98 #[opV 7 nm tx n m] w fun e w' => e = .returned (.int .i64 (chkR 1 16 0 0 0 0 0 0 nm.size tx.size n m)) ∧ Below w.heap.size w w' := by
 have N : ∀ W : World, Calls Tryz.prog 124 #[.int .i64 7] W fun e w' => e = .returned (.bool true) ∧ w' = W := fun W => hasName_any 7
 have L : ∀ W : World, Calls Tryz.prog 125 #[.int .i64 7] W fun e w' => e = .returned (.int .i64 (-1)) ∧ w' = W := fun W => textMost_any 7
 have S : ∀ W : World, Calls Tryz.prog 126 #[.int .i64 7] W fun e w' => e = .returned (.int .i64 0) ∧ w' = W := fun W => textLeast_any 7
 have M : ∀ W : World, Calls Tryz.prog 127 #[.int .i64 7] W fun e w' => e = .returned (.bool false) ∧ w' = W := fun W => hasNum_any 7
 have N := hid N
 have L := hid L
 have S := hid S
 have M := hid M
 go_enter Tryz.func98, Tryz.ntmps98
 go_wp2_with fail
 refine (N.out _).mono ?_
 rintro e w1 ⟨rfl, hw⟩
 have T := hid (Bx.first w 7 nm tx n m)
 have T : Hid (Bx w w1 7 nm tx n m) := hid (by rw [hw]; exact T.out)
 clear hw
 have o0 : w1.cell? ⟨w.heap.size, 0, none⟩ = some (.int .i64 7) := by rw [cell_at T.out.op]; rfl
 have o1 : w1.cell? ⟨w.heap.size, 1, none⟩ = some (.string nm) := by rw [cell_at T.out.op]; rfl
 have o2 : w1.cell? ⟨w.heap.size, 2, none⟩ = some (.string tx) := by rw [cell_at T.out.op]; rfl
 have o3 : w1.cell? ⟨w.heap.size, 3, none⟩ = some (.int .i64 n) := by rw [cell_at T.out.op]; rfl
 have o4 : w1.cell? ⟨w.heap.size, 4, none⟩ = some (.int .i64 m) := by rw [cell_at T.out.op]; rfl
 by_cases s1 : (nm.size : Int) < 1
 · have es1 : decide ((nm.size : Int) < 1) = true := by simp; omega
   go_wp2
   go_ret
   have Z : chkR 1 16 0 0 0 0 0 0 nm.size tx.size n m = 51 := by
     revert s1
     generalize nm.size = s
     generalize tx.size = t
     intro s1
     simp [chkR, wr, ex, hs, hl] <;> omega
   exact ⟨by rw [Z]; rfl, T.out.below⟩
 have es1 : decide ((nm.size : Int) < 1) = false := by simp; omega
 by_cases s2 : (16 : Int) < (nm.size : Int)
 · have es2 : decide ((16 : Int) < (nm.size : Int)) = true := by simp; omega
   go_wp2
   go_ret
   have Z : chkR 1 16 0 0 0 0 0 0 nm.size tx.size n m = 51 := by
     revert s1 s2
     generalize nm.size = s
     generalize tx.size = t
     intro s1 s2
     simp [chkR, wr, ex, hs, hl] <;> omega
   exact ⟨by rw [Z]; rfl, T.out.below⟩
 have es2 : decide ((16 : Int) < (nm.size : Int)) = false := by simp; omega
 go_wp2
 go_quiet (first | (go_at_call 125; exact Calls.quiet_of_same (L.out _)))
 have T := hid (T.out.drewN nq)
 clear o0 o1 o2 o3 o4
 generalize w1.drewN nq = w2 at T ⊢
 have o0 : w2.cell? ⟨w.heap.size, 0, none⟩ = some (.int .i64 7) := by rw [cell_at T.out.op]; rfl
 have o1 : w2.cell? ⟨w.heap.size, 1, none⟩ = some (.string nm) := by rw [cell_at T.out.op]; rfl
 have o2 : w2.cell? ⟨w.heap.size, 2, none⟩ = some (.string tx) := by rw [cell_at T.out.op]; rfl
 have o3 : w2.cell? ⟨w.heap.size, 3, none⟩ = some (.int .i64 n) := by rw [cell_at T.out.op]; rfl
 have o4 : w2.cell? ⟨w.heap.size, 4, none⟩ = some (.int .i64 m) := by rw [cell_at T.out.op]; rfl
 go_wp2_with fail
 refine (M.out _).mono ?_
 rintro e w3 ⟨rfl, rfl⟩
 go_wp2_with fail
 refine (N.out _).mono ?_
 rintro e w4 ⟨rfl, rfl⟩
 go_wp2_with fail
 refine (L.out _).mono ?_
 rintro e w5 ⟨rfl, rfl⟩
 by_cases x2 : tx.size = 0
 case neg =>
   have qtx := nonempty tx x2
   go_wp2
   go_ret
   have Z : chkR 1 16 0 0 0 0 0 0 nm.size tx.size n m = 55 := by
     revert s1 s2 x2
     generalize nm.size = s
     generalize tx.size = t
     intro s1 s2 x2
     simp [chkR, wr, ex, hs, hl] <;> omega
   exact ⟨by rw [Z]; rfl, T.out.below⟩
 have qtx := isempty tx x2
 go_wp2_with fail
 refine (M.out _).mono ?_
 rintro e w6 ⟨rfl, rfl⟩
 by_cases x3 : n = 0
 case neg =>
   have qn : (n != 0) = true := by simpa using x3
   go_wp2
   go_ret
   have Z : chkR 1 16 0 0 0 0 0 0 nm.size tx.size n m = 55 := by
     revert s1 s2 x2 x3
     generalize nm.size = s
     generalize tx.size = t
     intro s1 s2 x2 x3
     simp [chkR, wr, ex, hs, hl] <;> omega
   exact ⟨by rw [Z]; rfl, T.out.below⟩
 have qn : (n != 0) = false := by simpa using x3
 have xx3 := hid x3
 clear x3
 by_cases x4 : m = 0
 case neg =>
   have qm : (m != 0) = true := by simpa using x4
   go_wp2
   go_ret
   have Z : chkR 1 16 0 0 0 0 0 0 nm.size tx.size n m = 55 := by
     revert s1 s2 x2 xx3 x4
     generalize nm.size = s
     generalize tx.size = t
     intro s1 s2 x2 xx3 x4
     have xx3 := xx3.out
     simp [chkR, wr, ex, hs, hl] <;> omega
   exact ⟨by rw [Z]; rfl, T.out.below⟩
 have qm : (m != 0) = false := by simpa using x4
 have xx4 := hid x4
 clear x4
 go_wp2
 go_ret
 have Z : chkR 1 16 0 0 0 0 0 0 nm.size tx.size n m = 0 := by
   revert s1 s2 x2 xx3 xx4
   generalize nm.size = s
   generalize tx.size = t
   intro s1 s2 x2 xx3 xx4
   have xx3 := xx3.out
   have xx4 := xx4.out
   simp [chkR, wr, ex, hs, hl] <;> omega
 exact ⟨by rw [Z]; rfl, T.out.below⟩
theorem rc8 {w : World} (nm tx : ByteArray) (n m : Int) : Calls Tryz.prog 98 #[opV 8 nm tx n m] w fun e w' => e = .returned (.int .i64 (chkR 0 0 0 0 0 0 0 0 nm.size tx.size n m)) ∧ Below w.heap.size w w' := by
 have N : ∀ W : World, Calls Tryz.prog 124 #[.int .i64 8] W fun e w' => e = .returned (.bool false) ∧ w' = W := fun W => hasName_any 8
 have L : ∀ W : World, Calls Tryz.prog 125 #[.int .i64 8] W fun e w' => e = .returned (.int .i64 (-1)) ∧ w' = W := fun W => textMost_any 8
 have S : ∀ W : World, Calls Tryz.prog 126 #[.int .i64 8] W fun e w' => e = .returned (.int .i64 0) ∧ w' = W := fun W => textLeast_any 8
 have M : ∀ W : World, Calls Tryz.prog 127 #[.int .i64 8] W fun e w' => e = .returned (.bool false) ∧ w' = W := fun W => hasNum_any 8
 have N := hid N
 have L := hid L
 have S := hid S
 have M := hid M
 go_enter Tryz.func98, Tryz.ntmps98
 go_wp2_with fail
 refine (N.out _).mono ?_
 rintro e w1 ⟨rfl, hw⟩
 have T := hid (Bx.first w 8 nm tx n m)
 have T : Hid (Bx w w1 8 nm tx n m) := hid (by rw [hw]; exact T.out)
 clear hw
 have o0 : w1.cell? ⟨w.heap.size, 0, none⟩ = some (.int .i64 8) := by rw [cell_at T.out.op]; rfl
 have o1 : w1.cell? ⟨w.heap.size, 1, none⟩ = some (.string nm) := by rw [cell_at T.out.op]; rfl
 have o2 : w1.cell? ⟨w.heap.size, 2, none⟩ = some (.string tx) := by rw [cell_at T.out.op]; rfl
 have o3 : w1.cell? ⟨w.heap.size, 3, none⟩ = some (.int .i64 n) := by rw [cell_at T.out.op]; rfl
 have o4 : w1.cell? ⟨w.heap.size, 4, none⟩ = some (.int .i64 m) := by rw [cell_at T.out.op]; rfl
 go_wp2
 go_quiet (first | (go_at_call 125; exact Calls.quiet_of_same (L.out _)))
 have T := hid (T.out.drewN nq)
 clear o0 o1 o2 o3 o4
 generalize w1.drewN nq = w2 at T ⊢
 have o0 : w2.cell? ⟨w.heap.size, 0, none⟩ = some (.int .i64 8) := by rw [cell_at T.out.op]; rfl
 have o1 : w2.cell? ⟨w.heap.size, 1, none⟩ = some (.string nm) := by rw [cell_at T.out.op]; rfl
 have o2 : w2.cell? ⟨w.heap.size, 2, none⟩ = some (.string tx) := by rw [cell_at T.out.op]; rfl
 have o3 : w2.cell? ⟨w.heap.size, 3, none⟩ = some (.int .i64 n) := by rw [cell_at T.out.op]; rfl
 have o4 : w2.cell? ⟨w.heap.size, 4, none⟩ = some (.int .i64 m) := by rw [cell_at T.out.op]; rfl
 go_wp2_with fail
 refine (M.out _).mono ?_
 rintro e w3 ⟨rfl, rfl⟩
 go_wp2_with fail
 refine (N.out _).mono ?_
 rintro e w4 ⟨rfl, rfl⟩
 by_cases x1 : nm.size = 0
 case neg =>
   have qnm := nonempty nm x1
   go_wp2
   go_ret
   have Z : chkR 0 0 0 0 0 0 0 0 nm.size tx.size n m = 55 := by
     revert x1
     generalize nm.size = s
     generalize tx.size = t
     intro x1
     simp [chkR, wr, ex, hs, hl] <;> omega
   exact ⟨by rw [Z]; rfl, T.out.below⟩
 have qnm := isempty nm x1
 go_wp2_with fail
 refine (L.out _).mono ?_
 rintro e w5 ⟨rfl, rfl⟩
 by_cases x2 : tx.size = 0
 case neg =>
   have qtx := nonempty tx x2
   go_wp2
   go_ret
   have Z : chkR 0 0 0 0 0 0 0 0 nm.size tx.size n m = 55 := by
     revert x1 x2
     generalize nm.size = s
     generalize tx.size = t
     intro x1 x2
     simp [chkR, wr, ex, hs, hl] <;> omega
   exact ⟨by rw [Z]; rfl, T.out.below⟩
 have qtx := isempty tx x2
 go_wp2_with fail
 refine (M.out _).mono ?_
 rintro e w6 ⟨rfl, rfl⟩
 by_cases x3 : n = 0
 case neg =>
   have qn : (n != 0) = true := by simpa using x3
   go_wp2
   go_ret
   have Z : chkR 0 0 0 0 0 0 0 0 nm.size tx.size n m = 55 := by
     revert x1 x2 x3
     generalize nm.size = s
     generalize tx.size = t
     intro x1 x2 x3
     simp [chkR, wr, ex, hs, hl] <;> omega
   exact ⟨by rw [Z]; rfl, T.out.below⟩
 have qn : (n != 0) = false := by simpa using x3
 have xx3 := hid x3
 clear x3
 by_cases x4 : m = 0
 case neg =>
   have qm : (m != 0) = true := by simpa using x4
   go_wp2
   go_ret
   have Z : chkR 0 0 0 0 0 0 0 0 nm.size tx.size n m = 55 := by
     revert x1 x2 xx3 x4
     generalize nm.size = s
     generalize tx.size = t
     intro x1 x2 xx3 x4
     have xx3 := xx3.out
     simp [chkR, wr, ex, hs, hl] <;> omega
   exact ⟨by rw [Z]; rfl, T.out.below⟩
 have qm : (m != 0) = false := by simpa using x4
 have xx4 := hid x4
 clear x4
 go_wp2
 go_ret
 have Z : chkR 0 0 0 0 0 0 0 0 nm.size tx.size n m = 0 := by
   revert x1 x2 xx3 xx4
   generalize nm.size = s
   generalize tx.size = t
   intro x1 x2 xx3 xx4
   have xx3 := xx3.out
   have xx4 := xx4.out
   simp [chkR, wr, ex, hs, hl] <;> omega
 exact ⟨by rw [Z]; rfl, T.out.below⟩
set_option linter.unusedVariables false
set_option maxRecDepth 1000000
theorem rcheck_out {w : World} {k : Int} (h : k < 1 ∨ 8 < k) (nm tx : ByteArray) (n m : Int) : Calls Tryz.prog 98 #[opV k nm tx n m] w fun e w' => e = .returned (.int .i64 50) ∧ Below w.heap.size w w' := by
 by_cases h1 : k < 1
 · have e1 : decide (k < 1) = true := by simpa using h1
   clear h
   go_enter Tryz.func98, Tryz.ntmps98
   go_wp2
   go_ret
   exact ⟨rfl, ba _ _⟩
 · have e1 : decide (k < 1) = false := by simpa using h1
   have e2 : decide (8 < k) = true := by simp; omega
   clear h
   go_enter Tryz.func98, Tryz.ntmps98
   go_wp2
   go_ret
   exact ⟨rfl, ba _ _⟩
theorem rcheck_any {w : World} (k : Int) (nm tx : ByteArray) (n m : Int) : Calls Tryz.prog 98 #[opV k nm tx n m] w fun e w' => e = .returned (.int .i64 (chkA k nm.size tx.size n m)) ∧ Below w.heap.size w w' := by
 by_cases h : k < 1 ∨ 8 < k
 · rw [chkA_out h]
   exact rcheck_out h nm tx n m
 · rw [chkA_in (by omega) (by omega)]
   obtain rfl | rfl | rfl | rfl | rfl | rfl | rfl | rfl : k = 1 ∨ k = 2 ∨ k = 3 ∨ k = 4 ∨ k = 5 ∨ k = 6 ∨ k = 7 ∨ k = 8 := by omega
   · exact rc1 nm tx n m
   · exact rc2 nm tx n m
   · exact rc3 nm tx n m
   · exact rc4 nm tx n m
   · exact rc5 nm tx n m
   · exact rc6 nm tx n m
   · exact rc7 nm tx n m
   · exact rc8 nm tx n m
end Go.Proofs.YtfeppannfcbakaaGreatDoor
