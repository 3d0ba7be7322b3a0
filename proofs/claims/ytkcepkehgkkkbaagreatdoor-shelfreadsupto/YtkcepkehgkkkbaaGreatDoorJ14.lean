import Derived.Test.YtkcepkehgkkkbaaGreatDoorJ13
namespace Go.Proofs.YtkcepkehgkkkbaaGreatDoor
open Go.RowKit
set_option linter.unusedVariables false

/-- A text as bytes. -/
def txtB (s : ByteArray) : List UInt8 := enc 9 s.size ++ s.data.toList
theorem lenS_nat (st : Option (List UInt8)) (k : Nat) : lenS (addS st (enc 9 k)) ≤ lenS st + 10 := by
  have h1 := lenS_addS st (enc 9 k)
  have h2 := enc_len 9 k
  omega
theorem txtB_len (s : ByteArray) : (txtB s).length ≤ s.size + 10 := by
  have h2 := enc_len 9 s.size
  rw [txtB, List.length_append, str_len]
  omega
theorem lenS_txt (st : Option (List UInt8)) (s : ByteArray) : lenS (addS st (enc 9 s.size ++ s.data.toList)) ≤ lenS st + (s.size + 10) := by
  have h1 := lenS_addS st (enc 9 s.size ++ s.data.toList)
  have h2 := txtB_len s
  have h3 : (txtB s).length = (enc 9 s.size ++ s.data.toList).length := rfl
  omega
theorem lenS_num (st : Option (List UInt8)) (n : Int) : lenS (numS st n) ≤ lenS st + 10 := by
  unfold numS
  split
  · simp [lenS]
  · exact lenS_nat _ _
/-- What is written of an op that may be. -/
def putV (k : Nat) (st : Option (List UInt8)) (nm tx : ByteArray) (n m : Int) : Option (List UInt8) :=
  if k = 8 then addS st (enc 9 k) else if k = 3 ∨ k = 5 then addS (addS (addS st (enc 9 k)) (txtB nm)) (txtB tx)
  else if k = 4 then numS (addS (addS st (enc 9 k)) (txtB nm)) n else if k = 6 then numS (numS (addS (addS st (enc 9 k)) (txtB nm)) n) m
  else addS (addS st (enc 9 k)) (txtB nm)

set_option maxRecDepth 1000000 in
theorem put_out {b : Nat} {v : Value} {st : Option (List UInt8)} {cs : List Comp} {w : World} (h : All (wrC b v st :: cs) w) (ht : ∀ w', All cs w' → Tab w') {k : Int} (hk : k < 1 ∨ 8 < k) (nm tx : ByteArray) (n m : Int) (hlen : lenS st + nm.size + tx.size + 100 ≤ 140737488355328) :
    Calls Tryz.prog 27 #[.pointer (some ⟨b, 0, none⟩), opV k nm tx n m] w fun e w' => e = .returned (.tuple #[]) ∧ ∃ v', All (wrC b v' none :: cs) w' := by
  have A := hid (h.addBlk [.int .i64 k, .string nm, .string tx, .int .i64 n, .int .i64 m] 35)
  have HK := hid hk
  clear h hk
  go_enter Tryz.func27, Tryz.ntmps27
  go_wp2_with fail
  refine (check_out HK.out nm tx n m).mono ?_
  rintro e w1 ⟨rfl, B⟩
  have A := hid (A.out.later B)
  clear B
  go_wp2_with fail
  refine (numW A.out.swap (-1) (by omega) (by omega)).mono ?_
  rintro e w2 ⟨rfl, v2, A2⟩
  have A2 := hid A2
  clear A
  go_wp2
  refine bodyPost_ret (results_none rfl _ _ _) rfl ?_
  exact ⟨rfl, v2, A2.out.swap.tail⟩

set_option maxHeartbeats 3200000 in
set_option maxRecDepth 1000000 in
theorem put1 {b : Nat} {v : Value} {st : Option (List UInt8)} {cs : List Comp} {w : World} (h : All (wrC b v st :: cs) w) (ht : ∀ w', All cs w' → Tab w') (nm tx : ByteArray) (n m : Int) (hn : n < 9223372036854775808) (hm : m < 9223372036854775808) (hlen : lenS st + nm.size + tx.size + 100 ≤ 140737488355328) :
    Calls Tryz.prog 27 #[.pointer (some ⟨b, 0, none⟩), opV 1 nm tx n m] w fun e w' => e = .returned (.tuple #[]) ∧ ∃ v', All (wrC b v' (if chkA 1 nm.size tx.size n m = 0 then putV 1 st nm tx n m else none) :: cs) w' := by
  have A := hid (h.addBlk [.int .i64 1, .string nm, .string tx, .int .i64 n, .int .i64 m] 35)
  have HT := hid ht
  clear h ht
  by_cases h0 : chkA 1 nm.size tx.size n m = 0
  case neg =>
    rw [if_neg h0]
    have H0 := hid h0
    clear h0
    go_enter Tryz.func27, Tryz.ntmps27
    go_wp2_with fail
    refine (check_any (HT.out _ A.out.tail.tail) 1 nm tx n m).mono ?_
    rintro e w1 ⟨rfl, B⟩
    have A := hid (A.out.later B)
    clear B
    have h0 := H0.out
    generalize chkA 1 nm.size tx.size n m = ck at h0 ⊢
    have e0 : (ck != 0) = true := by simpa using h0
    clear h0
    go_wp2_with fail
    refine (numW A.out.swap (-1) (by omega) (by omega)).mono ?_
    rintro e w2 ⟨rfl, v2, A2⟩
    have A2 := hid A2
    clear A
    go_wp2
    refine bodyPost_ret (results_none rfl _ _ _) rfl ?_
    exact ⟨rfl, v2, A2.out.swap.tail⟩
  rw [if_pos h0]
  have H0 := hid h0
  clear h0
  go_enter Tryz.func27, Tryz.ntmps27
  go_wp2_with fail
  refine (check_any (HT.out _ A.out.tail.tail) 1 nm tx n m).mono ?_
  rw [H0.out]
  rintro e w1 ⟨rfl, B⟩
  have A := hid (A.out.later B)
  clear B H0
  have TB := HT.out _ A.out.tail.tail
  have t0 : w1.cell? ⟨0, 8, none⟩ = some (.int .i64 1) := TB.cell 8 (by omega)
  have t1 : w1.cell? ⟨0, 9, none⟩ = some (.int .i64 16) := TB.cell 9 (by omega)
  have t2 : w1.cell? ⟨0, 10, none⟩ = some (.int .i64 0) := TB.cell 10 (by omega)
  have t3 : w1.cell? ⟨0, 11, none⟩ = some (.int .i64 0) := TB.cell 11 (by omega)
  have t4 : w1.cell? ⟨0, 12, none⟩ = some (.int .i64 0) := TB.cell 12 (by omega)
  have t5 : w1.cell? ⟨0, 13, none⟩ = some (.int .i64 0) := TB.cell 13 (by omega)
  have t6 : w1.cell? ⟨0, 14, none⟩ = some (.int .i64 0) := TB.cell 14 (by omega)
  have t7 : w1.cell? ⟨0, 15, none⟩ = some (.int .i64 0) := TB.cell 15 (by omega)
  have tlt := TB.lt
  have hb := A.out.blk (g := w.heap.size) (vs := [.int .i64 1, .string nm, .string tx, .int .i64 n, .int .i64 m]) (t := 35) List.mem_cons_self
  have o0 : w1.cell? ⟨w.heap.size, 0, none⟩ = some (.int .i64 1) := by rw [cell_at hb]; rfl
  have o1 : w1.cell? ⟨w.heap.size, 1, none⟩ = some (.string nm) := by rw [cell_at hb]; rfl
  have o2 : w1.cell? ⟨w.heap.size, 2, none⟩ = some (.string tx) := by rw [cell_at hb]; rfl
  have o3 : w1.cell? ⟨w.heap.size, 3, none⟩ = some (.int .i64 n) := by rw [cell_at hb]; rfl
  have o4 : w1.cell? ⟨w.heap.size, 4, none⟩ = some (.int .i64 m) := by rw [cell_at hb]; rfl
  clear hb
  have olt : w.heap.size < w1.heap.size := (A.out.mem List.mem_cons_self).2.2 w.heap.size (by simp [blkC])
  have A := hid (A.out.addBlk [.int .i64 1, .int .i64 16, .int .i64 0, .int .i64 0, .int .i64 0, .int .i64 0, .int .i64 0, .int .i64 0] 103)
  clear TB
  generalize hF : w1.heap.size = f at A olt
  go_wp2_with fail
  have A := hid (A.out.perm (ds := wrC b v st :: blkC f [.int .i64 1, .int .i64 16, .int .i64 0, .int .i64 0, .int .i64 0, .int .i64 0, .int .i64 0, .int .i64 0] 103 :: blkC w.heap.size [.int .i64 1, .string nm, .string tx, .int .i64 n, .int .i64 m] 35 :: cs) (List.perm_middle (l₁ := [blkC f [.int .i64 1, .int .i64 16, .int .i64 0, .int .i64 0, .int .i64 0, .int .i64 0, .int .i64 0, .int .i64 0] 103, blkC w.heap.size [.int .i64 1, .string nm, .string tx, .int .i64 n, .int .i64 m] 35])))
  refine (natW A.out 1 (by omega) (by omega)).mono ?_
  rintro e w2 ⟨rfl, v2, A2⟩
  have A := hid A2
  clear A2 hF olt t0 t1 t2 t3 t4 t5 t6 t7 tlt o0 o1 o2 o3 o4
  have L := hid (lenS_nat st 1)
  have hb := A.out.blk (g := f) (vs := [.int .i64 1, .int .i64 16, .int .i64 0, .int .i64 0, .int .i64 0, .int .i64 0, .int .i64 0, .int .i64 0]) (t := 103) mem2
  have r0 : w2.cell? ⟨f, 0, none⟩ = some (.int .i64 1) := by rw [cell_at hb]; rfl
  have r1 : w2.cell? ⟨f, 1, none⟩ = some (.int .i64 16) := by rw [cell_at hb]; rfl
  clear hb
  go_wp2_with fail
  refine (has_any 1 16).mono ?_
  rintro e w3 ⟨rfl, Bh⟩
  rw [show hs 16 = true by decide +kernel]
  have A := hid (A.out.later Bh)
  clear Bh r0 r1
  have hb := A.out.blk (g := w.heap.size) (vs := [.int .i64 1, .string nm, .string tx, .int .i64 n, .int .i64 m]) (t := 35) mem3
  have o0 : w3.cell? ⟨w.heap.size, 0, none⟩ = some (.int .i64 1) := by rw [cell_at hb]; rfl
  have o1 : w3.cell? ⟨w.heap.size, 1, none⟩ = some (.string nm) := by rw [cell_at hb]; rfl
  have o2 : w3.cell? ⟨w.heap.size, 2, none⟩ = some (.string tx) := by rw [cell_at hb]; rfl
  have o3 : w3.cell? ⟨w.heap.size, 3, none⟩ = some (.int .i64 n) := by rw [cell_at hb]; rfl
  have o4 : w3.cell? ⟨w.heap.size, 4, none⟩ = some (.int .i64 m) := by rw [cell_at hb]; rfl
  clear hb
  go_wp2_with fail
  refine (textW A.out nm (by have := L.out; omega)).mono ?_
  rintro e w4 ⟨rfl, v4, A2⟩
  have A := hid A2
  clear A2 o0 o1 o2 o3 o4
  have L := hid (Nat.le_trans (lenS_txt (addS st (enc 9 1)) nm) (Nat.add_le_add_right L.out _))
  have hb := A.out.blk (g := f) (vs := [.int .i64 1, .int .i64 16, .int .i64 0, .int .i64 0, .int .i64 0, .int .i64 0, .int .i64 0, .int .i64 0]) (t := 103) mem2
  have r2 : w4.cell? ⟨f, 2, none⟩ = some (.int .i64 0) := by rw [cell_at hb]; rfl
  have r3 : w4.cell? ⟨f, 3, none⟩ = some (.int .i64 0) := by rw [cell_at hb]; rfl
  clear hb
  go_wp2_with fail
  refine (has_any 0 0).mono ?_
  rintro e w5 ⟨rfl, Bh⟩
  rw [show hs 0 = false by decide +kernel]
  have A := hid (A.out.later Bh)
  clear Bh r2 r3
  have hb := A.out.blk (g := f) (vs := [.int .i64 1, .int .i64 16, .int .i64 0, .int .i64 0, .int .i64 0, .int .i64 0, .int .i64 0, .int .i64 0]) (t := 103) mem2
  have r4 : w5.cell? ⟨f, 4, none⟩ = some (.int .i64 0) := by rw [cell_at hb]; rfl
  have r5 : w5.cell? ⟨f, 5, none⟩ = some (.int .i64 0) := by rw [cell_at hb]; rfl
  clear hb
  go_wp2_with fail
  refine (has_any 0 0).mono ?_
  rintro e w6 ⟨rfl, Bh⟩
  rw [show hs 0 = false by decide +kernel]
  have A := hid (A.out.later Bh)
  clear Bh r4 r5
  have hb := A.out.blk (g := f) (vs := [.int .i64 1, .int .i64 16, .int .i64 0, .int .i64 0, .int .i64 0, .int .i64 0, .int .i64 0, .int .i64 0]) (t := 103) mem2
  have r6 : w6.cell? ⟨f, 6, none⟩ = some (.int .i64 0) := by rw [cell_at hb]; rfl
  have r7 : w6.cell? ⟨f, 7, none⟩ = some (.int .i64 0) := by rw [cell_at hb]; rfl
  clear hb
  go_wp2_with fail
  refine (has_any 0 0).mono ?_
  rintro e w7 ⟨rfl, Bh⟩
  rw [show hs 0 = false by decide +kernel]
  have A := hid (A.out.later Bh)
  clear Bh r6 r7
  go_wp2
  go_end0
  exact ⟨rfl, _, (A.out.swap.tail).swap.tail⟩

set_option maxHeartbeats 3200000 in
set_option maxRecDepth 1000000 in
theorem put2 {b : Nat} {v : Value} {st : Option (List UInt8)} {cs : List Comp} {w : World} (h : All (wrC b v st :: cs) w) (ht : ∀ w', All cs w' → Tab w') (nm tx : ByteArray) (n m : Int) (hn : n < 9223372036854775808) (hm : m < 9223372036854775808) (hlen : lenS st + nm.size + tx.size + 100 ≤ 140737488355328) :
    Calls Tryz.prog 27 #[.pointer (some ⟨b, 0, none⟩), opV 2 nm tx n m] w fun e w' => e = .returned (.tuple #[]) ∧ ∃ v', All (wrC b v' (if chkA 2 nm.size tx.size n m = 0 then putV 2 st nm tx n m else none) :: cs) w' := by
  have A := hid (h.addBlk [.int .i64 2, .string nm, .string tx, .int .i64 n, .int .i64 m] 35)
  have HT := hid ht
  clear h ht
  by_cases h0 : chkA 2 nm.size tx.size n m = 0
  case neg =>
    rw [if_neg h0]
    have H0 := hid h0
    clear h0
    go_enter Tryz.func27, Tryz.ntmps27
    go_wp2_with fail
    refine (check_any (HT.out _ A.out.tail.tail) 2 nm tx n m).mono ?_
    rintro e w1 ⟨rfl, B⟩
    have A := hid (A.out.later B)
    clear B
    have h0 := H0.out
    generalize chkA 2 nm.size tx.size n m = ck at h0 ⊢
    have e0 : (ck != 0) = true := by simpa using h0
    clear h0
    go_wp2_with fail
    refine (numW A.out.swap (-1) (by omega) (by omega)).mono ?_
    rintro e w2 ⟨rfl, v2, A2⟩
    have A2 := hid A2
    clear A
    go_wp2
    refine bodyPost_ret (results_none rfl _ _ _) rfl ?_
    exact ⟨rfl, v2, A2.out.swap.tail⟩
  rw [if_pos h0]
  have H0 := hid h0
  clear h0
  go_enter Tryz.func27, Tryz.ntmps27
  go_wp2_with fail
  refine (check_any (HT.out _ A.out.tail.tail) 2 nm tx n m).mono ?_
  rw [H0.out]
  rintro e w1 ⟨rfl, B⟩
  have A := hid (A.out.later B)
  clear B H0
  have TB := HT.out _ A.out.tail.tail
  have t0 : w1.cell? ⟨0, 16, none⟩ = some (.int .i64 1) := TB.cell 16 (by omega)
  have t1 : w1.cell? ⟨0, 17, none⟩ = some (.int .i64 16) := TB.cell 17 (by omega)
  have t2 : w1.cell? ⟨0, 18, none⟩ = some (.int .i64 0) := TB.cell 18 (by omega)
  have t3 : w1.cell? ⟨0, 19, none⟩ = some (.int .i64 0) := TB.cell 19 (by omega)
  have t4 : w1.cell? ⟨0, 20, none⟩ = some (.int .i64 0) := TB.cell 20 (by omega)
  have t5 : w1.cell? ⟨0, 21, none⟩ = some (.int .i64 0) := TB.cell 21 (by omega)
  have t6 : w1.cell? ⟨0, 22, none⟩ = some (.int .i64 0) := TB.cell 22 (by omega)
  have t7 : w1.cell? ⟨0, 23, none⟩ = some (.int .i64 0) := TB.cell 23 (by omega)
  have tlt := TB.lt
  have hb := A.out.blk (g := w.heap.size) (vs := [.int .i64 2, .string nm, .string tx, .int .i64 n, .int .i64 m]) (t := 35) List.mem_cons_self
  have o0 : w1.cell? ⟨w.heap.size, 0, none⟩ = some (.int .i64 2) := by rw [cell_at hb]; rfl
  have o1 : w1.cell? ⟨w.heap.size, 1, none⟩ = some (.string nm) := by rw [cell_at hb]; rfl
  have o2 : w1.cell? ⟨w.heap.size, 2, none⟩ = some (.string tx) := by rw [cell_at hb]; rfl
  have o3 : w1.cell? ⟨w.heap.size, 3, none⟩ = some (.int .i64 n) := by rw [cell_at hb]; rfl
  have o4 : w1.cell? ⟨w.heap.size, 4, none⟩ = some (.int .i64 m) := by rw [cell_at hb]; rfl
  clear hb
  have olt : w.heap.size < w1.heap.size := (A.out.mem List.mem_cons_self).2.2 w.heap.size (by simp [blkC])
  have A := hid (A.out.addBlk [.int .i64 1, .int .i64 16, .int .i64 0, .int .i64 0, .int .i64 0, .int .i64 0, .int .i64 0, .int .i64 0] 103)
  clear TB
  generalize hF : w1.heap.size = f at A olt
  go_wp2_with fail
  have A := hid (A.out.perm (ds := wrC b v st :: blkC f [.int .i64 1, .int .i64 16, .int .i64 0, .int .i64 0, .int .i64 0, .int .i64 0, .int .i64 0, .int .i64 0] 103 :: blkC w.heap.size [.int .i64 2, .string nm, .string tx, .int .i64 n, .int .i64 m] 35 :: cs) (List.perm_middle (l₁ := [blkC f [.int .i64 1, .int .i64 16, .int .i64 0, .int .i64 0, .int .i64 0, .int .i64 0, .int .i64 0, .int .i64 0] 103, blkC w.heap.size [.int .i64 2, .string nm, .string tx, .int .i64 n, .int .i64 m] 35])))
  refine (natW A.out 2 (by omega) (by omega)).mono ?_
  rintro e w2 ⟨rfl, v2, A2⟩
  have A := hid A2
  clear A2 hF olt t0 t1 t2 t3 t4 t5 t6 t7 tlt o0 o1 o2 o3 o4
  have L := hid (lenS_nat st 2)
  have hb := A.out.blk (g := f) (vs := [.int .i64 1, .int .i64 16, .int .i64 0, .int .i64 0, .int .i64 0, .int .i64 0, .int .i64 0, .int .i64 0]) (t := 103) mem2
  have r0 : w2.cell? ⟨f, 0, none⟩ = some (.int .i64 1) := by rw [cell_at hb]; rfl
  have r1 : w2.cell? ⟨f, 1, none⟩ = some (.int .i64 16) := by rw [cell_at hb]; rfl
  clear hb
  go_wp2_with fail
  refine (has_any 1 16).mono ?_
  rintro e w3 ⟨rfl, Bh⟩
  rw [show hs 16 = true by decide +kernel]
  have A := hid (A.out.later Bh)
  clear Bh r0 r1
  have hb := A.out.blk (g := w.heap.size) (vs := [.int .i64 2, .string nm, .string tx, .int .i64 n, .int .i64 m]) (t := 35) mem3
  have o0 : w3.cell? ⟨w.heap.size, 0, none⟩ = some (.int .i64 2) := by rw [cell_at hb]; rfl
  have o1 : w3.cell? ⟨w.heap.size, 1, none⟩ = some (.string nm) := by rw [cell_at hb]; rfl
  have o2 : w3.cell? ⟨w.heap.size, 2, none⟩ = some (.string tx) := by rw [cell_at hb]; rfl
  have o3 : w3.cell? ⟨w.heap.size, 3, none⟩ = some (.int .i64 n) := by rw [cell_at hb]; rfl
  have o4 : w3.cell? ⟨w.heap.size, 4, none⟩ = some (.int .i64 m) := by rw [cell_at hb]; rfl
  clear hb
  go_wp2_with fail
  refine (textW A.out nm (by have := L.out; omega)).mono ?_
  rintro e w4 ⟨rfl, v4, A2⟩
  have A := hid A2
  clear A2 o0 o1 o2 o3 o4
  have L := hid (Nat.le_trans (lenS_txt (addS st (enc 9 2)) nm) (Nat.add_le_add_right L.out _))
  have hb := A.out.blk (g := f) (vs := [.int .i64 1, .int .i64 16, .int .i64 0, .int .i64 0, .int .i64 0, .int .i64 0, .int .i64 0, .int .i64 0]) (t := 103) mem2
  have r2 : w4.cell? ⟨f, 2, none⟩ = some (.int .i64 0) := by rw [cell_at hb]; rfl
  have r3 : w4.cell? ⟨f, 3, none⟩ = some (.int .i64 0) := by rw [cell_at hb]; rfl
  clear hb
  go_wp2_with fail
  refine (has_any 0 0).mono ?_
  rintro e w5 ⟨rfl, Bh⟩
  rw [show hs 0 = false by decide +kernel]
  have A := hid (A.out.later Bh)
  clear Bh r2 r3
  have hb := A.out.blk (g := f) (vs := [.int .i64 1, .int .i64 16, .int .i64 0, .int .i64 0, .int .i64 0, .int .i64 0, .int .i64 0, .int .i64 0]) (t := 103) mem2
  have r4 : w5.cell? ⟨f, 4, none⟩ = some (.int .i64 0) := by rw [cell_at hb]; rfl
  have r5 : w5.cell? ⟨f, 5, none⟩ = some (.int .i64 0) := by rw [cell_at hb]; rfl
  clear hb
  go_wp2_with fail
  refine (has_any 0 0).mono ?_
  rintro e w6 ⟨rfl, Bh⟩
  rw [show hs 0 = false by decide +kernel]
  have A := hid (A.out.later Bh)
  clear Bh r4 r5
  have hb := A.out.blk (g := f) (vs := [.int .i64 1, .int .i64 16, .int .i64 0, .int .i64 0, .int .i64 0, .int .i64 0, .int .i64 0, .int .i64 0]) (t := 103) mem2
  have r6 : w6.cell? ⟨f, 6, none⟩ = some (.int .i64 0) := by rw [cell_at hb]; rfl
  have r7 : w6.cell? ⟨f, 7, none⟩ = some (.int .i64 0) := by rw [cell_at hb]; rfl
  clear hb
  go_wp2_with fail
  refine (has_any 0 0).mono ?_
  rintro e w7 ⟨rfl, Bh⟩
  rw [show hs 0 = false by decide +kernel]
  have A := hid (A.out.later Bh)
  clear Bh r6 r7
  go_wp2
  go_end0
  exact ⟨rfl, _, (A.out.swap.tail).swap.tail⟩

set_option maxHeartbeats 3200000 in
set_option maxRecDepth 1000000 in
theorem put3 {b : Nat} {v : Value} {st : Option (List UInt8)} {cs : List Comp} {w : World} (h : All (wrC b v st :: cs) w) (ht : ∀ w', All cs w' → Tab w') (nm tx : ByteArray) (n m : Int) (hn : n < 9223372036854775808) (hm : m < 9223372036854775808) (hlen : lenS st + nm.size + tx.size + 100 ≤ 140737488355328) :
    Calls Tryz.prog 27 #[.pointer (some ⟨b, 0, none⟩), opV 3 nm tx n m] w fun e w' => e = .returned (.tuple #[]) ∧ ∃ v', All (wrC b v' (if chkA 3 nm.size tx.size n m = 0 then putV 3 st nm tx n m else none) :: cs) w' := by
  have A := hid (h.addBlk [.int .i64 3, .string nm, .string tx, .int .i64 n, .int .i64 m] 35)
  have HT := hid ht
  clear h ht
  by_cases h0 : chkA 3 nm.size tx.size n m = 0
  case neg =>
    rw [if_neg h0]
    have H0 := hid h0
    clear h0
    go_enter Tryz.func27, Tryz.ntmps27
    go_wp2_with fail
    refine (check_any (HT.out _ A.out.tail.tail) 3 nm tx n m).mono ?_
    rintro e w1 ⟨rfl, B⟩
    have A := hid (A.out.later B)
    clear B
    have h0 := H0.out
    generalize chkA 3 nm.size tx.size n m = ck at h0 ⊢
    have e0 : (ck != 0) = true := by simpa using h0
    clear h0
    go_wp2_with fail
    refine (numW A.out.swap (-1) (by omega) (by omega)).mono ?_
    rintro e w2 ⟨rfl, v2, A2⟩
    have A2 := hid A2
    clear A
    go_wp2
    refine bodyPost_ret (results_none rfl _ _ _) rfl ?_
    exact ⟨rfl, v2, A2.out.swap.tail⟩
  rw [if_pos h0]
  have H0 := hid h0
  clear h0
  go_enter Tryz.func27, Tryz.ntmps27
  go_wp2_with fail
  refine (check_any (HT.out _ A.out.tail.tail) 3 nm tx n m).mono ?_
  rw [H0.out]
  rintro e w1 ⟨rfl, B⟩
  have A := hid (A.out.later B)
  clear B H0
  have TB := HT.out _ A.out.tail.tail
  have t0 : w1.cell? ⟨0, 24, none⟩ = some (.int .i64 1) := TB.cell 24 (by omega)
  have t1 : w1.cell? ⟨0, 25, none⟩ = some (.int .i64 16) := TB.cell 25 (by omega)
  have t2 : w1.cell? ⟨0, 26, none⟩ = some (.int .i64 0) := TB.cell 26 (by omega)
  have t3 : w1.cell? ⟨0, 27, none⟩ = some (.int .i64 64) := TB.cell 27 (by omega)
  have t4 : w1.cell? ⟨0, 28, none⟩ = some (.int .i64 0) := TB.cell 28 (by omega)
  have t5 : w1.cell? ⟨0, 29, none⟩ = some (.int .i64 0) := TB.cell 29 (by omega)
  have t6 : w1.cell? ⟨0, 30, none⟩ = some (.int .i64 0) := TB.cell 30 (by omega)
  have t7 : w1.cell? ⟨0, 31, none⟩ = some (.int .i64 0) := TB.cell 31 (by omega)
  have tlt := TB.lt
  have hb := A.out.blk (g := w.heap.size) (vs := [.int .i64 3, .string nm, .string tx, .int .i64 n, .int .i64 m]) (t := 35) List.mem_cons_self
  have o0 : w1.cell? ⟨w.heap.size, 0, none⟩ = some (.int .i64 3) := by rw [cell_at hb]; rfl
  have o1 : w1.cell? ⟨w.heap.size, 1, none⟩ = some (.string nm) := by rw [cell_at hb]; rfl
  have o2 : w1.cell? ⟨w.heap.size, 2, none⟩ = some (.string tx) := by rw [cell_at hb]; rfl
  have o3 : w1.cell? ⟨w.heap.size, 3, none⟩ = some (.int .i64 n) := by rw [cell_at hb]; rfl
  have o4 : w1.cell? ⟨w.heap.size, 4, none⟩ = some (.int .i64 m) := by rw [cell_at hb]; rfl
  clear hb
  have olt : w.heap.size < w1.heap.size := (A.out.mem List.mem_cons_self).2.2 w.heap.size (by simp [blkC])
  have A := hid (A.out.addBlk [.int .i64 1, .int .i64 16, .int .i64 0, .int .i64 64, .int .i64 0, .int .i64 0, .int .i64 0, .int .i64 0] 103)
  clear TB
  generalize hF : w1.heap.size = f at A olt
  go_wp2_with fail
  have A := hid (A.out.perm (ds := wrC b v st :: blkC f [.int .i64 1, .int .i64 16, .int .i64 0, .int .i64 64, .int .i64 0, .int .i64 0, .int .i64 0, .int .i64 0] 103 :: blkC w.heap.size [.int .i64 3, .string nm, .string tx, .int .i64 n, .int .i64 m] 35 :: cs) (List.perm_middle (l₁ := [blkC f [.int .i64 1, .int .i64 16, .int .i64 0, .int .i64 64, .int .i64 0, .int .i64 0, .int .i64 0, .int .i64 0] 103, blkC w.heap.size [.int .i64 3, .string nm, .string tx, .int .i64 n, .int .i64 m] 35])))
  refine (natW A.out 3 (by omega) (by omega)).mono ?_
  rintro e w2 ⟨rfl, v2, A2⟩
  have A := hid A2
  clear A2 hF olt t0 t1 t2 t3 t4 t5 t6 t7 tlt o0 o1 o2 o3 o4
  have L := hid (lenS_nat st 3)
  have hb := A.out.blk (g := f) (vs := [.int .i64 1, .int .i64 16, .int .i64 0, .int .i64 64, .int .i64 0, .int .i64 0, .int .i64 0, .int .i64 0]) (t := 103) mem2
  have r0 : w2.cell? ⟨f, 0, none⟩ = some (.int .i64 1) := by rw [cell_at hb]; rfl
  have r1 : w2.cell? ⟨f, 1, none⟩ = some (.int .i64 16) := by rw [cell_at hb]; rfl
  clear hb
  go_wp2_with fail
  refine (has_any 1 16).mono ?_
  rintro e w3 ⟨rfl, Bh⟩
  rw [show hs 16 = true by decide +kernel]
  have A := hid (A.out.later Bh)
  clear Bh r0 r1
  have hb := A.out.blk (g := w.heap.size) (vs := [.int .i64 3, .string nm, .string tx, .int .i64 n, .int .i64 m]) (t := 35) mem3
  have o0 : w3.cell? ⟨w.heap.size, 0, none⟩ = some (.int .i64 3) := by rw [cell_at hb]; rfl
  have o1 : w3.cell? ⟨w.heap.size, 1, none⟩ = some (.string nm) := by rw [cell_at hb]; rfl
  have o2 : w3.cell? ⟨w.heap.size, 2, none⟩ = some (.string tx) := by rw [cell_at hb]; rfl
  have o3 : w3.cell? ⟨w.heap.size, 3, none⟩ = some (.int .i64 n) := by rw [cell_at hb]; rfl
  have o4 : w3.cell? ⟨w.heap.size, 4, none⟩ = some (.int .i64 m) := by rw [cell_at hb]; rfl
  clear hb
  go_wp2_with fail
  refine (textW A.out nm (by have := L.out; omega)).mono ?_
  rintro e w4 ⟨rfl, v4, A2⟩
  have A := hid A2
  clear A2 o0 o1 o2 o3 o4
  have L := hid (Nat.le_trans (lenS_txt (addS st (enc 9 3)) nm) (Nat.add_le_add_right L.out _))
  have hb := A.out.blk (g := f) (vs := [.int .i64 1, .int .i64 16, .int .i64 0, .int .i64 64, .int .i64 0, .int .i64 0, .int .i64 0, .int .i64 0]) (t := 103) mem2
  have r2 : w4.cell? ⟨f, 2, none⟩ = some (.int .i64 0) := by rw [cell_at hb]; rfl
  have r3 : w4.cell? ⟨f, 3, none⟩ = some (.int .i64 64) := by rw [cell_at hb]; rfl
  clear hb
  go_wp2_with fail
  refine (has_any 0 64).mono ?_
  rintro e w5 ⟨rfl, Bh⟩
  rw [show hs 64 = true by decide +kernel]
  have A := hid (A.out.later Bh)
  clear Bh r2 r3
  have hb := A.out.blk (g := w.heap.size) (vs := [.int .i64 3, .string nm, .string tx, .int .i64 n, .int .i64 m]) (t := 35) mem3
  have o0 : w5.cell? ⟨w.heap.size, 0, none⟩ = some (.int .i64 3) := by rw [cell_at hb]; rfl
  have o1 : w5.cell? ⟨w.heap.size, 1, none⟩ = some (.string nm) := by rw [cell_at hb]; rfl
  have o2 : w5.cell? ⟨w.heap.size, 2, none⟩ = some (.string tx) := by rw [cell_at hb]; rfl
  have o3 : w5.cell? ⟨w.heap.size, 3, none⟩ = some (.int .i64 n) := by rw [cell_at hb]; rfl
  have o4 : w5.cell? ⟨w.heap.size, 4, none⟩ = some (.int .i64 m) := by rw [cell_at hb]; rfl
  clear hb
  go_wp2_with fail
  refine (textW A.out tx (by have := L.out; omega)).mono ?_
  rintro e w6 ⟨rfl, v6, A2⟩
  have A := hid A2
  clear A2 o0 o1 o2 o3 o4
  have L := hid (Nat.le_trans (lenS_txt (addS (addS st (enc 9 3)) (enc 9 nm.size ++ nm.data.toList)) tx) (Nat.add_le_add_right L.out _))
  have hb := A.out.blk (g := f) (vs := [.int .i64 1, .int .i64 16, .int .i64 0, .int .i64 64, .int .i64 0, .int .i64 0, .int .i64 0, .int .i64 0]) (t := 103) mem2
  have r4 : w6.cell? ⟨f, 4, none⟩ = some (.int .i64 0) := by rw [cell_at hb]; rfl
  have r5 : w6.cell? ⟨f, 5, none⟩ = some (.int .i64 0) := by rw [cell_at hb]; rfl
  clear hb
  go_wp2_with fail
  refine (has_any 0 0).mono ?_
  rintro e w7 ⟨rfl, Bh⟩
  rw [show hs 0 = false by decide +kernel]
  have A := hid (A.out.later Bh)
  clear Bh r4 r5
  have hb := A.out.blk (g := f) (vs := [.int .i64 1, .int .i64 16, .int .i64 0, .int .i64 64, .int .i64 0, .int .i64 0, .int .i64 0, .int .i64 0]) (t := 103) mem2
  have r6 : w7.cell? ⟨f, 6, none⟩ = some (.int .i64 0) := by rw [cell_at hb]; rfl
  have r7 : w7.cell? ⟨f, 7, none⟩ = some (.int .i64 0) := by rw [cell_at hb]; rfl
  clear hb
  go_wp2_with fail
  refine (has_any 0 0).mono ?_
  rintro e w8 ⟨rfl, Bh⟩
  rw [show hs 0 = false by decide +kernel]
  have A := hid (A.out.later Bh)
  clear Bh r6 r7
  go_wp2
  go_end0
  exact ⟨rfl, _, (A.out.swap.tail).swap.tail⟩

set_option maxHeartbeats 3200000 in
set_option maxRecDepth 1000000 in
theorem put4 {b : Nat} {v : Value} {st : Option (List UInt8)} {cs : List Comp} {w : World} (h : All (wrC b v st :: cs) w) (ht : ∀ w', All cs w' → Tab w') (nm tx : ByteArray) (n m : Int) (hn : n < 9223372036854775808) (hm : m < 9223372036854775808) (hlen : lenS st + nm.size + tx.size + 100 ≤ 140737488355328) :
    Calls Tryz.prog 27 #[.pointer (some ⟨b, 0, none⟩), opV 4 nm tx n m] w fun e w' => e = .returned (.tuple #[]) ∧ ∃ v', All (wrC b v' (if chkA 4 nm.size tx.size n m = 0 then putV 4 st nm tx n m else none) :: cs) w' := by
  have A := hid (h.addBlk [.int .i64 4, .string nm, .string tx, .int .i64 n, .int .i64 m] 35)
  have HT := hid ht
  clear h ht
  by_cases h0 : chkA 4 nm.size tx.size n m = 0
  case neg =>
    rw [if_neg h0]
    have H0 := hid h0
    clear h0
    go_enter Tryz.func27, Tryz.ntmps27
    go_wp2_with fail
    refine (check_any (HT.out _ A.out.tail.tail) 4 nm tx n m).mono ?_
    rintro e w1 ⟨rfl, B⟩
    have A := hid (A.out.later B)
    clear B
    have h0 := H0.out
    generalize chkA 4 nm.size tx.size n m = ck at h0 ⊢
    have e0 : (ck != 0) = true := by simpa using h0
    clear h0
    go_wp2_with fail
    refine (numW A.out.swap (-1) (by omega) (by omega)).mono ?_
    rintro e w2 ⟨rfl, v2, A2⟩
    have A2 := hid A2
    clear A
    go_wp2
    refine bodyPost_ret (results_none rfl _ _ _) rfl ?_
    exact ⟨rfl, v2, A2.out.swap.tail⟩
  rw [if_pos h0]
  have H0 := hid h0
  clear h0
  go_enter Tryz.func27, Tryz.ntmps27
  go_wp2_with fail
  refine (check_any (HT.out _ A.out.tail.tail) 4 nm tx n m).mono ?_
  rw [H0.out]
  rintro e w1 ⟨rfl, B⟩
  have A := hid (A.out.later B)
  clear B H0
  have TB := HT.out _ A.out.tail.tail
  have t0 : w1.cell? ⟨0, 32, none⟩ = some (.int .i64 1) := TB.cell 32 (by omega)
  have t1 : w1.cell? ⟨0, 33, none⟩ = some (.int .i64 16) := TB.cell 33 (by omega)
  have t2 : w1.cell? ⟨0, 34, none⟩ = some (.int .i64 0) := TB.cell 34 (by omega)
  have t3 : w1.cell? ⟨0, 35, none⟩ = some (.int .i64 0) := TB.cell 35 (by omega)
  have t4 : w1.cell? ⟨0, 36, none⟩ = some (.int .i64 0) := TB.cell 36 (by omega)
  have t5 : w1.cell? ⟨0, 37, none⟩ = some (.int .i64 1099511627776) := TB.cell 37 (by omega)
  have t6 : w1.cell? ⟨0, 38, none⟩ = some (.int .i64 0) := TB.cell 38 (by omega)
  have t7 : w1.cell? ⟨0, 39, none⟩ = some (.int .i64 0) := TB.cell 39 (by omega)
  have tlt := TB.lt
  have hb := A.out.blk (g := w.heap.size) (vs := [.int .i64 4, .string nm, .string tx, .int .i64 n, .int .i64 m]) (t := 35) List.mem_cons_self
  have o0 : w1.cell? ⟨w.heap.size, 0, none⟩ = some (.int .i64 4) := by rw [cell_at hb]; rfl
  have o1 : w1.cell? ⟨w.heap.size, 1, none⟩ = some (.string nm) := by rw [cell_at hb]; rfl
  have o2 : w1.cell? ⟨w.heap.size, 2, none⟩ = some (.string tx) := by rw [cell_at hb]; rfl
  have o3 : w1.cell? ⟨w.heap.size, 3, none⟩ = some (.int .i64 n) := by rw [cell_at hb]; rfl
  have o4 : w1.cell? ⟨w.heap.size, 4, none⟩ = some (.int .i64 m) := by rw [cell_at hb]; rfl
  clear hb
  have olt : w.heap.size < w1.heap.size := (A.out.mem List.mem_cons_self).2.2 w.heap.size (by simp [blkC])
  have A := hid (A.out.addBlk [.int .i64 1, .int .i64 16, .int .i64 0, .int .i64 0, .int .i64 0, .int .i64 1099511627776, .int .i64 0, .int .i64 0] 103)
  clear TB
  generalize hF : w1.heap.size = f at A olt
  go_wp2_with fail
  have A := hid (A.out.perm (ds := wrC b v st :: blkC f [.int .i64 1, .int .i64 16, .int .i64 0, .int .i64 0, .int .i64 0, .int .i64 1099511627776, .int .i64 0, .int .i64 0] 103 :: blkC w.heap.size [.int .i64 4, .string nm, .string tx, .int .i64 n, .int .i64 m] 35 :: cs) (List.perm_middle (l₁ := [blkC f [.int .i64 1, .int .i64 16, .int .i64 0, .int .i64 0, .int .i64 0, .int .i64 1099511627776, .int .i64 0, .int .i64 0] 103, blkC w.heap.size [.int .i64 4, .string nm, .string tx, .int .i64 n, .int .i64 m] 35])))
  refine (natW A.out 4 (by omega) (by omega)).mono ?_
  rintro e w2 ⟨rfl, v2, A2⟩
  have A := hid A2
  clear A2 hF olt t0 t1 t2 t3 t4 t5 t6 t7 tlt o0 o1 o2 o3 o4
  have L := hid (lenS_nat st 4)
  have hb := A.out.blk (g := f) (vs := [.int .i64 1, .int .i64 16, .int .i64 0, .int .i64 0, .int .i64 0, .int .i64 1099511627776, .int .i64 0, .int .i64 0]) (t := 103) mem2
  have r0 : w2.cell? ⟨f, 0, none⟩ = some (.int .i64 1) := by rw [cell_at hb]; rfl
  have r1 : w2.cell? ⟨f, 1, none⟩ = some (.int .i64 16) := by rw [cell_at hb]; rfl
  clear hb
  go_wp2_with fail
  refine (has_any 1 16).mono ?_
  rintro e w3 ⟨rfl, Bh⟩
  rw [show hs 16 = true by decide +kernel]
  have A := hid (A.out.later Bh)
  clear Bh r0 r1
  have hb := A.out.blk (g := w.heap.size) (vs := [.int .i64 4, .string nm, .string tx, .int .i64 n, .int .i64 m]) (t := 35) mem3
  have o0 : w3.cell? ⟨w.heap.size, 0, none⟩ = some (.int .i64 4) := by rw [cell_at hb]; rfl
  have o1 : w3.cell? ⟨w.heap.size, 1, none⟩ = some (.string nm) := by rw [cell_at hb]; rfl
  have o2 : w3.cell? ⟨w.heap.size, 2, none⟩ = some (.string tx) := by rw [cell_at hb]; rfl
  have o3 : w3.cell? ⟨w.heap.size, 3, none⟩ = some (.int .i64 n) := by rw [cell_at hb]; rfl
  have o4 : w3.cell? ⟨w.heap.size, 4, none⟩ = some (.int .i64 m) := by rw [cell_at hb]; rfl
  clear hb
  go_wp2_with fail
  refine (textW A.out nm (by have := L.out; omega)).mono ?_
  rintro e w4 ⟨rfl, v4, A2⟩
  have A := hid A2
  clear A2 o0 o1 o2 o3 o4
  have L := hid (Nat.le_trans (lenS_txt (addS st (enc 9 4)) nm) (Nat.add_le_add_right L.out _))
  have hb := A.out.blk (g := f) (vs := [.int .i64 1, .int .i64 16, .int .i64 0, .int .i64 0, .int .i64 0, .int .i64 1099511627776, .int .i64 0, .int .i64 0]) (t := 103) mem2
  have r2 : w4.cell? ⟨f, 2, none⟩ = some (.int .i64 0) := by rw [cell_at hb]; rfl
  have r3 : w4.cell? ⟨f, 3, none⟩ = some (.int .i64 0) := by rw [cell_at hb]; rfl
  clear hb
  go_wp2_with fail
  refine (has_any 0 0).mono ?_
  rintro e w5 ⟨rfl, Bh⟩
  rw [show hs 0 = false by decide +kernel]
  have A := hid (A.out.later Bh)
  clear Bh r2 r3
  have hb := A.out.blk (g := f) (vs := [.int .i64 1, .int .i64 16, .int .i64 0, .int .i64 0, .int .i64 0, .int .i64 1099511627776, .int .i64 0, .int .i64 0]) (t := 103) mem2
  have r4 : w5.cell? ⟨f, 4, none⟩ = some (.int .i64 0) := by rw [cell_at hb]; rfl
  have r5 : w5.cell? ⟨f, 5, none⟩ = some (.int .i64 1099511627776) := by rw [cell_at hb]; rfl
  clear hb
  go_wp2_with fail
  refine (has_any 0 1099511627776).mono ?_
  rintro e w6 ⟨rfl, Bh⟩
  rw [show hs 1099511627776 = true by decide +kernel]
  have A := hid (A.out.later Bh)
  clear Bh r4 r5
  have hb := A.out.blk (g := w.heap.size) (vs := [.int .i64 4, .string nm, .string tx, .int .i64 n, .int .i64 m]) (t := 35) mem3
  have o0 : w6.cell? ⟨w.heap.size, 0, none⟩ = some (.int .i64 4) := by rw [cell_at hb]; rfl
  have o1 : w6.cell? ⟨w.heap.size, 1, none⟩ = some (.string nm) := by rw [cell_at hb]; rfl
  have o2 : w6.cell? ⟨w.heap.size, 2, none⟩ = some (.string tx) := by rw [cell_at hb]; rfl
  have o3 : w6.cell? ⟨w.heap.size, 3, none⟩ = some (.int .i64 n) := by rw [cell_at hb]; rfl
  have o4 : w6.cell? ⟨w.heap.size, 4, none⟩ = some (.int .i64 m) := by rw [cell_at hb]; rfl
  clear hb
  go_wp2_with fail
  refine (numW A.out n (by omega) (by have := L.out; omega)).mono ?_
  rintro e w7 ⟨rfl, v7, A2⟩
  have A := hid A2
  clear A2 o0 o1 o2 o3 o4
  have L := hid (Nat.le_trans (lenS_num (addS (addS st (enc 9 4)) (enc 9 nm.size ++ nm.data.toList)) n) (Nat.add_le_add_right L.out _))
  have hb := A.out.blk (g := f) (vs := [.int .i64 1, .int .i64 16, .int .i64 0, .int .i64 0, .int .i64 0, .int .i64 1099511627776, .int .i64 0, .int .i64 0]) (t := 103) mem2
  have r6 : w7.cell? ⟨f, 6, none⟩ = some (.int .i64 0) := by rw [cell_at hb]; rfl
  have r7 : w7.cell? ⟨f, 7, none⟩ = some (.int .i64 0) := by rw [cell_at hb]; rfl
  clear hb
  go_wp2_with fail
  refine (has_any 0 0).mono ?_
  rintro e w8 ⟨rfl, Bh⟩
  rw [show hs 0 = false by decide +kernel]
  have A := hid (A.out.later Bh)
  clear Bh r6 r7
  go_wp2
  go_end0
  exact ⟨rfl, _, (A.out.swap.tail).swap.tail⟩

set_option maxHeartbeats 3200000 in
set_option maxRecDepth 1000000 in
theorem put5 {b : Nat} {v : Value} {st : Option (List UInt8)} {cs : List Comp} {w : World} (h : All (wrC b v st :: cs) w) (ht : ∀ w', All cs w' → Tab w') (nm tx : ByteArray) (n m : Int) (hn : n < 9223372036854775808) (hm : m < 9223372036854775808) (hlen : lenS st + nm.size + tx.size + 100 ≤ 140737488355328) :
    Calls Tryz.prog 27 #[.pointer (some ⟨b, 0, none⟩), opV 5 nm tx n m] w fun e w' => e = .returned (.tuple #[]) ∧ ∃ v', All (wrC b v' (if chkA 5 nm.size tx.size n m = 0 then putV 5 st nm tx n m else none) :: cs) w' := by
  have A := hid (h.addBlk [.int .i64 5, .string nm, .string tx, .int .i64 n, .int .i64 m] 35)
  have HT := hid ht
  clear h ht
  by_cases h0 : chkA 5 nm.size tx.size n m = 0
  case neg =>
    rw [if_neg h0]
    have H0 := hid h0
    clear h0
    go_enter Tryz.func27, Tryz.ntmps27
    go_wp2_with fail
    refine (check_any (HT.out _ A.out.tail.tail) 5 nm tx n m).mono ?_
    rintro e w1 ⟨rfl, B⟩
    have A := hid (A.out.later B)
    clear B
    have h0 := H0.out
    generalize chkA 5 nm.size tx.size n m = ck at h0 ⊢
    have e0 : (ck != 0) = true := by simpa using h0
    clear h0
    go_wp2_with fail
    refine (numW A.out.swap (-1) (by omega) (by omega)).mono ?_
    rintro e w2 ⟨rfl, v2, A2⟩
    have A2 := hid A2
    clear A
    go_wp2
    refine bodyPost_ret (results_none rfl _ _ _) rfl ?_
    exact ⟨rfl, v2, A2.out.swap.tail⟩
  rw [if_pos h0]
  have H0 := hid h0
  clear h0
  go_enter Tryz.func27, Tryz.ntmps27
  go_wp2_with fail
  refine (check_any (HT.out _ A.out.tail.tail) 5 nm tx n m).mono ?_
  rw [H0.out]
  rintro e w1 ⟨rfl, B⟩
  have A := hid (A.out.later B)
  clear B H0
  have TB := HT.out _ A.out.tail.tail
  have t0 : w1.cell? ⟨0, 40, none⟩ = some (.int .i64 1) := TB.cell 40 (by omega)
  have t1 : w1.cell? ⟨0, 41, none⟩ = some (.int .i64 16) := TB.cell 41 (by omega)
  have t2 : w1.cell? ⟨0, 42, none⟩ = some (.int .i64 1) := TB.cell 42 (by omega)
  have t3 : w1.cell? ⟨0, 43, none⟩ = some (.int .i64 16) := TB.cell 43 (by omega)
  have t4 : w1.cell? ⟨0, 44, none⟩ = some (.int .i64 0) := TB.cell 44 (by omega)
  have t5 : w1.cell? ⟨0, 45, none⟩ = some (.int .i64 0) := TB.cell 45 (by omega)
  have t6 : w1.cell? ⟨0, 46, none⟩ = some (.int .i64 0) := TB.cell 46 (by omega)
  have t7 : w1.cell? ⟨0, 47, none⟩ = some (.int .i64 0) := TB.cell 47 (by omega)
  have tlt := TB.lt
  have hb := A.out.blk (g := w.heap.size) (vs := [.int .i64 5, .string nm, .string tx, .int .i64 n, .int .i64 m]) (t := 35) List.mem_cons_self
  have o0 : w1.cell? ⟨w.heap.size, 0, none⟩ = some (.int .i64 5) := by rw [cell_at hb]; rfl
  have o1 : w1.cell? ⟨w.heap.size, 1, none⟩ = some (.string nm) := by rw [cell_at hb]; rfl
  have o2 : w1.cell? ⟨w.heap.size, 2, none⟩ = some (.string tx) := by rw [cell_at hb]; rfl
  have o3 : w1.cell? ⟨w.heap.size, 3, none⟩ = some (.int .i64 n) := by rw [cell_at hb]; rfl
  have o4 : w1.cell? ⟨w.heap.size, 4, none⟩ = some (.int .i64 m) := by rw [cell_at hb]; rfl
  clear hb
  have olt : w.heap.size < w1.heap.size := (A.out.mem List.mem_cons_self).2.2 w.heap.size (by simp [blkC])
  have A := hid (A.out.addBlk [.int .i64 1, .int .i64 16, .int .i64 1, .int .i64 16, .int .i64 0, .int .i64 0, .int .i64 0, .int .i64 0] 103)
  clear TB
  generalize hF : w1.heap.size = f at A olt
  go_wp2_with fail
  have A := hid (A.out.perm (ds := wrC b v st :: blkC f [.int .i64 1, .int .i64 16, .int .i64 1, .int .i64 16, .int .i64 0, .int .i64 0, .int .i64 0, .int .i64 0] 103 :: blkC w.heap.size [.int .i64 5, .string nm, .string tx, .int .i64 n, .int .i64 m] 35 :: cs) (List.perm_middle (l₁ := [blkC f [.int .i64 1, .int .i64 16, .int .i64 1, .int .i64 16, .int .i64 0, .int .i64 0, .int .i64 0, .int .i64 0] 103, blkC w.heap.size [.int .i64 5, .string nm, .string tx, .int .i64 n, .int .i64 m] 35])))
  refine (natW A.out 5 (by omega) (by omega)).mono ?_
  rintro e w2 ⟨rfl, v2, A2⟩
  have A := hid A2
  clear A2 hF olt t0 t1 t2 t3 t4 t5 t6 t7 tlt o0 o1 o2 o3 o4
  have L := hid (lenS_nat st 5)
  have hb := A.out.blk (g := f) (vs := [.int .i64 1, .int .i64 16, .int .i64 1, .int .i64 16, .int .i64 0, .int .i64 0, .int .i64 0, .int .i64 0]) (t := 103) mem2
  have r0 : w2.cell? ⟨f, 0, none⟩ = some (.int .i64 1) := by rw [cell_at hb]; rfl
  have r1 : w2.cell? ⟨f, 1, none⟩ = some (.int .i64 16) := by rw [cell_at hb]; rfl
  clear hb
  go_wp2_with fail
  refine (has_any 1 16).mono ?_
  rintro e w3 ⟨rfl, Bh⟩
  rw [show hs 16 = true by decide +kernel]
  have A := hid (A.out.later Bh)
  clear Bh r0 r1
  have hb := A.out.blk (g := w.heap.size) (vs := [.int .i64 5, .string nm, .string tx, .int .i64 n, .int .i64 m]) (t := 35) mem3
  have o0 : w3.cell? ⟨w.heap.size, 0, none⟩ = some (.int .i64 5) := by rw [cell_at hb]; rfl
  have o1 : w3.cell? ⟨w.heap.size, 1, none⟩ = some (.string nm) := by rw [cell_at hb]; rfl
  have o2 : w3.cell? ⟨w.heap.size, 2, none⟩ = some (.string tx) := by rw [cell_at hb]; rfl
  have o3 : w3.cell? ⟨w.heap.size, 3, none⟩ = some (.int .i64 n) := by rw [cell_at hb]; rfl
  have o4 : w3.cell? ⟨w.heap.size, 4, none⟩ = some (.int .i64 m) := by rw [cell_at hb]; rfl
  clear hb
  go_wp2_with fail
  refine (textW A.out nm (by have := L.out; omega)).mono ?_
  rintro e w4 ⟨rfl, v4, A2⟩
  have A := hid A2
  clear A2 o0 o1 o2 o3 o4
  have L := hid (Nat.le_trans (lenS_txt (addS st (enc 9 5)) nm) (Nat.add_le_add_right L.out _))
  have hb := A.out.blk (g := f) (vs := [.int .i64 1, .int .i64 16, .int .i64 1, .int .i64 16, .int .i64 0, .int .i64 0, .int .i64 0, .int .i64 0]) (t := 103) mem2
  have r2 : w4.cell? ⟨f, 2, none⟩ = some (.int .i64 1) := by rw [cell_at hb]; rfl
  have r3 : w4.cell? ⟨f, 3, none⟩ = some (.int .i64 16) := by rw [cell_at hb]; rfl
  clear hb
  go_wp2_with fail
  refine (has_any 1 16).mono ?_
  rintro e w5 ⟨rfl, Bh⟩
  rw [show hs 16 = true by decide +kernel]
  have A := hid (A.out.later Bh)
  clear Bh r2 r3
  have hb := A.out.blk (g := w.heap.size) (vs := [.int .i64 5, .string nm, .string tx, .int .i64 n, .int .i64 m]) (t := 35) mem3
  have o0 : w5.cell? ⟨w.heap.size, 0, none⟩ = some (.int .i64 5) := by rw [cell_at hb]; rfl
  have o1 : w5.cell? ⟨w.heap.size, 1, none⟩ = some (.string nm) := by rw [cell_at hb]; rfl
  have o2 : w5.cell? ⟨w.heap.size, 2, none⟩ = some (.string tx) := by rw [cell_at hb]; rfl
  have o3 : w5.cell? ⟨w.heap.size, 3, none⟩ = some (.int .i64 n) := by rw [cell_at hb]; rfl
  have o4 : w5.cell? ⟨w.heap.size, 4, none⟩ = some (.int .i64 m) := by rw [cell_at hb]; rfl
  clear hb
  go_wp2_with fail
  refine (textW A.out tx (by have := L.out; omega)).mono ?_
  rintro e w6 ⟨rfl, v6, A2⟩
  have A := hid A2
  clear A2 o0 o1 o2 o3 o4
  have L := hid (Nat.le_trans (lenS_txt (addS (addS st (enc 9 5)) (enc 9 nm.size ++ nm.data.toList)) tx) (Nat.add_le_add_right L.out _))
  have hb := A.out.blk (g := f) (vs := [.int .i64 1, .int .i64 16, .int .i64 1, .int .i64 16, .int .i64 0, .int .i64 0, .int .i64 0, .int .i64 0]) (t := 103) mem2
  have r4 : w6.cell? ⟨f, 4, none⟩ = some (.int .i64 0) := by rw [cell_at hb]; rfl
  have r5 : w6.cell? ⟨f, 5, none⟩ = some (.int .i64 0) := by rw [cell_at hb]; rfl
  clear hb
  go_wp2_with fail
  refine (has_any 0 0).mono ?_
  rintro e w7 ⟨rfl, Bh⟩
  rw [show hs 0 = false by decide +kernel]
  have A := hid (A.out.later Bh)
  clear Bh r4 r5
  have hb := A.out.blk (g := f) (vs := [.int .i64 1, .int .i64 16, .int .i64 1, .int .i64 16, .int .i64 0, .int .i64 0, .int .i64 0, .int .i64 0]) (t := 103) mem2
  have r6 : w7.cell? ⟨f, 6, none⟩ = some (.int .i64 0) := by rw [cell_at hb]; rfl
  have r7 : w7.cell? ⟨f, 7, none⟩ = some (.int .i64 0) := by rw [cell_at hb]; rfl
  clear hb
  go_wp2_with fail
  refine (has_any 0 0).mono ?_
  rintro e w8 ⟨rfl, Bh⟩
  rw [show hs 0 = false by decide +kernel]
  have A := hid (A.out.later Bh)
  clear Bh r6 r7
  go_wp2
  go_end0
  exact ⟨rfl, _, (A.out.swap.tail).swap.tail⟩

set_option maxHeartbeats 3200000 in
set_option maxRecDepth 1000000 in
theorem put6 {b : Nat} {v : Value} {st : Option (List UInt8)} {cs : List Comp} {w : World} (h : All (wrC b v st :: cs) w) (ht : ∀ w', All cs w' → Tab w') (nm tx : ByteArray) (n m : Int) (hn : n < 9223372036854775808) (hm : m < 9223372036854775808) (hlen : lenS st + nm.size + tx.size + 100 ≤ 140737488355328) :
    Calls Tryz.prog 27 #[.pointer (some ⟨b, 0, none⟩), opV 6 nm tx n m] w fun e w' => e = .returned (.tuple #[]) ∧ ∃ v', All (wrC b v' (if chkA 6 nm.size tx.size n m = 0 then putV 6 st nm tx n m else none) :: cs) w' := by
  have A := hid (h.addBlk [.int .i64 6, .string nm, .string tx, .int .i64 n, .int .i64 m] 35)
  have HT := hid ht
  clear h ht
  by_cases h0 : chkA 6 nm.size tx.size n m = 0
  case neg =>
    rw [if_neg h0]
    have H0 := hid h0
    clear h0
    go_enter Tryz.func27, Tryz.ntmps27
    go_wp2_with fail
    refine (check_any (HT.out _ A.out.tail.tail) 6 nm tx n m).mono ?_
    rintro e w1 ⟨rfl, B⟩
    have A := hid (A.out.later B)
    clear B
    have h0 := H0.out
    generalize chkA 6 nm.size tx.size n m = ck at h0 ⊢
    have e0 : (ck != 0) = true := by simpa using h0
    clear h0
    go_wp2_with fail
    refine (numW A.out.swap (-1) (by omega) (by omega)).mono ?_
    rintro e w2 ⟨rfl, v2, A2⟩
    have A2 := hid A2
    clear A
    go_wp2
    refine bodyPost_ret (results_none rfl _ _ _) rfl ?_
    exact ⟨rfl, v2, A2.out.swap.tail⟩
  rw [if_pos h0]
  have H0 := hid h0
  clear h0
  go_enter Tryz.func27, Tryz.ntmps27
  go_wp2_with fail
  refine (check_any (HT.out _ A.out.tail.tail) 6 nm tx n m).mono ?_
  rw [H0.out]
  rintro e w1 ⟨rfl, B⟩
  have A := hid (A.out.later B)
  clear B H0
  have TB := HT.out _ A.out.tail.tail
  have t0 : w1.cell? ⟨0, 48, none⟩ = some (.int .i64 1) := TB.cell 48 (by omega)
  have t1 : w1.cell? ⟨0, 49, none⟩ = some (.int .i64 16) := TB.cell 49 (by omega)
  have t2 : w1.cell? ⟨0, 50, none⟩ = some (.int .i64 0) := TB.cell 50 (by omega)
  have t3 : w1.cell? ⟨0, 51, none⟩ = some (.int .i64 0) := TB.cell 51 (by omega)
  have t4 : w1.cell? ⟨0, 52, none⟩ = some (.int .i64 0) := TB.cell 52 (by omega)
  have t5 : w1.cell? ⟨0, 53, none⟩ = some (.int .i64 1099511627776) := TB.cell 53 (by omega)
  have t6 : w1.cell? ⟨0, 54, none⟩ = some (.int .i64 1) := TB.cell 54 (by omega)
  have t7 : w1.cell? ⟨0, 55, none⟩ = some (.int .i64 8) := TB.cell 55 (by omega)
  have tlt := TB.lt
  have hb := A.out.blk (g := w.heap.size) (vs := [.int .i64 6, .string nm, .string tx, .int .i64 n, .int .i64 m]) (t := 35) List.mem_cons_self
  have o0 : w1.cell? ⟨w.heap.size, 0, none⟩ = some (.int .i64 6) := by rw [cell_at hb]; rfl
  have o1 : w1.cell? ⟨w.heap.size, 1, none⟩ = some (.string nm) := by rw [cell_at hb]; rfl
  have o2 : w1.cell? ⟨w.heap.size, 2, none⟩ = some (.string tx) := by rw [cell_at hb]; rfl
  have o3 : w1.cell? ⟨w.heap.size, 3, none⟩ = some (.int .i64 n) := by rw [cell_at hb]; rfl
  have o4 : w1.cell? ⟨w.heap.size, 4, none⟩ = some (.int .i64 m) := by rw [cell_at hb]; rfl
  clear hb
  have olt : w.heap.size < w1.heap.size := (A.out.mem List.mem_cons_self).2.2 w.heap.size (by simp [blkC])
  have A := hid (A.out.addBlk [.int .i64 1, .int .i64 16, .int .i64 0, .int .i64 0, .int .i64 0, .int .i64 1099511627776, .int .i64 1, .int .i64 8] 103)
  clear TB
  generalize hF : w1.heap.size = f at A olt
  go_wp2_with fail
  have A := hid (A.out.perm (ds := wrC b v st :: blkC f [.int .i64 1, .int .i64 16, .int .i64 0, .int .i64 0, .int .i64 0, .int .i64 1099511627776, .int .i64 1, .int .i64 8] 103 :: blkC w.heap.size [.int .i64 6, .string nm, .string tx, .int .i64 n, .int .i64 m] 35 :: cs) (List.perm_middle (l₁ := [blkC f [.int .i64 1, .int .i64 16, .int .i64 0, .int .i64 0, .int .i64 0, .int .i64 1099511627776, .int .i64 1, .int .i64 8] 103, blkC w.heap.size [.int .i64 6, .string nm, .string tx, .int .i64 n, .int .i64 m] 35])))
  refine (natW A.out 6 (by omega) (by omega)).mono ?_
  rintro e w2 ⟨rfl, v2, A2⟩
  have A := hid A2
  clear A2 hF olt t0 t1 t2 t3 t4 t5 t6 t7 tlt o0 o1 o2 o3 o4
  have L := hid (lenS_nat st 6)
  have hb := A.out.blk (g := f) (vs := [.int .i64 1, .int .i64 16, .int .i64 0, .int .i64 0, .int .i64 0, .int .i64 1099511627776, .int .i64 1, .int .i64 8]) (t := 103) mem2
  have r0 : w2.cell? ⟨f, 0, none⟩ = some (.int .i64 1) := by rw [cell_at hb]; rfl
  have r1 : w2.cell? ⟨f, 1, none⟩ = some (.int .i64 16) := by rw [cell_at hb]; rfl
  clear hb
  go_wp2_with fail
  refine (has_any 1 16).mono ?_
  rintro e w3 ⟨rfl, Bh⟩
  rw [show hs 16 = true by decide +kernel]
  have A := hid (A.out.later Bh)
  clear Bh r0 r1
  have hb := A.out.blk (g := w.heap.size) (vs := [.int .i64 6, .string nm, .string tx, .int .i64 n, .int .i64 m]) (t := 35) mem3
  have o0 : w3.cell? ⟨w.heap.size, 0, none⟩ = some (.int .i64 6) := by rw [cell_at hb]; rfl
  have o1 : w3.cell? ⟨w.heap.size, 1, none⟩ = some (.string nm) := by rw [cell_at hb]; rfl
  have o2 : w3.cell? ⟨w.heap.size, 2, none⟩ = some (.string tx) := by rw [cell_at hb]; rfl
  have o3 : w3.cell? ⟨w.heap.size, 3, none⟩ = some (.int .i64 n) := by rw [cell_at hb]; rfl
  have o4 : w3.cell? ⟨w.heap.size, 4, none⟩ = some (.int .i64 m) := by rw [cell_at hb]; rfl
  clear hb
  go_wp2_with fail
  refine (textW A.out nm (by have := L.out; omega)).mono ?_
  rintro e w4 ⟨rfl, v4, A2⟩
  have A := hid A2
  clear A2 o0 o1 o2 o3 o4
  have L := hid (Nat.le_trans (lenS_txt (addS st (enc 9 6)) nm) (Nat.add_le_add_right L.out _))
  have hb := A.out.blk (g := f) (vs := [.int .i64 1, .int .i64 16, .int .i64 0, .int .i64 0, .int .i64 0, .int .i64 1099511627776, .int .i64 1, .int .i64 8]) (t := 103) mem2
  have r2 : w4.cell? ⟨f, 2, none⟩ = some (.int .i64 0) := by rw [cell_at hb]; rfl
  have r3 : w4.cell? ⟨f, 3, none⟩ = some (.int .i64 0) := by rw [cell_at hb]; rfl
  clear hb
  go_wp2_with fail
  refine (has_any 0 0).mono ?_
  rintro e w5 ⟨rfl, Bh⟩
  rw [show hs 0 = false by decide +kernel]
  have A := hid (A.out.later Bh)
  clear Bh r2 r3
  have hb := A.out.blk (g := f) (vs := [.int .i64 1, .int .i64 16, .int .i64 0, .int .i64 0, .int .i64 0, .int .i64 1099511627776, .int .i64 1, .int .i64 8]) (t := 103) mem2
  have r4 : w5.cell? ⟨f, 4, none⟩ = some (.int .i64 0) := by rw [cell_at hb]; rfl
  have r5 : w5.cell? ⟨f, 5, none⟩ = some (.int .i64 1099511627776) := by rw [cell_at hb]; rfl
  clear hb
  go_wp2_with fail
  refine (has_any 0 1099511627776).mono ?_
  rintro e w6 ⟨rfl, Bh⟩
  rw [show hs 1099511627776 = true by decide +kernel]
  have A := hid (A.out.later Bh)
  clear Bh r4 r5
  have hb := A.out.blk (g := w.heap.size) (vs := [.int .i64 6, .string nm, .string tx, .int .i64 n, .int .i64 m]) (t := 35) mem3
  have o0 : w6.cell? ⟨w.heap.size, 0, none⟩ = some (.int .i64 6) := by rw [cell_at hb]; rfl
  have o1 : w6.cell? ⟨w.heap.size, 1, none⟩ = some (.string nm) := by rw [cell_at hb]; rfl
  have o2 : w6.cell? ⟨w.heap.size, 2, none⟩ = some (.string tx) := by rw [cell_at hb]; rfl
  have o3 : w6.cell? ⟨w.heap.size, 3, none⟩ = some (.int .i64 n) := by rw [cell_at hb]; rfl
  have o4 : w6.cell? ⟨w.heap.size, 4, none⟩ = some (.int .i64 m) := by rw [cell_at hb]; rfl
  clear hb
  go_wp2_with fail
  refine (numW A.out n (by omega) (by have := L.out; omega)).mono ?_
  rintro e w7 ⟨rfl, v7, A2⟩
  have A := hid A2
  clear A2 o0 o1 o2 o3 o4
  have L := hid (Nat.le_trans (lenS_num (addS (addS st (enc 9 6)) (enc 9 nm.size ++ nm.data.toList)) n) (Nat.add_le_add_right L.out _))
  have hb := A.out.blk (g := f) (vs := [.int .i64 1, .int .i64 16, .int .i64 0, .int .i64 0, .int .i64 0, .int .i64 1099511627776, .int .i64 1, .int .i64 8]) (t := 103) mem2
  have r6 : w7.cell? ⟨f, 6, none⟩ = some (.int .i64 1) := by rw [cell_at hb]; rfl
  have r7 : w7.cell? ⟨f, 7, none⟩ = some (.int .i64 8) := by rw [cell_at hb]; rfl
  clear hb
  go_wp2_with fail
  refine (has_any 1 8).mono ?_
  rintro e w8 ⟨rfl, Bh⟩
  rw [show hs 8 = true by decide +kernel]
  have A := hid (A.out.later Bh)
  clear Bh r6 r7
  have hb := A.out.blk (g := w.heap.size) (vs := [.int .i64 6, .string nm, .string tx, .int .i64 n, .int .i64 m]) (t := 35) mem3
  have o0 : w8.cell? ⟨w.heap.size, 0, none⟩ = some (.int .i64 6) := by rw [cell_at hb]; rfl
  have o1 : w8.cell? ⟨w.heap.size, 1, none⟩ = some (.string nm) := by rw [cell_at hb]; rfl
  have o2 : w8.cell? ⟨w.heap.size, 2, none⟩ = some (.string tx) := by rw [cell_at hb]; rfl
  have o3 : w8.cell? ⟨w.heap.size, 3, none⟩ = some (.int .i64 n) := by rw [cell_at hb]; rfl
  have o4 : w8.cell? ⟨w.heap.size, 4, none⟩ = some (.int .i64 m) := by rw [cell_at hb]; rfl
  clear hb
  go_wp2_with fail
  refine (numW A.out m (by omega) (by have := L.out; omega)).mono ?_
  rintro e w9 ⟨rfl, v9, A2⟩
  have A := hid A2
  clear A2 o0 o1 o2 o3 o4
  have L := hid (Nat.le_trans (lenS_num (numS (addS (addS st (enc 9 6)) (enc 9 nm.size ++ nm.data.toList)) n) m) (Nat.add_le_add_right L.out _))
  go_wp2
  go_end0
  exact ⟨rfl, _, (A.out.swap.tail).swap.tail⟩

set_option maxHeartbeats 3200000 in
set_option maxRecDepth 1000000 in
theorem put7 {b : Nat} {v : Value} {st : Option (List UInt8)} {cs : List Comp} {w : World} (h : All (wrC b v st :: cs) w) (ht : ∀ w', All cs w' → Tab w') (nm tx : ByteArray) (n m : Int) (hn : n < 9223372036854775808) (hm : m < 9223372036854775808) (hlen : lenS st + nm.size + tx.size + 100 ≤ 140737488355328) :
    Calls Tryz.prog 27 #[.pointer (some ⟨b, 0, none⟩), opV 7 nm tx n m] w fun e w' => e = .returned (.tuple #[]) ∧ ∃ v', All (wrC b v' (if chkA 7 nm.size tx.size n m = 0 then putV 7 st nm tx n m else none) :: cs) w' := by
  have A := hid (h.addBlk [.int .i64 7, .string nm, .string tx, .int .i64 n, .int .i64 m] 35)
  have HT := hid ht
  clear h ht
  by_cases h0 : chkA 7 nm.size tx.size n m = 0
  case neg =>
    rw [if_neg h0]
    have H0 := hid h0
    clear h0
    go_enter Tryz.func27, Tryz.ntmps27
    go_wp2_with fail
    refine (check_any (HT.out _ A.out.tail.tail) 7 nm tx n m).mono ?_
    rintro e w1 ⟨rfl, B⟩
    have A := hid (A.out.later B)
    clear B
    have h0 := H0.out
    generalize chkA 7 nm.size tx.size n m = ck at h0 ⊢
    have e0 : (ck != 0) = true := by simpa using h0
    clear h0
    go_wp2_with fail
    refine (numW A.out.swap (-1) (by omega) (by omega)).mono ?_
    rintro e w2 ⟨rfl, v2, A2⟩
    have A2 := hid A2
    clear A
    go_wp2
    refine bodyPost_ret (results_none rfl _ _ _) rfl ?_
    exact ⟨rfl, v2, A2.out.swap.tail⟩
  rw [if_pos h0]
  have H0 := hid h0
  clear h0
  go_enter Tryz.func27, Tryz.ntmps27
  go_wp2_with fail
  refine (check_any (HT.out _ A.out.tail.tail) 7 nm tx n m).mono ?_
  rw [H0.out]
  rintro e w1 ⟨rfl, B⟩
  have A := hid (A.out.later B)
  clear B H0
  have TB := HT.out _ A.out.tail.tail
  have t0 : w1.cell? ⟨0, 56, none⟩ = some (.int .i64 1) := TB.cell 56 (by omega)
  have t1 : w1.cell? ⟨0, 57, none⟩ = some (.int .i64 16) := TB.cell 57 (by omega)
  have t2 : w1.cell? ⟨0, 58, none⟩ = some (.int .i64 0) := TB.cell 58 (by omega)
  have t3 : w1.cell? ⟨0, 59, none⟩ = some (.int .i64 0) := TB.cell 59 (by omega)
  have t4 : w1.cell? ⟨0, 60, none⟩ = some (.int .i64 0) := TB.cell 60 (by omega)
  have t5 : w1.cell? ⟨0, 61, none⟩ = some (.int .i64 0) := TB.cell 61 (by omega)
  have t6 : w1.cell? ⟨0, 62, none⟩ = some (.int .i64 0) := TB.cell 62 (by omega)
  have t7 : w1.cell? ⟨0, 63, none⟩ = some (.int .i64 0) := TB.cell 63 (by omega)
  have tlt := TB.lt
  have hb := A.out.blk (g := w.heap.size) (vs := [.int .i64 7, .string nm, .string tx, .int .i64 n, .int .i64 m]) (t := 35) List.mem_cons_self
  have o0 : w1.cell? ⟨w.heap.size, 0, none⟩ = some (.int .i64 7) := by rw [cell_at hb]; rfl
  have o1 : w1.cell? ⟨w.heap.size, 1, none⟩ = some (.string nm) := by rw [cell_at hb]; rfl
  have o2 : w1.cell? ⟨w.heap.size, 2, none⟩ = some (.string tx) := by rw [cell_at hb]; rfl
  have o3 : w1.cell? ⟨w.heap.size, 3, none⟩ = some (.int .i64 n) := by rw [cell_at hb]; rfl
  have o4 : w1.cell? ⟨w.heap.size, 4, none⟩ = some (.int .i64 m) := by rw [cell_at hb]; rfl
  clear hb
  have olt : w.heap.size < w1.heap.size := (A.out.mem List.mem_cons_self).2.2 w.heap.size (by simp [blkC])
  have A := hid (A.out.addBlk [.int .i64 1, .int .i64 16, .int .i64 0, .int .i64 0, .int .i64 0, .int .i64 0, .int .i64 0, .int .i64 0] 103)
  clear TB
  generalize hF : w1.heap.size = f at A olt
  go_wp2_with fail
  have A := hid (A.out.perm (ds := wrC b v st :: blkC f [.int .i64 1, .int .i64 16, .int .i64 0, .int .i64 0, .int .i64 0, .int .i64 0, .int .i64 0, .int .i64 0] 103 :: blkC w.heap.size [.int .i64 7, .string nm, .string tx, .int .i64 n, .int .i64 m] 35 :: cs) (List.perm_middle (l₁ := [blkC f [.int .i64 1, .int .i64 16, .int .i64 0, .int .i64 0, .int .i64 0, .int .i64 0, .int .i64 0, .int .i64 0] 103, blkC w.heap.size [.int .i64 7, .string nm, .string tx, .int .i64 n, .int .i64 m] 35])))
  refine (natW A.out 7 (by omega) (by omega)).mono ?_
  rintro e w2 ⟨rfl, v2, A2⟩
  have A := hid A2
  clear A2 hF olt t0 t1 t2 t3 t4 t5 t6 t7 tlt o0 o1 o2 o3 o4
  have L := hid (lenS_nat st 7)
  have hb := A.out.blk (g := f) (vs := [.int .i64 1, .int .i64 16, .int .i64 0, .int .i64 0, .int .i64 0, .int .i64 0, .int .i64 0, .int .i64 0]) (t := 103) mem2
  have r0 : w2.cell? ⟨f, 0, none⟩ = some (.int .i64 1) := by rw [cell_at hb]; rfl
  have r1 : w2.cell? ⟨f, 1, none⟩ = some (.int .i64 16) := by rw [cell_at hb]; rfl
  clear hb
  go_wp2_with fail
  refine (has_any 1 16).mono ?_
  rintro e w3 ⟨rfl, Bh⟩
  rw [show hs 16 = true by decide +kernel]
  have A := hid (A.out.later Bh)
  clear Bh r0 r1
  have hb := A.out.blk (g := w.heap.size) (vs := [.int .i64 7, .string nm, .string tx, .int .i64 n, .int .i64 m]) (t := 35) mem3
  have o0 : w3.cell? ⟨w.heap.size, 0, none⟩ = some (.int .i64 7) := by rw [cell_at hb]; rfl
  have o1 : w3.cell? ⟨w.heap.size, 1, none⟩ = some (.string nm) := by rw [cell_at hb]; rfl
  have o2 : w3.cell? ⟨w.heap.size, 2, none⟩ = some (.string tx) := by rw [cell_at hb]; rfl
  have o3 : w3.cell? ⟨w.heap.size, 3, none⟩ = some (.int .i64 n) := by rw [cell_at hb]; rfl
  have o4 : w3.cell? ⟨w.heap.size, 4, none⟩ = some (.int .i64 m) := by rw [cell_at hb]; rfl
  clear hb
  go_wp2_with fail
  refine (textW A.out nm (by have := L.out; omega)).mono ?_
  rintro e w4 ⟨rfl, v4, A2⟩
  have A := hid A2
  clear A2 o0 o1 o2 o3 o4
  have L := hid (Nat.le_trans (lenS_txt (addS st (enc 9 7)) nm) (Nat.add_le_add_right L.out _))
  have hb := A.out.blk (g := f) (vs := [.int .i64 1, .int .i64 16, .int .i64 0, .int .i64 0, .int .i64 0, .int .i64 0, .int .i64 0, .int .i64 0]) (t := 103) mem2
  have r2 : w4.cell? ⟨f, 2, none⟩ = some (.int .i64 0) := by rw [cell_at hb]; rfl
  have r3 : w4.cell? ⟨f, 3, none⟩ = some (.int .i64 0) := by rw [cell_at hb]; rfl
  clear hb
  go_wp2_with fail
  refine (has_any 0 0).mono ?_
  rintro e w5 ⟨rfl, Bh⟩
  rw [show hs 0 = false by decide +kernel]
  have A := hid (A.out.later Bh)
  clear Bh r2 r3
  have hb := A.out.blk (g := f) (vs := [.int .i64 1, .int .i64 16, .int .i64 0, .int .i64 0, .int .i64 0, .int .i64 0, .int .i64 0, .int .i64 0]) (t := 103) mem2
  have r4 : w5.cell? ⟨f, 4, none⟩ = some (.int .i64 0) := by rw [cell_at hb]; rfl
  have r5 : w5.cell? ⟨f, 5, none⟩ = some (.int .i64 0) := by rw [cell_at hb]; rfl
  clear hb
  go_wp2_with fail
  refine (has_any 0 0).mono ?_
  rintro e w6 ⟨rfl, Bh⟩
  rw [show hs 0 = false by decide +kernel]
  have A := hid (A.out.later Bh)
  clear Bh r4 r5
  have hb := A.out.blk (g := f) (vs := [.int .i64 1, .int .i64 16, .int .i64 0, .int .i64 0, .int .i64 0, .int .i64 0, .int .i64 0, .int .i64 0]) (t := 103) mem2
  have r6 : w6.cell? ⟨f, 6, none⟩ = some (.int .i64 0) := by rw [cell_at hb]; rfl
  have r7 : w6.cell? ⟨f, 7, none⟩ = some (.int .i64 0) := by rw [cell_at hb]; rfl
  clear hb
  go_wp2_with fail
  refine (has_any 0 0).mono ?_
  rintro e w7 ⟨rfl, Bh⟩
  rw [show hs 0 = false by decide +kernel]
  have A := hid (A.out.later Bh)
  clear Bh r6 r7
  go_wp2
  go_end0
  exact ⟨rfl, _, (A.out.swap.tail).swap.tail⟩

set_option maxHeartbeats 3200000 in
set_option maxRecDepth 1000000 in
theorem put8 {b : Nat} {v : Value} {st : Option (List UInt8)} {cs : List Comp} {w : World} (h : All (wrC b v st :: cs) w) (ht : ∀ w', All cs w' → Tab w') (nm tx : ByteArray) (n m : Int) (hn : n < 9223372036854775808) (hm : m < 9223372036854775808) (hlen : lenS st + nm.size + tx.size + 100 ≤ 140737488355328) :
    Calls Tryz.prog 27 #[.pointer (some ⟨b, 0, none⟩), opV 8 nm tx n m] w fun e w' => e = .returned (.tuple #[]) ∧ ∃ v', All (wrC b v' (if chkA 8 nm.size tx.size n m = 0 then putV 8 st nm tx n m else none) :: cs) w' := by
  have A := hid (h.addBlk [.int .i64 8, .string nm, .string tx, .int .i64 n, .int .i64 m] 35)
  have HT := hid ht
  clear h ht
  by_cases h0 : chkA 8 nm.size tx.size n m = 0
  case neg =>
    rw [if_neg h0]
    have H0 := hid h0
    clear h0
    go_enter Tryz.func27, Tryz.ntmps27
    go_wp2_with fail
    refine (check_any (HT.out _ A.out.tail.tail) 8 nm tx n m).mono ?_
    rintro e w1 ⟨rfl, B⟩
    have A := hid (A.out.later B)
    clear B
    have h0 := H0.out
    generalize chkA 8 nm.size tx.size n m = ck at h0 ⊢
    have e0 : (ck != 0) = true := by simpa using h0
    clear h0
    go_wp2_with fail
    refine (numW A.out.swap (-1) (by omega) (by omega)).mono ?_
    rintro e w2 ⟨rfl, v2, A2⟩
    have A2 := hid A2
    clear A
    go_wp2
    refine bodyPost_ret (results_none rfl _ _ _) rfl ?_
    exact ⟨rfl, v2, A2.out.swap.tail⟩
  rw [if_pos h0]
  have H0 := hid h0
  clear h0
  go_enter Tryz.func27, Tryz.ntmps27
  go_wp2_with fail
  refine (check_any (HT.out _ A.out.tail.tail) 8 nm tx n m).mono ?_
  rw [H0.out]
  rintro e w1 ⟨rfl, B⟩
  have A := hid (A.out.later B)
  clear B H0
  have TB := HT.out _ A.out.tail.tail
  have t0 : w1.cell? ⟨0, 64, none⟩ = some (.int .i64 0) := TB.cell 64 (by omega)
  have t1 : w1.cell? ⟨0, 65, none⟩ = some (.int .i64 0) := TB.cell 65 (by omega)
  have t2 : w1.cell? ⟨0, 66, none⟩ = some (.int .i64 0) := TB.cell 66 (by omega)
  have t3 : w1.cell? ⟨0, 67, none⟩ = some (.int .i64 0) := TB.cell 67 (by omega)
  have t4 : w1.cell? ⟨0, 68, none⟩ = some (.int .i64 0) := TB.cell 68 (by omega)
  have t5 : w1.cell? ⟨0, 69, none⟩ = some (.int .i64 0) := TB.cell 69 (by omega)
  have t6 : w1.cell? ⟨0, 70, none⟩ = some (.int .i64 0) := TB.cell 70 (by omega)
  have t7 : w1.cell? ⟨0, 71, none⟩ = some (.int .i64 0) := TB.cell 71 (by omega)
  have tlt := TB.lt
  have hb := A.out.blk (g := w.heap.size) (vs := [.int .i64 8, .string nm, .string tx, .int .i64 n, .int .i64 m]) (t := 35) List.mem_cons_self
  have o0 : w1.cell? ⟨w.heap.size, 0, none⟩ = some (.int .i64 8) := by rw [cell_at hb]; rfl
  have o1 : w1.cell? ⟨w.heap.size, 1, none⟩ = some (.string nm) := by rw [cell_at hb]; rfl
  have o2 : w1.cell? ⟨w.heap.size, 2, none⟩ = some (.string tx) := by rw [cell_at hb]; rfl
  have o3 : w1.cell? ⟨w.heap.size, 3, none⟩ = some (.int .i64 n) := by rw [cell_at hb]; rfl
  have o4 : w1.cell? ⟨w.heap.size, 4, none⟩ = some (.int .i64 m) := by rw [cell_at hb]; rfl
  clear hb
  have olt : w.heap.size < w1.heap.size := (A.out.mem List.mem_cons_self).2.2 w.heap.size (by simp [blkC])
  have A := hid (A.out.addBlk [.int .i64 0, .int .i64 0, .int .i64 0, .int .i64 0, .int .i64 0, .int .i64 0, .int .i64 0, .int .i64 0] 103)
  clear TB
  generalize hF : w1.heap.size = f at A olt
  go_wp2_with fail
  have A := hid (A.out.perm (ds := wrC b v st :: blkC f [.int .i64 0, .int .i64 0, .int .i64 0, .int .i64 0, .int .i64 0, .int .i64 0, .int .i64 0, .int .i64 0] 103 :: blkC w.heap.size [.int .i64 8, .string nm, .string tx, .int .i64 n, .int .i64 m] 35 :: cs) (List.perm_middle (l₁ := [blkC f [.int .i64 0, .int .i64 0, .int .i64 0, .int .i64 0, .int .i64 0, .int .i64 0, .int .i64 0, .int .i64 0] 103, blkC w.heap.size [.int .i64 8, .string nm, .string tx, .int .i64 n, .int .i64 m] 35])))
  refine (natW A.out 8 (by omega) (by omega)).mono ?_
  rintro e w2 ⟨rfl, v2, A2⟩
  have A := hid A2
  clear A2 hF olt t0 t1 t2 t3 t4 t5 t6 t7 tlt o0 o1 o2 o3 o4
  have L := hid (lenS_nat st 8)
  have hb := A.out.blk (g := f) (vs := [.int .i64 0, .int .i64 0, .int .i64 0, .int .i64 0, .int .i64 0, .int .i64 0, .int .i64 0, .int .i64 0]) (t := 103) mem2
  have r0 : w2.cell? ⟨f, 0, none⟩ = some (.int .i64 0) := by rw [cell_at hb]; rfl
  have r1 : w2.cell? ⟨f, 1, none⟩ = some (.int .i64 0) := by rw [cell_at hb]; rfl
  clear hb
  go_wp2_with fail
  refine (has_any 0 0).mono ?_
  rintro e w3 ⟨rfl, Bh⟩
  rw [show hs 0 = false by decide +kernel]
  have A := hid (A.out.later Bh)
  clear Bh r0 r1
  have hb := A.out.blk (g := f) (vs := [.int .i64 0, .int .i64 0, .int .i64 0, .int .i64 0, .int .i64 0, .int .i64 0, .int .i64 0, .int .i64 0]) (t := 103) mem2
  have r2 : w3.cell? ⟨f, 2, none⟩ = some (.int .i64 0) := by rw [cell_at hb]; rfl
  have r3 : w3.cell? ⟨f, 3, none⟩ = some (.int .i64 0) := by rw [cell_at hb]; rfl
  clear hb
  go_wp2_with fail
  refine (has_any 0 0).mono ?_
  rintro e w4 ⟨rfl, Bh⟩
  rw [show hs 0 = false by decide +kernel]
  have A := hid (A.out.later Bh)
  clear Bh r2 r3
  have hb := A.out.blk (g := f) (vs := [.int .i64 0, .int .i64 0, .int .i64 0, .int .i64 0, .int .i64 0, .int .i64 0, .int .i64 0, .int .i64 0]) (t := 103) mem2
  have r4 : w4.cell? ⟨f, 4, none⟩ = some (.int .i64 0) := by rw [cell_at hb]; rfl
  have r5 : w4.cell? ⟨f, 5, none⟩ = some (.int .i64 0) := by rw [cell_at hb]; rfl
  clear hb
  go_wp2_with fail
  refine (has_any 0 0).mono ?_
  rintro e w5 ⟨rfl, Bh⟩
  rw [show hs 0 = false by decide +kernel]
  have A := hid (A.out.later Bh)
  clear Bh r4 r5
  have hb := A.out.blk (g := f) (vs := [.int .i64 0, .int .i64 0, .int .i64 0, .int .i64 0, .int .i64 0, .int .i64 0, .int .i64 0, .int .i64 0]) (t := 103) mem2
  have r6 : w5.cell? ⟨f, 6, none⟩ = some (.int .i64 0) := by rw [cell_at hb]; rfl
  have r7 : w5.cell? ⟨f, 7, none⟩ = some (.int .i64 0) := by rw [cell_at hb]; rfl
  clear hb
  go_wp2_with fail
  refine (has_any 0 0).mono ?_
  rintro e w6 ⟨rfl, Bh⟩
  rw [show hs 0 = false by decide +kernel]
  have A := hid (A.out.later Bh)
  clear Bh r6 r7
  go_wp2
  go_end0
  exact ⟨rfl, _, (A.out.swap.tail).swap.tail⟩
end Go.Proofs.YtkcepkehgkkkbaaGreatDoor

namespace Go.Proofs.YtkcepkehgkkkbaaGreatDoor
open Go.RowKit
set_option linter.unusedVariables false

/-- The document's writer, as a part. -/
def xwC (b : Nat) (v : Value) (st : Option (List UInt8)) : Comp := ⟨fun w => Xst w b v st, b :: v.ownBlock.toList⟩
theorem xst_kept {w w' : World} {b : Nat} {v : Value} {st : Option (List UInt8)} (h : Xst w b v st) (hb : w'.heap[b]? = w.heap[b]?) (hr : ∀ k, v.ownBlock = some k → w'.heap[k]? = w.heap[k]?) : Xst w' b v st := by
  have key : ∀ {bs : List UInt8} {bad : Bool}, XWr w b v bs bad → XWr w' b v bs bad := by
    intro bs bad h
    refine ⟨by rw [hb]; exact h.box, h.row.1, ?_⟩
    rcases h.row.2 with hn | ⟨g, cap, cur, rfl, hg, hgg, rest⟩
    · exact Or.inl hn
    · exact Or.inr ⟨g, cap, cur, rfl, hg, by rw [hr g rfl]; exact hgg, rest⟩
  cases st with
  | some bs => exact key h
  | none => obtain ⟨bs, h⟩ := h; exact ⟨bs, key h⟩
theorem xst_lt {w : World} {b : Nat} {v : Value} {st : Option (List UInt8)} (h : Xst w b v st) : b < w.heap.size := by
  cases st with
  | some bs => exact (Array.getElem?_eq_some_iff.1 (XWr.box h)).1
  | none => obtain ⟨bs, h⟩ := h; exact (Array.getElem?_eq_some_iff.1 h.box).1
theorem xst_own {w : World} {b : Nat} {v : Value} {st : Option (List UInt8)} (h : Xst w b v st) : ∀ k, v.ownBlock = some k → k < w.heap.size := by
  intro k hk
  cases st with
  | some bs => exact ((XWr.row h).lt k hk).2
  | none => obtain ⟨bs, h⟩ := h; exact (h.row.lt k hk).2
theorem xwC_good (b : Nat) (v : Value) (st : Option (List UInt8)) : (xwC b v st).Good := fun w w' h _ hk =>
  xst_kept h (hk b (by simp [xwC])) (fun k hk' => hk k (by simp [xwC, hk']))
theorem All.xstep {b : Nat} {v v' : Value} {st st' : Option (List UInt8)} {cs : List Comp} {w w' : World} (h : All (xwC b v st :: cs) w) (h1 : Xst w' b v' st') (h2 : WStep b w v w' v') : All (xwC b v' st' :: cs) w' := by
  refine h.turn ⟨h2.os, h2.tape, h2.output, h2.size, fun k hk hn => ?_⟩ (xwC_good _ _ _) h1 (fun k hk => ?_) (fun k hk => ?_)
  · simp [xwC] at hn
    exact h2.block k hk hn.1 (fun e => hn.2 e.symm)
  · simp [xwC] at hk
    rcases hk with rfl | hk
    · exact Or.inl (by simp [xwC])
    · rcases h2.own k hk with e | e
      · exact Or.inl (by simp [xwC, e])
      · exact Or.inr e
  · simp [xwC] at hk
    rcases hk with rfl | hk
    · exact xst_lt h1
    · exact xst_own h1 k hk
theorem xnewW {cs : List Comp} {w : World} (h : All cs w) : Calls Tryz.prog 109 #[] w fun e w' => ∃ b, e = .returned (.pointer (some ⟨b, 0, none⟩)) ∧ All (xwC b (.slice none 0 0) (some []) :: cs) w' :=
  (xnew_any w).mono fun e w' ⟨h1, h3, h2⟩ => ⟨_, h1, h.add (Fr.below h3) (xwC_good _ _ _) h2 (fun k hk => by
    have hk' : k = w.heap.size := by simpa [xwC, Value.ownBlock] using hk
    subst hk'
    exact ⟨Nat.le_refl _, xst_lt h2⟩)⟩
theorem xtextW {b : Nat} {v : Value} {st : Option (List UInt8)} {cs : List Comp} {w : World} (h : All (xwC b v st :: cs) w) (s : ByteArray) (hlen : lenS st + s.size + 10 ≤ 140737488355328) : Calls Tryz.prog 110 #[.pointer (some ⟨b, 0, none⟩), .string s] w fun e w' => e = .returned (.tuple #[]) ∧ ∃ v', All (xwC b v' (addS st (enc 9 s.size ++ s.data.toList)) :: cs) w' :=
  (xtext_any h.1.2.1 s hlen).mono fun e w' ⟨h1, v', h2, h3⟩ => ⟨h1, v', h.xstep h2 h3⟩
theorem xnumW {b : Nat} {v : Value} {st : Option (List UInt8)} {cs : List Comp} {w : World} (h : All (xwC b v st :: cs) w) (n : Int) (hn : n < 9223372036854775808) (hlen : lenS st + 10 ≤ 140737488355328) : Calls Tryz.prog 111 #[.pointer (some ⟨b, 0, none⟩), .int .i64 n] w fun e w' => e = .returned (.tuple #[]) ∧ ∃ v', All (xwC b v' (numS st n) :: cs) w' :=
  (xnum_any h.1.2.1 n hn hlen).mono fun e w' ⟨h1, v', h2, h3⟩ => ⟨h1, v', h.xstep h2 h3⟩
theorem xnatW {b : Nat} {v : Value} {st : Option (List UInt8)} {cs : List Comp} {w : World} (h : All (xwC b v st :: cs) w) (n : Nat) (hn : n < 9223372036854775808) (hlen : lenS st + 10 ≤ 140737488355328) : Calls Tryz.prog 111 #[.pointer (some ⟨b, 0, none⟩), .int .i64 (n : Int)] w fun e w' => e = .returned (.tuple #[]) ∧ ∃ v', All (xwC b v' (addS st (enc 9 n)) :: cs) w' := by
  have := xnumW h (n : Int) (by omega) hlen
  rw [numS_nat] at this
  exact this

end Go.Proofs.YtkcepkehgkkkbaaGreatDoor

namespace Go.Proofs.YtkcepkehgkkkbaaGreatDoor
open Go.RowKit
set_option linter.unusedVariables false

/-- What is written of a result. -/
def putX (st : Option (List UInt8)) (c n : Int) (l : List ByteArray) : Option (List UInt8) :=
  if chkX c n l = 0 then (if c = 0 then addS (numS (numS st c) n) (itemsB l) else numS st c) else none

theorem itemsB_len (l : List ByteArray) : (itemsB l).length ≤ bulkT l + 10 := by
  have h1 := enc_len 9 l.length
  have h2 := textsB_len l
  rw [itemsB, List.length_append]
  omega

set_option maxHeartbeats 1600000 in
set_option maxRecDepth 1000000 in
theorem putR_any {b : Nat} {v : Value} {st : Option (List UInt8)} {s : Value} {l : List ByteArray} {cs : List Comp} {w : World} (h : All (wrC b v st :: cs) w) (hT : ∀ w', All cs w' → Txts w' s l) (c n : Int) (hc : c < 9223372036854775808) (hn : n < 9223372036854775808) (hlen : lenS st + bulkT l + 100 ≤ 140737488355328) (hl : l.length ≤ 1099511627776) :
    Calls Tryz.prog 28 #[.pointer (some ⟨b, 0, none⟩), resV c n s] w fun e w' => e = .returned (.tuple #[]) ∧ ∃ v', All (wrC b v' (putX st c n l) :: cs) w' := by
  obtain ⟨ao, cp, rfl⟩ := (hT w h.tail).form
  have A := hid (h.addBlk [.int .i64 c, .int .i64 n, .slice ao l.length cp] 41)
  have HT := hid hT
  clear h hT
  by_cases h0 : chkX c n l = 0
  case neg =>
    rw [putX, if_neg h0]
    have H0 := hid h0
    clear h0
    go_enter Tryz.func28, Tryz.ntmps28
    go_wp2_with fail
    refine (checkX_any c n (HT.out _ A.out.tail.tail) (by omega)).mono ?_
    rintro e w1 ⟨rfl, B⟩
    have A := hid (A.out.later B)
    clear B
    have h0 := H0.out
    generalize chkX c n l = ck at h0 ⊢
    have e0 : (ck != 0) = true := by simpa using h0
    clear h0
    go_wp2_with fail
    refine (numW A.out.swap (-1) (by omega) (by omega)).mono ?_
    rintro e w2 ⟨rfl, v2, A2⟩
    have A2 := hid A2
    clear A
    go_wp2
    refine bodyPost_ret (results_none rfl _ _ _) rfl ?_
    exact ⟨rfl, v2, A2.out.swap.tail⟩
  rw [putX, if_pos h0]
  have H0 := hid h0
  clear h0
  by_cases hc0 : c = 0
  · subst hc0
    rw [if_pos rfl]
    go_enter Tryz.func28, Tryz.ntmps28
    go_wp2_with fail
    refine (checkX_any 0 n (HT.out _ A.out.tail.tail) (by omega)).mono ?_
    rw [H0.out]
    rintro e w1 ⟨rfl, B⟩
    have A := hid (A.out.later B).swap
    clear B H0
    have hb := A.out.blk (g := w.heap.size) (vs := [.int .i64 0, .int .i64 n, .slice ao l.length cp]) (t := 41) mem2
    have o0 : w1.cell? ⟨w.heap.size, 0, none⟩ = some (.int .i64 0) := by rw [cell_at hb]; rfl
    clear hb
    go_wp2_with fail
    refine (numW A.out 0 (by omega) (by omega)).mono ?_
    rintro e w2 ⟨rfl, v2, A2⟩
    have A := hid A2
    have L := hid (lenS_num st 0)
    clear A2 o0
    have hb := A.out.blk (g := w.heap.size) (vs := [.int .i64 0, .int .i64 n, .slice ao l.length cp]) (t := 41) mem2
    have o0 : w2.cell? ⟨w.heap.size, 0, none⟩ = some (.int .i64 0) := by rw [cell_at hb]; rfl
    have o1 : w2.cell? ⟨w.heap.size, 1, none⟩ = some (.int .i64 n) := by rw [cell_at hb]; rfl
    clear hb
    go_wp2_with fail
    refine (numW A.out n (by omega) (by have := L.out; omega)).mono ?_
    rintro e w3 ⟨rfl, v3, A2⟩
    have A := hid A2
    have L := hid (Nat.le_trans (lenS_num (numS st 0) n) (Nat.add_le_add_right L.out 10))
    clear A2 o0 o1
    have hb := A.out.blk (g := w.heap.size) (vs := [.int .i64 0, .int .i64 n, .slice ao l.length cp]) (t := 41) mem2
    have o2 : w3.cell? ⟨w.heap.size, 2, none⟩ = some (.slice ao l.length cp) := by rw [cell_at hb]; rfl
    clear hb
    go_wp2_with fail
    refine (putItems_any A.out (fun w' hw' => HT.out w' hw'.tail) (by have := L.out; omega) hl).mono ?_
    rintro e w4 ⟨rfl, v4, A2⟩
    have A := hid A2
    clear A2 o2
    go_wp2
    go_end0
    exact ⟨rfl, v4, A.out.swap.tail⟩
  · rw [if_neg hc0]
    have ec : (c == 0) = false := by rw [beq_eq_false_iff_ne]; exact hc0
    go_enter Tryz.func28, Tryz.ntmps28
    go_wp2_with fail
    refine (checkX_any c n (HT.out _ A.out.tail.tail) (by omega)).mono ?_
    rw [H0.out]
    rintro e w1 ⟨rfl, B⟩
    have A := hid (A.out.later B).swap
    clear B H0
    have hb := A.out.blk (g := w.heap.size) (vs := [.int .i64 c, .int .i64 n, .slice ao l.length cp]) (t := 41) mem2
    have o0 : w1.cell? ⟨w.heap.size, 0, none⟩ = some (.int .i64 c) := by rw [cell_at hb]; rfl
    clear hb
    go_wp2_with fail
    refine (numW A.out c (by omega) (by omega)).mono ?_
    rintro e w2 ⟨rfl, v2, A2⟩
    have A := hid A2
    clear A2 o0
    have hb := A.out.blk (g := w.heap.size) (vs := [.int .i64 c, .int .i64 n, .slice ao l.length cp]) (t := 41) mem2
    have o0 : w2.cell? ⟨w.heap.size, 0, none⟩ = some (.int .i64 c) := by rw [cell_at hb]; rfl
    clear hb
    go_wp2
    go_end0
    exact ⟨rfl, v2, A.out.swap.tail⟩

end Go.Proofs.YtkcepkehgkkkbaaGreatDoor

namespace Go.Proofs.YtkcepkehgkkkbaaGreatDoor
open Go.RowKit
set_option linter.unusedVariables false

/-- What a reader has left, where it is, whether it is broken. -/
structure Rst where
  rs : List UInt8
  place : Nat
  err : Int
/-- A reader, as a part. -/
def rdC (b : Nat) (D : Option Nat) (rv : Value) (r : Rst) : Comp := ⟨fun w => Rd w b D rv r.rs r.place r.err, b :: D.toList⟩
theorem rdC_good (b : Nat) (D : Option Nat) (rv : Value) (r : Rst) : (rdC b D rv r).Good := fun w w' h hl hk =>
  Rd.kept h hl.size (hk b (by simp [rdC])) (fun k hk' => hk k (by simp [rdC, h.own k hk']))
theorem All.rstep {b : Nat} {D : Option Nat} {rv rv' : Value} {r r' : Rst} {cs : List Comp} {w w' : World} (h : All (rdC b D rv r :: cs) w) (h1 : Rd w' b D rv' r'.rs r'.place r'.err) (h2 : Only b w w') : All (rdC b D rv' r' :: cs) w' := by
  refine h.turn ⟨h2.os, h2.tape, h2.output, h2.size, fun k hk hn => ?_⟩ (rdC_good _ _ _ _) h1 (fun k hk => Or.inl hk) (fun k hk => ?_)
  · simp [rdC] at hn
    exact h2.block k hk hn.1
  · simp [rdC] at hk
    rcases hk with rfl | hk
    · exact h1.lt
    · exact h1.old k hk

/-- Behind a number, a text, a failure. -/
def Rst.aft (r : Rst) (size : Nat) (e : Int) : Rst := ⟨(Go.Proofs.YtkcepkehgkkkbaaGreatDoor.aft r.rs r.place r.err size e).1, (Go.Proofs.YtkcepkehgkkkbaaGreatDoor.aft r.rs r.place r.err size e).2.1, (Go.Proofs.YtkcepkehgkkkbaaGreatDoor.aft r.rs r.place r.err size e).2.2⟩
def Rst.num (r : Rst) (most : Int) : Rst := r.aft (numR r.rs most 13).2.1 (numR r.rs most 13).2.2
def Rst.numV (r : Rst) (most : Int) : Int := (numR r.rs most 13).1
def Rst.txt (r : Rst) (most : Int) : Rst := r.aft (runR r.rs most).2.1 (runR r.rs most).2.2
def Rst.txtV (r : Rst) (most : Int) : ByteArray := strB (runR r.rs most).1
def Rst.fail (r : Rst) (e : Int) : Rst := if e = 0 then r else ⟨[], r.place, keepE r.err e⟩

theorem numRd {b : Nat} {D : Option Nat} {rv : Value} {r : Rst} {cs : List Comp} {w : World} (h : All (rdC b D rv r :: cs) w) (hp : r.place + r.rs.length ≤ 140737488355328) (most : Int) : Calls Tryz.prog 10 #[.pointer (some ⟨b, 0, none⟩), .int .i64 most] w fun e w' => e = .returned (.int .i64 (r.numV most)) ∧ ∃ rv', All (rdC b D rv' (r.num most) :: cs) w' :=
  (Num_any h.1.2.1 hp most).mono fun e w' ⟨h1, ⟨rv', h2⟩, h3⟩ => ⟨h1, rv', h.rstep h2 h3⟩
theorem textRd {b : Nat} {D : Option Nat} {rv : Value} {r : Rst} {cs : List Comp} {w : World} (h : All (rdC b D rv r :: cs) w) (hp : r.place + r.rs.length ≤ 140737488355328) (most : Int) : Calls Tryz.prog 54 #[.pointer (some ⟨b, 0, none⟩), .int .i64 most] w fun e w' => e = .returned (.string (r.txtV most)) ∧ ∃ rv', All (rdC b D rv' (r.txt most) :: cs) w' :=
  (Text_any h.1.2.1 hp most).mono fun e w' ⟨h1, ⟨rv', h2⟩, h3⟩ => ⟨h1, rv', h.rstep h2 h3⟩
theorem errRd {b : Nat} {D : Option Nat} {rv : Value} {r : Rst} {cs : List Comp} {w : World} (h : All (rdC b D rv r :: cs) w) : Calls Tryz.prog 19 #[.pointer (some ⟨b, 0, none⟩)] w fun e w' => e = .returned (.tuple #[.int .i64 r.err, .int .i64 (r.place : Int)]) ∧ All (rdC b D rv r :: cs) w' :=
  (Err_any h.1.2.1).mono fun e w' ⟨h1, h2⟩ => ⟨h1, h.later h2⟩

set_option maxRecDepth 1000000 in
theorem fail0 {b : Nat} {D : Option Nat} {rv : Value} {rs : List UInt8} {place : Nat} {err : Int} {w : World} (h : Rd w b D rv rs place err) : Calls Tryz.prog 55 #[.pointer (some ⟨b, 0, none⟩), .int .i64 0] w fun e w' => e = .returned (.tuple #[]) ∧ w' = w := by
  have c2 : w.cell? ⟨b, 2, none⟩ = some (.int .i64 err) := by rw [cell_at h.box]; rfl
  clear h
  by_cases hz : err = 0
  · subst hz
    go_enter Tryz.func55, Tryz.ntmps55
    go_wp2
    go_end0
    exact ⟨rfl, rfl⟩
  · have hb1 : (err == 0) = false := by simpa using hz
    go_enter Tryz.func55, Tryz.ntmps55
    go_wp2
    go_end0
    exact ⟨rfl, rfl⟩
theorem failRd {b : Nat} {D : Option Nat} {rv : Value} {r : Rst} {cs : List Comp} {w : World} (h : All (rdC b D rv r :: cs) w) (e0 : Int) : Calls Tryz.prog 55 #[.pointer (some ⟨b, 0, none⟩), .int .i64 e0] w fun e w' => e = .returned (.tuple #[]) ∧ ∃ rv', All (rdC b D rv' (r.fail e0) :: cs) w' := by
  by_cases he : e0 = 0
  · subst he
    refine (fail0 h.1.2.1).mono ?_
    rintro e w' ⟨h1, rfl⟩
    refine ⟨h1, rv, ?_⟩
    rw [Rst.fail, if_pos rfl]
    exact h
  · refine (rfail_any h.1.2.1 e0 he).mono ?_
    rintro e w' ⟨h1, ⟨rv', h2⟩, h3⟩
    refine ⟨h1, rv', h.rstep ?_ h3⟩
    rw [Rst.fail, if_neg he]
    exact h2

set_option maxRecDepth 1000000 in
theorem wholeRd {b : Nat} {D : Option Nat} {rv : Value} {r : Rst} {cs : List Comp} {w : World} (h : All (rdC b D rv r :: cs) w) : Calls Tryz.prog 56 #[.pointer (some ⟨b, 0, none⟩)] w fun e w' => e = .returned (.bool (r.err == 0)) ∧ All (rdC b D rv r :: cs) w' := by
  have HH := hid h
  clear h
  go_enter Tryz.func56, Tryz.ntmps56
  go_wp2_with fail
  refine (errRd HH.out).mono ?_
  rintro e w1 ⟨rfl, A1⟩
  have A1 := hid A1
  clear HH
  go_wp2
  go_ret
  exact ⟨rfl, A1.out⟩
end Go.Proofs.YtkcepkehgkkkbaaGreatDoor
