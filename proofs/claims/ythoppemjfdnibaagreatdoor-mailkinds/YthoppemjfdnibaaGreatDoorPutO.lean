import Derived.Test.YthoppemjfdnibaaGreatDoorChkA
namespace Go.Proofs.YthoppemjfdnibaaGreatDoor
open Go.RowKit
set_option linter.unusedVariables false

/-- A text as bytes. -/
def txtB (s : ByteArray) : List UInt8 := enc 9 s.size ++ s.data.toList
theorem lenS_nat (st : Option (List UInt8)) (k : Nat) : lenS (addS st (enc 9 k)) ≤ lenS st + 10 := by
  have h1 := lenS_addS st (enc 9 k)
  have h2 := enc_len 9 k
  omega
theorem txtB_len (s : ByteArray) : (txtB s).length ≤ s.size + 10 := by
  have h2 := enc_len 9 s.size
  rw [txtB, List.length_append, str_len]
  omega
theorem lenS_txt (st : Option (List UInt8)) (s : ByteArray) : lenS (addS st (enc 9 s.size ++ s.data.toList)) ≤ lenS st + (s.size + 10) := by
  have h1 := lenS_addS st (enc 9 s.size ++ s.data.toList)
  have h2 := txtB_len s
  have h3 : (txtB s).length = (enc 9 s.size ++ s.data.toList).length := rfl
  omega
theorem lenS_num (st : Option (List UInt8)) (n : Int) : lenS (numS st n) ≤ lenS st + 10 := by
  unfold numS
  split
  · simp [lenS]
  · exact lenS_nat _ _
/-- What is written of an op that may be. -/
def putV (k : Nat) (st : Option (List UInt8)) (nm tx : ByteArray) (n m : Int) : Option (List UInt8) :=
  if k = 8 then addS st (enc 9 k) else if k = 3 ∨ k = 5 then addS (addS (addS st (enc 9 k)) (txtB nm)) (txtB tx)
  else if k = 4 then numS (addS (addS st (enc 9 k)) (txtB nm)) n else if k = 6 then numS (numS (addS (addS st (enc 9 k)) (txtB nm)) n) m
  else addS (addS st (enc 9 k)) (txtB nm)

set_option maxRecDepth 1000000 in
theorem put_out {b : Nat} {v : Value} {st : Option (List UInt8)} {cs : List Comp} {w : World} (h : All (wrC b v st :: cs) w) (ht : ∀ w', All cs w' → Tab w') {k : Int} (hk : k < 1 ∨ 8 < k) (nm tx : ByteArray) (n m : Int) (hlen : lenS st + nm.size + tx.size + 100 ≤ 140737488355328) :
    Calls Tryz.prog 149 #[.pointer (some ⟨b, 0, none⟩), opV k nm tx n m] w fun e w' => e = .returned (.tuple #[]) ∧ ∃ v', All (wrC b v' none :: cs) w' := by
  have A := hid (h.addBlk [.int .i64 k, .string nm, .string tx, .int .i64 n, .int .i64 m] 25)
  have HK := hid hk
  clear h hk
  go_enter Tryz.func149, Tryz.ntmps149
  go_wp2_with fail
  refine (check_out HK.out nm tx n m).mono ?_
  rintro e w1 ⟨rfl, B⟩
  have A := hid (A.out.later B)
  clear B
  go_wp2_with fail
  refine (numW A.out.swap (-1) (by omega) (by omega)).mono ?_
  rintro e w2 ⟨rfl, v2, A2⟩
  have A2 := hid A2
  clear A
  go_wp2
  refine bodyPost_ret (results_none rfl _ _ _) rfl ?_
  exact ⟨rfl, v2, A2.out.swap.tail⟩

set_option maxHeartbeats 3200000 in
set_option maxRecDepth 1000000 in
theorem put1 {b : Nat} {v : Value} {st : Option (List UInt8)} {cs : List Comp} {w : World} (h : All (wrC b v st :: cs) w) (ht : ∀ w', All cs w' → Tab w') (nm tx : ByteArray) (n m : Int) (hn : n < 9223372036854775808) (hm : m < 9223372036854775808) (hlen : lenS st + nm.size + tx.size + 100 ≤ 140737488355328) :
    Calls Tryz.prog 149 #[.pointer (some ⟨b, 0, none⟩), opV 1 nm tx n m] w fun e w' => e = .returned (.tuple #[]) ∧ ∃ v', All (wrC b v' (if chkA 1 nm.size tx.size n m = 0 then putV 1 st nm tx n m else none) :: cs) w' := by
  have A := hid (h.addBlk [.int .i64 1, .string nm, .string tx, .int .i64 n, .int .i64 m] 25)
  have HT := hid ht
  clear h ht
  by_cases h0 : chkA 1 nm.size tx.size n m = 0
  case neg =>
    rw [if_neg h0]
    have H0 := hid h0
    clear h0
    go_enter Tryz.func149, Tryz.ntmps149
    go_wp2_with fail
    refine (check_any (HT.out _ A.out.tail.tail) 1 nm tx n m).mono ?_
    rintro e w1 ⟨rfl, B⟩
    have A := hid (A.out.later B)
    clear B
    have h0 := H0.out
    generalize chkA 1 nm.size tx.size n m = ck at h0 ⊢
    have e0 : (ck != 0) = true := by simpa using h0
    clear h0
    go_wp2_with fail
    refine (numW A.out.swap (-1) (by omega) (by omega)).mono ?_
    rintro e w2 ⟨rfl, v2, A2⟩
    have A2 := hid A2
    clear A
    go_wp2
    refine bodyPost_ret (results_none rfl _ _ _) rfl ?_
    exact ⟨rfl, v2, A2.out.swap.tail⟩
  rw [if_pos h0]
  have H0 := hid h0
  clear h0
  go_enter Tryz.func149, Tryz.ntmps149
  go_wp2_with fail
  refine (check_any (HT.out _ A.out.tail.tail) 1 nm tx n m).mono ?_
  rw [H0.out]
  rintro e w1 ⟨rfl, B⟩
  have A := hid (A.out.later B)
  clear B H0
  have TB := HT.out _ A.out.tail.tail
  have t0 : w1.cell? ⟨1, 8, none⟩ = some (.int .i64 1) := TB.cell 8 (by omega)
  have t1 : w1.cell? ⟨1, 9, none⟩ = some (.int .i64 16) := TB.cell 9 (by omega)
  have t2 : w1.cell? ⟨1, 10, none⟩ = some (.int .i64 0) := TB.cell 10 (by omega)
  have t3 : w1.cell? ⟨1, 11, none⟩ = some (.int .i64 0) := TB.cell 11 (by omega)
  have t4 : w1.cell? ⟨1, 12, none⟩ = some (.int .i64 0) := TB.cell 12 (by omega)
  have t5 : w1.cell? ⟨1, 13, none⟩ = some (.int .i64 0) := TB.cell 13 (by omega)
  have t6 : w1.cell? ⟨1, 14, none⟩ = some (.int .i64 0) := TB.cell 14 (by omega)
  have t7 : w1.cell? ⟨1, 15, none⟩ = some (.int .i64 0) := TB.cell 15 (by omega)
  have tlt := TB.lt
  have hb := A.out.blk (g := w.heap.size) (vs := [.int .i64 1, .string nm, .string tx, .int .i64 n, .int .i64 m]) (t := 25) List.mem_cons_self
  have o0 : w1.cell? ⟨w.heap.size, 0, none⟩ = some (.int .i64 1) := by rw [cell_at hb]; rfl
  have o1 : w1.cell? ⟨w.heap.size, 1, none⟩ = some (.string nm) := by rw [cell_at hb]; rfl
  have o2 : w1.cell? ⟨w.heap.size, 2, none⟩ = some (.string tx) := by rw [cell_at hb]; rfl
  have o3 : w1.cell? ⟨w.heap.size, 3, none⟩ = some (.int .i64 n) := by rw [cell_at hb]; rfl
  have o4 : w1.cell? ⟨w.heap.size, 4, none⟩ = some (.int .i64 m) := by rw [cell_at hb]; rfl
  clear hb
  have olt : w.heap.size < w1.heap.size := (A.out.mem List.mem_cons_self).2.2 w.heap.size (by simp [blkC])
  have A := hid (A.out.addBlk [.int .i64 1, .int .i64 16, .int .i64 0, .int .i64 0, .int .i64 0, .int .i64 0, .int .i64 0, .int .i64 0] 138)
  clear TB
  generalize hF : w1.heap.size = f at A olt
  go_wp2_with fail
  have A := hid (A.out.perm (ds := wrC b v st :: blkC f [.int .i64 1, .int .i64 16, .int .i64 0, .int .i64 0, .int .i64 0, .int .i64 0, .int .i64 0, .int .i64 0] 138 :: blkC w.heap.size [.int .i64 1, .string nm, .string tx, .int .i64 n, .int .i64 m] 25 :: cs) (List.perm_middle (l₁ := [blkC f [.int .i64 1, .int .i64 16, .int .i64 0, .int .i64 0, .int .i64 0, .int .i64 0, .int .i64 0, .int .i64 0] 138, blkC w.heap.size [.int .i64 1, .string nm, .string tx, .int .i64 n, .int .i64 m] 25])))
  refine (natW A.out 1 (by omega) (by omega)).mono ?_
  rintro e w2 ⟨rfl, v2, A2⟩
  have A := hid A2
  clear A2 hF olt t0 t1 t2 t3 t4 t5 t6 t7 tlt o0 o1 o2 o3 o4
  have L := hid (lenS_nat st 1)
  have hb := A.out.blk (g := f) (vs := [.int .i64 1, .int .i64 16, .int .i64 0, .int .i64 0, .int .i64 0, .int .i64 0, .int .i64 0, .int .i64 0]) (t := 138) mem2
  have r0 : w2.cell? ⟨f, 0, none⟩ = some (.int .i64 1) := by rw [cell_at hb]; rfl
  have r1 : w2.cell? ⟨f, 1, none⟩ = some (.int .i64 16) := by rw [cell_at hb]; rfl
  clear hb
  go_wp2_with fail
  refine (has_any 1 16).mono ?_
  rintro e w3 ⟨rfl, Bh⟩
  rw [show hs 16 = true by decide +kernel]
  have A := hid (A.out.later Bh)
  clear Bh r0 r1
  have hb := A.out.blk (g := w.heap.size) (vs := [.int .i64 1, .string nm, .string tx, .int .i64 n, .int .i64 m]) (t := 25) mem3
  have o0 : w3.cell? ⟨w.heap.size, 0, none⟩ = some (.int .i64 1) := by rw [cell_at hb]; rfl
  have o1 : w3.cell? ⟨w.heap.size, 1, none⟩ = some (.string nm) := by rw [cell_at hb]; rfl
  have o2 : w3.cell? ⟨w.heap.size, 2, none⟩ = some (.string tx) := by rw [cell_at hb]; rfl
  have o3 : w3.cell? ⟨w.heap.size, 3, none⟩ = some (.int .i64 n) := by rw [cell_at hb]; rfl
  have o4 : w3.cell? ⟨w.heap.size, 4, none⟩ = some (.int .i64 m) := by rw [cell_at hb]; rfl
  clear hb
  go_wp2_with fail
  refine (textW A.out nm (by have := L.out; omega)).mono ?_
  rintro e w4 ⟨rfl, v4, A2⟩
  have A := hid A2
  clear A2 o0 o1 o2 o3 o4
  have L := hid (Nat.le_trans (lenS_txt (addS st (enc 9 1)) nm) (Nat.add_le_add_right L.out _))
  have hb := A.out.blk (g := f) (vs := [.int .i64 1, .int .i64 16, .int .i64 0, .int .i64 0, .int .i64 0, .int .i64 0, .int .i64 0, .int .i64 0]) (t := 138) mem2
  have r2 : w4.cell? ⟨f, 2, none⟩ = some (.int .i64 0) := by rw [cell_at hb]; rfl
  have r3 : w4.cell? ⟨f, 3, none⟩ = some (.int .i64 0) := by rw [cell_at hb]; rfl
  clear hb
  go_wp2_with fail
  refine (has_any 0 0).mono ?_
  rintro e w5 ⟨rfl, Bh⟩
  rw [show hs 0 = false by decide +kernel]
  have A := hid (A.out.later Bh)
  clear Bh r2 r3
  have hb := A.out.blk (g := f) (vs := [.int .i64 1, .int .i64 16, .int .i64 0, .int .i64 0, .int .i64 0, .int .i64 0, .int .i64 0, .int .i64 0]) (t := 138) mem2
  have r4 : w5.cell? ⟨f, 4, none⟩ = some (.int .i64 0) := by rw [cell_at hb]; rfl
  have r5 : w5.cell? ⟨f, 5, none⟩ = some (.int .i64 0) := by rw [cell_at hb]; rfl
  clear hb
  go_wp2_with fail
  refine (has_any 0 0).mono ?_
  rintro e w6 ⟨rfl, Bh⟩
  rw [show hs 0 = false by decide +kernel]
  have A := hid (A.out.later Bh)
  clear Bh r4 r5
  have hb := A.out.blk (g := f) (vs := [.int .i64 1, .int .i64 16, .int .i64 0, .int .i64 0, .int .i64 0, .int .i64 0, .int .i64 0, .int .i64 0]) (t := 138) mem2
  have r6 : w6.cell? ⟨f, 6, none⟩ = some (.int .i64 0) := by rw [cell_at hb]; rfl
  have r7 : w6.cell? ⟨f, 7, none⟩ = some (.int .i64 0) := by rw [cell_at hb]; rfl
  clear hb
  go_wp2_with fail
  refine (has_any 0 0).mono ?_
  rintro e w7 ⟨rfl, Bh⟩
  rw [show hs 0 = false by decide +kernel]
  have A := hid (A.out.later Bh)
  clear Bh r6 r7
  go_wp2
  go_end0
  exact ⟨rfl, _, (A.out.swap.tail).swap.tail⟩

set_option maxHeartbeats 3200000 in
set_option maxRecDepth 1000000 in
theorem put2 {b : Nat} {v : Value} {st : Option (List UInt8)} {cs : List Comp} {w : World} (h : All (wrC b v st :: cs) w) (ht : ∀ w', All cs w' → Tab w') (nm tx : ByteArray) (n m : Int) (hn : n < 9223372036854775808) (hm : m < 9223372036854775808) (hlen : lenS st + nm.size + tx.size + 100 ≤ 140737488355328) :
    Calls Tryz.prog 149 #[.pointer (some ⟨b, 0, none⟩), opV 2 nm tx n m] w fun e w' => e = .returned (.tuple #[]) ∧ ∃ v', All (wrC b v' (if chkA 2 nm.size tx.size n m = 0 then putV 2 st nm tx n m else none) :: cs) w' := by
  have A := hid (h.addBlk [.int .i64 2, .string nm, .string tx, .int .i64 n, .int .i64 m] 25)
  have HT := hid ht
  clear h ht
  by_cases h0 : chkA 2 nm.size tx.size n m = 0
  case neg =>
    rw [if_neg h0]
    have H0 := hid h0
    clear h0
    go_enter Tryz.func149, Tryz.ntmps149
    go_wp2_with fail
    refine (check_any (HT.out _ A.out.tail.tail) 2 nm tx n m).mono ?_
    rintro e w1 ⟨rfl, B⟩
    have A := hid (A.out.later B)
    clear B
    have h0 := H0.out
    generalize chkA 2 nm.size tx.size n m = ck at h0 ⊢
    have e0 : (ck != 0) = true := by simpa using h0
    clear h0
    go_wp2_with fail
    refine (numW A.out.swap (-1) (by omega) (by omega)).mono ?_
    rintro e w2 ⟨rfl, v2, A2⟩
    have A2 := hid A2
    clear A
    go_wp2
    refine bodyPost_ret (results_none rfl _ _ _) rfl ?_
    exact ⟨rfl, v2, A2.out.swap.tail⟩
  rw [if_pos h0]
  have H0 := hid h0
  clear h0
  go_enter Tryz.func149, Tryz.ntmps149
  go_wp2_with fail
  refine (check_any (HT.out _ A.out.tail.tail) 2 nm tx n m).mono ?_
  rw [H0.out]
  rintro e w1 ⟨rfl, B⟩
  have A := hid (A.out.later B)
  clear B H0
  have TB := HT.out _ A.out.tail.tail
  have t0 : w1.cell? ⟨1, 16, none⟩ = some (.int .i64 1) := TB.cell 16 (by omega)
  have t1 : w1.cell? ⟨1, 17, none⟩ = some (.int .i64 16) := TB.cell 17 (by omega)
  have t2 : w1.cell? ⟨1, 18, none⟩ = some (.int .i64 0) := TB.cell 18 (by omega)
  have t3 : w1.cell? ⟨1, 19, none⟩ = some (.int .i64 0) := TB.cell 19 (by omega)
  have t4 : w1.cell? ⟨1, 20, none⟩ = some (.int .i64 0) := TB.cell 20 (by omega)
  have t5 : w1.cell? ⟨1, 21, none⟩ = some (.int .i64 0) := TB.cell 21 (by omega)
  have t6 : w1.cell? ⟨1, 22, none⟩ = some (.int .i64 0) := TB.cell 22 (by omega)
  have t7 : w1.cell? ⟨1, 23, none⟩ = some (.int .i64 0) := TB.cell 23 (by omega)
  have tlt := TB.lt
  have hb := A.out.blk (g := w.heap.size) (vs := [.int .i64 2, .string nm, .string tx, .int .i64 n, .int .i64 m]) (t := 25) List.mem_cons_self
  have o0 : w1.cell? ⟨w.heap.size, 0, none⟩ = some (.int .i64 2) := by rw [cell_at hb]; rfl
  have o1 : w1.cell? ⟨w.heap.size, 1, none⟩ = some (.string nm) := by rw [cell_at hb]; rfl
  have o2 : w1.cell? ⟨w.heap.size, 2, none⟩ = some (.string tx) := by rw [cell_at hb]; rfl
  have o3 : w1.cell? ⟨w.heap.size, 3, none⟩ = some (.int .i64 n) := by rw [cell_at hb]; rfl
  have o4 : w1.cell? ⟨w.heap.size, 4, none⟩ = some (.int .i64 m) := by rw [cell_at hb]; rfl
  clear hb
  have olt : w.heap.size < w1.heap.size := (A.out.mem List.mem_cons_self).2.2 w.heap.size (by simp [blkC])
  have A := hid (A.out.addBlk [.int .i64 1, .int .i64 16, .int .i64 0, .int .i64 0, .int .i64 0, .int .i64 0, .int .i64 0, .int .i64 0] 138)
  clear TB
  generalize hF : w1.heap.size = f at A olt
  go_wp2_with fail
  have A := hid (A.out.perm (ds := wrC b v st :: blkC f [.int .i64 1, .int .i64 16, .int .i64 0, .int .i64 0, .int .i64 0, .int .i64 0, .int .i64 0, .int .i64 0] 138 :: blkC w.heap.size [.int .i64 2, .string nm, .string tx, .int .i64 n, .int .i64 m] 25 :: cs) (List.perm_middle (l₁ := [blkC f [.int .i64 1, .int .i64 16, .int .i64 0, .int .i64 0, .int .i64 0, .int .i64 0, .int .i64 0, .int .i64 0] 138, blkC w.heap.size [.int .i64 2, .string nm, .string tx, .int .i64 n, .int .i64 m] 25])))
  refine (natW A.out 2 (by omega) (by omega)).mono ?_
  rintro e w2 ⟨rfl, v2, A2⟩
  have A := hid A2
  clear A2 hF olt t0 t1 t2 t3 t4 t5 t6 t7 tlt o0 o1 o2 o3 o4
  have L := hid (lenS_nat st 2)
  have hb := A.out.blk (g := f) (vs := [.int .i64 1, .int .i64 16, .int .i64 0, .int .i64 0, .int .i64 0, .int .i64 0, .int .i64 0, .int .i64 0]) (t := 138) mem2
  have r0 : w2.cell? ⟨f, 0, none⟩ = some (.int .i64 1) := by rw [cell_at hb]; rfl
  have r1 : w2.cell? ⟨f, 1, none⟩ = some (.int .i64 16) := by rw [cell_at hb]; rfl
  clear hb
  go_wp2_with fail
  refine (has_any 1 16).mono ?_
  rintro e w3 ⟨rfl, Bh⟩
  rw [show hs 16 = true by decide +kernel]
  have A := hid (A.out.later Bh)
  clear Bh r0 r1
  have hb := A.out.blk (g := w.heap.size) (vs := [.int .i64 2, .string nm, .string tx, .int .i64 n, .int .i64 m]) (t := 25) mem3
  have o0 : w3.cell? ⟨w.heap.size, 0, none⟩ = some (.int .i64 2) := by rw [cell_at hb]; rfl
  have o1 : w3.cell? ⟨w.heap.size, 1, none⟩ = some (.string nm) := by rw [cell_at hb]; rfl
  have o2 : w3.cell? ⟨w.heap.size, 2, none⟩ = some (.string tx) := by rw [cell_at hb]; rfl
  have o3 : w3.cell? ⟨w.heap.size, 3, none⟩ = some (.int .i64 n) := by rw [cell_at hb]; rfl
  have o4 : w3.cell? ⟨w.heap.size, 4, none⟩ = some (.int .i64 m) := by rw [cell_at hb]; rfl
  clear hb
  go_wp2_with fail
  refine (textW A.out nm (by have := L.out; omega)).mono ?_
  rintro e w4 ⟨rfl, v4, A2⟩
  have A := hid A2
  clear A2 o0 o1 o2 o3 o4
  have L := hid (Nat.le_trans (lenS_txt (addS st (enc 9 2)) nm) (Nat.add_le_add_right L.out _))
  have hb := A.out.blk (g := f) (vs := [.int .i64 1, .int .i64 16, .int .i64 0, .int .i64 0, .int .i64 0, .int .i64 0, .int .i64 0, .int .i64 0]) (t := 138) mem2
  have r2 : w4.cell? ⟨f, 2, none⟩ = some (.int .i64 0) := by rw [cell_at hb]; rfl
  have r3 : w4.cell? ⟨f, 3, none⟩ = some (.int .i64 0) := by rw [cell_at hb]; rfl
  clear hb
  go_wp2_with fail
  refine (has_any 0 0).mono ?_
  rintro e w5 ⟨rfl, Bh⟩
  rw [show hs 0 = false by decide +kernel]
  have A := hid (A.out.later Bh)
  clear Bh r2 r3
  have hb := A.out.blk (g := f) (vs := [.int .i64 1, .int .i64 16, .int .i64 0, .int .i64 0, .int .i64 0, .int .i64 0, .int .i64 0, .int .i64 0]) (t := 138) mem2
  have r4 : w5.cell? ⟨f, 4, none⟩ = some (.int .i64 0) := by rw [cell_at hb]; rfl
  have r5 : w5.cell? ⟨f, 5, none⟩ = some (.int .i64 0) := by rw [cell_at hb]; rfl
  clear hb
  go_wp2_with fail
  refine (has_any 0 0).mono ?_
  rintro e w6 ⟨rfl, Bh⟩
  rw [show hs 0 = false by decide +kernel]
  have A := hid (A.out.later Bh)
  clear Bh r4 r5
  have hb := A.out.blk (g := f) (vs := [.int .i64 1, .int .i64 16, .int .i64 0, .int .i64 0, .int .i64 0, .int .i64 0, .int .i64 0, .int .i64 0]) (t := 138) mem2
  have r6 : w6.cell? ⟨f, 6, none⟩ = some (.int .i64 0) := by rw [cell_at hb]; rfl
  have r7 : w6.cell? ⟨f, 7, none⟩ = some (.int .i64 0) := by rw [cell_at hb]; rfl
  clear hb
  go_wp2_with fail
  refine (has_any 0 0).mono ?_
  rintro e w7 ⟨rfl, Bh⟩
  rw [show hs 0 = false by decide +kernel]
  have A := hid (A.out.later Bh)
  clear Bh r6 r7
  go_wp2
  go_end0
  exact ⟨rfl, _, (A.out.swap.tail).swap.tail⟩

set_option maxHeartbeats 3200000 in
set_option maxRecDepth 1000000 in
theorem put3 {b : Nat} {v : Value} {st : Option (List UInt8)} {cs : List Comp} {w : World} (h : All (wrC b v st :: cs) w) (ht : ∀ w', All cs w' → Tab w') (nm tx : ByteArray) (n m : Int) (hn : n < 9223372036854775808) (hm : m < 9223372036854775808) (hlen : lenS st + nm.size + tx.size + 100 ≤ 140737488355328) :
    Calls Tryz.prog 149 #[.pointer (some ⟨b, 0, none⟩), opV 3 nm tx n m] w fun e w' => e = .returned (.tuple #[]) ∧ ∃ v', All (wrC b v' (if chkA 3 nm.size tx.size n m = 0 then putV 3 st nm tx n m else none) :: cs) w' := by
  have A := hid (h.addBlk [.int .i64 3, .string nm, .string tx, .int .i64 n, .int .i64 m] 25)
  have HT := hid ht
  clear h ht
  by_cases h0 : chkA 3 nm.size tx.size n m = 0
  case neg =>
    rw [if_neg h0]
    have H0 := hid h0
    clear h0
    go_enter Tryz.func149, Tryz.ntmps149
    go_wp2_with fail
    refine (check_any (HT.out _ A.out.tail.tail) 3 nm tx n m).mono ?_
    rintro e w1 ⟨rfl, B⟩
    have A := hid (A.out.later B)
    clear B
    have h0 := H0.out
    generalize chkA 3 nm.size tx.size n m = ck at h0 ⊢
    have e0 : (ck != 0) = true := by simpa using h0
    clear h0
    go_wp2_with fail
    refine (numW A.out.swap (-1) (by omega) (by omega)).mono ?_
    rintro e w2 ⟨rfl, v2, A2⟩
    have A2 := hid A2
    clear A
    go_wp2
    refine bodyPost_ret (results_none rfl _ _ _) rfl ?_
    exact ⟨rfl, v2, A2.out.swap.tail⟩
  rw [if_pos h0]
  have H0 := hid h0
  clear h0
  go_enter Tryz.func149, Tryz.ntmps149
  go_wp2_with fail
  refine (check_any (HT.out _ A.out.tail.tail) 3 nm tx n m).mono ?_
  rw [H0.out]
  rintro e w1 ⟨rfl, B⟩
  have A := hid (A.out.later B)
  clear B H0
  have TB := HT.out _ A.out.tail.tail
  have t0 : w1.cell? ⟨1, 24, none⟩ = some (.int .i64 1) := TB.cell 24 (by omega)
  have t1 : w1.cell? ⟨1, 25, none⟩ = some (.int .i64 16) := TB.cell 25 (by omega)
  have t2 : w1.cell? ⟨1, 26, none⟩ = some (.int .i64 0) := TB.cell 26 (by omega)
  have t3 : w1.cell? ⟨1, 27, none⟩ = some (.int .i64 64) := TB.cell 27 (by omega)
  have t4 : w1.cell? ⟨1, 28, none⟩ = some (.int .i64 0) := TB.cell 28 (by omega)
  have t5 : w1.cell? ⟨1, 29, none⟩ = some (.int .i64 0) := TB.cell 29 (by omega)
  have t6 : w1.cell? ⟨1, 30, none⟩ = some (.int .i64 0) := TB.cell 30 (by omega)
  have t7 : w1.cell? ⟨1, 31, none⟩ = some (.int .i64 0) := TB.cell 31 (by omega)
  have tlt := TB.lt
  have hb := A.out.blk (g := w.heap.size) (vs := [.int .i64 3, .string nm, .string tx, .int .i64 n, .int .i64 m]) (t := 25) List.mem_cons_self
  have o0 : w1.cell? ⟨w.heap.size, 0, none⟩ = some (.int .i64 3) := by rw [cell_at hb]; rfl
  have o1 : w1.cell? ⟨w.heap.size, 1, none⟩ = some (.string nm) := by rw [cell_at hb]; rfl
  have o2 : w1.cell? ⟨w.heap.size, 2, none⟩ = some (.string tx) := by rw [cell_at hb]; rfl
  have o3 : w1.cell? ⟨w.heap.size, 3, none⟩ = some (.int .i64 n) := by rw [cell_at hb]; rfl
  have o4 : w1.cell? ⟨w.heap.size, 4, none⟩ = some (.int .i64 m) := by rw [cell_at hb]; rfl
  clear hb
  have olt : w.heap.size < w1.heap.size := (A.out.mem List.mem_cons_self).2.2 w.heap.size (by simp [blkC])
  have A := hid (A.out.addBlk [.int .i64 1, .int .i64 16, .int .i64 0, .int .i64 64, .int .i64 0, .int .i64 0, .int .i64 0, .int .i64 0] 138)
  clear TB
  generalize hF : w1.heap.size = f at A olt
  go_wp2_with fail
  have A := hid (A.out.perm (ds := wrC b v st :: blkC f [.int .i64 1, .int .i64 16, .int .i64 0, .int .i64 64, .int .i64 0, .int .i64 0, .int .i64 0, .int .i64 0] 138 :: blkC w.heap.size [.int .i64 3, .string nm, .string tx, .int .i64 n, .int .i64 m] 25 :: cs) (List.perm_middle (l₁ := [blkC f [.int .i64 1, .int .i64 16, .int .i64 0, .int .i64 64, .int .i64 0, .int .i64 0, .int .i64 0, .int .i64 0] 138, blkC w.heap.size [.int .i64 3, .string nm, .string tx, .int .i64 n, .int .i64 m] 25])))
  refine (natW A.out 3 (by omega) (by omega)).mono ?_
  rintro e w2 ⟨rfl, v2, A2⟩
  have A := hid A2
  clear A2 hF olt t0 t1 t2 t3 t4 t5 t6 t7 tlt o0 o1 o2 o3 o4
  have L := hid (lenS_nat st 3)
  have hb := A.out.blk (g := f) (vs := [.int .i64 1, .int .i64 16, .int .i64 0, .int .i64 64, .int .i64 0, .int .i64 0, .int .i64 0, .int .i64 0]) (t := 138) mem2
  have r0 : w2.cell? ⟨f, 0, none⟩ = some (.int .i64 1) := by rw [cell_at hb]; rfl
  have r1 : w2.cell? ⟨f, 1, none⟩ = some (.int .i64 16) := by rw [cell_at hb]; rfl
  clear hb
  go_wp2_with fail
  refine (has_any 1 16).mono ?_
  rintro e w3 ⟨rfl, Bh⟩
  rw [show hs 16 = true by decide +kernel]
  have A := hid (A.out.later Bh)
  clear Bh r0 r1
  have hb := A.out.blk (g := w.heap.size) (vs := [.int .i64 3, .string nm, .string tx, .int .i64 n, .int .i64 m]) (t := 25) mem3
  have o0 : w3.cell? ⟨w.heap.size, 0, none⟩ = some (.int .i64 3) := by rw [cell_at hb]; rfl
  have o1 : w3.cell? ⟨w.heap.size, 1, none⟩ = some (.string nm) := by rw [cell_at hb]; rfl
  have o2 : w3.cell? ⟨w.heap.size, 2, none⟩ = some (.string tx) := by rw [cell_at hb]; rfl
  have o3 : w3.cell? ⟨w.heap.size, 3, none⟩ = some (.int .i64 n) := by rw [cell_at hb]; rfl
  have o4 : w3.cell? ⟨w.heap.size, 4, none⟩ = some (.int .i64 m) := by rw [cell_at hb]; rfl
  clear hb
  go_wp2_with fail
  refine (textW A.out nm (by have := L.out; omega)).mono ?_
  rintro e w4 ⟨rfl, v4, A2⟩
  have A := hid A2
  clear A2 o0 o1 o2 o3 o4
  have L := hid (Nat.le_trans (lenS_txt (addS st (enc 9 3)) nm) (Nat.add_le_add_right L.out _))
  have hb := A.out.blk (g := f) (vs := [.int .i64 1, .int .i64 16, .int .i64 0, .int .i64 64, .int .i64 0, .int .i64 0, .int .i64 0, .int .i64 0]) (t := 138) mem2
  have r2 : w4.cell? ⟨f, 2, none⟩ = some (.int .i64 0) := by rw [cell_at hb]; rfl
  have r3 : w4.cell? ⟨f, 3, none⟩ = some (.int .i64 64) := by rw [cell_at hb]; rfl
  clear hb
  go_wp2_with fail
  refine (has_any 0 64).mono ?_
  rintro e w5 ⟨rfl, Bh⟩
  rw [show hs 64 = true by decide +kernel]
  have A := hid (A.out.later Bh)
  clear Bh r2 r3
  have hb := A.out.blk (g := w.heap.size) (vs := [.int .i64 3, .string nm, .string tx, .int .i64 n, .int .i64 m]) (t := 25) mem3
  have o0 : w5.cell? ⟨w.heap.size, 0, none⟩ = some (.int .i64 3) := by rw [cell_at hb]; rfl
  have o1 : w5.cell? ⟨w.heap.size, 1, none⟩ = some (.string nm) := by rw [cell_at hb]; rfl
  have o2 : w5.cell? ⟨w.heap.size, 2, none⟩ = some (.string tx) := by rw [cell_at hb]; rfl
  have o3 : w5.cell? ⟨w.heap.size, 3, none⟩ = some (.int .i64 n) := by rw [cell_at hb]; rfl
  have o4 : w5.cell? ⟨w.heap.size, 4, none⟩ = some (.int .i64 m) := by rw [cell_at hb]; rfl
  clear hb
  go_wp2_with fail
  refine (textW A.out tx (by have := L.out; omega)).mono ?_
  rintro e w6 ⟨rfl, v6, A2⟩
  have A := hid A2
  clear A2 o0 o1 o2 o3 o4
  have L := hid (Nat.le_trans (lenS_txt (addS (addS st (enc 9 3)) (enc 9 nm.size ++ nm.data.toList)) tx) (Nat.add_le_add_right L.out _))
  have hb := A.out.blk (g := f) (vs := [.int .i64 1, .int .i64 16, .int .i64 0, .int .i64 64, .int .i64 0, .int .i64 0, .int .i64 0, .int .i64 0]) (t := 138) mem2
  have r4 : w6.cell? ⟨f, 4, none⟩ = some (.int .i64 0) := by rw [cell_at hb]; rfl
  have r5 : w6.cell? ⟨f, 5, none⟩ = some (.int .i64 0) := by rw [cell_at hb]; rfl
  clear hb
  go_wp2_with fail
  refine (has_any 0 0).mono ?_
  rintro e w7 ⟨rfl, Bh⟩
  rw [show hs 0 = false by decide +kernel]
  have A := hid (A.out.later Bh)
  clear Bh r4 r5
  have hb := A.out.blk (g := f) (vs := [.int .i64 1, .int .i64 16, .int .i64 0, .int .i64 64, .int .i64 0, .int .i64 0, .int .i64 0, .int .i64 0]) (t := 138) mem2
  have r6 : w7.cell? ⟨f, 6, none⟩ = some (.int .i64 0) := by rw [cell_at hb]; rfl
  have r7 : w7.cell? ⟨f, 7, none⟩ = some (.int .i64 0) := by rw [cell_at hb]; rfl
  clear hb
  go_wp2_with fail
  refine (has_any 0 0).mono ?_
  rintro e w8 ⟨rfl, Bh⟩
  rw [show hs 0 = false by decide +kernel]
  have A := hid (A.out.later Bh)
  clear Bh r6 r7
  go_wp2
  go_end0
  exact ⟨rfl, _, (A.out.swap.tail).swap.tail⟩

set_option maxHeartbeats 3200000 in
set_option maxRecDepth 1000000 in
theorem put4 {b : Nat} {v : Value} {st : Option (List UInt8)} {cs : List Comp} {w : World} (h : All (wrC b v st :: cs) w) (ht : ∀ w', All cs w' → Tab w') (nm tx : ByteArray) (n m : Int) (hn : n < 9223372036854775808) (hm : m < 9223372036854775808) (hlen : lenS st + nm.size + tx.size + 100 ≤ 140737488355328) :
    Calls Tryz.prog 149 #[.pointer (some ⟨b, 0, none⟩), opV 4 nm tx n m] w fun e w' => e = .returned (.tuple #[]) ∧ ∃ v', All (wrC b v' (if chkA 4 nm.size tx.size n m = 0 then putV 4 st nm tx n m else none) :: cs) w' := by
  have A := hid (h.addBlk [.int .i64 4, .string nm, .string tx, .int .i64 n, .int .i64 m] 25)
  have HT := hid ht
  clear h ht
  by_cases h0 : chkA 4 nm.size tx.size n m = 0
  case neg =>
    rw [if_neg h0]
    have H0 := hid h0
    clear h0
    go_enter Tryz.func149, Tryz.ntmps149
    go_wp2_with fail
    refine (check_any (HT.out _ A.out.tail.tail) 4 nm tx n m).mono ?_
    rintro e w1 ⟨rfl, B⟩
    have A := hid (A.out.later B)
    clear B
    have h0 := H0.out
    generalize chkA 4 nm.size tx.size n m = ck at h0 ⊢
    have e0 : (ck != 0) = true := by simpa using h0
    clear h0
    go_wp2_with fail
    refine (numW A.out.swap (-1) (by omega) (by omega)).mono ?_
    rintro e w2 ⟨rfl, v2, A2⟩
    have A2 := hid A2
    clear A
    go_wp2
    refine bodyPost_ret (results_none rfl _ _ _) rfl ?_
    exact ⟨rfl, v2, A2.out.swap.tail⟩
  rw [if_pos h0]
  have H0 := hid h0
  clear h0
  go_enter Tryz.func149, Tryz.ntmps149
  go_wp2_with fail
  refine (check_any (HT.out _ A.out.tail.tail) 4 nm tx n m).mono ?_
  rw [H0.out]
  rintro e w1 ⟨rfl, B⟩
  have A := hid (A.out.later B)
  clear B H0
  have TB := HT.out _ A.out.tail.tail
  have t0 : w1.cell? ⟨1, 32, none⟩ = some (.int .i64 1) := TB.cell 32 (by omega)
  have t1 : w1.cell? ⟨1, 33, none⟩ = some (.int .i64 16) := TB.cell 33 (by omega)
  have t2 : w1.cell? ⟨1, 34, none⟩ = some (.int .i64 0) := TB.cell 34 (by omega)
  have t3 : w1.cell? ⟨1, 35, none⟩ = some (.int .i64 0) := TB.cell 35 (by omega)
  have t4 : w1.cell? ⟨1, 36, none⟩ = some (.int .i64 0) := TB.cell 36 (by omega)
  have t5 : w1.cell? ⟨1, 37, none⟩ = some (.int .i64 1099511627776) := TB.cell 37 (by omega)
  have t6 : w1.cell? ⟨1, 38, none⟩ = some (.int .i64 0) := TB.cell 38 (by omega)
  have t7 : w1.cell? ⟨1, 39, none⟩ = some (.int .i64 0) := TB.cell 39 (by omega)
  have tlt := TB.lt
  have hb := A.out.blk (g := w.heap.size) (vs := [.int .i64 4, .string nm, .string tx, .int .i64 n, .int .i64 m]) (t := 25) List.mem_cons_self
  have o0 : w1.cell? ⟨w.heap.size, 0, none⟩ = some (.int .i64 4) := by rw [cell_at hb]; rfl
  have o1 : w1.cell? ⟨w.heap.size, 1, none⟩ = some (.string nm) := by rw [cell_at hb]; rfl
  have o2 : w1.cell? ⟨w.heap.size, 2, none⟩ = some (.string tx) := by rw [cell_at hb]; rfl
  have o3 : w1.cell? ⟨w.heap.size, 3, none⟩ = some (.int .i64 n) := by rw [cell_at hb]; rfl
  have o4 : w1.cell? ⟨w.heap.size, 4, none⟩ = some (.int .i64 m) := by rw [cell_at hb]; rfl
  clear hb
  have olt : w.heap.size < w1.heap.size := (A.out.mem List.mem_cons_self).2.2 w.heap.size (by simp [blkC])
  have A := hid (A.out.addBlk [.int .i64 1, .int .i64 16, .int .i64 0, .int .i64 0, .int .i64 0, .int .i64 1099511627776, .int .i64 0, .int .i64 0] 138)
  clear TB
  generalize hF : w1.heap.size = f at A olt
  go_wp2_with fail
  have A := hid (A.out.perm (ds := wrC b v st :: blkC f [.int .i64 1, .int .i64 16, .int .i64 0, .int .i64 0, .int .i64 0, .int .i64 1099511627776, .int .i64 0, .int .i64 0] 138 :: blkC w.heap.size [.int .i64 4, .string nm, .string tx, .int .i64 n, .int .i64 m] 25 :: cs) (List.perm_middle (l₁ := [blkC f [.int .i64 1, .int .i64 16, .int .i64 0, .int .i64 0, .int .i64 0, .int .i64 1099511627776, .int .i64 0, .int .i64 0] 138, blkC w.heap.size [.int .i64 4, .string nm, .string tx, .int .i64 n, .int .i64 m] 25])))
  refine (natW A.out 4 (by omega) (by omega)).mono ?_
  rintro e w2 ⟨rfl, v2, A2⟩
  have A := hid A2
  clear A2 hF olt t0 t1 t2 t3 t4 t5 t6 t7 tlt o0 o1 o2 o3 o4
  have L := hid (lenS_nat st 4)
  have hb := A.out.blk (g := f) (vs := [.int .i64 1, .int .i64 16, .int .i64 0, .int .i64 0, .int .i64 0, .int .i64 1099511627776, .int .i64 0, .int .i64 0]) (t := 138) mem2
  have r0 : w2.cell? ⟨f, 0, none⟩ = some (.int .i64 1) := by rw [cell_at hb]; rfl
  have r1 : w2.cell? ⟨f, 1, none⟩ = some (.int .i64 16) := by rw [cell_at hb]; rfl
  clear hb
  go_wp2_with fail
  refine (has_any 1 16).mono ?_
  rintro e w3 ⟨rfl, Bh⟩
  rw [show hs 16 = true by decide +kernel]
  have A := hid (A.out.later Bh)
  clear Bh r0 r1
  have hb := A.out.blk (g := w.heap.size) (vs := [.int .i64 4, .string nm, .string tx, .int .i64 n, .int .i64 m]) (t := 25) mem3
  have o0 : w3.cell? ⟨w.heap.size, 0, none⟩ = some (.int .i64 4) := by rw [cell_at hb]; rfl
  have o1 : w3.cell? ⟨w.heap.size, 1, none⟩ = some (.string nm) := by rw [cell_at hb]; rfl
  have o2 : w3.cell? ⟨w.heap.size, 2, none⟩ = some (.string tx) := by rw [cell_at hb]; rfl
  have o3 : w3.cell? ⟨w.heap.size, 3, none⟩ = some (.int .i64 n) := by rw [cell_at hb]; rfl
  have o4 : w3.cell? ⟨w.heap.size, 4, none⟩ = some (.int .i64 m) := by rw [cell_at hb]; rfl
  clear hb
  go_wp2_with fail
  refine (textW A.out nm (by have := L.out; omega)).mono ?_
  rintro e w4 ⟨rfl, v4, A2⟩
  have A := hid A2
  clear A2 o0 o1 o2 o3 o4
  have L := hid (Nat.le_trans (lenS_txt (addS st (enc 9 4)) nm) (Nat.add_le_add_right L.out _))
  have hb := A.out.blk (g := f) (vs := [.int .i64 1, .int .i64 16, .int .i64 0, .int .i64 0, .int .i64 0, .int .i64 1099511627776, .int .i64 0, .int .i64 0]) (t := 138) mem2
  have r2 : w4.cell? ⟨f, 2, none⟩ = some (.int .i64 0) := by rw [cell_at hb]; rfl
  have r3 : w4.cell? ⟨f, 3, none⟩ = some (.int .i64 0) := by rw [cell_at hb]; rfl
  clear hb
  go_wp2_with fail
  refine (has_any 0 0).mono ?_
  rintro e w5 ⟨rfl, Bh⟩
  rw [show hs 0 = false by decide +kernel]
  have A := hid (A.out.later Bh)
  clear Bh r2 r3
  have hb := A.out.blk (g := f) (vs := [.int .i64 1, .int .i64 16, .int .i64 0, .int .i64 0, .int .i64 0, .int .i64 1099511627776, .int .i64 0, .int .i64 0]) (t := 138) mem2
  have r4 : w5.cell? ⟨f, 4, none⟩ = some (.int .i64 0) := by rw [cell_at hb]; rfl
  have r5 : w5.cell? ⟨f, 5, none⟩ = some (.int .i64 1099511627776) := by rw [cell_at hb]; rfl
  clear hb
  go_wp2_with fail
  refine (has_any 0 1099511627776).mono ?_
  rintro e w6 ⟨rfl, Bh⟩
  rw [show hs 1099511627776 = true by decide +kernel]
  have A := hid (A.out.later Bh)
  clear Bh r4 r5
  have hb := A.out.blk (g := w.heap.size) (vs := [.int .i64 4, .string nm, .string tx, .int .i64 n, .int .i64 m]) (t := 25) mem3
  have o0 : w6.cell? ⟨w.heap.size, 0, none⟩ = some (.int .i64 4) := by rw [cell_at hb]; rfl
  have o1 : w6.cell? ⟨w.heap.size, 1, none⟩ = some (.string nm) := by rw [cell_at hb]; rfl
  have o2 : w6.cell? ⟨w.heap.size, 2, none⟩ = some (.string tx) := by rw [cell_at hb]; rfl
  have o3 : w6.cell? ⟨w.heap.size, 3, none⟩ = some (.int .i64 n) := by rw [cell_at hb]; rfl
  have o4 : w6.cell? ⟨w.heap.size, 4, none⟩ = some (.int .i64 m) := by rw [cell_at hb]; rfl
  clear hb
  go_wp2_with fail
  refine (numW A.out n (by omega) (by have := L.out; omega)).mono ?_
  rintro e w7 ⟨rfl, v7, A2⟩
  have A := hid A2
  clear A2 o0 o1 o2 o3 o4
  have L := hid (Nat.le_trans (lenS_num (addS (addS st (enc 9 4)) (enc 9 nm.size ++ nm.data.toList)) n) (Nat.add_le_add_right L.out _))
  have hb := A.out.blk (g := f) (vs := [.int .i64 1, .int .i64 16, .int .i64 0, .int .i64 0, .int .i64 0, .int .i64 1099511627776, .int .i64 0, .int .i64 0]) (t := 138) mem2
  have r6 : w7.cell? ⟨f, 6, none⟩ = some (.int .i64 0) := by rw [cell_at hb]; rfl
  have r7 : w7.cell? ⟨f, 7, none⟩ = some (.int .i64 0) := by rw [cell_at hb]; rfl
  clear hb
  go_wp2_with fail
  refine (has_any 0 0).mono ?_
  rintro e w8 ⟨rfl, Bh⟩
  rw [show hs 0 = false by decide +kernel]
  have A := hid (A.out.later Bh)
  clear Bh r6 r7
  go_wp2
  go_end0
  exact ⟨rfl, _, (A.out.swap.tail).swap.tail⟩

set_option maxHeartbeats 3200000 in
set_option maxRecDepth 1000000 in
theorem put5 {b : Nat} {v : Value} {st : Option (List UInt8)} {cs : List Comp} {w : World} (h : All (wrC b v st :: cs) w) (ht : ∀ w', All cs w' → Tab w') (nm tx : ByteArray) (n m : Int) (hn : n < 9223372036854775808) (hm : m < 9223372036854775808) (hlen : lenS st + nm.size + tx.size + 100 ≤ 140737488355328) :
    Calls Tryz.prog 149 #[.pointer (some ⟨b, 0, none⟩), opV 5 nm tx n m] w fun e w' => e = .returned (.tuple #[]) ∧ ∃ v', All (wrC b v' (if chkA 5 nm.size tx.size n m = 0 then putV 5 st nm tx n m else none) :: cs) w' := by
  have A := hid (h.addBlk [.int .i64 5, .string nm, .string tx, .int .i64 n, .int .i64 m] 25)
  have HT := hid ht
  clear h ht
  by_cases h0 : chkA 5 nm.size tx.size n m = 0
  case neg =>
    rw [if_neg h0]
    have H0 := hid h0
    clear h0
    go_enter Tryz.func149, Tryz.ntmps149
    go_wp2_with fail
    refine (check_any (HT.out _ A.out.tail.tail) 5 nm tx n m).mono ?_
    rintro e w1 ⟨rfl, B⟩
    have A := hid (A.out.later B)
    clear B
    have h0 := H0.out
    generalize chkA 5 nm.size tx.size n m = ck at h0 ⊢
    have e0 : (ck != 0) = true := by simpa using h0
    clear h0
    go_wp2_with fail
    refine (numW A.out.swap (-1) (by omega) (by omega)).mono ?_
    rintro e w2 ⟨rfl, v2, A2⟩
    have A2 := hid A2
    clear A
    go_wp2
    refine bodyPost_ret (results_none rfl _ _ _) rfl ?_
    exact ⟨rfl, v2, A2.out.swap.tail⟩
  rw [if_pos h0]
  have H0 := hid h0
  clear h0
  go_enter Tryz.func149, Tryz.ntmps149
  go_wp2_with fail
  refine (check_any (HT.out _ A.out.tail.tail) 5 nm tx n m).mono ?_
  rw [H0.out]
  rintro e w1 ⟨rfl, B⟩
  have A := hid (A.out.later B)
  clear B H0
  have TB := HT.out _ A.out.tail.tail
  have t0 : w1.cell? ⟨1, 40, none⟩ = some (.int .i64 1) := TB.cell 40 (by omega)
  have t1 : w1.cell? ⟨1, 41, none⟩ = some (.int .i64 16) := TB.cell 41 (by omega)
  have t2 : w1.cell? ⟨1, 42, none⟩ = some (.int .i64 1) := TB.cell 42 (by omega)
  have t3 : w1.cell? ⟨1, 43, none⟩ = some (.int .i64 16) := TB.cell 43 (by omega)
  have t4 : w1.cell? ⟨1, 44, none⟩ = some (.int .i64 0) := TB.cell 44 (by omega)
  have t5 : w1.cell? ⟨1, 45, none⟩ = some (.int .i64 0) := TB.cell 45 (by omega)
  have t6 : w1.cell? ⟨1, 46, none⟩ = some (.int .i64 0) := TB.cell 46 (by omega)
  have t7 : w1.cell? ⟨1, 47, none⟩ = some (.int .i64 0) := TB.cell 47 (by omega)
  have tlt := TB.lt
  have hb := A.out.blk (g := w.heap.size) (vs := [.int .i64 5, .string nm, .string tx, .int .i64 n, .int .i64 m]) (t := 25) List.mem_cons_self
  have o0 : w1.cell? ⟨w.heap.size, 0, none⟩ = some (.int .i64 5) := by rw [cell_at hb]; rfl
  have o1 : w1.cell? ⟨w.heap.size, 1, none⟩ = some (.string nm) := by rw [cell_at hb]; rfl
  have o2 : w1.cell? ⟨w.heap.size, 2, none⟩ = some (.string tx) := by rw [cell_at hb]; rfl
  have o3 : w1.cell? ⟨w.heap.size, 3, none⟩ = some (.int .i64 n) := by rw [cell_at hb]; rfl
  have o4 : w1.cell? ⟨w.heap.size, 4, none⟩ = some (.int .i64 m) := by rw [cell_at hb]; rfl
  clear hb
  have olt : w.heap.size < w1.heap.size := (A.out.mem List.mem_cons_self).2.2 w.heap.size (by simp [blkC])
  have A := hid (A.out.addBlk [.int .i64 1, .int .i64 16, .int .i64 1, .int .i64 16, .int .i64 0, .int .i64 0, .int .i64 0, .int .i64 0] 138)
  clear TB
  generalize hF : w1.heap.size = f at A olt
  go_wp2_with fail
  have A := hid (A.out.perm (ds := wrC b v st :: blkC f [.int .i64 1, .int .i64 16, .int .i64 1, .int .i64 16, .int .i64 0, .int .i64 0, .int .i64 0, .int .i64 0] 138 :: blkC w.heap.size [.int .i64 5, .string nm, .string tx, .int .i64 n, .int .i64 m] 25 :: cs) (List.perm_middle (l₁ := [blkC f [.int .i64 1, .int .i64 16, .int .i64 1, .int .i64 16, .int .i64 0, .int .i64 0, .int .i64 0, .int .i64 0] 138, blkC w.heap.size [.int .i64 5, .string nm, .string tx, .int .i64 n, .int .i64 m] 25])))
  refine (natW A.out 5 (by omega) (by omega)).mono ?_
  rintro e w2 ⟨rfl, v2, A2⟩
  have A := hid A2
  clear A2 hF olt t0 t1 t2 t3 t4 t5 t6 t7 tlt o0 o1 o2 o3 o4
  have L := hid (lenS_nat st 5)
  have hb := A.out.blk (g := f) (vs := [.int .i64 1, .int .i64 16, .int .i64 1, .int .i64 16, .int .i64 0, .int .i64 0, .int .i64 0, .int .i64 0]) (t := 138) mem2
  have r0 : w2.cell? ⟨f, 0, none⟩ = some (.int .i64 1) := by rw [cell_at hb]; rfl
  have r1 : w2.cell? ⟨f, 1, none⟩ = some (.int .i64 16) := by rw [cell_at hb]; rfl
  clear hb
  go_wp2_with fail
  refine (has_any 1 16).mono ?_
  rintro e w3 ⟨rfl, Bh⟩
  rw [show hs 16 = true by decide +kernel]
  have A := hid (A.out.later Bh)
  clear Bh r0 r1
  have hb := A.out.blk (g := w.heap.size) (vs := [.int .i64 5, .string nm, .string tx, .int .i64 n, .int .i64 m]) (t := 25) mem3
  have o0 : w3.cell? ⟨w.heap.size, 0, none⟩ = some (.int .i64 5) := by rw [cell_at hb]; rfl
  have o1 : w3.cell? ⟨w.heap.size, 1, none⟩ = some (.string nm) := by rw [cell_at hb]; rfl
  have o2 : w3.cell? ⟨w.heap.size, 2, none⟩ = some (.string tx) := by rw [cell_at hb]; rfl
  have o3 : w3.cell? ⟨w.heap.size, 3, none⟩ = some (.int .i64 n) := by rw [cell_at hb]; rfl
  have o4 : w3.cell? ⟨w.heap.size, 4, none⟩ = some (.int .i64 m) := by rw [cell_at hb]; rfl
  clear hb
  go_wp2_with fail
  refine (textW A.out nm (by have := L.out; omega)).mono ?_
  rintro e w4 ⟨rfl, v4, A2⟩
  have A := hid A2
  clear A2 o0 o1 o2 o3 o4
  have L := hid (Nat.le_trans (lenS_txt (addS st (enc 9 5)) nm) (Nat.add_le_add_right L.out _))
  have hb := A.out.blk (g := f) (vs := [.int .i64 1, .int .i64 16, .int .i64 1, .int .i64 16, .int .i64 0, .int .i64 0, .int .i64 0, .int .i64 0]) (t := 138) mem2
  have r2 : w4.cell? ⟨f, 2, none⟩ = some (.int .i64 1) := by rw [cell_at hb]; rfl
  have r3 : w4.cell? ⟨f, 3, none⟩ = some (.int .i64 16) := by rw [cell_at hb]; rfl
  clear hb
  go_wp2_with fail
  refine (has_any 1 16).mono ?_
  rintro e w5 ⟨rfl, Bh⟩
  rw [show hs 16 = true by decide +kernel]
  have A := hid (A.out.later Bh)
  clear Bh r2 r3
  have hb := A.out.blk (g := w.heap.size) (vs := [.int .i64 5, .string nm, .string tx, .int .i64 n, .int .i64 m]) (t := 25) mem3
  have o0 : w5.cell? ⟨w.heap.size, 0, none⟩ = some (.int .i64 5) := by rw [cell_at hb]; rfl
  have o1 : w5.cell? ⟨w.heap.size, 1, none⟩ = some (.string nm) := by rw [cell_at hb]; rfl
  have o2 : w5.cell? ⟨w.heap.size, 2, none⟩ = some (.string tx) := by rw [cell_at hb]; rfl
  have o3 : w5.cell? ⟨w.heap.size, 3, none⟩ = some (.int .i64 n) := by rw [cell_at hb]; rfl
  have o4 : w5.cell? ⟨w.heap.size, 4, none⟩ = some (.int .i64 m) := by rw [cell_at hb]; rfl
  clear hb
  go_wp2_with fail
  refine (textW A.out tx (by have := L.out; omega)).mono ?_
  rintro e w6 ⟨rfl, v6, A2⟩
  have A := hid A2
  clear A2 o0 o1 o2 o3 o4
  have L := hid (Nat.le_trans (lenS_txt (addS (addS st (enc 9 5)) (enc 9 nm.size ++ nm.data.toList)) tx) (Nat.add_le_add_right L.out _))
  have hb := A.out.blk (g := f) (vs := [.int .i64 1, .int .i64 16, .int .i64 1, .int .i64 16, .int .i64 0, .int .i64 0, .int .i64 0, .int .i64 0]) (t := 138) mem2
  have r4 : w6.cell? ⟨f, 4, none⟩ = some (.int .i64 0) := by rw [cell_at hb]; rfl
  have r5 : w6.cell? ⟨f, 5, none⟩ = some (.int .i64 0) := by rw [cell_at hb]; rfl
  clear hb
  go_wp2_with fail
  refine (has_any 0 0).mono ?_
  rintro e w7 ⟨rfl, Bh⟩
  rw [show hs 0 = false by decide +kernel]
  have A := hid (A.out.later Bh)
  clear Bh r4 r5
  have hb := A.out.blk (g := f) (vs := [.int .i64 1, .int .i64 16, .int .i64 1, .int .i64 16, .int .i64 0, .int .i64 0, .int .i64 0, .int .i64 0]) (t := 138) mem2
  have r6 : w7.cell? ⟨f, 6, none⟩ = some (.int .i64 0) := by rw [cell_at hb]; rfl
  have r7 : w7.cell? ⟨f, 7, none⟩ = some (.int .i64 0) := by rw [cell_at hb]; rfl
  clear hb
  go_wp2_with fail
  refine (has_any 0 0).mono ?_
  rintro e w8 ⟨rfl, Bh⟩
  rw [show hs 0 = false by decide +kernel]
  have A := hid (A.out.later Bh)
  clear Bh r6 r7
  go_wp2
  go_end0
  exact ⟨rfl, _, (A.out.swap.tail).swap.tail⟩

set_option maxHeartbeats 3200000 in
set_option maxRecDepth 1000000 in
theorem put6 {b : Nat} {v : Value} {st : Option (List UInt8)} {cs : List Comp} {w : World} (h : All (wrC b v st :: cs) w) (ht : ∀ w', All cs w' → Tab w') (nm tx : ByteArray) (n m : Int) (hn : n < 9223372036854775808) (hm : m < 9223372036854775808) (hlen : lenS st + nm.size + tx.size + 100 ≤ 140737488355328) :
    Calls Tryz.prog 149 #[.pointer (some ⟨b, 0, none⟩), opV 6 nm tx n m] w fun e w' => e = .returned (.tuple #[]) ∧ ∃ v', All (wrC b v' (if chkA 6 nm.size tx.size n m = 0 then putV 6 st nm tx n m else none) :: cs) w' := by
  have A := hid (h.addBlk [.int .i64 6, .string nm, .string tx, .int .i64 n, .int .i64 m] 25)
  have HT := hid ht
  clear h ht
  by_cases h0 : chkA 6 nm.size tx.size n m = 0
  case neg =>
    rw [if_neg h0]
    have H0 := hid h0
    clear h0
    go_enter Tryz.func149, Tryz.ntmps149
    go_wp2_with fail
    refine (check_any (HT.out _ A.out.tail.tail) 6 nm tx n m).mono ?_
    rintro e w1 ⟨rfl, B⟩
    have A := hid (A.out.later B)
    clear B
    have h0 := H0.out
    generalize chkA 6 nm.size tx.size n m = ck at h0 ⊢
    have e0 : (ck != 0) = true := by simpa using h0
    clear h0
    go_wp2_with fail
    refine (numW A.out.swap (-1) (by omega) (by omega)).mono ?_
    rintro e w2 ⟨rfl, v2, A2⟩
    have A2 := hid A2
    clear A
    go_wp2
    refine bodyPost_ret (results_none rfl _ _ _) rfl ?_
    exact ⟨rfl, v2, A2.out.swap.tail⟩
  rw [if_pos h0]
  have H0 := hid h0
  clear h0
  go_enter Tryz.func149, Tryz.ntmps149
  go_wp2_with fail
  refine (check_any (HT.out _ A.out.tail.tail) 6 nm tx n m).mono ?_
  rw [H0.out]
  rintro e w1 ⟨rfl, B⟩
  have A := hid (A.out.later B)
  clear B H0
  have TB := HT.out _ A.out.tail.tail
  have t0 : w1.cell? ⟨1, 48, none⟩ = some (.int .i64 1) := TB.cell 48 (by omega)
  have t1 : w1.cell? ⟨1, 49, none⟩ = some (.int .i64 16) := TB.cell 49 (by omega)
  have t2 : w1.cell? ⟨1, 50, none⟩ = some (.int .i64 0) := TB.cell 50 (by omega)
  have t3 : w1.cell? ⟨1, 51, none⟩ = some (.int .i64 0) := TB.cell 51 (by omega)
  have t4 : w1.cell? ⟨1, 52, none⟩ = some (.int .i64 0) := TB.cell 52 (by omega)
  have t5 : w1.cell? ⟨1, 53, none⟩ = some (.int .i64 1099511627776) := TB.cell 53 (by omega)
  have t6 : w1.cell? ⟨1, 54, none⟩ = some (.int .i64 1) := TB.cell 54 (by omega)
  have t7 : w1.cell? ⟨1, 55, none⟩ = some (.int .i64 8) := TB.cell 55 (by omega)
  have tlt := TB.lt
  have hb := A.out.blk (g := w.heap.size) (vs := [.int .i64 6, .string nm, .string tx, .int .i64 n, .int .i64 m]) (t := 25) List.mem_cons_self
  have o0 : w1.cell? ⟨w.heap.size, 0, none⟩ = some (.int .i64 6) := by rw [cell_at hb]; rfl
  have o1 : w1.cell? ⟨w.heap.size, 1, none⟩ = some (.string nm) := by rw [cell_at hb]; rfl
  have o2 : w1.cell? ⟨w.heap.size, 2, none⟩ = some (.string tx) := by rw [cell_at hb]; rfl
  have o3 : w1.cell? ⟨w.heap.size, 3, none⟩ = some (.int .i64 n) := by rw [cell_at hb]; rfl
  have o4 : w1.cell? ⟨w.heap.size, 4, none⟩ = some (.int .i64 m) := by rw [cell_at hb]; rfl
  clear hb
  have olt : w.heap.size < w1.heap.size := (A.out.mem List.mem_cons_self).2.2 w.heap.size (by simp [blkC])
  have A := hid (A.out.addBlk [.int .i64 1, .int .i64 16, .int .i64 0, .int .i64 0, .int .i64 0, .int .i64 1099511627776, .int .i64 1, .int .i64 8] 138)
  clear TB
  generalize hF : w1.heap.size = f at A olt
  go_wp2_with fail
  have A := hid (A.out.perm (ds := wrC b v st :: blkC f [.int .i64 1, .int .i64 16, .int .i64 0, .int .i64 0, .int .i64 0, .int .i64 1099511627776, .int .i64 1, .int .i64 8] 138 :: blkC w.heap.size [.int .i64 6, .string nm, .string tx, .int .i64 n, .int .i64 m] 25 :: cs) (List.perm_middle (l₁ := [blkC f [.int .i64 1, .int .i64 16, .int .i64 0, .int .i64 0, .int .i64 0, .int .i64 1099511627776, .int .i64 1, .int .i64 8] 138, blkC w.heap.size [.int .i64 6, .string nm, .string tx, .int .i64 n, .int .i64 m] 25])))
  refine (natW A.out 6 (by omega) (by omega)).mono ?_
  rintro e w2 ⟨rfl, v2, A2⟩
  have A := hid A2
  clear A2 hF olt t0 t1 t2 t3 t4 t5 t6 t7 tlt o0 o1 o2 o3 o4
  have L := hid (lenS_nat st 6)
  have hb := A.out.blk (g := f) (vs := [.int .i64 1, .int .i64 16, .int .i64 0, .int .i64 0, .int .i64 0, .int .i64 1099511627776, .int .i64 1, .int .i64 8]) (t := 138) mem2
  have r0 : w2.cell? ⟨f, 0, none⟩ = some (.int .i64 1) := by rw [cell_at hb]; rfl
  have r1 : w2.cell? ⟨f, 1, none⟩ = some (.int .i64 16) := by rw [cell_at hb]; rfl
  clear hb
  go_wp2_with fail
  refine (has_any 1 16).mono ?_
  rintro e w3 ⟨rfl, Bh⟩
  rw [show hs 16 = true by decide +kernel]
  have A := hid (A.out.later Bh)
  clear Bh r0 r1
  have hb := A.out.blk (g := w.heap.size) (vs := [.int .i64 6, .string nm, .string tx, .int .i64 n, .int .i64 m]) (t := 25) mem3
  have o0 : w3.cell? ⟨w.heap.size, 0, none⟩ = some (.int .i64 6) := by rw [cell_at hb]; rfl
  have o1 : w3.cell? ⟨w.heap.size, 1, none⟩ = some (.string nm) := by rw [cell_at hb]; rfl
  have o2 : w3.cell? ⟨w.heap.size, 2, none⟩ = some (.string tx) := by rw [cell_at hb]; rfl
  have o3 : w3.cell? ⟨w.heap.size, 3, none⟩ = some (.int .i64 n) := by rw [cell_at hb]; rfl
  have o4 : w3.cell? ⟨w.heap.size, 4, none⟩ = some (.int .i64 m) := by rw [cell_at hb]; rfl
  clear hb
  go_wp2_with fail
  refine (textW A.out nm (by have := L.out; omega)).mono ?_
  rintro e w4 ⟨rfl, v4, A2⟩
  have A := hid A2
  clear A2 o0 o1 o2 o3 o4
  have L := hid (Nat.le_trans (lenS_txt (addS st (enc 9 6)) nm) (Nat.add_le_add_right L.out _))
  have hb := A.out.blk (g := f) (vs := [.int .i64 1, .int .i64 16, .int .i64 0, .int .i64 0, .int .i64 0, .int .i64 1099511627776, .int .i64 1, .int .i64 8]) (t := 138) mem2
  have r2 : w4.cell? ⟨f, 2, none⟩ = some (.int .i64 0) := by rw [cell_at hb]; rfl
  have r3 : w4.cell? ⟨f, 3, none⟩ = some (.int .i64 0) := by rw [cell_at hb]; rfl
  clear hb
  go_wp2_with fail
  refine (has_any 0 0).mono ?_
  rintro e w5 ⟨rfl, Bh⟩
  rw [show hs 0 = false by decide +kernel]
  have A := hid (A.out.later Bh)
  clear Bh r2 r3
  have hb := A.out.blk (g := f) (vs := [.int .i64 1, .int .i64 16, .int .i64 0, .int .i64 0, .int .i64 0, .int .i64 1099511627776, .int .i64 1, .int .i64 8]) (t := 138) mem2
  have r4 : w5.cell? ⟨f, 4, none⟩ = some (.int .i64 0) := by rw [cell_at hb]; rfl
  have r5 : w5.cell? ⟨f, 5, none⟩ = some (.int .i64 1099511627776) := by rw [cell_at hb]; rfl
  clear hb
  go_wp2_with fail
  refine (has_any 0 1099511627776).mono ?_
  rintro e w6 ⟨rfl, Bh⟩
  rw [show hs 1099511627776 = true by decide +kernel]
  have A := hid (A.out.later Bh)
  clear Bh r4 r5
  have hb := A.out.blk (g := w.heap.size) (vs := [.int .i64 6, .string nm, .string tx, .int .i64 n, .int .i64 m]) (t := 25) mem3
  have o0 : w6.cell? ⟨w.heap.size, 0, none⟩ = some (.int .i64 6) := by rw [cell_at hb]; rfl
  have o1 : w6.cell? ⟨w.heap.size, 1, none⟩ = some (.string nm) := by rw [cell_at hb]; rfl
  have o2 : w6.cell? ⟨w.heap.size, 2, none⟩ = some (.string tx) := by rw [cell_at hb]; rfl
  have o3 : w6.cell? ⟨w.heap.size, 3, none⟩ = some (.int .i64 n) := by rw [cell_at hb]; rfl
  have o4 : w6.cell? ⟨w.heap.size, 4, none⟩ = some (.int .i64 m) := by rw [cell_at hb]; rfl
  clear hb
  go_wp2_with fail
  refine (numW A.out n (by omega) (by have := L.out; omega)).mono ?_
  rintro e w7 ⟨rfl, v7, A2⟩
  have A := hid A2
  clear A2 o0 o1 o2 o3 o4
  have L := hid (Nat.le_trans (lenS_num (addS (addS st (enc 9 6)) (enc 9 nm.size ++ nm.data.toList)) n) (Nat.add_le_add_right L.out _))
  have hb := A.out.blk (g := f) (vs := [.int .i64 1, .int .i64 16, .int .i64 0, .int .i64 0, .int .i64 0, .int .i64 1099511627776, .int .i64 1, .int .i64 8]) (t := 138) mem2
  have r6 : w7.cell? ⟨f, 6, none⟩ = some (.int .i64 1) := by rw [cell_at hb]; rfl
  have r7 : w7.cell? ⟨f, 7, none⟩ = some (.int .i64 8) := by rw [cell_at hb]; rfl
  clear hb
  go_wp2_with fail
  refine (has_any 1 8).mono ?_
  rintro e w8 ⟨rfl, Bh⟩
  rw [show hs 8 = true by decide +kernel]
  have A := hid (A.out.later Bh)
  clear Bh r6 r7
  have hb := A.out.blk (g := w.heap.size) (vs := [.int .i64 6, .string nm, .string tx, .int .i64 n, .int .i64 m]) (t := 25) mem3
  have o0 : w8.cell? ⟨w.heap.size, 0, none⟩ = some (.int .i64 6) := by rw [cell_at hb]; rfl
  have o1 : w8.cell? ⟨w.heap.size, 1, none⟩ = some (.string nm) := by rw [cell_at hb]; rfl
  have o2 : w8.cell? ⟨w.heap.size, 2, none⟩ = some (.string tx) := by rw [cell_at hb]; rfl
  have o3 : w8.cell? ⟨w.heap.size, 3, none⟩ = some (.int .i64 n) := by rw [cell_at hb]; rfl
  have o4 : w8.cell? ⟨w.heap.size, 4, none⟩ = some (.int .i64 m) := by rw [cell_at hb]; rfl
  clear hb
  go_wp2_with fail
  refine (numW A.out m (by omega) (by have := L.out; omega)).mono ?_
  rintro e w9 ⟨rfl, v9, A2⟩
  have A := hid A2
  clear A2 o0 o1 o2 o3 o4
  have L := hid (Nat.le_trans (lenS_num (numS (addS (addS st (enc 9 6)) (enc 9 nm.size ++ nm.data.toList)) n) m) (Nat.add_le_add_right L.out _))
  go_wp2
  go_end0
  exact ⟨rfl, _, (A.out.swap.tail).swap.tail⟩

set_option maxHeartbeats 3200000 in
set_option maxRecDepth 1000000 in
theorem put7 {b : Nat} {v : Value} {st : Option (List UInt8)} {cs : List Comp} {w : World} (h : All (wrC b v st :: cs) w) (ht : ∀ w', All cs w' → Tab w') (nm tx : ByteArray) (n m : Int) (hn : n < 9223372036854775808) (hm : m < 9223372036854775808) (hlen : lenS st + nm.size + tx.size + 100 ≤ 140737488355328) :
    Calls Tryz.prog 149 #[.pointer (some ⟨b, 0, none⟩), opV 7 nm tx n m] w fun e w' => e = .returned (.tuple #[]) ∧ ∃ v', All (wrC b v' (if chkA 7 nm.size tx.size n m = 0 then putV 7 st nm tx n m else none) :: cs) w' := by
  have A := hid (h.addBlk [.int .i64 7, .string nm, .string tx, .int .i64 n, .int .i64 m] 25)
  have HT := hid ht
  clear h ht
  by_cases h0 : chkA 7 nm.size tx.size n m = 0
  case neg =>
    rw [if_neg h0]
    have H0 := hid h0
    clear h0
    go_enter Tryz.func149, Tryz.ntmps149
    go_wp2_with fail
    refine (check_any (HT.out _ A.out.tail.tail) 7 nm tx n m).mono ?_
    rintro e w1 ⟨rfl, B⟩
    have A := hid (A.out.later B)
    clear B
    have h0 := H0.out
    generalize chkA 7 nm.size tx.size n m = ck at h0 ⊢
    have e0 : (ck != 0) = true := by simpa using h0
    clear h0
    go_wp2_with fail
    refine (numW A.out.swap (-1) (by omega) (by omega)).mono ?_
    rintro e w2 ⟨rfl, v2, A2⟩
    have A2 := hid A2
    clear A
    go_wp2
    refine bodyPost_ret (results_none rfl _ _ _) rfl ?_
    exact ⟨rfl, v2, A2.out.swap.tail⟩
  rw [if_pos h0]
  have H0 := hid h0
  clear h0
  go_enter Tryz.func149, Tryz.ntmps149
  go_wp2_with fail
  refine (check_any (HT.out _ A.out.tail.tail) 7 nm tx n m).mono ?_
  rw [H0.out]
  rintro e w1 ⟨rfl, B⟩
  have A := hid (A.out.later B)
  clear B H0
  have TB := HT.out _ A.out.tail.tail
  have t0 : w1.cell? ⟨1, 56, none⟩ = some (.int .i64 1) := TB.cell 56 (by omega)
  have t1 : w1.cell? ⟨1, 57, none⟩ = some (.int .i64 16) := TB.cell 57 (by omega)
  have t2 : w1.cell? ⟨1, 58, none⟩ = some (.int .i64 0) := TB.cell 58 (by omega)
  have t3 : w1.cell? ⟨1, 59, none⟩ = some (.int .i64 0) := TB.cell 59 (by omega)
  have t4 : w1.cell? ⟨1, 60, none⟩ = some (.int .i64 0) := TB.cell 60 (by omega)
  have t5 : w1.cell? ⟨1, 61, none⟩ = some (.int .i64 0) := TB.cell 61 (by omega)
  have t6 : w1.cell? ⟨1, 62, none⟩ = some (.int .i64 0) := TB.cell 62 (by omega)
  have t7 : w1.cell? ⟨1, 63, none⟩ = some (.int .i64 0) := TB.cell 63 (by omega)
  have tlt := TB.lt
  have hb := A.out.blk (g := w.heap.size) (vs := [.int .i64 7, .string nm, .string tx, .int .i64 n, .int .i64 m]) (t := 25) List.mem_cons_self
  have o0 : w1.cell? ⟨w.heap.size, 0, none⟩ = some (.int .i64 7) := by rw [cell_at hb]; rfl
  have o1 : w1.cell? ⟨w.heap.size, 1, none⟩ = some (.string nm) := by rw [cell_at hb]; rfl
  have o2 : w1.cell? ⟨w.heap.size, 2, none⟩ = some (.string tx) := by rw [cell_at hb]; rfl
  have o3 : w1.cell? ⟨w.heap.size, 3, none⟩ = some (.int .i64 n) := by rw [cell_at hb]; rfl
  have o4 : w1.cell? ⟨w.heap.size, 4, none⟩ = some (.int .i64 m) := by rw [cell_at hb]; rfl
  clear hb
  have olt : w.heap.size < w1.heap.size := (A.out.mem List.mem_cons_self).2.2 w.heap.size (by simp [blkC])
  have A := hid (A.out.addBlk [.int .i64 1, .int .i64 16, .int .i64 0, .int .i64 0, .int .i64 0, .int .i64 0, .int .i64 0, .int .i64 0] 138)
  clear TB
  generalize hF : w1.heap.size = f at A olt
  go_wp2_with fail
  have A := hid (A.out.perm (ds := wrC b v st :: blkC f [.int .i64 1, .int .i64 16, .int .i64 0, .int .i64 0, .int .i64 0, .int .i64 0, .int .i64 0, .int .i64 0] 138 :: blkC w.heap.size [.int .i64 7, .string nm, .string tx, .int .i64 n, .int .i64 m] 25 :: cs) (List.perm_middle (l₁ := [blkC f [.int .i64 1, .int .i64 16, .int .i64 0, .int .i64 0, .int .i64 0, .int .i64 0, .int .i64 0, .int .i64 0] 138, blkC w.heap.size [.int .i64 7, .string nm, .string tx, .int .i64 n, .int .i64 m] 25])))
  refine (natW A.out 7 (by omega) (by omega)).mono ?_
  rintro e w2 ⟨rfl, v2, A2⟩
  have A := hid A2
  clear A2 hF olt t0 t1 t2 t3 t4 t5 t6 t7 tlt o0 o1 o2 o3 o4
  have L := hid (lenS_nat st 7)
  have hb := A.out.blk (g := f) (vs := [.int .i64 1, .int .i64 16, .int .i64 0, .int .i64 0, .int .i64 0, .int .i64 0, .int .i64 0, .int .i64 0]) (t := 138) mem2
  have r0 : w2.cell? ⟨f, 0, none⟩ = some (.int .i64 1) := by rw [cell_at hb]; rfl
  have r1 : w2.cell? ⟨f, 1, none⟩ = some (.int .i64 16) := by rw [cell_at hb]; rfl
  clear hb
  go_wp2_with fail
  refine (has_any 1 16).mono ?_
  rintro e w3 ⟨rfl, Bh⟩
  rw [show hs 16 = true by decide +kernel]
  have A := hid (A.out.later Bh)
  clear Bh r0 r1
  have hb := A.out.blk (g := w.heap.size) (vs := [.int .i64 7, .string nm, .string tx, .int .i64 n, .int .i64 m]) (t := 25) mem3
  have o0 : w3.cell? ⟨w.heap.size, 0, none⟩ = some (.int .i64 7) := by rw [cell_at hb]; rfl
  have o1 : w3.cell? ⟨w.heap.size, 1, none⟩ = some (.string nm) := by rw [cell_at hb]; rfl
  have o2 : w3.cell? ⟨w.heap.size, 2, none⟩ = some (.string tx) := by rw [cell_at hb]; rfl
  have o3 : w3.cell? ⟨w.heap.size, 3, none⟩ = some (.int .i64 n) := by rw [cell_at hb]; rfl
  have o4 : w3.cell? ⟨w.heap.size, 4, none⟩ = some (.int .i64 m) := by rw [cell_at hb]; rfl
  clear hb
  go_wp2_with fail
  refine (textW A.out nm (by have := L.out; omega)).mono ?_
  rintro e w4 ⟨rfl, v4, A2⟩
  have A := hid A2
  clear A2 o0 o1 o2 o3 o4
  have L := hid (Nat.le_trans (lenS_txt (addS st (enc 9 7)) nm) (Nat.add_le_add_right L.out _))
  have hb := A.out.blk (g := f) (vs := [.int .i64 1, .int .i64 16, .int .i64 0, .int .i64 0, .int .i64 0, .int .i64 0, .int .i64 0, .int .i64 0]) (t := 138) mem2
  have r2 : w4.cell? ⟨f, 2, none⟩ = some (.int .i64 0) := by rw [cell_at hb]; rfl
  have r3 : w4.cell? ⟨f, 3, none⟩ = some (.int .i64 0) := by rw [cell_at hb]; rfl
  clear hb
  go_wp2_with fail
  refine (has_any 0 0).mono ?_
  rintro e w5 ⟨rfl, Bh⟩
  rw [show hs 0 = false by decide +kernel]
  have A := hid (A.out.later Bh)
  clear Bh r2 r3
  have hb := A.out.blk (g := f) (vs := [.int .i64 1, .int .i64 16, .int .i64 0, .int .i64 0, .int .i64 0, .int .i64 0, .int .i64 0, .int .i64 0]) (t := 138) mem2
  have r4 : w5.cell? ⟨f, 4, none⟩ = some (.int .i64 0) := by rw [cell_at hb]; rfl
  have r5 : w5.cell? ⟨f, 5, none⟩ = some (.int .i64 0) := by rw [cell_at hb]; rfl
  clear hb
  go_wp2_with fail
  refine (has_any 0 0).mono ?_
  rintro e w6 ⟨rfl, Bh⟩
  rw [show hs 0 = false by decide +kernel]
  have A := hid (A.out.later Bh)
  clear Bh r4 r5
  have hb := A.out.blk (g := f) (vs := [.int .i64 1, .int .i64 16, .int .i64 0, .int .i64 0, .int .i64 0, .int .i64 0, .int .i64 0, .int .i64 0]) (t := 138) mem2
  have r6 : w6.cell? ⟨f, 6, none⟩ = some (.int .i64 0) := by rw [cell_at hb]; rfl
  have r7 : w6.cell? ⟨f, 7, none⟩ = some (.int .i64 0) := by rw [cell_at hb]; rfl
  clear hb
  go_wp2_with fail
  refine (has_any 0 0).mono ?_
  rintro e w7 ⟨rfl, Bh⟩
  rw [show hs 0 = false by decide +kernel]
  have A := hid (A.out.later Bh)
  clear Bh r6 r7
  go_wp2
  go_end0
  exact ⟨rfl, _, (A.out.swap.tail).swap.tail⟩

set_option maxHeartbeats 3200000 in
set_option maxRecDepth 1000000 in
theorem put8 {b : Nat} {v : Value} {st : Option (List UInt8)} {cs : List Comp} {w : World} (h : All (wrC b v st :: cs) w) (ht : ∀ w', All cs w' → Tab w') (nm tx : ByteArray) (n m : Int) (hn : n < 9223372036854775808) (hm : m < 9223372036854775808) (hlen : lenS st + nm.size + tx.size + 100 ≤ 140737488355328) :
    Calls Tryz.prog 149 #[.pointer (some ⟨b, 0, none⟩), opV 8 nm tx n m] w fun e w' => e = .returned (.tuple #[]) ∧ ∃ v', All (wrC b v' (if chkA 8 nm.size tx.size n m = 0 then putV 8 st nm tx n m else none) :: cs) w' := by
  have A := hid (h.addBlk [.int .i64 8, .string nm, .string tx, .int .i64 n, .int .i64 m] 25)
  have HT := hid ht
  clear h ht
  by_cases h0 : chkA 8 nm.size tx.size n m = 0
  case neg =>
    rw [if_neg h0]
    have H0 := hid h0
    clear h0
    go_enter Tryz.func149, Tryz.ntmps149
    go_wp2_with fail
    refine (check_any (HT.out _ A.out.tail.tail) 8 nm tx n m).mono ?_
    rintro e w1 ⟨rfl, B⟩
    have A := hid (A.out.later B)
    clear B
    have h0 := H0.out
    generalize chkA 8 nm.size tx.size n m = ck at h0 ⊢
    have e0 : (ck != 0) = true := by simpa using h0
    clear h0
    go_wp2_with fail
    refine (numW A.out.swap (-1) (by omega) (by omega)).mono ?_
    rintro e w2 ⟨rfl, v2, A2⟩
    have A2 := hid A2
    clear A
    go_wp2
    refine bodyPost_ret (results_none rfl _ _ _) rfl ?_
    exact ⟨rfl, v2, A2.out.swap.tail⟩
  rw [if_pos h0]
  have H0 := hid h0
  clear h0
  go_enter Tryz.func149, Tryz.ntmps149
  go_wp2_with fail
  refine (check_any (HT.out _ A.out.tail.tail) 8 nm tx n m).mono ?_
  rw [H0.out]
  rintro e w1 ⟨rfl, B⟩
  have A := hid (A.out.later B)
  clear B H0
  have TB := HT.out _ A.out.tail.tail
  have t0 : w1.cell? ⟨1, 64, none⟩ = some (.int .i64 0) := TB.cell 64 (by omega)
  have t1 : w1.cell? ⟨1, 65, none⟩ = some (.int .i64 0) := TB.cell 65 (by omega)
  have t2 : w1.cell? ⟨1, 66, none⟩ = some (.int .i64 0) := TB.cell 66 (by omega)
  have t3 : w1.cell? ⟨1, 67, none⟩ = some (.int .i64 0) := TB.cell 67 (by omega)
  have t4 : w1.cell? ⟨1, 68, none⟩ = some (.int .i64 0) := TB.cell 68 (by omega)
  have t5 : w1.cell? ⟨1, 69, none⟩ = some (.int .i64 0) := TB.cell 69 (by omega)
  have t6 : w1.cell? ⟨1, 70, none⟩ = some (.int .i64 0) := TB.cell 70 (by omega)
  have t7 : w1.cell? ⟨1, 71, none⟩ = some (.int .i64 0) := TB.cell 71 (by omega)
  have tlt := TB.lt
  have hb := A.out.blk (g := w.heap.size) (vs := [.int .i64 8, .string nm, .string tx, .int .i64 n, .int .i64 m]) (t := 25) List.mem_cons_self
  have o0 : w1.cell? ⟨w.heap.size, 0, none⟩ = some (.int .i64 8) := by rw [cell_at hb]; rfl
  have o1 : w1.cell? ⟨w.heap.size, 1, none⟩ = some (.string nm) := by rw [cell_at hb]; rfl
  have o2 : w1.cell? ⟨w.heap.size, 2, none⟩ = some (.string tx) := by rw [cell_at hb]; rfl
  have o3 : w1.cell? ⟨w.heap.size, 3, none⟩ = some (.int .i64 n) := by rw [cell_at hb]; rfl
  have o4 : w1.cell? ⟨w.heap.size, 4, none⟩ = some (.int .i64 m) := by rw [cell_at hb]; rfl
  clear hb
  have olt : w.heap.size < w1.heap.size := (A.out.mem List.mem_cons_self).2.2 w.heap.size (by simp [blkC])
  have A := hid (A.out.addBlk [.int .i64 0, .int .i64 0, .int .i64 0, .int .i64 0, .int .i64 0, .int .i64 0, .int .i64 0, .int .i64 0] 138)
  clear TB
  generalize hF : w1.heap.size = f at A olt
  go_wp2_with fail
  have A := hid (A.out.perm (ds := wrC b v st :: blkC f [.int .i64 0, .int .i64 0, .int .i64 0, .int .i64 0, .int .i64 0, .int .i64 0, .int .i64 0, .int .i64 0] 138 :: blkC w.heap.size [.int .i64 8, .string nm, .string tx, .int .i64 n, .int .i64 m] 25 :: cs) (List.perm_middle (l₁ := [blkC f [.int .i64 0, .int .i64 0, .int .i64 0, .int .i64 0, .int .i64 0, .int .i64 0, .int .i64 0, .int .i64 0] 138, blkC w.heap.size [.int .i64 8, .string nm, .string tx, .int .i64 n, .int .i64 m] 25])))
  refine (natW A.out 8 (by omega) (by omega)).mono ?_
  rintro e w2 ⟨rfl, v2, A2⟩
  have A := hid A2
  clear A2 hF olt t0 t1 t2 t3 t4 t5 t6 t7 tlt o0 o1 o2 o3 o4
  have L := hid (lenS_nat st 8)
  have hb := A.out.blk (g := f) (vs := [.int .i64 0, .int .i64 0, .int .i64 0, .int .i64 0, .int .i64 0, .int .i64 0, .int .i64 0, .int .i64 0]) (t := 138) mem2
  have r0 : w2.cell? ⟨f, 0, none⟩ = some (.int .i64 0) := by rw [cell_at hb]; rfl
  have r1 : w2.cell? ⟨f, 1, none⟩ = some (.int .i64 0) := by rw [cell_at hb]; rfl
  clear hb
  go_wp2_with fail
  refine (has_any 0 0).mono ?_
  rintro e w3 ⟨rfl, Bh⟩
  rw [show hs 0 = false by decide +kernel]
  have A := hid (A.out.later Bh)
  clear Bh r0 r1
  have hb := A.out.blk (g := f) (vs := [.int .i64 0, .int .i64 0, .int .i64 0, .int .i64 0, .int .i64 0, .int .i64 0, .int .i64 0, .int .i64 0]) (t := 138) mem2
  have r2 : w3.cell? ⟨f, 2, none⟩ = some (.int .i64 0) := by rw [cell_at hb]; rfl
  have r3 : w3.cell? ⟨f, 3, none⟩ = some (.int .i64 0) := by rw [cell_at hb]; rfl
  clear hb
  go_wp2_with fail
  refine (has_any 0 0).mono ?_
  rintro e w4 ⟨rfl, Bh⟩
  rw [show hs 0 = false by decide +kernel]
  have A := hid (A.out.later Bh)
  clear Bh r2 r3
  have hb := A.out.blk (g := f) (vs := [.int .i64 0, .int .i64 0, .int .i64 0, .int .i64 0, .int .i64 0, .int .i64 0, .int .i64 0, .int .i64 0]) (t := 138) mem2
  have r4 : w4.cell? ⟨f, 4, none⟩ = some (.int .i64 0) := by rw [cell_at hb]; rfl
  have r5 : w4.cell? ⟨f, 5, none⟩ = some (.int .i64 0) := by rw [cell_at hb]; rfl
  clear hb
  go_wp2_with fail
  refine (has_any 0 0).mono ?_
  rintro e w5 ⟨rfl, Bh⟩
  rw [show hs 0 = false by decide +kernel]
  have A := hid (A.out.later Bh)
  clear Bh r4 r5
  have hb := A.out.blk (g := f) (vs := [.int .i64 0, .int .i64 0, .int .i64 0, .int .i64 0, .int .i64 0, .int .i64 0, .int .i64 0, .int .i64 0]) (t := 138) mem2
  have r6 : w5.cell? ⟨f, 6, none⟩ = some (.int .i64 0) := by rw [cell_at hb]; rfl
  have r7 : w5.cell? ⟨f, 7, none⟩ = some (.int .i64 0) := by rw [cell_at hb]; rfl
  clear hb
  go_wp2_with fail
  refine (has_any 0 0).mono ?_
  rintro e w6 ⟨rfl, Bh⟩
  rw [show hs 0 = false by decide +kernel]
  have A := hid (A.out.later Bh)
  clear Bh r6 r7
  go_wp2
  go_end0
  exact ⟨rfl, _, (A.out.swap.tail).swap.tail⟩
end Go.Proofs.YthoppemjfdnibaaGreatDoor
