import Derived.Test.YthoppemjfdnibaaGreatDoorJ11
namespace Go.Proofs.YthoppemjfdnibaaGreatDoor
open Go.RowKit
set_option linter.unusedVariables false

theorem mem2 {c d : Comp} {cs : List Comp} : d ∈ c :: d :: cs := List.mem_cons_of_mem _ List.mem_cons_self

theorem mem3 {a b c : Comp} {cs : List Comp} : c ∈ a :: b :: c :: cs := List.mem_cons_of_mem _ mem2
theorem str_len (nm : ByteArray) : nm.data.toList.length = nm.size := Array.length_toList
/-- What Check tells of a kind that may be. -/
def chkT (k : Nat) (s t n m : Int) : Int := chkR (formN.getD (k * 8) 0) (formN.getD (k * 8 + 1) 0) (formN.getD (k * 8 + 2) 0) (formN.getD (k * 8 + 3) 0) (formN.getD (k * 8 + 4) 0) (formN.getD (k * 8 + 5) 0) (formN.getD (k * 8 + 6) 0) (formN.getD (k * 8 + 7) 0) s t n m

theorem check_tab {w : World} (h : Tab w) (k : Nat) (h1 : 1 ≤ k) (h8 : k ≤ 8) (nm tx : ByteArray) (n m : Int) : Calls Tryz.prog 104 #[opV k nm tx n m] w fun e w' => e = .returned (.int .i64 (chkT k nm.size tx.size n m)) ∧ Below w.heap.size w w' :=
  check_row k h1 h8 nm tx n m _ _ _ _ _ _ _ _ (h.cell _ (by omega)) (h.cell _ (by omega)) (h.cell _ (by omega)) (h.cell _ (by omega)) (h.cell _ (by omega)) (h.cell _ (by omega)) (h.cell _ (by omega)) (h.cell _ (by omega)) h.lt

/-- What Check tells, of any op. -/
def chkA (k : Int) (s t n m : Int) : Int := if k < 1 ∨ 8 < k then 50 else chkT k.toNat s t n m
theorem chkA_in {k : Int} (h1 : 1 ≤ k) (h8 : k ≤ 8) (s t n m : Int) : chkA k s t n m = chkT k.toNat s t n m := by unfold chkA; rw [if_neg (by omega)]
theorem chkA_out {k : Int} (h : k < 1 ∨ 8 < k) (s t n m : Int) : chkA k s t n m = 50 := by unfold chkA; rw [if_pos h]

set_option maxRecDepth 1000000 in
theorem check_out {w : World} {k : Int} (h : k < 1 ∨ 8 < k) (nm tx : ByteArray) (n m : Int) : Calls Tryz.prog 104 #[opV k nm tx n m] w fun e w' => e = .returned (.int .i64 50) ∧ Below w.heap.size w w' := by
  by_cases h1 : k < 1
  · have e1 : decide (k < 1) = true := by simpa using h1
    clear h
    go_enter Tryz.func104, Tryz.ntmps104
    go_wp2
    go_ret
    exact ⟨rfl, ba _ _⟩
  · have e1 : decide (k < 1) = false := by simpa using h1
    have e2 : decide (8 < k) = true := by simp; omega
    clear h
    go_enter Tryz.func104, Tryz.ntmps104
    go_wp2
    go_ret
    exact ⟨rfl, ba _ _⟩
theorem check_any {w : World} (hT : Tab w) (k : Int) (nm tx : ByteArray) (n m : Int) : Calls Tryz.prog 104 #[opV k nm tx n m] w fun e w' => e = .returned (.int .i64 (chkA k nm.size tx.size n m)) ∧ Below w.heap.size w w' := by
  by_cases h : k < 1 ∨ 8 < k
  · rw [chkA_out h]
    exact check_out h nm tx n m
  · rw [chkA_in (by omega) (by omega)]
    have := check_tab hT k.toNat (by omega) (by omega) nm tx n m
    rw [show ((k.toNat : Nat) : Int) = k by omega] at this
    exact this
end Go.Proofs.YthoppemjfdnibaaGreatDoor

namespace Go.Proofs.YthoppemjfdnibaaGreatDoor
open Go.RowKit
set_option linter.unusedVariables false

/-- A text as bytes. -/
def txtB (s : ByteArray) : List UInt8 := enc 9 s.size ++ s.data.toList
theorem lenS_nat (st : Option (List UInt8)) (k : Nat) : lenS (addS st (enc 9 k)) ≤ lenS st + 10 := by
  have h1 := lenS_addS st (enc 9 k)
  have h2 := enc_len 9 k
  omega
theorem txtB_len (s : ByteArray) : (txtB s).length ≤ s.size + 10 := by
  have h2 := enc_len 9 s.size
  rw [txtB, List.length_append, str_len]
  omega
theorem lenS_txt (st : Option (List UInt8)) (s : ByteArray) : lenS (addS st (enc 9 s.size ++ s.data.toList)) ≤ lenS st + (s.size + 10) := by
  have h1 := lenS_addS st (enc 9 s.size ++ s.data.toList)
  have h2 := txtB_len s
  have h3 : (txtB s).length = (enc 9 s.size ++ s.data.toList).length := rfl
  omega
theorem lenS_num (st : Option (List UInt8)) (n : Int) : lenS (numS st n) ≤ lenS st + 10 := by
  unfold numS
  split
  · simp [lenS]
  · exact lenS_nat _ _
/-- What is written of an op that may be. -/
def putV (k : Nat) (st : Option (List UInt8)) (nm tx : ByteArray) (n m : Int) : Option (List UInt8) :=
  if k = 8 then addS st (enc 9 k) else if k = 3 ∨ k = 5 then addS (addS (addS st (enc 9 k)) (txtB nm)) (txtB tx)
  else if k = 4 then numS (addS (addS st (enc 9 k)) (txtB nm)) n else if k = 6 then numS (numS (addS (addS st (enc 9 k)) (txtB nm)) n) m
  else addS (addS st (enc 9 k)) (txtB nm)

set_option maxRecDepth 1000000 in
theorem put_out {b : Nat} {v : Value} {st : Option (List UInt8)} {cs : List Comp} {w : World} (h : All (wrC b v st :: cs) w) (ht : ∀ w', All cs w' → Tab w') {k : Int} (hk : k < 1 ∨ 8 < k) (nm tx : ByteArray) (n m : Int) (hlen : lenS st + nm.size + tx.size + 100 ≤ 140737488355328) :
    Calls Tryz.prog 149 #[.pointer (some ⟨b, 0, none⟩), opV k nm tx n m] w fun e w' => e = .returned (.tuple #[]) ∧ ∃ v', All (wrC b v' none :: cs) w' := by
  have A := hid (h.addBlk [.int .i64 k, .string nm, .string tx, .int .i64 n, .int .i64 m] 25)
  have HK := hid hk
  clear h hk
  go_enter Tryz.func149, Tryz.ntmps149
  go_wp2_with fail
  refine (check_out HK.out nm tx n m).mono ?_
  rintro e w1 ⟨rfl, B⟩
  have A := hid (A.out.later B)
  clear B
  go_wp2_with fail
  refine (numW A.out.swap (-1) (by omega) (by omega)).mono ?_
  rintro e w2 ⟨rfl, v2, A2⟩
  have A2 := hid A2
  clear A
  go_wp2
  refine bodyPost_ret (results_none rfl _ _ _) rfl ?_
  exact ⟨rfl, v2, A2.out.swap.tail⟩

set_option maxHeartbeats 3200000 in
set_option maxRecDepth 1000000 in
theorem put1 {b : Nat} {v : Value} {st : Option (List UInt8)} {cs : List Comp} {w : World} (h : All (wrC b v st :: cs) w) (ht : ∀ w', All cs w' → Tab w') (nm tx : ByteArray) (n m : Int) (hn : n < 9223372036854775808) (hm : m < 9223372036854775808) (hlen : lenS st + nm.size + tx.size + 100 ≤ 140737488355328) :
    Calls Tryz.prog 149 #[.pointer (some ⟨b, 0, none⟩), opV 1 nm tx n m] w fun e w' => e = .returned (.tuple #[]) ∧ ∃ v', All (wrC b v' (if chkA 1 nm.size tx.size n m = 0 then putV 1 st nm tx n m else none) :: cs) w' := by
  have A := hid (h.addBlk [.int .i64 1, .string nm, .string tx, .int .i64 n, .int .i64 m] 25)
  have HT := hid ht
  clear h ht
  by_cases h0 : chkA 1 nm.size tx.size n m = 0
  case neg =>
    rw [if_neg h0]
    have H0 := hid h0
    clear h0
    go_enter Tryz.func149, Tryz.ntmps149
    go_wp2_with fail
    refine (check_any (HT.out _ A.out.tail.tail) 1 nm tx n m).mono ?_
    rintro e w1 ⟨rfl, B⟩
    have A := hid (A.out.later B)
    clear B
    have h0 := H0.out
    generalize chkA 1 nm.size tx.size n m = ck at h0 ⊢
    have e0 : (ck != 0) = true := by simpa using h0
    clear h0
    go_wp2_with fail
    refine (numW A.out.swap (-1) (by omega) (by omega)).mono ?_
    rintro e w2 ⟨rfl, v2, A2⟩
    have A2 := hid A2
    clear A
    go_wp2
    refine bodyPost_ret (results_none rfl _ _ _) rfl ?_
    exact ⟨rfl, v2, A2.out.swap.tail⟩
  rw [if_pos h0]
  have H0 := hid h0
  clear h0
  go_enter Tryz.func149, Tryz.ntmps149
  go_wp2_with fail
  refine (check_any (HT.out _ A.out.tail.tail) 1 nm tx n m).mono ?_
  rw [H0.out]
  rintro e w1 ⟨rfl, B⟩
  have A := hid (A.out.later B)
  clear B H0
  have TB := HT.out _ A.out.tail.tail
  have t0 : w1.cell? ⟨1, 8, none⟩ = some (.int .i64 1) := TB.cell 8 (by omega)
  have t1 : w1.cell? ⟨1, 9, none⟩ = some (.int .i64 16) := TB.cell 9 (by omega)
  have t2 : w1.cell? ⟨1, 10, none⟩ = some (.int .i64 0) := TB.cell 10 (by omega)
  have t3 : w1.cell? ⟨1, 11, none⟩ = some (.int .i64 0) := TB.cell 11 (by omega)
  have t4 : w1.cell? ⟨1, 12, none⟩ = some (.int .i64 0) := TB.cell 12 (by omega)
  have t5 : w1.cell? ⟨1, 13, none⟩ = some (.int .i64 0) := TB.cell 13 (by omega)
  have t6 : w1.cell? ⟨1, 14, none⟩ = some (.int .i64 0) := TB.cell 14 (by omega)
  have t7 : w1.cell? ⟨1, 15, none⟩ = some (.int .i64 0) := TB.cell 15 (by omega)
  have tlt := TB.lt
  have hb := A.out.blk (g := w.heap.size) (vs := [.int .i64 1, .string nm, .string tx, .int .i64 n, .int .i64 m]) (t := 25) List.mem_cons_self
  have o0 : w1.cell? ⟨w.heap.size, 0, none⟩ = some (.int .i64 1) := by rw [cell_at hb]; rfl
  have o1 : w1.cell? ⟨w.heap.size, 1, none⟩ = some (.string nm) := by rw [cell_at hb]; rfl
  have o2 : w1.cell? ⟨w.heap.size, 2, none⟩ = some (.string tx) := by rw [cell_at hb]; rfl
  have o3 : w1.cell? ⟨w.heap.size, 3, none⟩ = some (.int .i64 n) := by rw [cell_at hb]; rfl
  have o4 : w1.cell? ⟨w.heap.size, 4, none⟩ = some (.int .i64 m) := by rw [cell_at hb]; rfl
  clear hb
  have olt : w.heap.size < w1.heap.size := (A.out.mem List.mem_cons_self).2.2 w.heap.size (by simp [blkC])
  have A := hid (A.out.addBlk [.int .i64 1, .int .i64 16, .int .i64 0, .int .i64 0, .int .i64 0, .int .i64 0, .int .i64 0, .int .i64 0] 138)
  clear TB
  generalize hF : w1.heap.size = f at A olt
  go_wp2_with fail
  have A := hid (A.out.perm (ds := wrC b v st :: blkC f [.int .i64 1, .int .i64 16, .int .i64 0, .int .i64 0, .int .i64 0, .int .i64 0, .int .i64 0, .int .i64 0] 138 :: blkC w.heap.size [.int .i64 1, .string nm, .string tx, .int .i64 n, .int .i64 m] 25 :: cs) (List.perm_middle (l₁ := [blkC f [.int .i64 1, .int .i64 16, .int .i64 0, .int .i64 0, .int .i64 0, .int .i64 0, .int .i64 0, .int .i64 0] 138, blkC w.heap.size [.int .i64 1, .string nm, .string tx, .int .i64 n, .int .i64 m] 25])))
  refine (natW A.out 1 (by omega) (by omega)).mono ?_
  rintro e w2 ⟨rfl, v2, A2⟩
  have A := hid A2
  clear A2 hF olt t0 t1 t2 t3 t4 t5 t6 t7 tlt o0 o1 o2 o3 o4
  have L := hid (lenS_nat st 1)
  have hb := A.out.blk (g := f) (vs := [.int .i64 1, .int .i64 16, .int .i64 0, .int .i64 0, .int .i64 0, .int .i64 0, .int .i64 0, .int .i64 0]) (t := 138) mem2
  have r0 : w2.cell? ⟨f, 0, none⟩ = some (.int .i64 1) := by rw [cell_at hb]; rfl
  have r1 : w2.cell? ⟨f, 1, none⟩ = some (.int .i64 16) := by rw [cell_at hb]; rfl
  clear hb
  go_wp2_with fail
  refine (has_any 1 16).mono ?_
  rintro e w3 ⟨rfl, Bh⟩
  rw [show hs 16 = true by decide +kernel]
  have A := hid (A.out.later Bh)
  clear Bh r0 r1
  have hb := A.out.blk (g := w.heap.size) (vs := [.int .i64 1, .string nm, .string tx, .int .i64 n, .int .i64 m]) (t := 25) mem3
  have o0 : w3.cell? ⟨w.heap.size, 0, none⟩ = some (.int .i64 1) := by rw [cell_at hb]; rfl
  have o1 : w3.cell? ⟨w.heap.size, 1, none⟩ = some (.string nm) := by rw [cell_at hb]; rfl
  have o2 : w3.cell? ⟨w.heap.size, 2, none⟩ = some (.string tx) := by rw [cell_at hb]; rfl
  have o3 : w3.cell? ⟨w.heap.size, 3, none⟩ = some (.int .i64 n) := by rw [cell_at hb]; rfl
  have o4 : w3.cell? ⟨w.heap.size, 4, none⟩ = some (.int .i64 m) := by rw [cell_at hb]; rfl
  clear hb
  go_wp2_with fail
  refine (textW A.out nm (by have := L.out; omega)).mono ?_
  rintro e w4 ⟨rfl, v4, A2⟩
  have A := hid A2
  clear A2 o0 o1 o2 o3 o4
  have L := hid (Nat.le_trans (lenS_txt (addS st (enc 9 1)) nm) (Nat.add_le_add_right L.out _))
  have hb := A.out.blk (g := f) (vs := [.int .i64 1, .int .i64 16, .int .i64 0, .int .i64 0, .int .i64 0, .int .i64 0, .int .i64 0, .int .i64 0]) (t := 138) mem2
  have r2 : w4.cell? ⟨f, 2, none⟩ = some (.int .i64 0) := by rw [cell_at hb]; rfl
  have r3 : w4.cell? ⟨f, 3, none⟩ = some (.int .i64 0) := by rw [cell_at hb]; rfl
  clear hb
  go_wp2_with fail
  refine (has_any 0 0).mono ?_
  rintro e w5 ⟨rfl, Bh⟩
  rw [show hs 0 = false by decide +kernel]
  have A := hid (A.out.later Bh)
  clear Bh r2 r3
  have hb := A.out.blk (g := f) (vs := [.int .i64 1, .int .i64 16, .int .i64 0, .int .i64 0, .int .i64 0, .int .i64 0, .int .i64 0, .int .i64 0]) (t := 138) mem2
  have r4 : w5.cell? ⟨f, 4, none⟩ = some (.int .i64 0) := by rw [cell_at hb]; rfl
  have r5 : w5.cell? ⟨f, 5, none⟩ = some (.int .i64 0) := by rw [cell_at hb]; rfl
  clear hb
  go_wp2_with fail
  refine (has_any 0 0).mono ?_
  rintro e w6 ⟨rfl, Bh⟩
  rw [show hs 0 = false by decide +kernel]
  have A := hid (A.out.later Bh)
  clear Bh r4 r5
  have hb := A.out.blk (g := f) (vs := [.int .i64 1, .int .i64 16, .int .i64 0, .int .i64 0, .int .i64 0, .int .i64 0, .int .i64 0, .int .i64 0]) (t := 138) mem2
  have r6 : w6.cell? ⟨f, 6, none⟩ = some (.int .i64 0) := by rw [cell_at hb]; rfl
  have r7 : w6.cell? ⟨f, 7, none⟩ = some (.int .i64 0) := by rw [cell_at hb]; rfl
  clear hb
  go_wp2_with fail
  refine (has_any 0 0).mono ?_
  rintro e w7 ⟨rfl, Bh⟩
  rw [show hs 0 = false by decide +kernel]
  have A := hid (A.out.later Bh)
  clear Bh r6 r7
  go_wp2
  go_end0
  exact ⟨rfl, _, (A.out.swap.tail).swap.tail⟩

end Go.Proofs.YthoppemjfdnibaaGreatDoor
