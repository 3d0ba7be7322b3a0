import Derived.Test.YthoppemjfdnibaaGreatDoorWrX
namespace Go.Proofs.YthoppemjfdnibaaGreatDoor
open Go.RowKit
set_option linter.unusedVariables false

/-- What is written of a result. -/
def putX (st : Option (List UInt8)) (c n : Int) (l : List ByteArray) : Option (List UInt8) :=
  if chkX c n l = 0 then (if c = 0 then addS (numS (numS st c) n) (itemsB l) else numS st c) else none

theorem itemsB_len (l : List ByteArray) : (itemsB l).length ≤ bulkT l + 10 := by
  have h1 := enc_len 9 l.length
  have h2 := textsB_len l
  rw [itemsB, List.length_append]
  omega

set_option maxHeartbeats 1600000 in
set_option maxRecDepth 1000000 in
theorem putR_any {b : Nat} {v : Value} {st : Option (List UInt8)} {s : Value} {l : List ByteArray} {cs : List Comp} {w : World} (h : All (wrC b v st :: cs) w) (hT : ∀ w', All cs w' → Txts w' s l) (c n : Int) (hc : c < 9223372036854775808) (hn : n < 9223372036854775808) (hlen : lenS st + bulkT l + 100 ≤ 140737488355328) (hl : l.length ≤ 1099511627776) :
    Calls Tryz.prog 151 #[.pointer (some ⟨b, 0, none⟩), resV c n s] w fun e w' => e = .returned (.tuple #[]) ∧ ∃ v', All (wrC b v' (putX st c n l) :: cs) w' := by
  obtain ⟨ao, cp, rfl⟩ := (hT w h.tail).form
  have A := hid (h.addBlk [.int .i64 c, .int .i64 n, .slice ao l.length cp] 28)
  have HT := hid hT
  clear h hT
  by_cases h0 : chkX c n l = 0
  case neg =>
    rw [putX, if_neg h0]
    have H0 := hid h0
    clear h0
    go_enter Tryz.func151, Tryz.ntmps151
    go_wp2_with fail
    refine (checkX_any c n (HT.out _ A.out.tail.tail) (by omega)).mono ?_
    rintro e w1 ⟨rfl, B⟩
    have A := hid (A.out.later B)
    clear B
    have h0 := H0.out
    generalize chkX c n l = ck at h0 ⊢
    have e0 : (ck != 0) = true := by simpa using h0
    clear h0
    go_wp2_with fail
    refine (numW A.out.swap (-1) (by omega) (by omega)).mono ?_
    rintro e w2 ⟨rfl, v2, A2⟩
    have A2 := hid A2
    clear A
    go_wp2
    refine bodyPost_ret (results_none rfl _ _ _) rfl ?_
    exact ⟨rfl, v2, A2.out.swap.tail⟩
  rw [putX, if_pos h0]
  have H0 := hid h0
  clear h0
  by_cases hc0 : c = 0
  · subst hc0
    rw [if_pos rfl]
    go_enter Tryz.func151, Tryz.ntmps151
    go_wp2_with fail
    refine (checkX_any 0 n (HT.out _ A.out.tail.tail) (by omega)).mono ?_
    rw [H0.out]
    rintro e w1 ⟨rfl, B⟩
    have A := hid (A.out.later B).swap
    clear B H0
    have hb := A.out.blk (g := w.heap.size) (vs := [.int .i64 0, .int .i64 n, .slice ao l.length cp]) (t := 28) mem2
    have o0 : w1.cell? ⟨w.heap.size, 0, none⟩ = some (.int .i64 0) := by rw [cell_at hb]; rfl
    clear hb
    go_wp2_with fail
    refine (numW A.out 0 (by omega) (by omega)).mono ?_
    rintro e w2 ⟨rfl, v2, A2⟩
    have A := hid A2
    have L := hid (lenS_num st 0)
    clear A2 o0
    have hb := A.out.blk (g := w.heap.size) (vs := [.int .i64 0, .int .i64 n, .slice ao l.length cp]) (t := 28) mem2
    have o0 : w2.cell? ⟨w.heap.size, 0, none⟩ = some (.int .i64 0) := by rw [cell_at hb]; rfl
    have o1 : w2.cell? ⟨w.heap.size, 1, none⟩ = some (.int .i64 n) := by rw [cell_at hb]; rfl
    clear hb
    go_wp2_with fail
    refine (numW A.out n (by omega) (by have := L.out; omega)).mono ?_
    rintro e w3 ⟨rfl, v3, A2⟩
    have A := hid A2
    have L := hid (Nat.le_trans (lenS_num (numS st 0) n) (Nat.add_le_add_right L.out 10))
    clear A2 o0 o1
    have hb := A.out.blk (g := w.heap.size) (vs := [.int .i64 0, .int .i64 n, .slice ao l.length cp]) (t := 28) mem2
    have o2 : w3.cell? ⟨w.heap.size, 2, none⟩ = some (.slice ao l.length cp) := by rw [cell_at hb]; rfl
    clear hb
    go_wp2_with fail
    refine (putItems_any A.out (fun w' hw' => HT.out w' hw'.tail) (by have := L.out; omega) hl).mono ?_
    rintro e w4 ⟨rfl, v4, A2⟩
    have A := hid A2
    clear A2 o2
    go_wp2
    go_end0
    exact ⟨rfl, v4, A.out.swap.tail⟩
  · rw [if_neg hc0]
    have ec : (c == 0) = false := by rw [beq_eq_false_iff_ne]; exact hc0
    go_enter Tryz.func151, Tryz.ntmps151
    go_wp2_with fail
    refine (checkX_any c n (HT.out _ A.out.tail.tail) (by omega)).mono ?_
    rw [H0.out]
    rintro e w1 ⟨rfl, B⟩
    have A := hid (A.out.later B).swap
    clear B H0
    have hb := A.out.blk (g := w.heap.size) (vs := [.int .i64 c, .int .i64 n, .slice ao l.length cp]) (t := 28) mem2
    have o0 : w1.cell? ⟨w.heap.size, 0, none⟩ = some (.int .i64 c) := by rw [cell_at hb]; rfl
    clear hb
    go_wp2_with fail
    refine (numW A.out c (by omega) (by omega)).mono ?_
    rintro e w2 ⟨rfl, v2, A2⟩
    have A := hid A2
    clear A2 o0
    have hb := A.out.blk (g := w.heap.size) (vs := [.int .i64 c, .int .i64 n, .slice ao l.length cp]) (t := 28) mem2
    have o0 : w2.cell? ⟨w.heap.size, 0, none⟩ = some (.int .i64 c) := by rw [cell_at hb]; rfl
    clear hb
    go_wp2
    go_end0
    exact ⟨rfl, v2, A.out.swap.tail⟩

set_option maxHeartbeats 1600000 in
set_option maxRecDepth 1000000 in
theorem rputR_any {b : Nat} {v : Value} {st : Option (List UInt8)} {s : Value} {l : List ByteArray} {cs : List Comp} {w : World} (h : All (xwC b v st :: cs) w) (hT : ∀ w', All cs w' → Txts w' s l) (c n : Int) (hc : c < 9223372036854775808) (hn : n < 9223372036854775808) (hlen : lenS st + bulkT l + 100 ≤ 140737488355328) (hl : l.length ≤ 1099511627776) :
    Calls Tryz.prog 56 #[.pointer (some ⟨b, 0, none⟩), resV c n s] w fun e w' => e = .returned (.tuple #[]) ∧ ∃ v', All (xwC b v' (putX st c n l) :: cs) w' := by
  obtain ⟨ao, cp, rfl⟩ := (hT w h.tail).form
  have A := hid (h.addBlk [.int .i64 c, .int .i64 n, .slice ao l.length cp] 28)
  have HT := hid hT
  clear h hT
  by_cases h0 : chkX c n l = 0
  case neg =>
    rw [putX, if_neg h0]
    have H0 := hid h0
    clear h0
    go_enter Tryz.func56, Tryz.ntmps56
    go_wp2_with fail
    refine (checkX_ref c n (HT.out _ A.out.tail.tail) (by omega)).mono ?_
    rintro e w1 ⟨rfl, B⟩
    have A := hid (A.out.later B)
    clear B
    have h0 := H0.out
    generalize chkX c n l = ck at h0 ⊢
    have e0 : (ck != 0) = true := by simpa using h0
    clear h0
    go_wp2_with fail
    refine (xnumW A.out.swap (-1) (by omega) (by omega)).mono ?_
    rintro e w2 ⟨rfl, v2, A2⟩
    have A2 := hid A2
    clear A
    go_wp2
    refine bodyPost_ret (results_none rfl _ _ _) rfl ?_
    exact ⟨rfl, v2, A2.out.swap.tail⟩
  rw [putX, if_pos h0]
  have H0 := hid h0
  clear h0
  by_cases hc0 : c = 0
  · subst hc0
    rw [if_pos rfl]
    go_enter Tryz.func56, Tryz.ntmps56
    go_wp2_with fail
    refine (checkX_ref 0 n (HT.out _ A.out.tail.tail) (by omega)).mono ?_
    rw [H0.out]
    rintro e w1 ⟨rfl, B⟩
    have A := hid (A.out.later B).swap
    clear B H0
    have hb := A.out.blk (g := w.heap.size) (vs := [.int .i64 0, .int .i64 n, .slice ao l.length cp]) (t := 28) mem2
    have o0 : w1.cell? ⟨w.heap.size, 0, none⟩ = some (.int .i64 0) := by rw [cell_at hb]; rfl
    clear hb
    go_wp2_with fail
    refine (xnumW A.out 0 (by omega) (by omega)).mono ?_
    rintro e w2 ⟨rfl, v2, A2⟩
    have A := hid A2
    have L := hid (lenS_num st 0)
    clear A2 o0
    have hb := A.out.blk (g := w.heap.size) (vs := [.int .i64 0, .int .i64 n, .slice ao l.length cp]) (t := 28) mem2
    have o0 : w2.cell? ⟨w.heap.size, 0, none⟩ = some (.int .i64 0) := by rw [cell_at hb]; rfl
    have o1 : w2.cell? ⟨w.heap.size, 1, none⟩ = some (.int .i64 n) := by rw [cell_at hb]; rfl
    clear hb
    go_wp2_with fail
    refine (xnumW A.out n (by omega) (by have := L.out; omega)).mono ?_
    rintro e w3 ⟨rfl, v3, A2⟩
    have A := hid A2
    have L := hid (Nat.le_trans (lenS_num (numS st 0) n) (Nat.add_le_add_right L.out 10))
    clear A2 o0 o1
    have hb := A.out.blk (g := w.heap.size) (vs := [.int .i64 0, .int .i64 n, .slice ao l.length cp]) (t := 28) mem2
    have o2 : w3.cell? ⟨w.heap.size, 2, none⟩ = some (.slice ao l.length cp) := by rw [cell_at hb]; rfl
    clear hb
    go_wp2_with fail
    refine (xnatW A.out l.length (by omega) (by have := L.out; omega)).mono ?_
    rintro e w4 ⟨rfl, v4, A2⟩
    have A := hid A2
    clear A2 o2
    generalize hST : numS (numS st 0) n = st2 at A L
    have HST := hid hST
    clear hST
    go_wp2
    go_loopw [4] (fun iv wr => ∃ (k : Nat) (v' : Value), iv = .int .i64 (k : Int) ∧ k ≤ l.length ∧ Hid (All (xwC b v' (addS st2 (enc 9 l.length ++ textsB (l.take k))) :: blkC w.heap.size [.int .i64 0, .int .i64 n, .slice ao l.length cp] 28 :: cs) wr)) (fun iv _ => l.length - (intOf iv).toNat)
    case atStart => exact ⟨0, v4, rfl, Nat.zero_le _, by simpa [textsB] using A⟩
    case round =>
      obtain ⟨k, v', rfl, hk, AR⟩ := hrel
      clear A
      have hb := AR.out.blk (g := w.heap.size) (vs := [.int .i64 0, .int .i64 n, .slice ao l.length cp]) (t := 28) mem2
      have o2 : wr.cell? ⟨w.heap.size, 2, none⟩ = some (.slice ao l.length cp) := by rw [cell_at hb]; rfl
      clear hb
      by_cases hlt : k < l.length
      · obtain ⟨g, o, ea, hg, hcell⟩ := (HT.out wr AR.out.tail.tail).at hlt
        subst ea
        have el : decide ((k : Int) < (l.length : Int)) = true := by simpa using hlt
        have HB : Hid (lenS (addS st2 (enc 9 l.length ++ textsB (l.take k))) + l[k].size + 10 ≤ 140737488355328) := by
          have h1 := lenS_addS st2 (enc 9 l.length ++ textsB (l.take k))
          have h2 := bulkT_take hlt
          have h3 := enc_len 9 l.length
          have h4 := L.out
          rw [List.length_append] at h1
          show _ ≤ _
          omega
        go_wp2_with fail
        refine (xtextW AR.out _ HB.out).mono ?_
        rintro e w5 ⟨rfl, v5, A2⟩
        rw [addS_addS, List.append_assoc, ← textsB_take hlt] at A2
        have A2 := hid A2
        clear AR HB o2
        go_wp2
        go_roundw
        case rel => exact ⟨k + 1, v5, by go_num, by omega, A2⟩
        case measure => simp [intOf]; omega
      · have el : decide ((k : Int) < (l.length : Int)) = false := by simp; omega
        go_wp2
        go_end0
        refine ⟨rfl, v', ?_⟩
        have := AR.out.swap.tail
        rw [List.take_of_length_le (by omega), ← HST.out] at this
        exact this
  · rw [if_neg hc0]
    have ec : (c != 0) = true := by simpa using hc0
    go_enter Tryz.func56, Tryz.ntmps56
    go_wp2_with fail
    refine (checkX_ref c n (HT.out _ A.out.tail.tail) (by omega)).mono ?_
    rw [H0.out]
    rintro e w1 ⟨rfl, B⟩
    have A := hid (A.out.later B).swap
    clear B H0
    have hb := A.out.blk (g := w.heap.size) (vs := [.int .i64 c, .int .i64 n, .slice ao l.length cp]) (t := 28) mem2
    have o0 : w1.cell? ⟨w.heap.size, 0, none⟩ = some (.int .i64 c) := by rw [cell_at hb]; rfl
    clear hb
    go_wp2_with fail
    refine (xnumW A.out c (by omega) (by omega)).mono ?_
    rintro e w2 ⟨rfl, v2, A2⟩
    have A := hid A2
    clear A2 o0
    have hb := A.out.blk (g := w.heap.size) (vs := [.int .i64 c, .int .i64 n, .slice ao l.length cp]) (t := 28) mem2
    have o0 : w2.cell? ⟨w.heap.size, 0, none⟩ = some (.int .i64 c) := by rw [cell_at hb]; rfl
    clear hb
    go_wp2
    refine bodyPost_ret (results_none rfl _ _ _) rfl ?_
    exact ⟨rfl, v2, A.out.swap.tail⟩
end Go.Proofs.YthoppemjfdnibaaGreatDoor
