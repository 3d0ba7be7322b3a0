import Derived.Test.YtkcepkehgkkkbaaGreatDoorRPut
namespace Go.Proofs.YtkcepkehgkkkbaaGreatDoor
open Go.RowKit
set_option linter.unusedVariables false

/-- What is written of a result. -/
def putX (st : Option (List UInt8)) (c n : Int) (l : List ByteArray) : Option (List UInt8) :=
  if chkX c n l = 0 then (if c = 0 then addS (numS (numS st c) n) (itemsB l) else numS st c) else none

theorem itemsB_len (l : List ByteArray) : (itemsB l).length ≤ bulkT l + 10 := by
  have h1 := enc_len 9 l.length
  have h2 := textsB_len l
  rw [itemsB, List.length_append]
  omega

set_option maxHeartbeats 1600000 in
set_option maxRecDepth 1000000 in
theorem putR_any {b : Nat} {v : Value} {st : Option (List UInt8)} {s : Value} {l : List ByteArray} {cs : List Comp} {w : World} (h : All (wrC b v st :: cs) w) (hT : ∀ w', All cs w' → Txts w' s l) (c n : Int) (hc : c < 9223372036854775808) (hn : n < 9223372036854775808) (hlen : lenS st + bulkT l + 100 ≤ 140737488355328) (hl : l.length ≤ 1099511627776) :
    Calls Tryz.prog 28 #[.pointer (some ⟨b, 0, none⟩), resV c n s] w fun e w' => e = .returned (.tuple #[]) ∧ ∃ v', All (wrC b v' (putX st c n l) :: cs) w' := by
  obtain ⟨ao, cp, rfl⟩ := (hT w h.tail).form
  have A := hid (h.addBlk [.int .i64 c, .int .i64 n, .slice ao l.length cp] 41)
  have HT := hid hT
  clear h hT
  by_cases h0 : chkX c n l = 0
  case neg =>
    rw [putX, if_neg h0]
    have H0 := hid h0
    clear h0
    go_enter Tryz.func28, Tryz.ntmps28
    go_wp2_with fail
    refine (checkX_any c n (HT.out _ A.out.tail.tail) (by omega)).mono ?_
    rintro e w1 ⟨rfl, B⟩
    have A := hid (A.out.later B)
    clear B
    have h0 := H0.out
    generalize chkX c n l = ck at h0 ⊢
    have e0 : (ck != 0) = true := by simpa using h0
    clear h0
    go_wp2_with fail
    refine (numW A.out.swap (-1) (by omega) (by omega)).mono ?_
    rintro e w2 ⟨rfl, v2, A2⟩
    have A2 := hid A2
    clear A
    go_wp2
    refine bodyPost_ret (results_none rfl _ _ _) rfl ?_
    exact ⟨rfl, v2, A2.out.swap.tail⟩
  rw [putX, if_pos h0]
  have H0 := hid h0
  clear h0
  by_cases hc0 : c = 0
  · subst hc0
    rw [if_pos rfl]
    go_enter Tryz.func28, Tryz.ntmps28
    go_wp2_with fail
    refine (checkX_any 0 n (HT.out _ A.out.tail.tail) (by omega)).mono ?_
    rw [H0.out]
    rintro e w1 ⟨rfl, B⟩
    have A := hid (A.out.later B).swap
    clear B H0
    have hb := A.out.blk (g := w.heap.size) (vs := [.int .i64 0, .int .i64 n, .slice ao l.length cp]) (t := 41) mem2
    have o0 : w1.cell? ⟨w.heap.size, 0, none⟩ = some (.int .i64 0) := by rw [cell_at hb]; rfl
    clear hb
    go_wp2_with fail
    refine (numW A.out 0 (by omega) (by omega)).mono ?_
    rintro e w2 ⟨rfl, v2, A2⟩
    have A := hid A2
    have L := hid (lenS_num st 0)
    clear A2 o0
    have hb := A.out.blk (g := w.heap.size) (vs := [.int .i64 0, .int .i64 n, .slice ao l.length cp]) (t := 41) mem2
    have o0 : w2.cell? ⟨w.heap.size, 0, none⟩ = some (.int .i64 0) := by rw [cell_at hb]; rfl
    have o1 : w2.cell? ⟨w.heap.size, 1, none⟩ = some (.int .i64 n) := by rw [cell_at hb]; rfl
    clear hb
    go_wp2_with fail
    refine (numW A.out n (by omega) (by have := L.out; omega)).mono ?_
    rintro e w3 ⟨rfl, v3, A2⟩
    have A := hid A2
    have L := hid (Nat.le_trans (lenS_num (numS st 0) n) (Nat.add_le_add_right L.out 10))
    clear A2 o0 o1
    have hb := A.out.blk (g := w.heap.size) (vs := [.int .i64 0, .int .i64 n, .slice ao l.length cp]) (t := 41) mem2
    have o2 : w3.cell? ⟨w.heap.size, 2, none⟩ = some (.slice ao l.length cp) := by rw [cell_at hb]; rfl
    clear hb
    go_wp2_with fail
    refine (putItems_any A.out (fun w' hw' => HT.out w' hw'.tail) (by have := L.out; omega) hl).mono ?_
    rintro e w4 ⟨rfl, v4, A2⟩
    have A := hid A2
    clear A2 o2
    go_wp2
    go_end0
    exact ⟨rfl, v4, A.out.swap.tail⟩
  · rw [if_neg hc0]
    have ec : (c == 0) = false := by rw [beq_eq_false_iff_ne]; exact hc0
    go_enter Tryz.func28, Tryz.ntmps28
    go_wp2_with fail
    refine (checkX_any c n (HT.out _ A.out.tail.tail) (by omega)).mono ?_
    rw [H0.out]
    rintro e w1 ⟨rfl, B⟩
    have A := hid (A.out.later B).swap
    clear B H0
    have hb := A.out.blk (g := w.heap.size) (vs := [.int .i64 c, .int .i64 n, .slice ao l.length cp]) (t := 41) mem2
    have o0 : w1.cell? ⟨w.heap.size, 0, none⟩ = some (.int .i64 c) := by rw [cell_at hb]; rfl
    clear hb
    go_wp2_with fail
    refine (numW A.out c (by omega) (by omega)).mono ?_
    rintro e w2 ⟨rfl, v2, A2⟩
    have A := hid A2
    clear A2 o0
    have hb := A.out.blk (g := w.heap.size) (vs := [.int .i64 c, .int .i64 n, .slice ao l.length cp]) (t := 41) mem2
    have o0 : w2.cell? ⟨w.heap.size, 0, none⟩ = some (.int .i64 c) := by rw [cell_at hb]; rfl
    clear hb
    go_wp2
    go_end0
    exact ⟨rfl, v2, A.out.swap.tail⟩

end Go.Proofs.YtkcepkehgkkkbaaGreatDoor
