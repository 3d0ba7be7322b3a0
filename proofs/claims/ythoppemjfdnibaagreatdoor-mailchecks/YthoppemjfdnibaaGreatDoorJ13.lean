import Derived.Test.YthoppemjfdnibaaGreatDoorJ12
namespace Go.Proofs.YthoppemjfdnibaaGreatDoor
open Go.RowKit
set_option linter.unusedVariables false

theorem textsB_len (l : List ByteArray) : (textsB l).length ≤ bulkT l := by
  induction l with
  | nil => simp [textsB, bulkT]
  | cons t l ih =>
    have he := enc_len 9 t.size
    have hs := str_len t
    have e1 : (textsB (t :: l)).length = (enc 9 t.size).length + t.data.toList.length + (textsB l).length := by simp [textsB]; omega
    have e2 : bulkT (t :: l) = t.size + 10 + bulkT l := by simp [bulkT]
    rw [e1, e2]
    omega
/-- The document's writer, as a part. -/
def xwC (b : Nat) (v : Value) (st : Option (List UInt8)) : Comp := ⟨fun w => Xst w b v st, b :: v.ownBlock.toList⟩
theorem xst_kept {w w' : World} {b : Nat} {v : Value} {st : Option (List UInt8)} (h : Xst w b v st) (hb : w'.heap[b]? = w.heap[b]?) (hr : ∀ k, v.ownBlock = some k → w'.heap[k]? = w.heap[k]?) : Xst w' b v st := by
  have key : ∀ {bs : List UInt8} {bad : Bool}, XWr w b v bs bad → XWr w' b v bs bad := by
    intro bs bad h
    refine ⟨by rw [hb]; exact h.box, h.row.1, ?_⟩
    rcases h.row.2 with hn | ⟨g, cap, cur, rfl, hg, hgg, rest⟩
    · exact Or.inl hn
    · exact Or.inr ⟨g, cap, cur, rfl, hg, by rw [hr g rfl]; exact hgg, rest⟩
  cases st with
  | some bs => exact key h
  | none => obtain ⟨bs, h⟩ := h; exact ⟨bs, key h⟩
theorem xst_lt {w : World} {b : Nat} {v : Value} {st : Option (List UInt8)} (h : Xst w b v st) : b < w.heap.size := by
  cases st with
  | some bs => exact (Array.getElem?_eq_some_iff.1 (XWr.box h)).1
  | none => obtain ⟨bs, h⟩ := h; exact (Array.getElem?_eq_some_iff.1 h.box).1
theorem xst_own {w : World} {b : Nat} {v : Value} {st : Option (List UInt8)} (h : Xst w b v st) : ∀ k, v.ownBlock = some k → k < w.heap.size := by
  intro k hk
  cases st with
  | some bs => exact ((XWr.row h).lt k hk).2
  | none => obtain ⟨bs, h⟩ := h; exact (h.row.lt k hk).2
theorem xwC_good (b : Nat) (v : Value) (st : Option (List UInt8)) : (xwC b v st).Good := fun w w' h _ hk =>
  xst_kept h (hk b (by simp [xwC])) (fun k hk' => hk k (by simp [xwC, hk']))
theorem All.xstep {b : Nat} {v v' : Value} {st st' : Option (List UInt8)} {cs : List Comp} {w w' : World} (h : All (xwC b v st :: cs) w) (h1 : Xst w' b v' st') (h2 : WStep b w v w' v') : All (xwC b v' st' :: cs) w' := by
  refine h.turn ⟨h2.os, h2.tape, h2.output, h2.size, fun k hk hn => ?_⟩ (xwC_good _ _ _) h1 (fun k hk => ?_) (fun k hk => ?_)
  · simp [xwC] at hn
    exact h2.block k hk hn.1 (fun e => hn.2 e.symm)
  · simp [xwC] at hk
    rcases hk with rfl | hk
    · exact Or.inl (by simp [xwC])
    · rcases h2.own k hk with e | e
      · exact Or.inl (by simp [xwC, e])
      · exact Or.inr e
  · simp [xwC] at hk
    rcases hk with rfl | hk
    · exact xst_lt h1
    · exact xst_own h1 k hk
theorem xnewW {cs : List Comp} {w : World} (h : All cs w) : Calls Tryz.prog 44 #[] w fun e w' => ∃ b, e = .returned (.pointer (some ⟨b, 0, none⟩)) ∧ All (xwC b (.slice none 0 0) (some []) :: cs) w' :=
  (xnew_any w).mono fun e w' ⟨h1, h3, h2⟩ => ⟨_, h1, h.add (Fr.below h3) (xwC_good _ _ _) h2 (fun k hk => by
    have hk' : k = w.heap.size := by simpa [xwC, Value.ownBlock] using hk
    subst hk'
    exact ⟨Nat.le_refl _, xst_lt h2⟩)⟩
theorem xtextW {b : Nat} {v : Value} {st : Option (List UInt8)} {cs : List Comp} {w : World} (h : All (xwC b v st :: cs) w) (s : ByteArray) (hlen : lenS st + s.size + 10 ≤ 140737488355328) : Calls Tryz.prog 88 #[.pointer (some ⟨b, 0, none⟩), .string s] w fun e w' => e = .returned (.tuple #[]) ∧ ∃ v', All (xwC b v' (addS st (enc 9 s.size ++ s.data.toList)) :: cs) w' :=
  (xtext_any h.1.2.1 s hlen).mono fun e w' ⟨h1, v', h2, h3⟩ => ⟨h1, v', h.xstep h2 h3⟩
theorem xnumW {b : Nat} {v : Value} {st : Option (List UInt8)} {cs : List Comp} {w : World} (h : All (xwC b v st :: cs) w) (n : Int) (hn : n < 9223372036854775808) (hlen : lenS st + 10 ≤ 140737488355328) : Calls Tryz.prog 45 #[.pointer (some ⟨b, 0, none⟩), .int .i64 n] w fun e w' => e = .returned (.tuple #[]) ∧ ∃ v', All (xwC b v' (numS st n) :: cs) w' :=
  (xnum_any h.1.2.1 n hn hlen).mono fun e w' ⟨h1, v', h2, h3⟩ => ⟨h1, v', h.xstep h2 h3⟩
theorem xnatW {b : Nat} {v : Value} {st : Option (List UInt8)} {cs : List Comp} {w : World} (h : All (xwC b v st :: cs) w) (n : Nat) (hn : n < 9223372036854775808) (hlen : lenS st + 10 ≤ 140737488355328) : Calls Tryz.prog 45 #[.pointer (some ⟨b, 0, none⟩), .int .i64 (n : Int)] w fun e w' => e = .returned (.tuple #[]) ∧ ∃ v', All (xwC b v' (addS st (enc 9 n)) :: cs) w' := by
  have := xnumW h (n : Int) (by omega) hlen
  rw [numS_nat] at this
  exact this

theorem xdoneW {b : Nat} {v : Value} {bs : List UInt8} {cs : List Comp} {w : World} (h : All (xwC b v (some bs) :: cs) w) (hlen : bs.length ≤ 140737488355328) : Calls Tryz.prog 61 #[.pointer (some ⟨b, 0, none⟩)] w fun e w' => ∃ so sc, e = .returned (.tuple #[.slice so bs.length sc, .int .i64 0]) ∧ All (ownC 5 (.slice so bs.length sc) (cellsB bs) :: xwC b v (some bs) :: cs) w' :=
  (xdone_whole h.1.2.1 hlen).mono fun e w' ⟨s', h1, h2, h3⟩ => by
    obtain ⟨so, sc, rfl⟩ := owns_form h2
    exact ⟨so, sc, h1, h.addOwn h3 (by rw [cellsB_length]; exact h2)⟩

end Go.Proofs.YthoppemjfdnibaaGreatDoor

namespace Go.Proofs.YthoppemjfdnibaaGreatDoor
open Go.RowKit
set_option linter.unusedVariables false

/-- What is written of a result. -/
def putX (st : Option (List UInt8)) (c n : Int) (l : List ByteArray) : Option (List UInt8) :=
  if chkX c n l = 0 then (if c = 0 then addS (numS (numS st c) n) (itemsB l) else numS st c) else none

theorem itemsB_len (l : List ByteArray) : (itemsB l).length ≤ bulkT l + 10 := by
  have h1 := enc_len 9 l.length
  have h2 := textsB_len l
  rw [itemsB, List.length_append]
  omega

set_option maxHeartbeats 1600000 in
set_option maxRecDepth 1000000 in
theorem putR_any {b : Nat} {v : Value} {st : Option (List UInt8)} {s : Value} {l : List ByteArray} {cs : List Comp} {w : World} (h : All (wrC b v st :: cs) w) (hT : ∀ w', All cs w' → Txts w' s l) (c n : Int) (hc : c < 9223372036854775808) (hn : n < 9223372036854775808) (hlen : lenS st + bulkT l + 100 ≤ 140737488355328) (hl : l.length ≤ 1099511627776) :
    Calls Tryz.prog 151 #[.pointer (some ⟨b, 0, none⟩), resV c n s] w fun e w' => e = .returned (.tuple #[]) ∧ ∃ v', All (wrC b v' (putX st c n l) :: cs) w' := by
  obtain ⟨ao, cp, rfl⟩ := (hT w h.tail).form
  have A := hid (h.addBlk [.int .i64 c, .int .i64 n, .slice ao l.length cp] 28)
  have HT := hid hT
  clear h hT
  by_cases h0 : chkX c n l = 0
  case neg =>
    rw [putX, if_neg h0]
    have H0 := hid h0
    clear h0
    go_enter Tryz.func151, Tryz.ntmps151
    go_wp2_with fail
    refine (checkX_any c n (HT.out _ A.out.tail.tail) (by omega)).mono ?_
    rintro e w1 ⟨rfl, B⟩
    have A := hid (A.out.later B)
    clear B
    have h0 := H0.out
    generalize chkX c n l = ck at h0 ⊢
    have e0 : (ck != 0) = true := by simpa using h0
    clear h0
    go_wp2_with fail
    refine (numW A.out.swap (-1) (by omega) (by omega)).mono ?_
    rintro e w2 ⟨rfl, v2, A2⟩
    have A2 := hid A2
    clear A
    go_wp2
    refine bodyPost_ret (results_none rfl _ _ _) rfl ?_
    exact ⟨rfl, v2, A2.out.swap.tail⟩
  rw [putX, if_pos h0]
  have H0 := hid h0
  clear h0
  by_cases hc0 : c = 0
  · subst hc0
    rw [if_pos rfl]
    go_enter Tryz.func151, Tryz.ntmps151
    go_wp2_with fail
    refine (checkX_any 0 n (HT.out _ A.out.tail.tail) (by omega)).mono ?_
    rw [H0.out]
    rintro e w1 ⟨rfl, B⟩
    have A := hid (A.out.later B).swap
    clear B H0
    have hb := A.out.blk (g := w.heap.size) (vs := [.int .i64 0, .int .i64 n, .slice ao l.length cp]) (t := 28) mem2
    have o0 : w1.cell? ⟨w.heap.size, 0, none⟩ = some (.int .i64 0) := by rw [cell_at hb]; rfl
    clear hb
    go_wp2_with fail
    refine (numW A.out 0 (by omega) (by omega)).mono ?_
    rintro e w2 ⟨rfl, v2, A2⟩
    have A := hid A2
    have L := hid (lenS_num st 0)
    clear A2 o0
    have hb := A.out.blk (g := w.heap.size) (vs := [.int .i64 0, .int .i64 n, .slice ao l.length cp]) (t := 28) mem2
    have o0 : w2.cell? ⟨w.heap.size, 0, none⟩ = some (.int .i64 0) := by rw [cell_at hb]; rfl
    have o1 : w2.cell? ⟨w.heap.size, 1, none⟩ = some (.int .i64 n) := by rw [cell_at hb]; rfl
    clear hb
    go_wp2_with fail
    refine (numW A.out n (by omega) (by have := L.out; omega)).mono ?_
    rintro e w3 ⟨rfl, v3, A2⟩
    have A := hid A2
    have L := hid (Nat.le_trans (lenS_num (numS st 0) n) (Nat.add_le_add_right L.out 10))
    clear A2 o0 o1
    have hb := A.out.blk (g := w.heap.size) (vs := [.int .i64 0, .int .i64 n, .slice ao l.length cp]) (t := 28) mem2
    have o2 : w3.cell? ⟨w.heap.size, 2, none⟩ = some (.slice ao l.length cp) := by rw [cell_at hb]; rfl
    clear hb
    go_wp2_with fail
    refine (putItems_any A.out (fun w' hw' => HT.out w' hw'.tail) (by have := L.out; omega) hl).mono ?_
    rintro e w4 ⟨rfl, v4, A2⟩
    have A := hid A2
    clear A2 o2
    go_wp2
    go_end0
    exact ⟨rfl, v4, A.out.swap.tail⟩
  · rw [if_neg hc0]
    have ec : (c == 0) = false := by rw [beq_eq_false_iff_ne]; exact hc0
    go_enter Tryz.func151, Tryz.ntmps151
    go_wp2_with fail
    refine (checkX_any c n (HT.out _ A.out.tail.tail) (by omega)).mono ?_
    rw [H0.out]
    rintro e w1 ⟨rfl, B⟩
    have A := hid (A.out.later B).swap
    clear B H0
    have hb := A.out.blk (g := w.heap.size) (vs := [.int .i64 c, .int .i64 n, .slice ao l.length cp]) (t := 28) mem2
    have o0 : w1.cell? ⟨w.heap.size, 0, none⟩ = some (.int .i64 c) := by rw [cell_at hb]; rfl
    clear hb
    go_wp2_with fail
    refine (numW A.out c (by omega) (by omega)).mono ?_
    rintro e w2 ⟨rfl, v2, A2⟩
    have A := hid A2
    clear A2 o0
    have hb := A.out.blk (g := w.heap.size) (vs := [.int .i64 c, .int .i64 n, .slice ao l.length cp]) (t := 28) mem2
    have o0 : w2.cell? ⟨w.heap.size, 0, none⟩ = some (.int .i64 c) := by rw [cell_at hb]; rfl
    clear hb
    go_wp2
    go_end0
    exact ⟨rfl, v2, A.out.swap.tail⟩

set_option maxHeartbeats 1600000 in
set_option maxRecDepth 1000000 in
theorem rputR_any {b : Nat} {v : Value} {st : Option (List UInt8)} {s : Value} {l : List ByteArray} {cs : List Comp} {w : World} (h : All (xwC b v st :: cs) w) (hT : ∀ w', All cs w' → Txts w' s l) (c n : Int) (hc : c < 9223372036854775808) (hn : n < 9223372036854775808) (hlen : lenS st + bulkT l + 100 ≤ 140737488355328) (hl : l.length ≤ 1099511627776) :
    Calls Tryz.prog 56 #[.pointer (some ⟨b, 0, none⟩), resV c n s] w fun e w' => e = .returned (.tuple #[]) ∧ ∃ v', All (xwC b v' (putX st c n l) :: cs) w' := by
  obtain ⟨ao, cp, rfl⟩ := (hT w h.tail).form
  have A := hid (h.addBlk [.int .i64 c, .int .i64 n, .slice ao l.length cp] 28)
  have HT := hid hT
  clear h hT
  by_cases h0 : chkX c n l = 0
  case neg =>
    rw [putX, if_neg h0]
    have H0 := hid h0
    clear h0
    go_enter Tryz.func56, Tryz.ntmps56
    go_wp2_with fail
    refine (checkX_ref c n (HT.out _ A.out.tail.tail) (by omega)).mono ?_
    rintro e w1 ⟨rfl, B⟩
    have A := hid (A.out.later B)
    clear B
    have h0 := H0.out
    generalize chkX c n l = ck at h0 ⊢
    have e0 : (ck != 0) = true := by simpa using h0
    clear h0
    go_wp2_with fail
    refine (xnumW A.out.swap (-1) (by omega) (by omega)).mono ?_
    rintro e w2 ⟨rfl, v2, A2⟩
    have A2 := hid A2
    clear A
    go_wp2
    refine bodyPost_ret (results_none rfl _ _ _) rfl ?_
    exact ⟨rfl, v2, A2.out.swap.tail⟩
  rw [putX, if_pos h0]
  have H0 := hid h0
  clear h0
  by_cases hc0 : c = 0
  · subst hc0
    rw [if_pos rfl]
    go_enter Tryz.func56, Tryz.ntmps56
    go_wp2_with fail
    refine (checkX_ref 0 n (HT.out _ A.out.tail.tail) (by omega)).mono ?_
    rw [H0.out]
    rintro e w1 ⟨rfl, B⟩
    have A := hid (A.out.later B).swap
    clear B H0
    have hb := A.out.blk (g := w.heap.size) (vs := [.int .i64 0, .int .i64 n, .slice ao l.length cp]) (t := 28) mem2
    have o0 : w1.cell? ⟨w.heap.size, 0, none⟩ = some (.int .i64 0) := by rw [cell_at hb]; rfl
    clear hb
    go_wp2_with fail
    refine (xnumW A.out 0 (by omega) (by omega)).mono ?_
    rintro e w2 ⟨rfl, v2, A2⟩
    have A := hid A2
    have L := hid (lenS_num st 0)
    clear A2 o0
    have hb := A.out.blk (g := w.heap.size) (vs := [.int .i64 0, .int .i64 n, .slice ao l.length cp]) (t := 28) mem2
    have o0 : w2.cell? ⟨w.heap.size, 0, none⟩ = some (.int .i64 0) := by rw [cell_at hb]; rfl
    have o1 : w2.cell? ⟨w.heap.size, 1, none⟩ = some (.int .i64 n) := by rw [cell_at hb]; rfl
    clear hb
    go_wp2_with fail
    refine (xnumW A.out n (by omega) (by have := L.out; omega)).mono ?_
    rintro e w3 ⟨rfl, v3, A2⟩
    have A := hid A2
    have L := hid (Nat.le_trans (lenS_num (numS st 0) n) (Nat.add_le_add_right L.out 10))
    clear A2 o0 o1
    have hb := A.out.blk (g := w.heap.size) (vs := [.int .i64 0, .int .i64 n, .slice ao l.length cp]) (t := 28) mem2
    have o2 : w3.cell? ⟨w.heap.size, 2, none⟩ = some (.slice ao l.length cp) := by rw [cell_at hb]; rfl
    clear hb
    go_wp2_with fail
    refine (xnatW A.out l.length (by omega) (by have := L.out; omega)).mono ?_
    rintro e w4 ⟨rfl, v4, A2⟩
    have A := hid A2
    clear A2 o2
    generalize hST : numS (numS st 0) n = st2 at A L
    have HST := hid hST
    clear hST
    go_wp2
    go_loopw [4] (fun iv wr => ∃ (k : Nat) (v' : Value), iv = .int .i64 (k : Int) ∧ k ≤ l.length ∧ Hid (All (xwC b v' (addS st2 (enc 9 l.length ++ textsB (l.take k))) :: blkC w.heap.size [.int .i64 0, .int .i64 n, .slice ao l.length cp] 28 :: cs) wr)) (fun iv _ => l.length - (intOf iv).toNat)
    case atStart => exact ⟨0, v4, rfl, Nat.zero_le _, by simpa [textsB] using A⟩
    case round =>
      obtain ⟨k, v', rfl, hk, AR⟩ := hrel
      clear A
      have hb := AR.out.blk (g := w.heap.size) (vs := [.int .i64 0, .int .i64 n, .slice ao l.length cp]) (t := 28) mem2
      have o2 : wr.cell? ⟨w.heap.size, 2, none⟩ = some (.slice ao l.length cp) := by rw [cell_at hb]; rfl
      clear hb
      by_cases hlt : k < l.length
      · obtain ⟨g, o, ea, hg, hcell⟩ := (HT.out wr AR.out.tail.tail).at hlt
        subst ea
        have el : decide ((k : Int) < (l.length : Int)) = true := by simpa using hlt
        have HB : Hid (lenS (addS st2 (enc 9 l.length ++ textsB (l.take k))) + l[k].size + 10 ≤ 140737488355328) := by
          have h1 := lenS_addS st2 (enc 9 l.length ++ textsB (l.take k))
          have h2 := bulkT_take hlt
          have h3 := enc_len 9 l.length
          have h4 := L.out
          rw [List.length_append] at h1
          show _ ≤ _
          omega
        go_wp2_with fail
        refine (xtextW AR.out _ HB.out).mono ?_
        rintro e w5 ⟨rfl, v5, A2⟩
        rw [addS_addS, List.append_assoc, ← textsB_take hlt] at A2
        have A2 := hid A2
        clear AR HB o2
        go_wp2
        go_roundw
        case rel => exact ⟨k + 1, v5, by go_num, by omega, A2⟩
        case measure => simp [intOf]; omega
      · have el : decide ((k : Int) < (l.length : Int)) = false := by simp; omega
        go_wp2
        go_end0
        refine ⟨rfl, v', ?_⟩
        have := AR.out.swap.tail
        rw [List.take_of_length_le (by omega), ← HST.out] at this
        exact this
  · rw [if_neg hc0]
    have ec : (c != 0) = true := by simpa using hc0
    go_enter Tryz.func56, Tryz.ntmps56
    go_wp2_with fail
    refine (checkX_ref c n (HT.out _ A.out.tail.tail) (by omega)).mono ?_
    rw [H0.out]
    rintro e w1 ⟨rfl, B⟩
    have A := hid (A.out.later B).swap
    clear B H0
    have hb := A.out.blk (g := w.heap.size) (vs := [.int .i64 c, .int .i64 n, .slice ao l.length cp]) (t := 28) mem2
    have o0 : w1.cell? ⟨w.heap.size, 0, none⟩ = some (.int .i64 c) := by rw [cell_at hb]; rfl
    clear hb
    go_wp2_with fail
    refine (xnumW A.out c (by omega) (by omega)).mono ?_
    rintro e w2 ⟨rfl, v2, A2⟩
    have A := hid A2
    clear A2 o0
    have hb := A.out.blk (g := w.heap.size) (vs := [.int .i64 c, .int .i64 n, .slice ao l.length cp]) (t := 28) mem2
    have o0 : w2.cell? ⟨w.heap.size, 0, none⟩ = some (.int .i64 c) := by rw [cell_at hb]; rfl
    clear hb
    go_wp2
    refine bodyPost_ret (results_none rfl _ _ _) rfl ?_
    exact ⟨rfl, v2, A.out.swap.tail⟩
end Go.Proofs.YthoppemjfdnibaaGreatDoor
