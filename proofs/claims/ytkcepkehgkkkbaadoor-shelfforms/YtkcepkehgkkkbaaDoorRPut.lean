import Derived.Test.YtkcepkehgkkkbaaDoorPutO
namespace Go.Proofs.YtkcepkehgkkkbaaDoor
open Go.RowKit
set_option linter.unusedVariables false

/-- The document's writer, as a part. -/
def xwC (b : Nat) (v : Value) (st : Option (List UInt8)) : Comp := ⟨fun w => Xst w b v st, b :: v.ownBlock.toList⟩
theorem xst_kept {w w' : World} {b : Nat} {v : Value} {st : Option (List UInt8)} (h : Xst w b v st) (hb : w'.heap[b]? = w.heap[b]?) (hr : ∀ k, v.ownBlock = some k → w'.heap[k]? = w.heap[k]?) : Xst w' b v st := by
  have key : ∀ {bs : List UInt8} {bad : Bool}, XWr w b v bs bad → XWr w' b v bs bad := by
    intro bs bad h
    refine ⟨by rw [hb]; exact h.box, h.row.1, ?_⟩
    rcases h.row.2 with hn | ⟨g, cap, cur, rfl, hg, hgg, rest⟩
    · exact Or.inl hn
    · exact Or.inr ⟨g, cap, cur, rfl, hg, by rw [hr g rfl]; exact hgg, rest⟩
  cases st with
  | some bs => exact key h
  | none => obtain ⟨bs, h⟩ := h; exact ⟨bs, key h⟩
theorem xst_lt {w : World} {b : Nat} {v : Value} {st : Option (List UInt8)} (h : Xst w b v st) : b < w.heap.size := by
  cases st with
  | some bs => exact (Array.getElem?_eq_some_iff.1 (XWr.box h)).1
  | none => obtain ⟨bs, h⟩ := h; exact (Array.getElem?_eq_some_iff.1 h.box).1
theorem xst_own {w : World} {b : Nat} {v : Value} {st : Option (List UInt8)} (h : Xst w b v st) : ∀ k, v.ownBlock = some k → k < w.heap.size := by
  intro k hk
  cases st with
  | some bs => exact ((XWr.row h).lt k hk).2
  | none => obtain ⟨bs, h⟩ := h; exact (h.row.lt k hk).2
theorem xwC_good (b : Nat) (v : Value) (st : Option (List UInt8)) : (xwC b v st).Good := fun w w' h _ hk =>
  xst_kept h (hk b (by simp [xwC])) (fun k hk' => hk k (by simp [xwC, hk']))
theorem All.xstep {b : Nat} {v v' : Value} {st st' : Option (List UInt8)} {cs : List Comp} {w w' : World} (h : All (xwC b v st :: cs) w) (h1 : Xst w' b v' st') (h2 : WStep b w v w' v') : All (xwC b v' st' :: cs) w' := by
  refine h.turn ⟨h2.os, h2.tape, h2.output, h2.size, fun k hk hn => ?_⟩ (xwC_good _ _ _) h1 (fun k hk => ?_) (fun k hk => ?_)
  · simp [xwC] at hn
    exact h2.block k hk hn.1 (fun e => hn.2 e.symm)
  · simp [xwC] at hk
    rcases hk with rfl | hk
    · exact Or.inl (by simp [xwC])
    · rcases h2.own k hk with e | e
      · exact Or.inl (by simp [xwC, e])
      · exact Or.inr e
  · simp [xwC] at hk
    rcases hk with rfl | hk
    · exact xst_lt h1
    · exact xst_own h1 k hk
theorem xnewW {cs : List Comp} {w : World} (h : All cs w) : Calls Tryd.prog 14 #[] w fun e w' => ∃ b, e = .returned (.pointer (some ⟨b, 0, none⟩)) ∧ All (xwC b (.slice none 0 0) (some []) :: cs) w' :=
  (xnew_any w).mono fun e w' ⟨h1, h3, h2⟩ => ⟨_, h1, h.add (Fr.below h3) (xwC_good _ _ _) h2 (fun k hk => by
    have hk' : k = w.heap.size := by simpa [xwC, Value.ownBlock] using hk
    subst hk'
    exact ⟨Nat.le_refl _, xst_lt h2⟩)⟩
theorem xtextW {b : Nat} {v : Value} {st : Option (List UInt8)} {cs : List Comp} {w : World} (h : All (xwC b v st :: cs) w) (s : ByteArray) (hlen : lenS st + s.size + 10 ≤ 140737488355328) : Calls Tryd.prog 45 #[.pointer (some ⟨b, 0, none⟩), .string s] w fun e w' => e = .returned (.tuple #[]) ∧ ∃ v', All (xwC b v' (addS st (enc 9 s.size ++ s.data.toList)) :: cs) w' :=
  (xtext_any h.1.2.1 s hlen).mono fun e w' ⟨h1, v', h2, h3⟩ => ⟨h1, v', h.xstep h2 h3⟩
theorem xnumW {b : Nat} {v : Value} {st : Option (List UInt8)} {cs : List Comp} {w : World} (h : All (xwC b v st :: cs) w) (n : Int) (hn : n < 9223372036854775808) (hlen : lenS st + 10 ≤ 140737488355328) : Calls Tryd.prog 16 #[.pointer (some ⟨b, 0, none⟩), .int .i64 n] w fun e w' => e = .returned (.tuple #[]) ∧ ∃ v', All (xwC b v' (numS st n) :: cs) w' :=
  (xnum_any h.1.2.1 n hn hlen).mono fun e w' ⟨h1, v', h2, h3⟩ => ⟨h1, v', h.xstep h2 h3⟩
theorem xnatW {b : Nat} {v : Value} {st : Option (List UInt8)} {cs : List Comp} {w : World} (h : All (xwC b v st :: cs) w) (n : Nat) (hn : n < 9223372036854775808) (hlen : lenS st + 10 ≤ 140737488355328) : Calls Tryd.prog 16 #[.pointer (some ⟨b, 0, none⟩), .int .i64 (n : Int)] w fun e w' => e = .returned (.tuple #[]) ∧ ∃ v', All (xwC b v' (addS st (enc 9 n)) :: cs) w' := by
  have := xnumW h (n : Int) (by omega) hlen
  rw [numS_nat] at this
  exact this

set_option maxRecDepth 1000000 in
theorem rput_out {b : Nat} {v : Value} {st : Option (List UInt8)} {cs : List Comp} {w : World} (h : All (xwC b v st :: cs) w) {k : Int} (hk : k < 1 ∨ 8 < k) (nm tx : ByteArray) (n m : Int) (hlen : lenS st + nm.size + tx.size + 100 ≤ 140737488355328) :
    Calls Tryd.prog 18 #[.pointer (some ⟨b, 0, none⟩), opV k nm tx n m] w fun e w' => e = .returned (.tuple #[]) ∧ ∃ v', All (xwC b v' none :: cs) w' := by
  have A := hid (h.addBlk [.int .i64 k, .string nm, .string tx, .int .i64 n, .int .i64 m] 23)
  have HK := hid hk
  clear h hk
  go_enter Tryd.func18, Tryd.ntmps18
  go_wp2_with fail
  refine (rcheck_out HK.out nm tx n m).mono ?_
  rintro e w1 ⟨rfl, B⟩
  have A := hid (A.out.later B)
  clear B
  go_wp2_with fail
  refine (xnumW A.out.swap (-1) (by omega) (by omega)).mono ?_
  rintro e w2 ⟨rfl, v2, A2⟩
  have A2 := hid A2
  clear A
  go_wp2
  refine bodyPost_ret (results_none rfl _ _ _) rfl ?_
  exact ⟨rfl, v2, A2.out.swap.tail⟩

set_option maxHeartbeats 3200000 in
set_option maxRecDepth 1000000 in
theorem rput1 {b : Nat} {v : Value} {st : Option (List UInt8)} {cs : List Comp} {w : World} (h : All (xwC b v st :: cs) w) (nm tx : ByteArray) (n m : Int) (hn : n < 9223372036854775808) (hm : m < 9223372036854775808) (hlen : lenS st + nm.size + tx.size + 100 ≤ 140737488355328) :
    Calls Tryd.prog 18 #[.pointer (some ⟨b, 0, none⟩), opV 1 nm tx n m] w fun e w' => e = .returned (.tuple #[]) ∧ ∃ v', All (xwC b v' (if chkA 1 nm.size tx.size n m = 0 then putV 1 st nm tx n m else none) :: cs) w' := by
  have A := hid (h.addBlk [.int .i64 1, .string nm, .string tx, .int .i64 n, .int .i64 m] 23)
  clear h
  have N : ∀ W : World, Calls Tryd.prog 35 #[.int .i64 1] W fun e w' => e = .returned (.bool true) ∧ w' = W := fun W => hasName_any 1
  have T : ∀ W : World, Calls Tryd.prog 36 #[.int .i64 1] W fun e w' => e = .returned (.int .i64 (-1)) ∧ w' = W := fun W => textMost_any 1
  have M : ∀ W : World, Calls Tryd.prog 38 #[.int .i64 1] W fun e w' => e = .returned (.bool false) ∧ w' = W := fun W => hasNum_any 1
  have N := hid N
  have T := hid T
  have M := hid M
  by_cases h0 : chkA 1 nm.size tx.size n m = 0
  case neg =>
    rw [if_neg h0]
    have H0 := hid h0
    clear h0
    go_enter Tryd.func18, Tryd.ntmps18
    go_wp2_with fail
    refine (rcheck_any 1 nm tx n m).mono ?_
    rintro e w1 ⟨rfl, B⟩
    have A := hid (A.out.later B)
    clear B
    have h0 := H0.out
    generalize chkA 1 nm.size tx.size n m = ck at h0 ⊢
    have e0 : (ck != 0) = true := by simpa using h0
    clear h0
    go_wp2_with fail
    refine (xnumW A.out.swap (-1) (by omega) (by omega)).mono ?_
    rintro e w2 ⟨rfl, v2, A2⟩
    have A2 := hid A2
    clear A
    go_wp2
    refine bodyPost_ret (results_none rfl _ _ _) rfl ?_
    exact ⟨rfl, v2, A2.out.swap.tail⟩
  rw [if_pos h0]
  have H0 := hid h0
  clear h0
  go_enter Tryd.func18, Tryd.ntmps18
  go_wp2_with fail
  refine (rcheck_any 1 nm tx n m).mono ?_
  rw [H0.out]
  rintro e w1 ⟨rfl, B⟩
  have A := hid (A.out.later B).swap
  clear B H0
  have hb := A.out.blk (g := w.heap.size) (vs := [.int .i64 1, .string nm, .string tx, .int .i64 n, .int .i64 m]) (t := 23) mem2
  have o0 : w1.cell? ⟨w.heap.size, 0, none⟩ = some (.int .i64 1) := by rw [cell_at hb]; rfl
  have o1 : w1.cell? ⟨w.heap.size, 1, none⟩ = some (.string nm) := by rw [cell_at hb]; rfl
  have o2 : w1.cell? ⟨w.heap.size, 2, none⟩ = some (.string tx) := by rw [cell_at hb]; rfl
  have o3 : w1.cell? ⟨w.heap.size, 3, none⟩ = some (.int .i64 n) := by rw [cell_at hb]; rfl
  have o4 : w1.cell? ⟨w.heap.size, 4, none⟩ = some (.int .i64 m) := by rw [cell_at hb]; rfl
  clear hb
  go_wp2_with fail
  refine (xnatW A.out 1 (by omega) (by omega)).mono ?_
  rintro e w2 ⟨rfl, v2, A2⟩
  have A := hid A2
  clear A2 o0 o1 o2 o3 o4
  have L := hid (lenS_nat st 1)
  have hb := A.out.blk (g := w.heap.size) (vs := [.int .i64 1, .string nm, .string tx, .int .i64 n, .int .i64 m]) (t := 23) mem2
  have o0 : w2.cell? ⟨w.heap.size, 0, none⟩ = some (.int .i64 1) := by rw [cell_at hb]; rfl
  have o1 : w2.cell? ⟨w.heap.size, 1, none⟩ = some (.string nm) := by rw [cell_at hb]; rfl
  have o2 : w2.cell? ⟨w.heap.size, 2, none⟩ = some (.string tx) := by rw [cell_at hb]; rfl
  have o3 : w2.cell? ⟨w.heap.size, 3, none⟩ = some (.int .i64 n) := by rw [cell_at hb]; rfl
  have o4 : w2.cell? ⟨w.heap.size, 4, none⟩ = some (.int .i64 m) := by rw [cell_at hb]; rfl
  clear hb
  go_wp2_with fail
  refine (N.out _).mono ?_
  rintro e w3 ⟨rfl, rfl⟩
  go_wp2_with fail
  refine (xtextW A.out nm (by have := L.out; omega)).mono ?_
  rintro e w4 ⟨rfl, v4, A2⟩
  have A := hid A2
  clear A2 o0 o1 o2 o3 o4
  have L := hid (Nat.le_trans (lenS_txt (addS st (enc 9 1)) nm) (Nat.add_le_add_right L.out _))
  have hb := A.out.blk (g := w.heap.size) (vs := [.int .i64 1, .string nm, .string tx, .int .i64 n, .int .i64 m]) (t := 23) mem2
  have o0 : w4.cell? ⟨w.heap.size, 0, none⟩ = some (.int .i64 1) := by rw [cell_at hb]; rfl
  have o1 : w4.cell? ⟨w.heap.size, 1, none⟩ = some (.string nm) := by rw [cell_at hb]; rfl
  have o2 : w4.cell? ⟨w.heap.size, 2, none⟩ = some (.string tx) := by rw [cell_at hb]; rfl
  have o3 : w4.cell? ⟨w.heap.size, 3, none⟩ = some (.int .i64 n) := by rw [cell_at hb]; rfl
  have o4 : w4.cell? ⟨w.heap.size, 4, none⟩ = some (.int .i64 m) := by rw [cell_at hb]; rfl
  clear hb
  go_wp2_with fail
  refine (T.out _).mono ?_
  rintro e w5 ⟨rfl, rfl⟩
  clear o0 o1 o2 o3 o4
  have hb := A.out.blk (g := w.heap.size) (vs := [.int .i64 1, .string nm, .string tx, .int .i64 n, .int .i64 m]) (t := 23) mem2
  have o0 : w5.cell? ⟨w.heap.size, 0, none⟩ = some (.int .i64 1) := by rw [cell_at hb]; rfl
  have o1 : w5.cell? ⟨w.heap.size, 1, none⟩ = some (.string nm) := by rw [cell_at hb]; rfl
  have o2 : w5.cell? ⟨w.heap.size, 2, none⟩ = some (.string tx) := by rw [cell_at hb]; rfl
  have o3 : w5.cell? ⟨w.heap.size, 3, none⟩ = some (.int .i64 n) := by rw [cell_at hb]; rfl
  have o4 : w5.cell? ⟨w.heap.size, 4, none⟩ = some (.int .i64 m) := by rw [cell_at hb]; rfl
  clear hb
  go_wp2_with fail
  refine (M.out _).mono ?_
  rintro e w6 ⟨rfl, rfl⟩
  clear o0 o1 o2 o3 o4
  have hb := A.out.blk (g := w.heap.size) (vs := [.int .i64 1, .string nm, .string tx, .int .i64 n, .int .i64 m]) (t := 23) mem2
  have o0 : w6.cell? ⟨w.heap.size, 0, none⟩ = some (.int .i64 1) := by rw [cell_at hb]; rfl
  have o1 : w6.cell? ⟨w.heap.size, 1, none⟩ = some (.string nm) := by rw [cell_at hb]; rfl
  have o2 : w6.cell? ⟨w.heap.size, 2, none⟩ = some (.string tx) := by rw [cell_at hb]; rfl
  have o3 : w6.cell? ⟨w.heap.size, 3, none⟩ = some (.int .i64 n) := by rw [cell_at hb]; rfl
  have o4 : w6.cell? ⟨w.heap.size, 4, none⟩ = some (.int .i64 m) := by rw [cell_at hb]; rfl
  clear hb
  go_wp2
  go_end0
  exact ⟨rfl, _, A.out.swap.tail⟩

set_option maxHeartbeats 3200000 in
set_option maxRecDepth 1000000 in
theorem rput2 {b : Nat} {v : Value} {st : Option (List UInt8)} {cs : List Comp} {w : World} (h : All (xwC b v st :: cs) w) (nm tx : ByteArray) (n m : Int) (hn : n < 9223372036854775808) (hm : m < 9223372036854775808) (hlen : lenS st + nm.size + tx.size + 100 ≤ 140737488355328) :
    Calls Tryd.prog 18 #[.pointer (some ⟨b, 0, none⟩), opV 2 nm tx n m] w fun e w' => e = .returned (.tuple #[]) ∧ ∃ v', All (xwC b v' (if chkA 2 nm.size tx.size n m = 0 then putV 2 st nm tx n m else none) :: cs) w' := by
  have A := hid (h.addBlk [.int .i64 2, .string nm, .string tx, .int .i64 n, .int .i64 m] 23)
  clear h
  have N : ∀ W : World, Calls Tryd.prog 35 #[.int .i64 2] W fun e w' => e = .returned (.bool true) ∧ w' = W := fun W => hasName_any 2
  have T : ∀ W : World, Calls Tryd.prog 36 #[.int .i64 2] W fun e w' => e = .returned (.int .i64 (-1)) ∧ w' = W := fun W => textMost_any 2
  have M : ∀ W : World, Calls Tryd.prog 38 #[.int .i64 2] W fun e w' => e = .returned (.bool false) ∧ w' = W := fun W => hasNum_any 2
  have N := hid N
  have T := hid T
  have M := hid M
  by_cases h0 : chkA 2 nm.size tx.size n m = 0
  case neg =>
    rw [if_neg h0]
    have H0 := hid h0
    clear h0
    go_enter Tryd.func18, Tryd.ntmps18
    go_wp2_with fail
    refine (rcheck_any 2 nm tx n m).mono ?_
    rintro e w1 ⟨rfl, B⟩
    have A := hid (A.out.later B)
    clear B
    have h0 := H0.out
    generalize chkA 2 nm.size tx.size n m = ck at h0 ⊢
    have e0 : (ck != 0) = true := by simpa using h0
    clear h0
    go_wp2_with fail
    refine (xnumW A.out.swap (-1) (by omega) (by omega)).mono ?_
    rintro e w2 ⟨rfl, v2, A2⟩
    have A2 := hid A2
    clear A
    go_wp2
    refine bodyPost_ret (results_none rfl _ _ _) rfl ?_
    exact ⟨rfl, v2, A2.out.swap.tail⟩
  rw [if_pos h0]
  have H0 := hid h0
  clear h0
  go_enter Tryd.func18, Tryd.ntmps18
  go_wp2_with fail
  refine (rcheck_any 2 nm tx n m).mono ?_
  rw [H0.out]
  rintro e w1 ⟨rfl, B⟩
  have A := hid (A.out.later B).swap
  clear B H0
  have hb := A.out.blk (g := w.heap.size) (vs := [.int .i64 2, .string nm, .string tx, .int .i64 n, .int .i64 m]) (t := 23) mem2
  have o0 : w1.cell? ⟨w.heap.size, 0, none⟩ = some (.int .i64 2) := by rw [cell_at hb]; rfl
  have o1 : w1.cell? ⟨w.heap.size, 1, none⟩ = some (.string nm) := by rw [cell_at hb]; rfl
  have o2 : w1.cell? ⟨w.heap.size, 2, none⟩ = some (.string tx) := by rw [cell_at hb]; rfl
  have o3 : w1.cell? ⟨w.heap.size, 3, none⟩ = some (.int .i64 n) := by rw [cell_at hb]; rfl
  have o4 : w1.cell? ⟨w.heap.size, 4, none⟩ = some (.int .i64 m) := by rw [cell_at hb]; rfl
  clear hb
  go_wp2_with fail
  refine (xnatW A.out 2 (by omega) (by omega)).mono ?_
  rintro e w2 ⟨rfl, v2, A2⟩
  have A := hid A2
  clear A2 o0 o1 o2 o3 o4
  have L := hid (lenS_nat st 2)
  have hb := A.out.blk (g := w.heap.size) (vs := [.int .i64 2, .string nm, .string tx, .int .i64 n, .int .i64 m]) (t := 23) mem2
  have o0 : w2.cell? ⟨w.heap.size, 0, none⟩ = some (.int .i64 2) := by rw [cell_at hb]; rfl
  have o1 : w2.cell? ⟨w.heap.size, 1, none⟩ = some (.string nm) := by rw [cell_at hb]; rfl
  have o2 : w2.cell? ⟨w.heap.size, 2, none⟩ = some (.string tx) := by rw [cell_at hb]; rfl
  have o3 : w2.cell? ⟨w.heap.size, 3, none⟩ = some (.int .i64 n) := by rw [cell_at hb]; rfl
  have o4 : w2.cell? ⟨w.heap.size, 4, none⟩ = some (.int .i64 m) := by rw [cell_at hb]; rfl
  clear hb
  go_wp2_with fail
  refine (N.out _).mono ?_
  rintro e w3 ⟨rfl, rfl⟩
  go_wp2_with fail
  refine (xtextW A.out nm (by have := L.out; omega)).mono ?_
  rintro e w4 ⟨rfl, v4, A2⟩
  have A := hid A2
  clear A2 o0 o1 o2 o3 o4
  have L := hid (Nat.le_trans (lenS_txt (addS st (enc 9 2)) nm) (Nat.add_le_add_right L.out _))
  have hb := A.out.blk (g := w.heap.size) (vs := [.int .i64 2, .string nm, .string tx, .int .i64 n, .int .i64 m]) (t := 23) mem2
  have o0 : w4.cell? ⟨w.heap.size, 0, none⟩ = some (.int .i64 2) := by rw [cell_at hb]; rfl
  have o1 : w4.cell? ⟨w.heap.size, 1, none⟩ = some (.string nm) := by rw [cell_at hb]; rfl
  have o2 : w4.cell? ⟨w.heap.size, 2, none⟩ = some (.string tx) := by rw [cell_at hb]; rfl
  have o3 : w4.cell? ⟨w.heap.size, 3, none⟩ = some (.int .i64 n) := by rw [cell_at hb]; rfl
  have o4 : w4.cell? ⟨w.heap.size, 4, none⟩ = some (.int .i64 m) := by rw [cell_at hb]; rfl
  clear hb
  go_wp2_with fail
  refine (T.out _).mono ?_
  rintro e w5 ⟨rfl, rfl⟩
  clear o0 o1 o2 o3 o4
  have hb := A.out.blk (g := w.heap.size) (vs := [.int .i64 2, .string nm, .string tx, .int .i64 n, .int .i64 m]) (t := 23) mem2
  have o0 : w5.cell? ⟨w.heap.size, 0, none⟩ = some (.int .i64 2) := by rw [cell_at hb]; rfl
  have o1 : w5.cell? ⟨w.heap.size, 1, none⟩ = some (.string nm) := by rw [cell_at hb]; rfl
  have o2 : w5.cell? ⟨w.heap.size, 2, none⟩ = some (.string tx) := by rw [cell_at hb]; rfl
  have o3 : w5.cell? ⟨w.heap.size, 3, none⟩ = some (.int .i64 n) := by rw [cell_at hb]; rfl
  have o4 : w5.cell? ⟨w.heap.size, 4, none⟩ = some (.int .i64 m) := by rw [cell_at hb]; rfl
  clear hb
  go_wp2_with fail
  refine (M.out _).mono ?_
  rintro e w6 ⟨rfl, rfl⟩
  clear o0 o1 o2 o3 o4
  have hb := A.out.blk (g := w.heap.size) (vs := [.int .i64 2, .string nm, .string tx, .int .i64 n, .int .i64 m]) (t := 23) mem2
  have o0 : w6.cell? ⟨w.heap.size, 0, none⟩ = some (.int .i64 2) := by rw [cell_at hb]; rfl
  have o1 : w6.cell? ⟨w.heap.size, 1, none⟩ = some (.string nm) := by rw [cell_at hb]; rfl
  have o2 : w6.cell? ⟨w.heap.size, 2, none⟩ = some (.string tx) := by rw [cell_at hb]; rfl
  have o3 : w6.cell? ⟨w.heap.size, 3, none⟩ = some (.int .i64 n) := by rw [cell_at hb]; rfl
  have o4 : w6.cell? ⟨w.heap.size, 4, none⟩ = some (.int .i64 m) := by rw [cell_at hb]; rfl
  clear hb
  go_wp2
  go_end0
  exact ⟨rfl, _, A.out.swap.tail⟩

set_option maxHeartbeats 3200000 in
set_option maxRecDepth 1000000 in
theorem rput3 {b : Nat} {v : Value} {st : Option (List UInt8)} {cs : List Comp} {w : World} (h : All (xwC b v st :: cs) w) (nm tx : ByteArray) (n m : Int) (hn : n < 9223372036854775808) (hm : m < 9223372036854775808) (hlen : lenS st + nm.size + tx.size + 100 ≤ 140737488355328) :
    Calls Tryd.prog 18 #[.pointer (some ⟨b, 0, none⟩), opV 3 nm tx n m] w fun e w' => e = .returned (.tuple #[]) ∧ ∃ v', All (xwC b v' (if chkA 3 nm.size tx.size n m = 0 then putV 3 st nm tx n m else none) :: cs) w' := by
  have A := hid (h.addBlk [.int .i64 3, .string nm, .string tx, .int .i64 n, .int .i64 m] 23)
  clear h
  have N : ∀ W : World, Calls Tryd.prog 35 #[.int .i64 3] W fun e w' => e = .returned (.bool true) ∧ w' = W := fun W => hasName_any 3
  have T : ∀ W : World, Calls Tryd.prog 36 #[.int .i64 3] W fun e w' => e = .returned (.int .i64 64) ∧ w' = W := fun W => textMost_any 3
  have M : ∀ W : World, Calls Tryd.prog 38 #[.int .i64 3] W fun e w' => e = .returned (.bool false) ∧ w' = W := fun W => hasNum_any 3
  have N := hid N
  have T := hid T
  have M := hid M
  by_cases h0 : chkA 3 nm.size tx.size n m = 0
  case neg =>
    rw [if_neg h0]
    have H0 := hid h0
    clear h0
    go_enter Tryd.func18, Tryd.ntmps18
    go_wp2_with fail
    refine (rcheck_any 3 nm tx n m).mono ?_
    rintro e w1 ⟨rfl, B⟩
    have A := hid (A.out.later B)
    clear B
    have h0 := H0.out
    generalize chkA 3 nm.size tx.size n m = ck at h0 ⊢
    have e0 : (ck != 0) = true := by simpa using h0
    clear h0
    go_wp2_with fail
    refine (xnumW A.out.swap (-1) (by omega) (by omega)).mono ?_
    rintro e w2 ⟨rfl, v2, A2⟩
    have A2 := hid A2
    clear A
    go_wp2
    refine bodyPost_ret (results_none rfl _ _ _) rfl ?_
    exact ⟨rfl, v2, A2.out.swap.tail⟩
  rw [if_pos h0]
  have H0 := hid h0
  clear h0
  go_enter Tryd.func18, Tryd.ntmps18
  go_wp2_with fail
  refine (rcheck_any 3 nm tx n m).mono ?_
  rw [H0.out]
  rintro e w1 ⟨rfl, B⟩
  have A := hid (A.out.later B).swap
  clear B H0
  have hb := A.out.blk (g := w.heap.size) (vs := [.int .i64 3, .string nm, .string tx, .int .i64 n, .int .i64 m]) (t := 23) mem2
  have o0 : w1.cell? ⟨w.heap.size, 0, none⟩ = some (.int .i64 3) := by rw [cell_at hb]; rfl
  have o1 : w1.cell? ⟨w.heap.size, 1, none⟩ = some (.string nm) := by rw [cell_at hb]; rfl
  have o2 : w1.cell? ⟨w.heap.size, 2, none⟩ = some (.string tx) := by rw [cell_at hb]; rfl
  have o3 : w1.cell? ⟨w.heap.size, 3, none⟩ = some (.int .i64 n) := by rw [cell_at hb]; rfl
  have o4 : w1.cell? ⟨w.heap.size, 4, none⟩ = some (.int .i64 m) := by rw [cell_at hb]; rfl
  clear hb
  go_wp2_with fail
  refine (xnatW A.out 3 (by omega) (by omega)).mono ?_
  rintro e w2 ⟨rfl, v2, A2⟩
  have A := hid A2
  clear A2 o0 o1 o2 o3 o4
  have L := hid (lenS_nat st 3)
  have hb := A.out.blk (g := w.heap.size) (vs := [.int .i64 3, .string nm, .string tx, .int .i64 n, .int .i64 m]) (t := 23) mem2
  have o0 : w2.cell? ⟨w.heap.size, 0, none⟩ = some (.int .i64 3) := by rw [cell_at hb]; rfl
  have o1 : w2.cell? ⟨w.heap.size, 1, none⟩ = some (.string nm) := by rw [cell_at hb]; rfl
  have o2 : w2.cell? ⟨w.heap.size, 2, none⟩ = some (.string tx) := by rw [cell_at hb]; rfl
  have o3 : w2.cell? ⟨w.heap.size, 3, none⟩ = some (.int .i64 n) := by rw [cell_at hb]; rfl
  have o4 : w2.cell? ⟨w.heap.size, 4, none⟩ = some (.int .i64 m) := by rw [cell_at hb]; rfl
  clear hb
  go_wp2_with fail
  refine (N.out _).mono ?_
  rintro e w3 ⟨rfl, rfl⟩
  go_wp2_with fail
  refine (xtextW A.out nm (by have := L.out; omega)).mono ?_
  rintro e w4 ⟨rfl, v4, A2⟩
  have A := hid A2
  clear A2 o0 o1 o2 o3 o4
  have L := hid (Nat.le_trans (lenS_txt (addS st (enc 9 3)) nm) (Nat.add_le_add_right L.out _))
  have hb := A.out.blk (g := w.heap.size) (vs := [.int .i64 3, .string nm, .string tx, .int .i64 n, .int .i64 m]) (t := 23) mem2
  have o0 : w4.cell? ⟨w.heap.size, 0, none⟩ = some (.int .i64 3) := by rw [cell_at hb]; rfl
  have o1 : w4.cell? ⟨w.heap.size, 1, none⟩ = some (.string nm) := by rw [cell_at hb]; rfl
  have o2 : w4.cell? ⟨w.heap.size, 2, none⟩ = some (.string tx) := by rw [cell_at hb]; rfl
  have o3 : w4.cell? ⟨w.heap.size, 3, none⟩ = some (.int .i64 n) := by rw [cell_at hb]; rfl
  have o4 : w4.cell? ⟨w.heap.size, 4, none⟩ = some (.int .i64 m) := by rw [cell_at hb]; rfl
  clear hb
  go_wp2_with fail
  refine (T.out _).mono ?_
  rintro e w5 ⟨rfl, rfl⟩
  go_wp2_with fail
  refine (xtextW A.out tx (by have := L.out; omega)).mono ?_
  rintro e w6 ⟨rfl, v6, A2⟩
  have A := hid A2
  clear A2 o0 o1 o2 o3 o4
  have L := hid (Nat.le_trans (lenS_txt (addS (addS st (enc 9 3)) (enc 9 nm.size ++ nm.data.toList)) tx) (Nat.add_le_add_right L.out _))
  have hb := A.out.blk (g := w.heap.size) (vs := [.int .i64 3, .string nm, .string tx, .int .i64 n, .int .i64 m]) (t := 23) mem2
  have o0 : w6.cell? ⟨w.heap.size, 0, none⟩ = some (.int .i64 3) := by rw [cell_at hb]; rfl
  have o1 : w6.cell? ⟨w.heap.size, 1, none⟩ = some (.string nm) := by rw [cell_at hb]; rfl
  have o2 : w6.cell? ⟨w.heap.size, 2, none⟩ = some (.string tx) := by rw [cell_at hb]; rfl
  have o3 : w6.cell? ⟨w.heap.size, 3, none⟩ = some (.int .i64 n) := by rw [cell_at hb]; rfl
  have o4 : w6.cell? ⟨w.heap.size, 4, none⟩ = some (.int .i64 m) := by rw [cell_at hb]; rfl
  clear hb
  go_wp2_with fail
  refine (M.out _).mono ?_
  rintro e w7 ⟨rfl, rfl⟩
  clear o0 o1 o2 o3 o4
  have hb := A.out.blk (g := w.heap.size) (vs := [.int .i64 3, .string nm, .string tx, .int .i64 n, .int .i64 m]) (t := 23) mem2
  have o0 : w7.cell? ⟨w.heap.size, 0, none⟩ = some (.int .i64 3) := by rw [cell_at hb]; rfl
  have o1 : w7.cell? ⟨w.heap.size, 1, none⟩ = some (.string nm) := by rw [cell_at hb]; rfl
  have o2 : w7.cell? ⟨w.heap.size, 2, none⟩ = some (.string tx) := by rw [cell_at hb]; rfl
  have o3 : w7.cell? ⟨w.heap.size, 3, none⟩ = some (.int .i64 n) := by rw [cell_at hb]; rfl
  have o4 : w7.cell? ⟨w.heap.size, 4, none⟩ = some (.int .i64 m) := by rw [cell_at hb]; rfl
  clear hb
  go_wp2
  go_end0
  exact ⟨rfl, _, A.out.swap.tail⟩

set_option maxHeartbeats 3200000 in
set_option maxRecDepth 1000000 in
theorem rput4 {b : Nat} {v : Value} {st : Option (List UInt8)} {cs : List Comp} {w : World} (h : All (xwC b v st :: cs) w) (nm tx : ByteArray) (n m : Int) (hn : n < 9223372036854775808) (hm : m < 9223372036854775808) (hlen : lenS st + nm.size + tx.size + 100 ≤ 140737488355328) :
    Calls Tryd.prog 18 #[.pointer (some ⟨b, 0, none⟩), opV 4 nm tx n m] w fun e w' => e = .returned (.tuple #[]) ∧ ∃ v', All (xwC b v' (if chkA 4 nm.size tx.size n m = 0 then putV 4 st nm tx n m else none) :: cs) w' := by
  have A := hid (h.addBlk [.int .i64 4, .string nm, .string tx, .int .i64 n, .int .i64 m] 23)
  clear h
  have N : ∀ W : World, Calls Tryd.prog 35 #[.int .i64 4] W fun e w' => e = .returned (.bool true) ∧ w' = W := fun W => hasName_any 4
  have T : ∀ W : World, Calls Tryd.prog 36 #[.int .i64 4] W fun e w' => e = .returned (.int .i64 (-1)) ∧ w' = W := fun W => textMost_any 4
  have M : ∀ W : World, Calls Tryd.prog 38 #[.int .i64 4] W fun e w' => e = .returned (.bool true) ∧ w' = W := fun W => hasNum_any 4
  have N := hid N
  have T := hid T
  have M := hid M
  by_cases h0 : chkA 4 nm.size tx.size n m = 0
  case neg =>
    rw [if_neg h0]
    have H0 := hid h0
    clear h0
    go_enter Tryd.func18, Tryd.ntmps18
    go_wp2_with fail
    refine (rcheck_any 4 nm tx n m).mono ?_
    rintro e w1 ⟨rfl, B⟩
    have A := hid (A.out.later B)
    clear B
    have h0 := H0.out
    generalize chkA 4 nm.size tx.size n m = ck at h0 ⊢
    have e0 : (ck != 0) = true := by simpa using h0
    clear h0
    go_wp2_with fail
    refine (xnumW A.out.swap (-1) (by omega) (by omega)).mono ?_
    rintro e w2 ⟨rfl, v2, A2⟩
    have A2 := hid A2
    clear A
    go_wp2
    refine bodyPost_ret (results_none rfl _ _ _) rfl ?_
    exact ⟨rfl, v2, A2.out.swap.tail⟩
  rw [if_pos h0]
  have H0 := hid h0
  clear h0
  go_enter Tryd.func18, Tryd.ntmps18
  go_wp2_with fail
  refine (rcheck_any 4 nm tx n m).mono ?_
  rw [H0.out]
  rintro e w1 ⟨rfl, B⟩
  have A := hid (A.out.later B).swap
  clear B H0
  have hb := A.out.blk (g := w.heap.size) (vs := [.int .i64 4, .string nm, .string tx, .int .i64 n, .int .i64 m]) (t := 23) mem2
  have o0 : w1.cell? ⟨w.heap.size, 0, none⟩ = some (.int .i64 4) := by rw [cell_at hb]; rfl
  have o1 : w1.cell? ⟨w.heap.size, 1, none⟩ = some (.string nm) := by rw [cell_at hb]; rfl
  have o2 : w1.cell? ⟨w.heap.size, 2, none⟩ = some (.string tx) := by rw [cell_at hb]; rfl
  have o3 : w1.cell? ⟨w.heap.size, 3, none⟩ = some (.int .i64 n) := by rw [cell_at hb]; rfl
  have o4 : w1.cell? ⟨w.heap.size, 4, none⟩ = some (.int .i64 m) := by rw [cell_at hb]; rfl
  clear hb
  go_wp2_with fail
  refine (xnatW A.out 4 (by omega) (by omega)).mono ?_
  rintro e w2 ⟨rfl, v2, A2⟩
  have A := hid A2
  clear A2 o0 o1 o2 o3 o4
  have L := hid (lenS_nat st 4)
  have hb := A.out.blk (g := w.heap.size) (vs := [.int .i64 4, .string nm, .string tx, .int .i64 n, .int .i64 m]) (t := 23) mem2
  have o0 : w2.cell? ⟨w.heap.size, 0, none⟩ = some (.int .i64 4) := by rw [cell_at hb]; rfl
  have o1 : w2.cell? ⟨w.heap.size, 1, none⟩ = some (.string nm) := by rw [cell_at hb]; rfl
  have o2 : w2.cell? ⟨w.heap.size, 2, none⟩ = some (.string tx) := by rw [cell_at hb]; rfl
  have o3 : w2.cell? ⟨w.heap.size, 3, none⟩ = some (.int .i64 n) := by rw [cell_at hb]; rfl
  have o4 : w2.cell? ⟨w.heap.size, 4, none⟩ = some (.int .i64 m) := by rw [cell_at hb]; rfl
  clear hb
  go_wp2_with fail
  refine (N.out _).mono ?_
  rintro e w3 ⟨rfl, rfl⟩
  go_wp2_with fail
  refine (xtextW A.out nm (by have := L.out; omega)).mono ?_
  rintro e w4 ⟨rfl, v4, A2⟩
  have A := hid A2
  clear A2 o0 o1 o2 o3 o4
  have L := hid (Nat.le_trans (lenS_txt (addS st (enc 9 4)) nm) (Nat.add_le_add_right L.out _))
  have hb := A.out.blk (g := w.heap.size) (vs := [.int .i64 4, .string nm, .string tx, .int .i64 n, .int .i64 m]) (t := 23) mem2
  have o0 : w4.cell? ⟨w.heap.size, 0, none⟩ = some (.int .i64 4) := by rw [cell_at hb]; rfl
  have o1 : w4.cell? ⟨w.heap.size, 1, none⟩ = some (.string nm) := by rw [cell_at hb]; rfl
  have o2 : w4.cell? ⟨w.heap.size, 2, none⟩ = some (.string tx) := by rw [cell_at hb]; rfl
  have o3 : w4.cell? ⟨w.heap.size, 3, none⟩ = some (.int .i64 n) := by rw [cell_at hb]; rfl
  have o4 : w4.cell? ⟨w.heap.size, 4, none⟩ = some (.int .i64 m) := by rw [cell_at hb]; rfl
  clear hb
  go_wp2_with fail
  refine (T.out _).mono ?_
  rintro e w5 ⟨rfl, rfl⟩
  clear o0 o1 o2 o3 o4
  have hb := A.out.blk (g := w.heap.size) (vs := [.int .i64 4, .string nm, .string tx, .int .i64 n, .int .i64 m]) (t := 23) mem2
  have o0 : w5.cell? ⟨w.heap.size, 0, none⟩ = some (.int .i64 4) := by rw [cell_at hb]; rfl
  have o1 : w5.cell? ⟨w.heap.size, 1, none⟩ = some (.string nm) := by rw [cell_at hb]; rfl
  have o2 : w5.cell? ⟨w.heap.size, 2, none⟩ = some (.string tx) := by rw [cell_at hb]; rfl
  have o3 : w5.cell? ⟨w.heap.size, 3, none⟩ = some (.int .i64 n) := by rw [cell_at hb]; rfl
  have o4 : w5.cell? ⟨w.heap.size, 4, none⟩ = some (.int .i64 m) := by rw [cell_at hb]; rfl
  clear hb
  go_wp2_with fail
  refine (M.out _).mono ?_
  rintro e w6 ⟨rfl, rfl⟩
  go_wp2_with fail
  refine (xnumW A.out n (by omega) (by have := L.out; omega)).mono ?_
  rintro e w7 ⟨rfl, v7, A2⟩
  have A := hid A2
  clear A2 o0 o1 o2 o3 o4
  have L := hid (Nat.le_trans (lenS_num (addS (addS st (enc 9 4)) (enc 9 nm.size ++ nm.data.toList)) n) (Nat.add_le_add_right L.out _))
  have hb := A.out.blk (g := w.heap.size) (vs := [.int .i64 4, .string nm, .string tx, .int .i64 n, .int .i64 m]) (t := 23) mem2
  have o0 : w7.cell? ⟨w.heap.size, 0, none⟩ = some (.int .i64 4) := by rw [cell_at hb]; rfl
  have o1 : w7.cell? ⟨w.heap.size, 1, none⟩ = some (.string nm) := by rw [cell_at hb]; rfl
  have o2 : w7.cell? ⟨w.heap.size, 2, none⟩ = some (.string tx) := by rw [cell_at hb]; rfl
  have o3 : w7.cell? ⟨w.heap.size, 3, none⟩ = some (.int .i64 n) := by rw [cell_at hb]; rfl
  have o4 : w7.cell? ⟨w.heap.size, 4, none⟩ = some (.int .i64 m) := by rw [cell_at hb]; rfl
  clear hb
  go_wp2
  go_end0
  exact ⟨rfl, _, A.out.swap.tail⟩

set_option maxHeartbeats 3200000 in
set_option maxRecDepth 1000000 in
theorem rput5 {b : Nat} {v : Value} {st : Option (List UInt8)} {cs : List Comp} {w : World} (h : All (xwC b v st :: cs) w) (nm tx : ByteArray) (n m : Int) (hn : n < 9223372036854775808) (hm : m < 9223372036854775808) (hlen : lenS st + nm.size + tx.size + 100 ≤ 140737488355328) :
    Calls Tryd.prog 18 #[.pointer (some ⟨b, 0, none⟩), opV 5 nm tx n m] w fun e w' => e = .returned (.tuple #[]) ∧ ∃ v', All (xwC b v' (if chkA 5 nm.size tx.size n m = 0 then putV 5 st nm tx n m else none) :: cs) w' := by
  have A := hid (h.addBlk [.int .i64 5, .string nm, .string tx, .int .i64 n, .int .i64 m] 23)
  clear h
  have N : ∀ W : World, Calls Tryd.prog 35 #[.int .i64 5] W fun e w' => e = .returned (.bool true) ∧ w' = W := fun W => hasName_any 5
  have T : ∀ W : World, Calls Tryd.prog 36 #[.int .i64 5] W fun e w' => e = .returned (.int .i64 16) ∧ w' = W := fun W => textMost_any 5
  have M : ∀ W : World, Calls Tryd.prog 38 #[.int .i64 5] W fun e w' => e = .returned (.bool false) ∧ w' = W := fun W => hasNum_any 5
  have N := hid N
  have T := hid T
  have M := hid M
  by_cases h0 : chkA 5 nm.size tx.size n m = 0
  case neg =>
    rw [if_neg h0]
    have H0 := hid h0
    clear h0
    go_enter Tryd.func18, Tryd.ntmps18
    go_wp2_with fail
    refine (rcheck_any 5 nm tx n m).mono ?_
    rintro e w1 ⟨rfl, B⟩
    have A := hid (A.out.later B)
    clear B
    have h0 := H0.out
    generalize chkA 5 nm.size tx.size n m = ck at h0 ⊢
    have e0 : (ck != 0) = true := by simpa using h0
    clear h0
    go_wp2_with fail
    refine (xnumW A.out.swap (-1) (by omega) (by omega)).mono ?_
    rintro e w2 ⟨rfl, v2, A2⟩
    have A2 := hid A2
    clear A
    go_wp2
    refine bodyPost_ret (results_none rfl _ _ _) rfl ?_
    exact ⟨rfl, v2, A2.out.swap.tail⟩
  rw [if_pos h0]
  have H0 := hid h0
  clear h0
  go_enter Tryd.func18, Tryd.ntmps18
  go_wp2_with fail
  refine (rcheck_any 5 nm tx n m).mono ?_
  rw [H0.out]
  rintro e w1 ⟨rfl, B⟩
  have A := hid (A.out.later B).swap
  clear B H0
  have hb := A.out.blk (g := w.heap.size) (vs := [.int .i64 5, .string nm, .string tx, .int .i64 n, .int .i64 m]) (t := 23) mem2
  have o0 : w1.cell? ⟨w.heap.size, 0, none⟩ = some (.int .i64 5) := by rw [cell_at hb]; rfl
  have o1 : w1.cell? ⟨w.heap.size, 1, none⟩ = some (.string nm) := by rw [cell_at hb]; rfl
  have o2 : w1.cell? ⟨w.heap.size, 2, none⟩ = some (.string tx) := by rw [cell_at hb]; rfl
  have o3 : w1.cell? ⟨w.heap.size, 3, none⟩ = some (.int .i64 n) := by rw [cell_at hb]; rfl
  have o4 : w1.cell? ⟨w.heap.size, 4, none⟩ = some (.int .i64 m) := by rw [cell_at hb]; rfl
  clear hb
  go_wp2_with fail
  refine (xnatW A.out 5 (by omega) (by omega)).mono ?_
  rintro e w2 ⟨rfl, v2, A2⟩
  have A := hid A2
  clear A2 o0 o1 o2 o3 o4
  have L := hid (lenS_nat st 5)
  have hb := A.out.blk (g := w.heap.size) (vs := [.int .i64 5, .string nm, .string tx, .int .i64 n, .int .i64 m]) (t := 23) mem2
  have o0 : w2.cell? ⟨w.heap.size, 0, none⟩ = some (.int .i64 5) := by rw [cell_at hb]; rfl
  have o1 : w2.cell? ⟨w.heap.size, 1, none⟩ = some (.string nm) := by rw [cell_at hb]; rfl
  have o2 : w2.cell? ⟨w.heap.size, 2, none⟩ = some (.string tx) := by rw [cell_at hb]; rfl
  have o3 : w2.cell? ⟨w.heap.size, 3, none⟩ = some (.int .i64 n) := by rw [cell_at hb]; rfl
  have o4 : w2.cell? ⟨w.heap.size, 4, none⟩ = some (.int .i64 m) := by rw [cell_at hb]; rfl
  clear hb
  go_wp2_with fail
  refine (N.out _).mono ?_
  rintro e w3 ⟨rfl, rfl⟩
  go_wp2_with fail
  refine (xtextW A.out nm (by have := L.out; omega)).mono ?_
  rintro e w4 ⟨rfl, v4, A2⟩
  have A := hid A2
  clear A2 o0 o1 o2 o3 o4
  have L := hid (Nat.le_trans (lenS_txt (addS st (enc 9 5)) nm) (Nat.add_le_add_right L.out _))
  have hb := A.out.blk (g := w.heap.size) (vs := [.int .i64 5, .string nm, .string tx, .int .i64 n, .int .i64 m]) (t := 23) mem2
  have o0 : w4.cell? ⟨w.heap.size, 0, none⟩ = some (.int .i64 5) := by rw [cell_at hb]; rfl
  have o1 : w4.cell? ⟨w.heap.size, 1, none⟩ = some (.string nm) := by rw [cell_at hb]; rfl
  have o2 : w4.cell? ⟨w.heap.size, 2, none⟩ = some (.string tx) := by rw [cell_at hb]; rfl
  have o3 : w4.cell? ⟨w.heap.size, 3, none⟩ = some (.int .i64 n) := by rw [cell_at hb]; rfl
  have o4 : w4.cell? ⟨w.heap.size, 4, none⟩ = some (.int .i64 m) := by rw [cell_at hb]; rfl
  clear hb
  go_wp2_with fail
  refine (T.out _).mono ?_
  rintro e w5 ⟨rfl, rfl⟩
  go_wp2_with fail
  refine (xtextW A.out tx (by have := L.out; omega)).mono ?_
  rintro e w6 ⟨rfl, v6, A2⟩
  have A := hid A2
  clear A2 o0 o1 o2 o3 o4
  have L := hid (Nat.le_trans (lenS_txt (addS (addS st (enc 9 5)) (enc 9 nm.size ++ nm.data.toList)) tx) (Nat.add_le_add_right L.out _))
  have hb := A.out.blk (g := w.heap.size) (vs := [.int .i64 5, .string nm, .string tx, .int .i64 n, .int .i64 m]) (t := 23) mem2
  have o0 : w6.cell? ⟨w.heap.size, 0, none⟩ = some (.int .i64 5) := by rw [cell_at hb]; rfl
  have o1 : w6.cell? ⟨w.heap.size, 1, none⟩ = some (.string nm) := by rw [cell_at hb]; rfl
  have o2 : w6.cell? ⟨w.heap.size, 2, none⟩ = some (.string tx) := by rw [cell_at hb]; rfl
  have o3 : w6.cell? ⟨w.heap.size, 3, none⟩ = some (.int .i64 n) := by rw [cell_at hb]; rfl
  have o4 : w6.cell? ⟨w.heap.size, 4, none⟩ = some (.int .i64 m) := by rw [cell_at hb]; rfl
  clear hb
  go_wp2_with fail
  refine (M.out _).mono ?_
  rintro e w7 ⟨rfl, rfl⟩
  clear o0 o1 o2 o3 o4
  have hb := A.out.blk (g := w.heap.size) (vs := [.int .i64 5, .string nm, .string tx, .int .i64 n, .int .i64 m]) (t := 23) mem2
  have o0 : w7.cell? ⟨w.heap.size, 0, none⟩ = some (.int .i64 5) := by rw [cell_at hb]; rfl
  have o1 : w7.cell? ⟨w.heap.size, 1, none⟩ = some (.string nm) := by rw [cell_at hb]; rfl
  have o2 : w7.cell? ⟨w.heap.size, 2, none⟩ = some (.string tx) := by rw [cell_at hb]; rfl
  have o3 : w7.cell? ⟨w.heap.size, 3, none⟩ = some (.int .i64 n) := by rw [cell_at hb]; rfl
  have o4 : w7.cell? ⟨w.heap.size, 4, none⟩ = some (.int .i64 m) := by rw [cell_at hb]; rfl
  clear hb
  go_wp2
  go_end0
  exact ⟨rfl, _, A.out.swap.tail⟩

set_option maxHeartbeats 3200000 in
set_option maxRecDepth 1000000 in
theorem rput6 {b : Nat} {v : Value} {st : Option (List UInt8)} {cs : List Comp} {w : World} (h : All (xwC b v st :: cs) w) (nm tx : ByteArray) (n m : Int) (hn : n < 9223372036854775808) (hm : m < 9223372036854775808) (hlen : lenS st + nm.size + tx.size + 100 ≤ 140737488355328) :
    Calls Tryd.prog 18 #[.pointer (some ⟨b, 0, none⟩), opV 6 nm tx n m] w fun e w' => e = .returned (.tuple #[]) ∧ ∃ v', All (xwC b v' (if chkA 6 nm.size tx.size n m = 0 then putV 6 st nm tx n m else none) :: cs) w' := by
  have A := hid (h.addBlk [.int .i64 6, .string nm, .string tx, .int .i64 n, .int .i64 m] 23)
  clear h
  have N : ∀ W : World, Calls Tryd.prog 35 #[.int .i64 6] W fun e w' => e = .returned (.bool true) ∧ w' = W := fun W => hasName_any 6
  have T : ∀ W : World, Calls Tryd.prog 36 #[.int .i64 6] W fun e w' => e = .returned (.int .i64 (-1)) ∧ w' = W := fun W => textMost_any 6
  have M : ∀ W : World, Calls Tryd.prog 38 #[.int .i64 6] W fun e w' => e = .returned (.bool true) ∧ w' = W := fun W => hasNum_any 6
  have N := hid N
  have T := hid T
  have M := hid M
  by_cases h0 : chkA 6 nm.size tx.size n m = 0
  case neg =>
    rw [if_neg h0]
    have H0 := hid h0
    clear h0
    go_enter Tryd.func18, Tryd.ntmps18
    go_wp2_with fail
    refine (rcheck_any 6 nm tx n m).mono ?_
    rintro e w1 ⟨rfl, B⟩
    have A := hid (A.out.later B)
    clear B
    have h0 := H0.out
    generalize chkA 6 nm.size tx.size n m = ck at h0 ⊢
    have e0 : (ck != 0) = true := by simpa using h0
    clear h0
    go_wp2_with fail
    refine (xnumW A.out.swap (-1) (by omega) (by omega)).mono ?_
    rintro e w2 ⟨rfl, v2, A2⟩
    have A2 := hid A2
    clear A
    go_wp2
    refine bodyPost_ret (results_none rfl _ _ _) rfl ?_
    exact ⟨rfl, v2, A2.out.swap.tail⟩
  rw [if_pos h0]
  have H0 := hid h0
  clear h0
  go_enter Tryd.func18, Tryd.ntmps18
  go_wp2_with fail
  refine (rcheck_any 6 nm tx n m).mono ?_
  rw [H0.out]
  rintro e w1 ⟨rfl, B⟩
  have A := hid (A.out.later B).swap
  clear B H0
  have hb := A.out.blk (g := w.heap.size) (vs := [.int .i64 6, .string nm, .string tx, .int .i64 n, .int .i64 m]) (t := 23) mem2
  have o0 : w1.cell? ⟨w.heap.size, 0, none⟩ = some (.int .i64 6) := by rw [cell_at hb]; rfl
  have o1 : w1.cell? ⟨w.heap.size, 1, none⟩ = some (.string nm) := by rw [cell_at hb]; rfl
  have o2 : w1.cell? ⟨w.heap.size, 2, none⟩ = some (.string tx) := by rw [cell_at hb]; rfl
  have o3 : w1.cell? ⟨w.heap.size, 3, none⟩ = some (.int .i64 n) := by rw [cell_at hb]; rfl
  have o4 : w1.cell? ⟨w.heap.size, 4, none⟩ = some (.int .i64 m) := by rw [cell_at hb]; rfl
  clear hb
  go_wp2_with fail
  refine (xnatW A.out 6 (by omega) (by omega)).mono ?_
  rintro e w2 ⟨rfl, v2, A2⟩
  have A := hid A2
  clear A2 o0 o1 o2 o3 o4
  have L := hid (lenS_nat st 6)
  have hb := A.out.blk (g := w.heap.size) (vs := [.int .i64 6, .string nm, .string tx, .int .i64 n, .int .i64 m]) (t := 23) mem2
  have o0 : w2.cell? ⟨w.heap.size, 0, none⟩ = some (.int .i64 6) := by rw [cell_at hb]; rfl
  have o1 : w2.cell? ⟨w.heap.size, 1, none⟩ = some (.string nm) := by rw [cell_at hb]; rfl
  have o2 : w2.cell? ⟨w.heap.size, 2, none⟩ = some (.string tx) := by rw [cell_at hb]; rfl
  have o3 : w2.cell? ⟨w.heap.size, 3, none⟩ = some (.int .i64 n) := by rw [cell_at hb]; rfl
  have o4 : w2.cell? ⟨w.heap.size, 4, none⟩ = some (.int .i64 m) := by rw [cell_at hb]; rfl
  clear hb
  go_wp2_with fail
  refine (N.out _).mono ?_
  rintro e w3 ⟨rfl, rfl⟩
  go_wp2_with fail
  refine (xtextW A.out nm (by have := L.out; omega)).mono ?_
  rintro e w4 ⟨rfl, v4, A2⟩
  have A := hid A2
  clear A2 o0 o1 o2 o3 o4
  have L := hid (Nat.le_trans (lenS_txt (addS st (enc 9 6)) nm) (Nat.add_le_add_right L.out _))
  have hb := A.out.blk (g := w.heap.size) (vs := [.int .i64 6, .string nm, .string tx, .int .i64 n, .int .i64 m]) (t := 23) mem2
  have o0 : w4.cell? ⟨w.heap.size, 0, none⟩ = some (.int .i64 6) := by rw [cell_at hb]; rfl
  have o1 : w4.cell? ⟨w.heap.size, 1, none⟩ = some (.string nm) := by rw [cell_at hb]; rfl
  have o2 : w4.cell? ⟨w.heap.size, 2, none⟩ = some (.string tx) := by rw [cell_at hb]; rfl
  have o3 : w4.cell? ⟨w.heap.size, 3, none⟩ = some (.int .i64 n) := by rw [cell_at hb]; rfl
  have o4 : w4.cell? ⟨w.heap.size, 4, none⟩ = some (.int .i64 m) := by rw [cell_at hb]; rfl
  clear hb
  go_wp2_with fail
  refine (T.out _).mono ?_
  rintro e w5 ⟨rfl, rfl⟩
  clear o0 o1 o2 o3 o4
  have hb := A.out.blk (g := w.heap.size) (vs := [.int .i64 6, .string nm, .string tx, .int .i64 n, .int .i64 m]) (t := 23) mem2
  have o0 : w5.cell? ⟨w.heap.size, 0, none⟩ = some (.int .i64 6) := by rw [cell_at hb]; rfl
  have o1 : w5.cell? ⟨w.heap.size, 1, none⟩ = some (.string nm) := by rw [cell_at hb]; rfl
  have o2 : w5.cell? ⟨w.heap.size, 2, none⟩ = some (.string tx) := by rw [cell_at hb]; rfl
  have o3 : w5.cell? ⟨w.heap.size, 3, none⟩ = some (.int .i64 n) := by rw [cell_at hb]; rfl
  have o4 : w5.cell? ⟨w.heap.size, 4, none⟩ = some (.int .i64 m) := by rw [cell_at hb]; rfl
  clear hb
  go_wp2_with fail
  refine (M.out _).mono ?_
  rintro e w6 ⟨rfl, rfl⟩
  go_wp2_with fail
  refine (xnumW A.out n (by omega) (by have := L.out; omega)).mono ?_
  rintro e w7 ⟨rfl, v7, A2⟩
  have A := hid A2
  clear A2 o0 o1 o2 o3 o4
  have L := hid (Nat.le_trans (lenS_num (addS (addS st (enc 9 6)) (enc 9 nm.size ++ nm.data.toList)) n) (Nat.add_le_add_right L.out _))
  have hb := A.out.blk (g := w.heap.size) (vs := [.int .i64 6, .string nm, .string tx, .int .i64 n, .int .i64 m]) (t := 23) mem2
  have o0 : w7.cell? ⟨w.heap.size, 0, none⟩ = some (.int .i64 6) := by rw [cell_at hb]; rfl
  have o1 : w7.cell? ⟨w.heap.size, 1, none⟩ = some (.string nm) := by rw [cell_at hb]; rfl
  have o2 : w7.cell? ⟨w.heap.size, 2, none⟩ = some (.string tx) := by rw [cell_at hb]; rfl
  have o3 : w7.cell? ⟨w.heap.size, 3, none⟩ = some (.int .i64 n) := by rw [cell_at hb]; rfl
  have o4 : w7.cell? ⟨w.heap.size, 4, none⟩ = some (.int .i64 m) := by rw [cell_at hb]; rfl
  clear hb
  go_wp2_with fail
  refine (xnumW A.out m (by omega) (by have := L.out; omega)).mono ?_
  rintro e w8 ⟨rfl, v8, A2⟩
  have A := hid A2
  clear A2 o0 o1 o2 o3 o4
  have L := hid (Nat.le_trans (lenS_num (numS (addS (addS st (enc 9 6)) (enc 9 nm.size ++ nm.data.toList)) n) m) (Nat.add_le_add_right L.out _))
  go_wp2
  go_end0
  exact ⟨rfl, _, A.out.swap.tail⟩

set_option maxHeartbeats 3200000 in
set_option maxRecDepth 1000000 in
theorem rput7 {b : Nat} {v : Value} {st : Option (List UInt8)} {cs : List Comp} {w : World} (h : All (xwC b v st :: cs) w) (nm tx : ByteArray) (n m : Int) (hn : n < 9223372036854775808) (hm : m < 9223372036854775808) (hlen : lenS st + nm.size + tx.size + 100 ≤ 140737488355328) :
    Calls Tryd.prog 18 #[.pointer (some ⟨b, 0, none⟩), opV 7 nm tx n m] w fun e w' => e = .returned (.tuple #[]) ∧ ∃ v', All (xwC b v' (if chkA 7 nm.size tx.size n m = 0 then putV 7 st nm tx n m else none) :: cs) w' := by
  have A := hid (h.addBlk [.int .i64 7, .string nm, .string tx, .int .i64 n, .int .i64 m] 23)
  clear h
  have N : ∀ W : World, Calls Tryd.prog 35 #[.int .i64 7] W fun e w' => e = .returned (.bool true) ∧ w' = W := fun W => hasName_any 7
  have T : ∀ W : World, Calls Tryd.prog 36 #[.int .i64 7] W fun e w' => e = .returned (.int .i64 (-1)) ∧ w' = W := fun W => textMost_any 7
  have M : ∀ W : World, Calls Tryd.prog 38 #[.int .i64 7] W fun e w' => e = .returned (.bool false) ∧ w' = W := fun W => hasNum_any 7
  have N := hid N
  have T := hid T
  have M := hid M
  by_cases h0 : chkA 7 nm.size tx.size n m = 0
  case neg =>
    rw [if_neg h0]
    have H0 := hid h0
    clear h0
    go_enter Tryd.func18, Tryd.ntmps18
    go_wp2_with fail
    refine (rcheck_any 7 nm tx n m).mono ?_
    rintro e w1 ⟨rfl, B⟩
    have A := hid (A.out.later B)
    clear B
    have h0 := H0.out
    generalize chkA 7 nm.size tx.size n m = ck at h0 ⊢
    have e0 : (ck != 0) = true := by simpa using h0
    clear h0
    go_wp2_with fail
    refine (xnumW A.out.swap (-1) (by omega) (by omega)).mono ?_
    rintro e w2 ⟨rfl, v2, A2⟩
    have A2 := hid A2
    clear A
    go_wp2
    refine bodyPost_ret (results_none rfl _ _ _) rfl ?_
    exact ⟨rfl, v2, A2.out.swap.tail⟩
  rw [if_pos h0]
  have H0 := hid h0
  clear h0
  go_enter Tryd.func18, Tryd.ntmps18
  go_wp2_with fail
  refine (rcheck_any 7 nm tx n m).mono ?_
  rw [H0.out]
  rintro e w1 ⟨rfl, B⟩
  have A := hid (A.out.later B).swap
  clear B H0
  have hb := A.out.blk (g := w.heap.size) (vs := [.int .i64 7, .string nm, .string tx, .int .i64 n, .int .i64 m]) (t := 23) mem2
  have o0 : w1.cell? ⟨w.heap.size, 0, none⟩ = some (.int .i64 7) := by rw [cell_at hb]; rfl
  have o1 : w1.cell? ⟨w.heap.size, 1, none⟩ = some (.string nm) := by rw [cell_at hb]; rfl
  have o2 : w1.cell? ⟨w.heap.size, 2, none⟩ = some (.string tx) := by rw [cell_at hb]; rfl
  have o3 : w1.cell? ⟨w.heap.size, 3, none⟩ = some (.int .i64 n) := by rw [cell_at hb]; rfl
  have o4 : w1.cell? ⟨w.heap.size, 4, none⟩ = some (.int .i64 m) := by rw [cell_at hb]; rfl
  clear hb
  go_wp2_with fail
  refine (xnatW A.out 7 (by omega) (by omega)).mono ?_
  rintro e w2 ⟨rfl, v2, A2⟩
  have A := hid A2
  clear A2 o0 o1 o2 o3 o4
  have L := hid (lenS_nat st 7)
  have hb := A.out.blk (g := w.heap.size) (vs := [.int .i64 7, .string nm, .string tx, .int .i64 n, .int .i64 m]) (t := 23) mem2
  have o0 : w2.cell? ⟨w.heap.size, 0, none⟩ = some (.int .i64 7) := by rw [cell_at hb]; rfl
  have o1 : w2.cell? ⟨w.heap.size, 1, none⟩ = some (.string nm) := by rw [cell_at hb]; rfl
  have o2 : w2.cell? ⟨w.heap.size, 2, none⟩ = some (.string tx) := by rw [cell_at hb]; rfl
  have o3 : w2.cell? ⟨w.heap.size, 3, none⟩ = some (.int .i64 n) := by rw [cell_at hb]; rfl
  have o4 : w2.cell? ⟨w.heap.size, 4, none⟩ = some (.int .i64 m) := by rw [cell_at hb]; rfl
  clear hb
  go_wp2_with fail
  refine (N.out _).mono ?_
  rintro e w3 ⟨rfl, rfl⟩
  go_wp2_with fail
  refine (xtextW A.out nm (by have := L.out; omega)).mono ?_
  rintro e w4 ⟨rfl, v4, A2⟩
  have A := hid A2
  clear A2 o0 o1 o2 o3 o4
  have L := hid (Nat.le_trans (lenS_txt (addS st (enc 9 7)) nm) (Nat.add_le_add_right L.out _))
  have hb := A.out.blk (g := w.heap.size) (vs := [.int .i64 7, .string nm, .string tx, .int .i64 n, .int .i64 m]) (t := 23) mem2
  have o0 : w4.cell? ⟨w.heap.size, 0, none⟩ = some (.int .i64 7) := by rw [cell_at hb]; rfl
  have o1 : w4.cell? ⟨w.heap.size, 1, none⟩ = some (.string nm) := by rw [cell_at hb]; rfl
  have o2 : w4.cell? ⟨w.heap.size, 2, none⟩ = some (.string tx) := by rw [cell_at hb]; rfl
  have o3 : w4.cell? ⟨w.heap.size, 3, none⟩ = some (.int .i64 n) := by rw [cell_at hb]; rfl
  have o4 : w4.cell? ⟨w.heap.size, 4, none⟩ = some (.int .i64 m) := by rw [cell_at hb]; rfl
  clear hb
  go_wp2_with fail
  refine (T.out _).mono ?_
  rintro e w5 ⟨rfl, rfl⟩
  clear o0 o1 o2 o3 o4
  have hb := A.out.blk (g := w.heap.size) (vs := [.int .i64 7, .string nm, .string tx, .int .i64 n, .int .i64 m]) (t := 23) mem2
  have o0 : w5.cell? ⟨w.heap.size, 0, none⟩ = some (.int .i64 7) := by rw [cell_at hb]; rfl
  have o1 : w5.cell? ⟨w.heap.size, 1, none⟩ = some (.string nm) := by rw [cell_at hb]; rfl
  have o2 : w5.cell? ⟨w.heap.size, 2, none⟩ = some (.string tx) := by rw [cell_at hb]; rfl
  have o3 : w5.cell? ⟨w.heap.size, 3, none⟩ = some (.int .i64 n) := by rw [cell_at hb]; rfl
  have o4 : w5.cell? ⟨w.heap.size, 4, none⟩ = some (.int .i64 m) := by rw [cell_at hb]; rfl
  clear hb
  go_wp2_with fail
  refine (M.out _).mono ?_
  rintro e w6 ⟨rfl, rfl⟩
  clear o0 o1 o2 o3 o4
  have hb := A.out.blk (g := w.heap.size) (vs := [.int .i64 7, .string nm, .string tx, .int .i64 n, .int .i64 m]) (t := 23) mem2
  have o0 : w6.cell? ⟨w.heap.size, 0, none⟩ = some (.int .i64 7) := by rw [cell_at hb]; rfl
  have o1 : w6.cell? ⟨w.heap.size, 1, none⟩ = some (.string nm) := by rw [cell_at hb]; rfl
  have o2 : w6.cell? ⟨w.heap.size, 2, none⟩ = some (.string tx) := by rw [cell_at hb]; rfl
  have o3 : w6.cell? ⟨w.heap.size, 3, none⟩ = some (.int .i64 n) := by rw [cell_at hb]; rfl
  have o4 : w6.cell? ⟨w.heap.size, 4, none⟩ = some (.int .i64 m) := by rw [cell_at hb]; rfl
  clear hb
  go_wp2
  go_end0
  exact ⟨rfl, _, A.out.swap.tail⟩

set_option maxHeartbeats 3200000 in
set_option maxRecDepth 1000000 in
theorem rput8 {b : Nat} {v : Value} {st : Option (List UInt8)} {cs : List Comp} {w : World} (h : All (xwC b v st :: cs) w) (nm tx : ByteArray) (n m : Int) (hn : n < 9223372036854775808) (hm : m < 9223372036854775808) (hlen : lenS st + nm.size + tx.size + 100 ≤ 140737488355328) :
    Calls Tryd.prog 18 #[.pointer (some ⟨b, 0, none⟩), opV 8 nm tx n m] w fun e w' => e = .returned (.tuple #[]) ∧ ∃ v', All (xwC b v' (if chkA 8 nm.size tx.size n m = 0 then putV 8 st nm tx n m else none) :: cs) w' := by
  have A := hid (h.addBlk [.int .i64 8, .string nm, .string tx, .int .i64 n, .int .i64 m] 23)
  clear h
  have N : ∀ W : World, Calls Tryd.prog 35 #[.int .i64 8] W fun e w' => e = .returned (.bool false) ∧ w' = W := fun W => hasName_any 8
  have T : ∀ W : World, Calls Tryd.prog 36 #[.int .i64 8] W fun e w' => e = .returned (.int .i64 (-1)) ∧ w' = W := fun W => textMost_any 8
  have M : ∀ W : World, Calls Tryd.prog 38 #[.int .i64 8] W fun e w' => e = .returned (.bool false) ∧ w' = W := fun W => hasNum_any 8
  have N := hid N
  have T := hid T
  have M := hid M
  by_cases h0 : chkA 8 nm.size tx.size n m = 0
  case neg =>
    rw [if_neg h0]
    have H0 := hid h0
    clear h0
    go_enter Tryd.func18, Tryd.ntmps18
    go_wp2_with fail
    refine (rcheck_any 8 nm tx n m).mono ?_
    rintro e w1 ⟨rfl, B⟩
    have A := hid (A.out.later B)
    clear B
    have h0 := H0.out
    generalize chkA 8 nm.size tx.size n m = ck at h0 ⊢
    have e0 : (ck != 0) = true := by simpa using h0
    clear h0
    go_wp2_with fail
    refine (xnumW A.out.swap (-1) (by omega) (by omega)).mono ?_
    rintro e w2 ⟨rfl, v2, A2⟩
    have A2 := hid A2
    clear A
    go_wp2
    refine bodyPost_ret (results_none rfl _ _ _) rfl ?_
    exact ⟨rfl, v2, A2.out.swap.tail⟩
  rw [if_pos h0]
  have H0 := hid h0
  clear h0
  go_enter Tryd.func18, Tryd.ntmps18
  go_wp2_with fail
  refine (rcheck_any 8 nm tx n m).mono ?_
  rw [H0.out]
  rintro e w1 ⟨rfl, B⟩
  have A := hid (A.out.later B).swap
  clear B H0
  have hb := A.out.blk (g := w.heap.size) (vs := [.int .i64 8, .string nm, .string tx, .int .i64 n, .int .i64 m]) (t := 23) mem2
  have o0 : w1.cell? ⟨w.heap.size, 0, none⟩ = some (.int .i64 8) := by rw [cell_at hb]; rfl
  have o1 : w1.cell? ⟨w.heap.size, 1, none⟩ = some (.string nm) := by rw [cell_at hb]; rfl
  have o2 : w1.cell? ⟨w.heap.size, 2, none⟩ = some (.string tx) := by rw [cell_at hb]; rfl
  have o3 : w1.cell? ⟨w.heap.size, 3, none⟩ = some (.int .i64 n) := by rw [cell_at hb]; rfl
  have o4 : w1.cell? ⟨w.heap.size, 4, none⟩ = some (.int .i64 m) := by rw [cell_at hb]; rfl
  clear hb
  go_wp2_with fail
  refine (xnatW A.out 8 (by omega) (by omega)).mono ?_
  rintro e w2 ⟨rfl, v2, A2⟩
  have A := hid A2
  clear A2 o0 o1 o2 o3 o4
  have L := hid (lenS_nat st 8)
  have hb := A.out.blk (g := w.heap.size) (vs := [.int .i64 8, .string nm, .string tx, .int .i64 n, .int .i64 m]) (t := 23) mem2
  have o0 : w2.cell? ⟨w.heap.size, 0, none⟩ = some (.int .i64 8) := by rw [cell_at hb]; rfl
  have o1 : w2.cell? ⟨w.heap.size, 1, none⟩ = some (.string nm) := by rw [cell_at hb]; rfl
  have o2 : w2.cell? ⟨w.heap.size, 2, none⟩ = some (.string tx) := by rw [cell_at hb]; rfl
  have o3 : w2.cell? ⟨w.heap.size, 3, none⟩ = some (.int .i64 n) := by rw [cell_at hb]; rfl
  have o4 : w2.cell? ⟨w.heap.size, 4, none⟩ = some (.int .i64 m) := by rw [cell_at hb]; rfl
  clear hb
  go_wp2_with fail
  refine (N.out _).mono ?_
  rintro e w3 ⟨rfl, rfl⟩
  clear o0 o1 o2 o3 o4
  have hb := A.out.blk (g := w.heap.size) (vs := [.int .i64 8, .string nm, .string tx, .int .i64 n, .int .i64 m]) (t := 23) mem2
  have o0 : w3.cell? ⟨w.heap.size, 0, none⟩ = some (.int .i64 8) := by rw [cell_at hb]; rfl
  have o1 : w3.cell? ⟨w.heap.size, 1, none⟩ = some (.string nm) := by rw [cell_at hb]; rfl
  have o2 : w3.cell? ⟨w.heap.size, 2, none⟩ = some (.string tx) := by rw [cell_at hb]; rfl
  have o3 : w3.cell? ⟨w.heap.size, 3, none⟩ = some (.int .i64 n) := by rw [cell_at hb]; rfl
  have o4 : w3.cell? ⟨w.heap.size, 4, none⟩ = some (.int .i64 m) := by rw [cell_at hb]; rfl
  clear hb
  go_wp2_with fail
  refine (T.out _).mono ?_
  rintro e w4 ⟨rfl, rfl⟩
  clear o0 o1 o2 o3 o4
  have hb := A.out.blk (g := w.heap.size) (vs := [.int .i64 8, .string nm, .string tx, .int .i64 n, .int .i64 m]) (t := 23) mem2
  have o0 : w4.cell? ⟨w.heap.size, 0, none⟩ = some (.int .i64 8) := by rw [cell_at hb]; rfl
  have o1 : w4.cell? ⟨w.heap.size, 1, none⟩ = some (.string nm) := by rw [cell_at hb]; rfl
  have o2 : w4.cell? ⟨w.heap.size, 2, none⟩ = some (.string tx) := by rw [cell_at hb]; rfl
  have o3 : w4.cell? ⟨w.heap.size, 3, none⟩ = some (.int .i64 n) := by rw [cell_at hb]; rfl
  have o4 : w4.cell? ⟨w.heap.size, 4, none⟩ = some (.int .i64 m) := by rw [cell_at hb]; rfl
  clear hb
  go_wp2_with fail
  refine (M.out _).mono ?_
  rintro e w5 ⟨rfl, rfl⟩
  clear o0 o1 o2 o3 o4
  have hb := A.out.blk (g := w.heap.size) (vs := [.int .i64 8, .string nm, .string tx, .int .i64 n, .int .i64 m]) (t := 23) mem2
  have o0 : w5.cell? ⟨w.heap.size, 0, none⟩ = some (.int .i64 8) := by rw [cell_at hb]; rfl
  have o1 : w5.cell? ⟨w.heap.size, 1, none⟩ = some (.string nm) := by rw [cell_at hb]; rfl
  have o2 : w5.cell? ⟨w.heap.size, 2, none⟩ = some (.string tx) := by rw [cell_at hb]; rfl
  have o3 : w5.cell? ⟨w.heap.size, 3, none⟩ = some (.int .i64 n) := by rw [cell_at hb]; rfl
  have o4 : w5.cell? ⟨w.heap.size, 4, none⟩ = some (.int .i64 m) := by rw [cell_at hb]; rfl
  clear hb
  go_wp2
  go_end0
  exact ⟨rfl, _, A.out.swap.tail⟩
end Go.Proofs.YtkcepkehgkkkbaaDoor
