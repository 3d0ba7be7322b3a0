import Derived.Test.YtkcepkehgkkkbaaGreatDoorMake
namespace Go.Proofs.YtkcepkehgkkkbaaGreatDoor
open Go.RowKit
set_option linter.unusedVariables false

theorem Tryz.info9 : (Tryz.prog.info? 9).map (fun i => (i.zero, i.size, i.bytes)) = some (some (.string ⟨#[]⟩), 1, 16) := by kernel_rfl
theorem Tryz.und39 : Tryz.prog.underlying 39 = some (.slice 9) := by kernel_rfl

abbrev txtV (l : List ByteArray) : List Value := l.map Value.string

/-- The one cell of a slot that holds the items is written. -/
theorem All.setI {P : Nat} {qs : List Qv} {cs : List Comp} {w : World} (h : All (blkC P (flat qs) 122 :: cs) w) {i : Nat} {q : Qv} (hq : qs[i]? = some q) (iv' : Value) :
    All (blkC P (flat (qs.set i ⟨q.nm, q.first, iv', q.gv⟩)) 122 :: cs) (w.setCell ⟨P, i * 4 + 2, none⟩ iv') := by
  have h2 := h.setBlk (i * 4 + 2) iv'
  rw [flat_set (v := iv') (j := 2) (q' := ⟨q.nm, q.first, iv', q.gv⟩) hq (by omega) rfl] at h2
  exact h2

/-- An item was laid behind a queue's own. -/
theorem push_after {P R i : Nat} {qs : List Qv} {a b c : Value} {ao : Option Addr} {cp : Nat} {items : List ByteArray} {tx : ByteArray} {cs : List Comp} {w w4 : World} {g cap : Nat} {q : Qv}
    (h : All (blkC R [a, b, c] 41 :: blkC P (flat qs) 122 :: ownC 9 (.slice ao items.length cp) (txtV items) :: cs) w) (hq : qs[i]? = some q)
    (hown : w4.ownsRow 0 9 1 (.slice (some ⟨g, 0, none⟩) (items.length + 1) cap) (items.length + 1) (txtV items ++ [.string tx])) (hg : (w.alloc (.cells #[.string tx] 9)).grownBy w4 (Value.ownBlock (.slice ao items.length cp))) (hat : Value.ownBlock (.slice ao items.length cp) = some g ∨ g = w.heap.size + 1) :
    Hid (All (blkC P (flat qs) 122 :: ownC 9 (.slice (some ⟨g, 0, none⟩) (items.length + 1) cap) (txtV (items ++ [tx])) :: blkC R [a, b, c] 41 :: cs) w4) ∧ w4.cell? ⟨P, i * 4 + 2, none⟩ = some q.iv ∧ w4.frozen? ⟨P, i * 4 + 2, none⟩ = false := by
  have h1 := (h.alloc (.cells #[.string tx] 9)).perm (ds := ownC 9 (.slice ao items.length cp) (txtV items) :: blkC R [a, b, c] 41 :: blkC P (flat qs) 122 :: cs) (List.perm_middle (l₁ := [blkC R [a, b, c] 41, blkC P (flat qs) 122]))
  have e : txtV items ++ [.string tx] = txtV (items ++ [tx]) := by simp [txtV]
  have el : (txtV (items ++ [tx])).length = items.length + 1 := by simp [txtV]
  rw [e] at hown
  have h2 := h1.ownGrow (v' := .slice (some ⟨g, 0, none⟩) (items.length + 1) cap) (vs' := txtV (items ++ [tx])) (base := 0) (by rw [el]; exact hown) hg (by
    rcases hat with e | e
    · exact Or.inl e.symm
    · right; simp [Value.ownBlock, e])
  have h3 := h2.perm (ds := blkC P (flat qs) 122 :: ownC 9 (.slice (some ⟨g, 0, none⟩) (items.length + 1) cap) (txtV (items ++ [tx])) :: blkC R [a, b, c] 41 :: cs) (List.perm_middle (l₁ := [ownC 9 (.slice (some ⟨g, 0, none⟩) (items.length + 1) cap) (txtV (items ++ [tx])), blkC R [a, b, c] 41]))
  exact ⟨h3, h3.q2 List.mem_cons_self hq, h3.free4 List.mem_cons_self _⟩

set_option maxHeartbeats 3200000 in
set_option maxRecDepth 1000000 in
theorem push_ok {P : Nat} {qs : List Qv} {cs : List Comp} {w : World} {i : Nat} {q : Qv} {items : List ByteArray} (h : All (blkC P (flat qs) 122 :: ownC 9 q.iv (txtV items) :: cs) w) (h8 : qs.length = 8) (hq : qs[i]? = some q) (hl : items.length < 32) (hf0 : 0 ≤ q.first) (hf1 : q.first + items.length < 1099511627776) (k : Int) (nm tx : ByteArray) (n m : Int) :
    Calls Tryz.prog 134 #[.pointer (some ⟨P, 0, none⟩), .int .i64 i, opV k nm tx n m] w fun e w' => ∃ iv', e = .returned (.tuple #[resV 0 (q.first + items.length) (.slice none 0 0), .int .i64 i]) ∧ All (blkC P (flat (qs.set i ⟨q.nm, q.first, iv', q.gv⟩)) 122 :: ownC 9 iv' (txtV (items ++ [tx])) :: cs) w' := by
  have hi8 : i < 8 := by have := (List.getElem?_eq_some_iff.1 hq).1; omega
  obtain ⟨i0, hi, hz0, hz1, hz2⟩ := info_parts Tryz.info9
  obtain ⟨nm0, first, iv, gv⟩ := q
  simp only at h hf0 hf1
  have hrow : w.ownsRow 0 9 1 iv (txtV items).length (txtV items) := h.2.2.1.2.1
  obtain ⟨ao, c, eo⟩ := owns_form hrow
  rw [List.length_map] at eo
  subst eo
  have hsz : (w.alloc (opB k nm tx n m)).heap.size = w.heap.size + 1 := by simp
  have H1 := hid (((h.alloc (opB k nm tx n m)).addBlk [.int .i64 0, .int .i64 0, .slice none 0 0] 41))
  rw [hsz] at H1
  have HO := heap_alloc_new w (opB k nm tx n m)
  have o2 : ((w.alloc (opB k nm tx n m)).alloc (.cells [Value.int .i64 0, .int .i64 0, .slice none 0 0].toArray 41)).cell? ⟨w.heap.size, 2, none⟩ = some (.string tx) := cell_under (ba _ _) (by simp) (by rw [cell_at HO]; rfl)
  have HQ := hid hq
  have i1 : (0 : Int) ≤ (i : Int) := by omega
  have i2 : (i : Int) < 8 := by omega
  have i3 : ¬ (i : Int) < 0 := by omega
  have e32 : ((items.length : Int) == 32) = false := by rw [beq_eq_false_iff_ne]; omega
  have eM : ((first + (items.length : Int)) == 1099511627776) = false := by rw [beq_eq_false_iff_ne]; omega
  clear h hq hsz HO hrow
  go_enter Tryz.func134, Tryz.ntmps134
  go_wp2_with fail
  refine (end_q (i := i) (H1.out.q1 (List.mem_cons_of_mem _ List.mem_cons_self) HQ.out) (H1.out.q2 (List.mem_cons_of_mem _ List.mem_cons_self) HQ.out) hf0 (by simp only; omega)).mono ?_
  rintro e w1 ⟨rfl, nq, hw⟩
  have o2 : w1.cell? ⟨w.heap.size, 2, none⟩ = some (.string tx) := by rw [hw]; exact o2
  have H1 := hid (show All (blkC (w.heap.size + 1) [.int .i64 0, .int .i64 0, .slice none 0 0] 41 :: blkC P (flat qs) 122 :: ownC 9 (.slice ao items.length c) (txtV items) :: cs) w1 from by rw [hw]; exact H1.out.drewN nq)
  clear hw
  have s2 := H1.out.q2 (List.mem_cons_of_mem _ List.mem_cons_self) HQ.out
  have f2 := H1.out.free4 (qs := qs) (P := P) (List.mem_cons_of_mem _ List.mem_cons_self) (i * 4 + 2)
  have hP : P < w1.heap.size := (H1.out.mem (List.mem_cons_of_mem _ List.mem_cons_self)).2.2 P (by simp [blkC])
  have R := hid (show w1.drew.ownsRow 0 9 1 (.slice ao items.length c) items.length (txtV items) from by have := (H1.out.drew).2.2.2.2.1.2.1; simpa [ownC] using this)
  have H2 := hid H1.out.drew
  clear H1
  go_wp2
  go_region_law (refine step_append_lies _ (by rfl) (.tmp 32) (.tmp 35) 39 (by rfl) 0 9 i0 (.string ⟨#[]⟩) 1 16 Tryz.und39 hi hz0 hz1 hz2 rfl (by decide) (.slice ao items.length c) items.length (txtV items) (by rfl) (R.out.alloc _) ⟨w1.heap.size, 0, none⟩ 1 1 [.string tx] (by rfl) rfl (cell_one_new _ _ _) (fun u hu => by simp at hu; subst hu; rfl) (by omega) (by unfold maxLen; omega) (by omega) (by omega) (w1.heap.size + 1) (by simp) ?_; intro g cap w4 hown hgr hat hlt4; obtain ⟨A5, q2, f5⟩ := push_after H2.out HQ.out hown hgr hat; clear hown hgr hat hlt4)
  all_goals (
    have A6 := hid (A5.out.setI HQ.out (.slice (some ⟨g, 0, none⟩) (items.length + 1) cap))
    generalize w4.setCell ⟨P, i * 4 + 2, none⟩ (.slice (some ⟨g, 0, none⟩) (items.length + 1) cap) = w5 at A6 ⊢
    clear A5 q2 f5 H2 R o2 s2 f2
    have A7 := hid (A6.out.perm (ds := blkC (w.heap.size + 1) [.int .i64 0, .int .i64 0, .slice none 0 0] 41 :: blkC P (flat (qs.set i ⟨nm0, first, .slice (some ⟨g, 0, none⟩) (items.length + 1) cap, gv⟩)) 122 :: ownC 9 (.slice (some ⟨g, 0, none⟩) (items.length + 1) cap) (txtV (items ++ [tx])) :: cs) (List.perm_middle (l₁ := [blkC P (flat (qs.set i ⟨nm0, first, .slice (some ⟨g, 0, none⟩) (items.length + 1) cap, gv⟩)) 122, ownC 9 (.slice (some ⟨g, 0, none⟩) (items.length + 1) cap) (txtV (items ++ [tx]))])))
    clear A6
    have r0 := A7.out.r0
    have r1 := A7.out.r1
    have r2 := A7.out.r2
    have g0 := A7.out.rf 0
    have g1 := A7.out.rf 1
    have g2 := A7.out.rf 2
    have A8 := hid (A7.out.setR (.int .i64 0) (.int .i64 (first + items.length)) (.slice none 0 0))
    clear A7
    go_wp2
    generalize (((w5.setCell ⟨w.heap.size + 1, 0, none⟩ (.int .i64 0)).setCell ⟨w.heap.size + 1, 1, none⟩ (.int .i64 (first + items.length))).setCell ⟨w.heap.size + 1, 2, none⟩ (.slice none 0 0)) = w6 at A8 ⊢
    clear r0 r1 r2
    have r0 := A8.out.r0
    have r1 := A8.out.r1
    have r2 := A8.out.r2
    refine bodyPost_ret (v := .tuple #[resV 0 (first + items.length) (.slice none 0 0), .int .i64 i]) (by rw [results_cell_tmp rfl]; go_simp) rfl ?_
    exact ⟨_, rfl, A8.out.tail⟩)
end Go.Proofs.YtkcepkehgkkkbaaGreatDoor
