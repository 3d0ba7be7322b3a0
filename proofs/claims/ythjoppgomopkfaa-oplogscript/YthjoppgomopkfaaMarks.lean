import Derived.Test.YthjoppgomopkfaaDesk
namespace Go.Proofs.Ythjoppgomopkfaa
open Go.RowKit
set_option linter.unusedVariables false

theorem Try.info69 : (Try.prog.info? 69).map (fun i => (i.zero, i.size, i.bytes)) = some (some (.agg #[.slice none 0 0, .int .i64 0, .int .i64 0, .int .i64 0, .string ⟨#[]⟩, .string ⟨#[]⟩, .int .i64 0, .int .i64 0]), 8, 96) := by kernel_rfl
theorem Mk.one (x : Mk) : ∀ u ∈ x.cells, u.oneCell' = true := by
  intro u hu
  rcases List.mem_cons.1 hu with rfl | hu
  · rfl
  · exact (mark x.k).one u hu
theorem flatM_snoc (l : List Mk) (e : Mk) : flatM (l ++ [e]) = flatM l ++ e.cells := by simp [flatM]
/-- One list more that was handed out. -/
theorem app_mark {W : World} {K : Nat} {x : Mk} {v : Value} {l : List Mk} {cs : List Comp} (A : All (markC v l :: cs) W) (hK : W.heap[K]? = some (.cells x.cells.toArray 69 (0, 0))) (hlen : (l.length + 1) * 96 ≤ 140737488355328) :
    ∃ ao c w', (Builtin.append_ #[33, 33] 33 #[v, .slice (some ⟨K, 0, none⟩) 1 1]).run Try.prog W = .ok (.slice ao (l.length + 1) c) w' ∧ All (markC (.slice ao (l.length + 1) c) (l ++ [x]) :: cs) w' := by
  obtain ⟨i1, hi1, hz0, hz1, hz2⟩ := info_parts Try.info69
  obtain ⟨v', w', hr, h2, h3, h4, h5⟩ := run_append_own_at (P := Try.prog) W 0 33 33 69 i1 _ 8 96 Try.underlying33 hi1 hz0 hz1 hz2 rfl (by decide) v l.length (flatM l) A.1.2.1 ⟨K, 0, none⟩ 1 1 x.cells rfl
    (fun j u hu => by rw [Addr.add_lit, Nat.zero_add, cell_at hK]; exact (List.getElem?_toArray ..).trans hu) x.one (by unfold maxLen; omega) hlen (by omega)
  obtain ⟨ao, c, rfl⟩ := owns_form h2
  exact ⟨ao, c, w', hr, A.rowGrow (vs' := flatM (l ++ [x])) (n' := (l ++ [x]).length) (by rw [flatM_snoc, List.length_append]; exact h2) h3 h5⟩

theorem hd_open {D : Nat} {va vb vm : Value} {ga gb : List Value} {M : List Mk} {X : Mk} {LP RP Z : List Comp} {w : World} (h : All (X.comp :: (LP ++ (RP ++ (hdL D va vb vm ga gb M ++ Z)))) w) : All (markC vm M :: (blkC D [va, vb, vm] 35 :: (ownC 23 va ga :: ownC 27 vb gb :: (M.map Mk.comp ++ (X.comp :: (LP ++ (RP ++ Z))))))) w := by
  refine h.perm ?_
  have := perm_by 8 [[X.comp], LP, RP, [blkC D [va, vb, vm] 35], [ownC 23 va ga, ownC 27 vb gb], [markC vm M], M.map Mk.comp, Z] [5, 3, 4, 6, 0, 1, 2, 7] rfl (by decide)
  simpa [List.getD, hdL] using this
theorem hd_close {D : Nat} {va vb vm : Value} {ga gb : List Value} {M : List Mk} {X : Mk} {LP RP Z : List Comp} {w : World} (h : All (blkC D [va, vb, vm] 35 :: (markC vm (M ++ [X]) :: (ownC 23 va ga :: ownC 27 vb gb :: (M.map Mk.comp ++ (X.comp :: (LP ++ (RP ++ Z))))))) w) : All (LP ++ (RP ++ (hdL D va vb vm ga gb (M ++ [X]) ++ Z))) w := by
  refine h.perm ?_
  have := perm_by 8 [[blkC D [va, vb, vm] 35], [markC vm (M ++ [X])], [ownC 23 va ga, ownC 27 vb gb], M.map Mk.comp, [X.comp], LP, RP, Z] [5, 6, 0, 2, 1, 3, 4, 7] rfl (by decide)
  simpa [List.getD, hdL] using this
theorem mark_add {D : Nat} {va vb vm : Value} {ga gb : List Value} {M : List Mk} {X : Mk} {LP RP Z : List Comp} {w : World} (h : All (X.comp :: (LP ++ (RP ++ (hdL D va vb vm ga gb M ++ Z)))) w) (hlen : (M.length + 1) * 96 ≤ 140737488355328) :
    w.cell? ⟨D, 2, none⟩ = some vm ∧ w.frozen? ⟨D, 2, none⟩ = false ∧ D < w.heap.size ∧ (∃ ao c w3, (Builtin.append_ #[33, 33] 33 #[vm, .slice (some ⟨w.heap.size, 0, none⟩) 1 1]).run Try.prog (w.alloc (.cells X.cells.toArray 69)) = .ok (.slice ao (M.length + 1) c) w3 ∧ w3.cell? ⟨D, 2, none⟩ = some vm ∧ w3.frozen? ⟨D, 2, none⟩ = false ∧ Hid (All (LP ++ (RP ++ (hdL D va vb (.slice ao (M.length + 1) c) ga gb (M ++ [X]) ++ Z))) (w3.setCell ⟨D, 2, none⟩ (.slice ao (M.length + 1) c)))) := by
  have h1 := hd_open h
  have hD := h1.tail.1.2.1
  refine ⟨by rw [cell_at hD]; rfl, free_at hD 2, (Array.getElem?_eq_some_iff.1 hD).1, ?_⟩
  obtain ⟨ao, c, w3, hr, A⟩ := app_mark (h1.alloc (.cells X.cells.toArray 69)) (heap_alloc_new w _) hlen
  have hD3 := A.tail.1.2.1
  refine ⟨ao, c, w3, hr, by rw [cell_at hD3]; rfl, free_at hD3 2, hid ?_⟩
  exact hd_close (A.swap.setBlk 2 (.slice ao (M.length + 1) c))
end Go.Proofs.Ythjoppgomopkfaa
