import Derived.Test.YtdhkdniddjnigaaGreatDoorGh
import Derived.Lib.SliceRun
import Derived.Laws.BitsAllLaws
namespace Go.Proofs.YtdhkdniddjnigaaGreatDoor
open Go.RowKit
set_option linter.unusedVariables false

/-- Cells that are written one behind the other. -/
def setAll (vs : List Value) (o : Nat) : List Value → List Value
  | [] => vs
  | u :: us => setAll (vs.set o u) (o + 1) us
theorem setAll_pre (a : List Value) : ∀ (us vs : List Value) (o : Nat), setAll (a ++ vs) (a.length + o) us = a ++ setAll vs o us
  | [], vs, o => rfl
  | u :: us, vs, o => by
    simp only [setAll]
    rw [List.set_append_right _ _ (by omega), Nat.add_sub_cancel_left, Nat.add_assoc]
    exact setAll_pre a us (vs.set o u) (o + 1)
theorem setAll_head : ∀ (us old rest : List Value), us.length = old.length → setAll (old ++ rest) 0 us = us ++ rest
  | [], [], rest, _ => rfl
  | u :: us, v :: old, rest, h => by
    simp only [setAll, List.cons_append, List.set_cons_zero]
    have := setAll_pre [u] us (old ++ rest) 0
    simp only [List.cons_append, List.nil_append, List.length_cons, List.length_nil, Nat.zero_add, Nat.add_zero] at this
    rw [Nat.zero_add, this, setAll_head us old rest (by simpa using h)]
theorem setAll_mid (a old us rest : List Value) (o : Nat) (ho : a.length = o) (hl : us.length = old.length) : setAll (a ++ (old ++ rest)) o us = a ++ (us ++ rest) := by
  subst ho
  have := setAll_pre a us (old ++ rest) 0
  rw [Nat.add_zero] at this
  rw [this, setAll_head us old rest hl]
theorem All.rowCut {e : TypeId} {size g n m c : Nat} {vs us : List Value} {cs : List Comp} {w : World} (h : All (rowC e size (.slice (some ⟨g, 0, none⟩) n c) n (vs ++ us) :: cs) w) (hm : m ≤ n) (hv : vs.length = m * size) : All (rowC e size (.slice (some ⟨g, 0, none⟩) m c) m vs :: cs) w := by
  have ho : w.ownsRow 0 e size (.slice (some ⟨g, 0, none⟩) n c) n (vs ++ us) := h.1.2.1
  refine ⟨⟨rowC_good _ _ _ _ _, ⟨hv, ?_⟩, fun k hk => h.1.2.2 k hk⟩, fun d hd k hk => h.2.1 d hd k hk, h.2.2⟩
  rcases ho.2 with ⟨e1, _⟩ | ⟨g', cap, cur, e1, h0, hg, hn, hmx, hcs, ht⟩
  · cases e1
  · simp only [Value.slice.injEq, Option.some.injEq, Addr.mk.injEq, and_true] at e1
    obtain ⟨rfl, -, rfl⟩ := e1
    refine Or.inr ⟨g, c, cur, rfl, h0, hg, by omega, hmx, hcs, ?_⟩
    have := congrArg (List.take (m * size)) ht
    rw [List.take_take, Nat.min_eq_left (Nat.mul_le_mul_right _ hm), show List.take (m * size) (vs ++ us) = vs by rw [← hv, List.take_left]] at this
    exact this

/-- One cell of a row. -/
theorem owns_set {e : TypeId} {size g n c j : Nat} {vs : List Value} {u : Value} {w : World} (h : w.ownsRow 0 e size (.slice (some ⟨g, 0, none⟩) n c) n vs) : (w.setCell ⟨g, j, none⟩ u).ownsRow 0 e size (.slice (some ⟨g, 0, none⟩) n c) n (vs.set j u) := by
  refine ⟨by rw [List.length_set]; exact h.1, ?_⟩
  rcases h.2 with ⟨e1, _⟩ | ⟨g', cap, cur, e1, h0, hg, hn, hm, hcs, ht⟩
  · cases e1
  · simp only [Value.slice.injEq, Option.some.injEq, Addr.mk.injEq, and_true] at e1
    obtain ⟨rfl, _, rfl⟩ := e1
    refine Or.inr ⟨g, c, cur.setIfInBounds j u, rfl, h0, heap_setCell_same hg u, hn, hm, by simpa using hcs, ?_⟩
    rw [Array.toList_setIfInBounds, List.take_set, ht]
theorem All.rowSet {e : TypeId} {size g n c : Nat} {vs : List Value} {cs : List Comp} {w : World} (h : All (rowC e size (.slice (some ⟨g, 0, none⟩) n c) n vs :: cs) w) (j : Nat) (u : Value) : All (rowC e size (.slice (some ⟨g, 0, none⟩) n c) n (vs.set j u) :: cs) (w.setCell ⟨g, j, none⟩ u) := by
  refine h.turn ?_ (rowC_good _ _ _ _ _) (owns_set h.1.2.1) (fun k hk => Or.inl hk) (fun k hk => ?_)
  · exact (Fr.setCell w g j u).mono (fun k hk => by simpa [rowC, Value.ownBlock, eq_comm] using hk)
  · have := h.1.2.2 k hk
    simpa [World.setCell] using this
theorem All.rowSets {e : TypeId} {size g n c : Nat} {cs : List Comp} : ∀ (us vs : List Value) (w : World) (o : Nat), All (rowC e size (.slice (some ⟨g, 0, none⟩) n c) n vs :: cs) w → All (rowC e size (.slice (some ⟨g, 0, none⟩) n c) n (setAll vs o us) :: cs) (w.setCells g o us)
  | [], vs, w, o, h => h
  | u :: us, vs, w, o, h => by
    rw [World.setCells]
    exact All.rowSets us (vs.set o u) _ (o + 1) (h.rowSet o u)

theorem Tryz.info136 : (Tryz.prog.info? 136).map (fun i => (i.zero, i.size, i.bytes)) = some (some (.agg #[.int .i64 0, .nilFunc]), 2, 16) := by kernel_rfl
def zW : List Value := [.int .i64 0, .nilFunc]
theorem clear_wi {w : World} (b o c : Nat) (ty : TypeId) (hc : ∀ j, j < 2 → (w.cell? ⟨b, o + j, none⟩).isSome = true) (hf : ∀ j, j < 2 → w.frozen? ⟨b, o + j, none⟩ = false) :
    (Builtin.clear_ #[75] ty #[.slice (some ⟨b, o, none⟩) 1 c]).run Tryz.prog w = .ok (.tuple #[]) (w.setCells b o zW) := by
  have hv : ∀ w, (zeroValue 136).run Tryz.prog w = .ok (.agg zW.toArray) w := Tryz.zeroValue136
  have hzc : (Builtin.zeroCells (Value.agg zW.toArray).cells 1).toList = zW := by kernel_rfl
  have hst := run_storeCells_cells (P := Tryz.prog) b o zW 0 w (by rw [show zW.length = 2 from rfl]; simpa using hc) (by rw [show zW.length = 2 from rfl]; simpa using hf) (by simp [zW, Value.oneCell'])
  simp only [Nat.add_zero] at hst
  simp [Builtin.clear_, run_underlying Tryz.underlying75, hv, hzc, hst]
theorem rowC_cells {w : World} {g c n : Nat} {vs : List Value} {cs : List Comp} (h : All (rowC 136 2 (.slice (some ⟨g, 0, none⟩) n c) n vs :: cs) w) : (∀ j u, vs[j]? = some u → w.cell? ⟨g, j, none⟩ = some u) ∧ (∀ j, j < n * 2 → (w.cell? ⟨g, j, none⟩).isSome = true ∧ w.frozen? ⟨g, j, none⟩ = false) ∧ vs.length = n * 2 ∧ n ≤ c ∧ c ≤ maxLen := by
  have ho : w.ownsRow 0 136 2 (.slice (some ⟨g, 0, none⟩) n c) n vs := h.1.2.1
  have hl := ho.1
  have hcap := row_cap ho
  refine ⟨fun j u hu => ?_, fun j hj => ?_, hl, hcap.2.1, hcap.2.2⟩
  · obtain ⟨g', e, _, hc⟩ := row_at ho hu
    simp only [Option.some.injEq, Addr.mk.injEq, and_true] at e
    subst e
    exact hc
  · rcases ho.2 with ⟨e1, _⟩ | ⟨g', cap, cur, e1, h0, hg, hn, hmx, hcs, ht⟩
    · cases e1
    · simp only [Value.slice.injEq, Option.some.injEq, Addr.mk.injEq, and_true] at e1
      obtain ⟨rfl, -, rfl⟩ := e1
      refine ⟨?_, free_at hg j⟩
      rw [cell_at hg, Array.getElem?_eq_getElem (by rw [hcs]; omega)]
      rfl
set_option maxHeartbeats 1600000 in
set_option maxRecDepth 1000000 in
/-- slices.Delete of the first one. -/
theorem del_first {g c n : Nat} {a b : Value} {us : List Value} {cs : List Comp} {w : World} (h : All (rowC 136 2 (.slice (some ⟨g, 0, none⟩) n c) n (a :: b :: us) :: cs) w) (hn : n ≤ 1024) (hone : ∀ u ∈ us, u.oneCell' = true) :
    Calls Tryz.prog 88 #[.slice (some ⟨g, 0, none⟩) n c, .int .i64 0, .int .i64 1] w fun e w' => e = .returned (.slice (some ⟨g, 0, none⟩) (n - 1) c) ∧ All (rowC 136 2 (.slice (some ⟨g, 0, none⟩) (n - 1) c) (n - 1) us :: cs) w' := by
  obtain ⟨i0, hi0, hz0, hz1, hz2⟩ := info_parts Tryz.info136
  obtain ⟨hcl, hth, hlen, hnc, hcm⟩ := rowC_cells h.drew
  simp only [List.length_cons] at hlen
  have hul : us.length = (n - 1) * 2 := by omega
  have hn1 : 1 ≤ n := by omega
  have A1 := All.rowSets us _ _ 0 h.drew
  have hspl : a :: b :: us = (a :: b :: us).take us.length ++ (a :: b :: us).drop us.length := (List.take_append_drop _ _).symm
  have hrl : ((a :: b :: us).drop us.length).length = 2 := by rw [List.length_drop]; simp only [List.length_cons]; omega
  have e1 : setAll (a :: b :: us) 0 us = us ++ (a :: b :: us).drop us.length := by
    conv => lhs; rw [hspl]
    exact setAll_head us _ _ (by rw [List.length_take]; simp only [List.length_cons]; omega)
  rw [e1] at A1
  obtain ⟨hcl2, hth2, _⟩ := rowC_cells A1
  have e2 : setAll (us ++ (a :: b :: us).drop us.length) ((n - 1) * 2) zW = us ++ zW := by
    have := setAll_mid us ((a :: b :: us).drop us.length) zW [] ((n - 1) * 2) hul (by rw [hrl]; rfl)
    simpa using this
  have A2 := All.rowSets zW _ _ ((n - 1) * 2) A1
  rw [e2] at A2
  have A3 := hid (A2.rowCut (m := n - 1) (by omega) hul)
  have hcr : ∀ ty, (Builtin.clear_ #[75] ty #[.slice (some ⟨g, (n - 1) * 2, none⟩) 1 (c - (n - 1))]).run Tryz.prog (w.drew.setCells g 0 us) = .ok (.tuple #[]) ((w.drew.setCells g 0 us).setCells g ((n - 1) * 2) zW) := fun ty => clear_wi _ _ _ ty (fun j hj => (hth2 _ (by omega)).1) (fun j hj => (hth2 _ (by omega)).2)
  have hR : ∃ A : Addr, (if c = 1 then some (⟨g, 0, none⟩ : Addr) else some ⟨g, 2, none⟩) = some A ∧ (Builtin.append_ #[75, 75] 75 #[.slice (some ⟨g, 0, none⟩) 0 c, .slice (some A) (n - 1) (c - 1)]).run Tryz.prog w.drew = .ok (.slice (some ⟨g, 0, none⟩) (n - 1) c) (w.drew.setCells g 0 us) := by
    have key : ∀ A : Addr, (∀ j u, us[j]? = some u → w.drew.cell? (A.add j) = some u) → (Builtin.append_ #[75, 75] 75 #[.slice (some ⟨g, 0, none⟩) 0 c, .slice (some A) (n - 1) (c - 1)]).run Tryz.prog w.drew = .ok (.slice (some ⟨g, 0, none⟩) (n - 1) c) (w.drew.setCells g 0 us) := by
      intro A hA
      have := run_append_room_cells (P := Tryz.prog) w.drew 75 75 136 i0 Tryz.underlying75 hi0 g 0 0 c A (n - 1) (c - 1) us (by rw [hz1]; exact hul) hA hone (by omega)
        (fun j hj => by simpa using (hth j (by omega)).1)
        (fun j hj => by simpa using (hth j (by omega)).2)
      simpa using this
    by_cases hcc : c = 1
    · refine ⟨⟨g, 0, none⟩, by rw [if_pos hcc], key _ (fun j u hu => ?_)⟩
      have : us = [] := List.length_eq_zero_iff.1 (by omega)
      rw [this] at hu
      simp at hu
    · refine ⟨⟨g, 2, none⟩, by rw [if_neg hcc], key _ (fun j u hu => ?_)⟩
      rw [Addr.add_lit, show 2 + j = j + 2 by omega]
      exact hcl (j + 2) u (by simpa using hu)
  obtain ⟨A, hA, hrun⟩ := hR
  have HR := hid hrun
  have HC := hid hcr
  unfold maxLen at hcm
  clear A1 A2 e1 e2 hcl hth hcl2 hth2 hspl hrl h hone hrun hlen hul hcr
  generalize w.drew.setCells g 0 us = w1 at *
  generalize w1.setCells g ((n - 1) * 2) zW = w2 at *
  have h2 : (n : Int) ≤ (c : Int) := by omega
  have h3 : ¬ n = 0 := by omega
  have h4 : ¬ c = n - 1 := by omega
  have h5 : n - (n - 1) = 1 := by omega
  have h6 : ((n - 1 : Nat) : Int) ≤ (n : Int) := by omega
  have h7 : (1 : Int) ≤ (n : Int) := by omega
  have h8 : (1 : Int) ≤ (c : Int) := by omega
  have HC := HC.out
  go_enter Tryz.func88, Tryz.ntmps88
  go_wp2_with fail
  go_region_law (refine step_append_run (by rfl) _ _ 75 (by rfl) _ _ _ _ (by rfl) (by rfl) HR.out ?_)
  all_goals (go_wp2; go_ret; exact ⟨rfl, A3.out⟩)
end Go.Proofs.YtdhkdniddjnigaaGreatDoor
