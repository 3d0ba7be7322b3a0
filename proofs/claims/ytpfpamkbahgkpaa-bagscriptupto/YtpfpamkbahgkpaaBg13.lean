import Derived.Test.YtpfpamkbahgkpaaBg12
import Derived.Lib.SliceRun
namespace Go.Proofs.Ytpfpamkbahgkpaa
open Go.RowKit
set_option linter.unusedVariables false

theorem clear_pk {w : World} (b o c : Nat) (ty : TypeId) (hc : ∀ j, j < 6 → (w.cell? ⟨b, o + j, none⟩).isSome = true) (hf : ∀ j, j < 6 → w.frozen? ⟨b, o + j, none⟩ = false) :
    (Builtin.clear_ #[39] ty #[.slice (some ⟨b, o, none⟩) 1 c]).run Try.prog w = .ok (.tuple #[]) (w.setCells b o Pk.zero.cells) := by
  have hv : ∀ w, (zeroValue 49).run Try.prog w = .ok (.agg Pk.zero.cells.toArray) w := Try.zeroValue49
  have hzc : (Builtin.zeroCells (Value.agg Pk.zero.cells.toArray).cells 1).toList = Pk.zero.cells := by kernel_rfl
  have hst := run_storeCells_cells (P := Try.prog) b o Pk.zero.cells 0 w (by rw [show Pk.zero.cells.length = 6 from rfl]; simpa using hc) (by rw [show Pk.zero.cells.length = 6 from rfl]; simpa using hf) Pk.zero.one
  simp only [Nat.add_zero] at hst
  simp [Builtin.clear_, run_underlying Try.underlying39, hv, hzc, hst]

theorem setAll_mid (a old us rest : List Value) (o : Nat) (ho : a.length = o) (hl : us.length = old.length) : setAll (a ++ (old ++ rest)) o us = a ++ (us ++ rest) := by
  subst ho
  have := setAll_pre a us (old ++ rest) 0
  rw [Nat.add_zero] at this
  rw [this, setAll_head us old rest hl]
/-- What stands behind a place moves up. -/
theorem del_cells (ps : List Pk) (i : Nat) (hi : i < ps.length) : ∃ last : List Value, last.length = 6 ∧ setAll (flatP ps) (i * 6) (flatP (ps.drop (i + 1))) = flatP (ps.eraseIdx i) ++ last ∧ setAll (flatP (ps.eraseIdx i) ++ last) ((ps.length - 1) * 6) Pk.zero.cells = flatP (ps.eraseIdx i) ++ Pk.zero.cells := by
  have hd : (flatP (ps.drop i)).length = (ps.length - i) * 6 := by rw [flatP_len, List.length_drop]
  have hd1 : (flatP (ps.drop (i + 1))).length = (ps.length - (i + 1)) * 6 := by rw [flatP_len, List.length_drop]
  have hc : flatP (ps.drop i) = (flatP (ps.drop i)).take ((ps.length - (i + 1)) * 6) ++ (flatP (ps.drop i)).drop ((ps.length - (i + 1)) * 6) := (List.take_append_drop _ _).symm
  have he : flatP (ps.eraseIdx i) = flatP (ps.take i) ++ flatP (ps.drop (i + 1)) := by rw [List.eraseIdx_eq_take_drop_succ, flatP_append]
  refine ⟨(flatP (ps.drop i)).drop ((ps.length - (i + 1)) * 6), by rw [List.length_drop, hd]; omega, ?_, ?_⟩
  · have h0 : flatP ps = flatP (ps.take i) ++ flatP (ps.drop i) := by rw [← flatP_append, List.take_append_drop]
    rw [h0, hc, setAll_mid _ _ _ _ _ (by rw [flatP_len, List.length_take, Nat.min_eq_left (by omega)]) (by rw [hd1, List.length_take, hd]; omega), he, List.append_assoc, ← hc]
  · have h6 : ((flatP (ps.drop i)).drop ((ps.length - (i + 1)) * 6)).length = 6 := by rw [List.length_drop, hd]; omega
    have := setAll_mid (flatP (ps.eraseIdx i)) ((flatP (ps.drop i)).drop ((ps.length - (i + 1)) * 6)) Pk.zero.cells [] ((ps.length - 1) * 6) (by rw [flatP_len, List.length_eraseIdx, if_pos hi]) (by rw [h6]; rfl)
    simpa using this
theorem All.rowCut {e : TypeId} {size g n m c : Nat} {vs us : List Value} {cs : List Comp} {w : World} (h : All (rowC e size (.slice (some ⟨g, 0, none⟩) n c) n (vs ++ us) :: cs) w) (hm : m ≤ n) (hv : vs.length = m * size) : All (rowC e size (.slice (some ⟨g, 0, none⟩) m c) m vs :: cs) w := by
  have ho : w.ownsRow 0 e size (.slice (some ⟨g, 0, none⟩) n c) n (vs ++ us) := h.1.2.1
  refine ⟨⟨rowC_good _ _ _ _ _, ⟨hv, ?_⟩, fun k hk => h.1.2.2 k hk⟩, fun d hd k hk => h.2.1 d hd k hk, h.2.2⟩
  rcases ho.2 with ⟨e1, _⟩ | ⟨g', cap, cur, e1, h0, hg, hn, hmx, hcs, ht⟩
  · cases e1
  · simp only [Value.slice.injEq, Option.some.injEq, Addr.mk.injEq, and_true] at e1
    obtain ⟨rfl, -, rfl⟩ := e1
    refine Or.inr ⟨g, c, cur, rfl, h0, hg, by omega, hmx, hcs, ?_⟩
    have := congrArg (List.take (m * size)) ht
    rw [List.take_take, Nat.min_eq_left (Nat.mul_le_mul_right _ hm), show List.take (m * size) (vs ++ us) = vs by rw [← hv, List.take_left]] at this
    exact this

set_option maxHeartbeats 1600000 in
set_option maxRecDepth 1000000 in
/-- slices.Delete of one packet. -/
theorem del_any {g c i : Nat} {ps : List Pk} {cs : List Comp} {w : World} (h : All (pkC (.slice (some ⟨g, 0, none⟩) ps.length c) ps :: cs) w) (hn : ps.length ≤ 1024) (hc : ps.length ≤ c) (hcm : c ≤ maxLen) (hi : i < ps.length) :
    Calls Try.prog 50 #[.slice (some ⟨g, 0, none⟩) ps.length c, .int .i64 (i : Int), .int .i64 ((i : Int) + 1)] w fun e w' => e = .returned (.slice (some ⟨g, 0, none⟩) (ps.length - 1) c) ∧ All (pkC (.slice (some ⟨g, 0, none⟩) (ps.length - 1) c) (ps.eraseIdx i) :: cs) w' := by
  obtain ⟨i0, hi0, hz0, hz1, hz2⟩ := info_parts Try.info49
  obtain ⟨last, hl6, e1, e2⟩ := del_cells ps i hi
  have hel : (ps.eraseIdx i).length = ps.length - 1 := by rw [List.length_eraseIdx, if_pos hi]
  have hrow : w.ownsRow 0 49 6 (.slice (some ⟨g, 0, none⟩) ps.length c) ps.length (flatP ps) := h.1.2.1
  have hcells := owns_cells (w := w.drew) (h.drew.1.2.1)
  have A1 := All.rowSets (flatP (ps.drop (i + 1))) _ _ (i * 6) h.drew
  rw [e1] at A1
  have hthere : ∀ W : World, W.ownsRow 0 49 6 (.slice (some ⟨g, 0, none⟩) ps.length c) ps.length (flatP (ps.eraseIdx i) ++ last) ∨ W.ownsRow 0 49 6 (.slice (some ⟨g, 0, none⟩) ps.length c) ps.length (flatP ps) → ∀ j, j < ps.length * 6 → (W.cell? ⟨g, j, none⟩).isSome = true ∧ W.frozen? ⟨g, j, none⟩ = false := by
    intro W ho j hj
    have key : ∀ vs, W.ownsRow 0 49 6 (.slice (some ⟨g, 0, none⟩) ps.length c) ps.length vs → (W.cell? ⟨g, j, none⟩).isSome = true ∧ W.frozen? ⟨g, j, none⟩ = false := by
      intro vs ho
      rcases ho.2 with ⟨e1, _⟩ | ⟨g', cap, cur, e1, h0, hg, hn, hmx, hcs, ht⟩
      · cases e1
      · simp only [Value.slice.injEq, Option.some.injEq, Addr.mk.injEq, and_true] at e1
        obtain ⟨rfl, -, rfl⟩ := e1
        refine ⟨?_, free_at hg j⟩
        rw [cell_at hg, Array.getElem?_eq_getElem (by rw [hcs]; omega)]
        rfl
    rcases ho with ho | ho
    · exact key _ ho
    · exact key _ ho
  have hR : ∃ A : Addr, (if c = i + 1 then some (⟨g, 0, none⟩ : Addr) else some ⟨g, (i + 1) * 6, none⟩) = some A ∧ (Builtin.append_ #[39, 39] 39 #[.slice (some ⟨g, 0, none⟩) i c, .slice (some A) (ps.length - (i + 1)) (c - (i + 1))]).run Try.prog w.drew = .ok (.slice (some ⟨g, 0, none⟩) (i + (ps.length - (i + 1))) c) (w.drew.setCells g (i * 6) (flatP (ps.drop (i + 1)))) := by
    have hln : (flatP (ps.drop (i + 1))).length = (ps.length - (i + 1)) * 6 := by rw [flatP_len, List.length_drop]
    have key : ∀ A : Addr, (∀ j u, (flatP (ps.drop (i + 1)))[j]? = some u → w.drew.cell? (A.add j) = some u) → (Builtin.append_ #[39, 39] 39 #[.slice (some ⟨g, 0, none⟩) i c, .slice (some A) (ps.length - (i + 1)) (c - (i + 1))]).run Try.prog w.drew = .ok (.slice (some ⟨g, 0, none⟩) (i + (ps.length - (i + 1))) c) (w.drew.setCells g (i * 6) (flatP (ps.drop (i + 1)))) := by
      intro A hA
      have := run_append_room_cells (P := Try.prog) w.drew 39 39 49 i0 Try.underlying39 hi0 g 0 i c A (ps.length - (i + 1)) (c - (i + 1)) (flatP (ps.drop (i + 1))) (by rw [hz1]; exact hln) hA (flatP_one _) (by omega)
        (fun j hj => by rw [hz1, Nat.zero_add]; rw [hln] at hj; exact (hthere w.drew (Or.inr h.drew.1.2.1) _ (by omega)).1)
        (fun j hj => by rw [hz1, Nat.zero_add]; rw [hln] at hj; exact (hthere w.drew (Or.inr h.drew.1.2.1) _ (by omega)).2)
      rw [hz1, Nat.zero_add] at this
      exact this
    by_cases hcc : c = i + 1
    · refine ⟨⟨g, 0, none⟩, by rw [if_pos hcc], key _ (fun j u hu => ?_)⟩
      have : (flatP (ps.drop (i + 1))) = [] := List.length_eq_zero_iff.1 (by rw [hln]; omega)
      rw [this] at hu
      simp at hu
    · refine ⟨⟨g, (i + 1) * 6, none⟩, by rw [if_neg hcc], key _ (fun j u hu => ?_)⟩
      rw [← flatP_drop, List.getElem?_drop] at hu
      have := hcells _ u hu
      rw [Addr.add_lit, Nat.zero_add] at this
      rw [Addr.add_lit]
      exact this
  obtain ⟨A, hA, hrun⟩ := hR
  have hcl : ∀ ty, (Builtin.clear_ #[39] ty #[.slice (some ⟨g, (ps.length - 1) * 6, none⟩) 1 (c - (ps.length - 1))]).run Try.prog (w.drew.setCells g (i * 6) (flatP (ps.drop (i + 1)))) = .ok (.tuple #[]) ((w.drew.setCells g (i * 6) (flatP (ps.drop (i + 1)))).setCells g ((ps.length - 1) * 6) Pk.zero.cells) := fun ty => clear_pk _ _ _ ty (fun j hj => (hthere _ (Or.inl A1.1.2.1) _ (by omega)).1) (fun j hj => (hthere _ (Or.inl A1.1.2.1) _ (by omega)).2)
  have A2 := All.rowSets Pk.zero.cells _ _ ((ps.length - 1) * 6) A1
  rw [e2] at A2
  have A3 : All (pkC (.slice (some ⟨g, 0, none⟩) (ps.length - 1) c) (ps.eraseIdx i) :: cs) ((w.drew.setCells g (i * 6) (flatP (ps.drop (i + 1)))).setCells g ((ps.length - 1) * 6) Pk.zero.cells) := by
    have := A2.rowCut (m := ps.length - 1) (by omega) (by rw [flatP_len, hel])
    simp only [pkC, hel]
    exact this
  have A3 := hid A3
  have HR := hid hrun
  rw [show i + (ps.length - (i + 1)) = ps.length - 1 by omega] at HR
  unfold maxLen at hcm
  clear A1 A2 e1 e2 hthere hcells hrow h hl6 hel hrun
  generalize (w.drew.setCells g (i * 6) (flatP (ps.drop (i + 1)))) = w1 at *
  generalize w1.setCells g ((ps.length - 1) * 6) Pk.zero.cells = w2 at *
  generalize ps.length = n at *
  have h1 : (i : Int) + 1 ≤ (n : Int) := by omega
  have h2 : (n : Int) ≤ (c : Int) := by omega
  have h3 : ¬ n = i := by omega
  have h4 : ¬ c = n - 1 := by omega
  have h5 : n - (n - 1) = 1 := by omega
  have h6 : ((n - 1 : Nat) : Int) ≤ (n : Int) := by omega
  have h7 : (i : Int) ≤ (c : Int) := by omega
  have h8 : (i : Int) + 1 ≤ (c : Int) := by omega
  have h9 : (0 : Int) ≤ (i : Int) + 1 := by omega
  go_enter Try.func50, Try.ntmps50
  go_wp2_with fail
  go_region_law (refine step_append_run (by rfl) _ _ 39 (by rfl) _ _ _ _ (by rfl) (by rfl) HR.out ?_)
  all_goals (go_wp2; go_ret; exact ⟨rfl, A3.out⟩)
end Go.Proofs.Ytpfpamkbahgkpaa
