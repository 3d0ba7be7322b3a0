import Derived.Test.YtphcfkfdkaphbaaRefD
import Derived.Deep.RegionHeld3
import Derived.Deep.DeepCutAuto
import Derived.Laws.AppendOwnNone
namespace Go.Proofs.Ytphcfkfdkaphbaa
open Go.RowKit
set_option linter.unusedVariables false

theorem wpList_append_run {P : Program} {w : World} {ops : Array Oper} {rest : List Oper} {o : Oper} {a : Act} {Q : Exit → Act → World → Prop} (hgd : o.guard = none) (s x : Operand) (t : TypeId)
    (ho : o.op = .call { callee := .builtin .append, args := #[s, x], argTypes := #[t, t] }) (v1 v2 v' : Value) (w' : World) (hs : a.eval s = v1) (hx : a.eval x = v2)
    (hr : (Builtin.append_ #[t, t] o.type #[v1, v2]).run P w = .ok v' w') (h : wpList P ops Q rest (a.put o.dst v') w') : wpList P ops Q (o :: rest) a w := by
  refine wpList_plain hgd fun K hK => ?_
  unfold Oper.wp execOp
  simp only [ho, resolve, invoke, builtin, Sem.run_bind, Sem.run_pure, Result.andThen_ok, List.map_toArray, List.map_cons, List.map_nil, hs, hx, hr]
  exact hK _ _ h
/-- An append, in a region that draws. -/
theorem step_append_run {P : Program} {w : World} {ops : Array Oper} {o : Oper} {a : Act} {K : Act → World → Prop} {Q : Exit → Act → World → Prop} {E : Prop} (hgd : o.guard = none) (s x : Operand) (t : TypeId)
    (ho : o.op = .call { callee := .builtin .append, args := #[s, x], argTypes := #[t, t] }) (v1 v2 v' : Value) (w' : World) (hs : a.eval s = v1) (hx : a.eval x = v2)
    (hr : (Builtin.append_ #[t, t] o.type #[v1, v2]).run P w = .ok v' w') (h : K (a.put o.dst v') w') :
    if Region.wanted o (yielded ops a.tmps) = true then Oper.wp P o a w K Q else E := by
  have hw : Region.wanted o (yielded ops a.tmps) = true := by simp [Region.wanted, hgd]
  rw [if_pos hw]
  unfold Oper.wp execOp
  simp only [ho, resolve, invoke, builtin, Sem.run_bind, Sem.run_pure, Result.andThen_ok, List.map_toArray, List.map_cons, List.map_nil, hs, hx, hr]
  exact h

theorem flatT_one (ts : List Tm) : ∀ u ∈ flatT ts, u.oneCell' = true := by
  intro u hu
  obtain ⟨e, _, h⟩ := List.mem_flatMap.1 hu
  exact cells_one e u h
theorem app_tms {W : World} {v : Value} {ts : List Tm} (hs : W.ownsRow 0 101 3 v ts.length (flatT ts)) (hl : ts.length ≤ 1048576) :
    ∃ ao c w', (Builtin.append_ #[28, 28] 28 #[.slice none 0 0, v]).run Try.prog W = .ok (.slice ao ts.length c) w' ∧ Below W.heap.size W w' ∧ w'.ownsRow W.heap.size 101 3 (.slice ao ts.length c) ts.length (flatT ts) := by
  obtain ⟨i1, hi1, hz0, hz1, hz2⟩ := info_parts Try.info101
  rcases hs.2 with ⟨rfl, e⟩ | ⟨g, cap, cur, rfl, _, hg, hn, hm, hcs, ht⟩
  · have : ts = [] := List.length_eq_zero_iff.1 e
    subst this
    exact ⟨none, 0, W, run_append_owned_none (P := Try.prog) (w := W) 0 28 28 101 i1 3 Try.underlying28 hi1 (.slice none 0 0) 0 [] ⟨rfl, Or.inl ⟨rfl, rfl⟩⟩, Below.refl _ _, ⟨rfl, Or.inl ⟨rfl, rfl⟩⟩⟩
  · have hcells : ∀ j u, (flatT ts)[j]? = some u → W.cell? ((⟨g, 0, none⟩ : Addr).add j) = some u := by
      intro j u hu
      have hj : j < ts.length * 3 := by have := (List.getElem?_eq_some_iff.1 hu).1; rwa [flatT_length] at this
      rw [Addr.add_lit, Nat.zero_add, cell_at hg, ← Array.getElem?_toList, ← hu, ← ht, List.getElem?_take, if_pos (by omega)]
    obtain ⟨v', w', hr, h2, h3, h4, h5⟩ := run_append_own_at (P := Try.prog) W W.heap.size 28 28 101 i1 _ 3 32 Try.underlying28 hi1 hz0 hz1 hz2 rfl (by decide) (.slice none 0 0) 0 [] ⟨rfl, Or.inl ⟨rfl, rfl⟩⟩ ⟨g, 0, none⟩ ts.length cap (flatT ts) (flatT_length ts) hcells (flatT_one ts) (by unfold maxLen; omega) (by omega) (Nat.le_refl _)
    rw [Nat.zero_add, List.nil_append] at h2
    obtain ⟨ao, c, rfl⟩ := owns_form h2
    exact ⟨ao, c, w', hr, ⟨h3.os, h3.tape, h3.output, h3.size, fun k hk => h3.block k hk (by simp [Value.ownBlock])⟩, h2⟩
theorem All.addRowT {cs : List Comp} {w w' : World} {v : Value} {ts : List Tm} (h : All cs w) (hb : Below w.heap.size w w') (ho : w'.ownsRow w.heap.size 101 3 v ts.length (flatT ts)) : All (rowC 101 3 v ts.length (flatT ts) :: cs) w' := by
  refine h.add (Fr.below hb) (rowC_good _ _ _ _ _) (owns_zero ho) (fun k hk => ?_)
  have hk' : v.ownBlock = some k := by simpa [rowC] using hk
  exact World.ownsRow.lt ho k hk'
theorem All.addRef0 {cs : List Comp} {w : World} (h : All cs w) : All (refC w.heap.size (.slice none 0 0) [] :: cs) (w.alloc (.cells #[.slice none 0 0] 30)) := by
  refine h.add (Fr.below (ba w _)) (refC_good _ _ _) ⟨heap_alloc_new w _, ⟨rfl, Or.inl ⟨rfl, rfl⟩⟩⟩ (fun k hk => ?_)
  have : k = w.heap.size := by simpa [refC, Value.ownBlock] using hk
  subst this
  exact ⟨Nat.le_refl _, by simp⟩

set_option maxHeartbeats 1600000 in
set_option maxRecDepth 1000000 in
theorem RClone {P : Nat} {v : Value} {ts : List Tm} {cs : List Comp} {w : World} (h : All (refC P v ts :: cs) w) (hl : ts.length ≤ 1048576) : Calls Try.prog 67 #[.pointer (some ⟨P, 0, none⟩)] w fun e w' => ∃ P' v', e = .returned (.pointer (some ⟨P', 0, none⟩)) ∧ All (refC P' v' ts :: refC P v ts :: cs) w' := by
  obtain ⟨ao, c, hv⟩ := owns_form h.1.2.1.2
  subst hv
  have A1 := h.addRef0
  have hPl : P < w.heap.size := h.1.2.2 P (by simp [refC])
  have A2 := A1.drew
  have cP : (w.alloc (.cells #[.slice none 0 0] 30)).cell? ⟨P, 0, none⟩ = some (.slice ao ts.length c) := by rw [cell_at A1.2.2.1.2.1.1]; rfl
  have cN : (w.alloc (.cells #[.slice none 0 0] 30)).cell? ⟨w.heap.size, 0, none⟩ = some (.slice none 0 0) := by rw [cell_at A1.1.2.1.1]; rfl
  obtain ⟨a3, c3, w3, hr3, hb3, ho3⟩ := app_tms A2.2.2.1.2.1.2 hl
  have A3 := A2.addRowT hb3 ho3
  have e3 := (A3.mem (c := refC w.heap.size (.slice none 0 0) []) (by simp)).2.1.1
  have d3 : w3.cell? ⟨w.heap.size, 0, none⟩ = some (.slice none 0 0) := by rw [cell_at e3]; rfl
  have f3 := free_at e3 0
  have A4 := hid A3.refSet
  have HR := hid hr3
  clear h A1 A2 A3 hr3 hb3 ho3 e3
  go_enter Try.func67, Try.ntmps67
  go_upto_region 2 with fail
  generalize (w.alloc (.cells #[.slice none 0 0] 30)) = w2 at *
  generalize w.heap.size = N at *
  go_region_law (first | (refine step_append_run (by rfl) (.tmp 10) (.tmp 14) 28 (by rfl) _ _ _ _ (by rfl) (by rfl) HR.out ?_))
  all_goals clear HR
  all_goals (go_wp2; go_ret; exact ⟨_, _, rfl, A4.out⟩)
end Go.Proofs.Ytphcfkfdkaphbaa
