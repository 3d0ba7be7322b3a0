import Derived.Test.YtphcfkfdkaphbaaRefA
namespace Go.Proofs.Ytphcfkfdkaphbaa
open Go.RowKit
set_option linter.unusedVariables false

theorem Try.info50 : (Try.prog.info? 50).map (fun i => (i.zero, i.size, i.bytes)) = some (some (.agg #[.string ⟨#[]⟩, .int .i64 0]), 2, 24) := by kernel_rfl
theorem Try.und57 : Try.prog.underlying 57 = some (.slice 50) := by kernel_rfl

def Tm.name (x : Tm) : List Value := [.string x.t, .int .i64 x.k]
def flatN (ts : List Tm) : List Value := ts.flatMap Tm.name
theorem flatN_append (a b : List Tm) : flatN (a ++ b) = flatN a ++ flatN b := by simp [flatN]
/-- Who is told by a tick, and who stays. -/
def goneT (ts : List Tm) : List Tm := ts.filter fun x => decide (x.l = 1)
def stayT (ts : List Tm) : List Tm := (ts.filter fun x => decide (x.l ≠ 1)).map fun x => { x with l := x.l - 1 }
theorem gone_step {ts : List Tm} {i : Nat} {x : Tm} (hx : ts[i]? = some x) : goneT (ts.take (i + 1)) = goneT (ts.take i) ++ (if x.l = 1 then [x] else []) := by
  rw [List.take_add_one, hx]; unfold goneT; rw [List.filter_append]
  by_cases h : x.l = 1 <;> simp [h]
theorem stay_step {ts : List Tm} {i : Nat} {x : Tm} (hx : ts[i]? = some x) : stayT (ts.take (i + 1)) = stayT (ts.take i) ++ (if x.l = 1 then [] else [{ x with l := x.l - 1 }]) := by
  rw [List.take_add_one, hx]; unfold stayT; rw [List.filter_append, List.map_append]
  by_cases h : x.l = 1 <;> simp [h]
theorem gone_len (ts : List Tm) : (goneT ts).length ≤ ts.length := List.length_filter_le _ _
theorem stay_len (ts : List Tm) : (stayT ts).length ≤ ts.length := by unfold stayT; rw [List.length_map]; exact List.length_filter_le _ _
theorem names2 (w : World) (t : ByteArray) (k : Int) (e : TypeId) : ∀ j u, [Value.string t, .int .i64 k][j]? = some u → (w.alloc (.cells #[.string t, .int .i64 k] e)).cell? ((⟨w.heap.size, 0, none⟩ : Addr).add j) = some u := by
  intro j u hu
  rw [Addr.add_lit, Nat.zero_add, cell_at (heap_alloc_new w _), List.getElem?_toArray]
  exact hu
theorem name_one (x : Tm) : ∀ u ∈ x.name, u.oneCell' = true := by
  intro u hu
  simp only [Tm.name, List.mem_cons, List.not_mem_nil, or_false] at hu
  rcases hu with rfl | rfl <;> rfl

set_option maxHeartbeats 3200000 in
set_option maxRecDepth 1000000 in
theorem RTick {P : Nat} {v : Value} {ts : List Tm} {cs : List Comp} {w : World} (h : All (refC P v ts :: cs) w) (hl : ts.length ≤ 1048576) (hL : ∀ x ∈ ts, 1 ≤ x.l ∧ x.l ≤ 1024) : Calls Try.prog 21 #[.pointer (some ⟨P, 0, none⟩)] w fun e w' => ∃ v' g', e = .returned g' ∧ All (rowC 50 2 g' (goneT ts).length (flatN (goneT ts)) :: refC P v' (stayT ts) :: cs) w' := by
  obtain ⟨i1, hi1, hz0, hz1, hz2⟩ := info_parts Try.info101
  obtain ⟨i2, hi2, hy0, hy1, hy2⟩ := info_parts Try.info50
  obtain ⟨ao, c, hv⟩ := owns_form h.1.2.1.2
  subst hv
  have cP : w.cell? ⟨P, 0, none⟩ = some (.slice ao ts.length c) := by rw [cell_at h.1.2.1.1]; rfl
  have H2 := hid ((h.addRow0 (e := 101) (size := 3)).addRow0 (e := 50) (size := 2))
  have HL := hid hL
  clear h hL
  go_enter Try.func21, Try.ntmps21
  go_wp2
  go_loopw [3, 4, 12] (fun gv ov iv wr => ∃ (i : Nat) (gs os : List Tm), i ≤ ts.length ∧ iv = .int .i64 (i : Int) ∧ Hid (gs = goneT (ts.take i)) ∧ Hid (os = stayT (ts.take i)) ∧ Hid (All (rowC 50 2 gv gs.length (flatN gs) :: rowC 101 3 ov os.length (flatT os) :: refC P (.slice ao ts.length c) ts :: cs) wr)) (fun _ _ iv _ => ts.length - (intOf iv).toNat)
  case atStart => exact ⟨0, [], [], by omega, rfl, hid (by simp [goneT]), hid (by simp [stayT]), H2⟩
  case round =>
    clear H2 cP
    obtain ⟨i, gs, os, hi, rfl, HG, HO, HA⟩ := hrel
    obtain ⟨go, gc, rfl⟩ := owns_form HA.out.1.2.1
    obtain ⟨oo, oc, rfl⟩ := owns_form HA.out.2.2.1.2.1
    have hgl : gs.length ≤ ts.length := by
      rw [HG.out]; have := gone_len (ts.take i); simp at this; omega
    have hol : os.length ≤ ts.length := by
      rw [HO.out]; have := stay_len (ts.take i); simp at this; omega
    by_cases hlt : i < ts.length
    · have hlti : (i : Int) < ts.length := by omega
      obtain ⟨x, hx⟩ : ∃ x, ts[i]? = some x := ⟨_, List.getElem?_eq_getElem hlt⟩
      have HR : wr.ownsRow 0 101 3 (.slice ao ts.length c) ts.length (flatT ts) := (HA.out.mem (c := refC P (.slice ao ts.length c) ts) (by simp)).2.1.2
      obtain ⟨g, hao, hg, x0, x1, x2⟩ := row3_cells HR hx
      subst hao
      have hx1 := HL.out x (List.mem_of_getElem? hx)
      have he := gone_step hx
      have hs := stay_step hx
      rw [← HG.out] at he
      rw [← HO.out] at hs
      obtain ⟨xt, xk, xl⟩ := x
      simp only at x0 x1 x2 hx1 he hs
      have hx1a := hx1.1
      have hx1b := hx1.2
      by_cases h1 : xl = 1
      · subst h1
        rw [if_pos rfl] at he
        rw [if_pos rfl, List.append_nil] at hs
        have HE := hid he
        have HS := hid hs
        have A2 := (HA.out.alloc (.cells #[.string xt, .int .i64 xk, .int .i64 0] 101)).alloc (.cells #[.string xt, .int .i64 xk] 50)
        have hrow : ((wr.alloc (.cells #[.string xt, .int .i64 xk, .int .i64 0] 101)).alloc (.cells #[.string xt, .int .i64 xk] 50)).ownsRow 0 50 2 (.slice go gs.length gc) gs.length (flatN gs) := A2.1.2.1
        have A2 := hid A2
        clear he hs hx HR hx1
        go_wp2_with (at_builtin; refine wpList_append_own_at _ rfl (.tmp 23) (.tmp 26) 57 rfl 0 50 i2 (.agg #[.string ⟨#[]⟩, .int .i64 0]) 2 24 Try.und57 hi2 hy0 hy1 hy2 rfl (by decide) _ _ _ rfl hrow ⟨wr.heap.size + 1, 0, none⟩ 1 1 (Tm.name ⟨xt, xk, 1⟩) rfl rfl (by have := names2 (wr.alloc (.cells #[.string xt, .int .i64 xk, .int .i64 0] 101)) xt xk 50; simpa [Tm.name] using this) (name_one _) (by unfold maxLen; omega) (by omega) (by omega) ?_; intro ov' w3 hown hgr hnil hat')
        have A3 := hid (A2.out.rowGrow (vs' := flatN (gs ++ [(⟨xt, xk, 1⟩ : Tm)])) (n' := (gs ++ [(⟨xt, xk, 1⟩ : Tm)]).length) (by rw [flatN_append, List.length_append]; simpa [flatN] using hown) hgr hat')
        clear hown hgr hnil hat' hrow A2
        go_wp2
        go_roundw
        case rel => exact ⟨i + 1, gs ++ [⟨xt, xk, 1⟩], os, by omega, by go_num, hid HE.out.symm, hid HS.out.symm, A3⟩
        case measure => simp [intOf]; omega
      · rw [if_neg h1, List.append_nil] at he
        rw [if_neg h1] at hs
        have HE := hid he
        have HS := hid hs
        have hne : (xl - 1 == 0) = false := by simp; omega
        have A2 := ((HA.out.alloc (.cells #[.string xt, .int .i64 xk, .int .i64 (xl - 1)] 101)).alloc (.cells #[.string xt, .int .i64 xk, .int .i64 (xl - 1)] 101)).swap
        have hrow : ((wr.alloc (.cells #[.string xt, .int .i64 xk, .int .i64 (xl - 1)] 101)).alloc (.cells #[.string xt, .int .i64 xk, .int .i64 (xl - 1)] 101)).ownsRow 0 101 3 (.slice oo os.length oc) os.length (flatT os) := A2.1.2.1
        have A2 := hid A2
        clear he hs hx HR hx1
        go_wp2_with (at_builtin; refine wpList_append_own_at _ rfl (.tmp 28) (.tmp 30) 28 rfl 0 101 i1 (.agg #[.string ⟨#[]⟩, .int .i64 0, .int .i64 0]) 3 32 Try.underlying28 hi1 hz0 hz1 hz2 rfl (by decide) _ _ _ rfl hrow ⟨wr.heap.size + 1, 0, none⟩ 1 1 (Tm.cells ⟨xt, xk, xl - 1⟩) rfl rfl (by have := cells3 (wr.alloc (.cells #[.string xt, .int .i64 xk, .int .i64 (xl - 1)] 101)) ⟨xt, xk, xl - 1⟩ 101; simpa using this) (cells_one _) (by unfold maxLen; omega) (by omega) (by omega) ?_; intro ov' w3 hown hgr hnil hat')
        have A3 := hid (A2.out.rowGrow (vs' := flatT (os ++ [(⟨xt, xk, xl - 1⟩ : Tm)])) (n' := (os ++ [(⟨xt, xk, xl - 1⟩ : Tm)]).length) (by rw [flatT_append, List.length_append]; simpa [flatT] using hown) hgr hat').swap
        clear hown hgr hnil hat' hrow A2
        go_wp2
        go_roundw
        case rel => exact ⟨i + 1, gs, os ++ [⟨xt, xk, xl - 1⟩], by omega, by go_num, hid HE.out.symm, hid HS.out.symm, A3⟩
        case measure => simp [intOf]; omega
    · have hlti : decide ((i : Int) < ts.length) = false := decide_eq_false (by omega)
      have hlti2 : decide (i < ts.length) = false := decide_eq_false (by omega)
      have hf1 := HG.out
      have hf2 := HO.out
      rw [List.take_of_length_le (by omega)] at hf1 hf2
      have A1 := HA.out.perm (ds := rowC 101 3 (.slice oo os.length oc) os.length (flatT os) :: refC P (.slice ao ts.length c) ts :: rowC 50 2 (.slice go gs.length gc) gs.length (flatN gs) :: cs) (by
        have p1 : ∀ (a b c : Comp) (l : List Comp), (a :: b :: c :: l).Perm (b :: c :: a :: l) := fun a b c l => (List.Perm.swap b a (c :: l)).trans (.cons _ (.swap _ _ _))
        exact p1 _ _ _ _)
      have cP := cell_at A1.2.2.1.2.1.1 0
      have fP := free_at A1.2.2.1.2.1.1 0
      simp only [List.getElem?_toArray, List.getElem?_cons_zero] at cP
      have A1 := hid A1
      have HF1 := hid hf1
      have HF2 := hid hf2
      clear hf1 hf2
      go_wp2
      go_ret
      refine ⟨.slice oo os.length oc, .slice go gs.length gc, rfl, ?_⟩
      rw [← HF1.out, ← HF2.out]
      exact A1.out.refSet.swap
end Go.Proofs.Ytphcfkfdkaphbaa
