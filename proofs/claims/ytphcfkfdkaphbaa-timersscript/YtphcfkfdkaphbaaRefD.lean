import Derived.Test.YtphcfkfdkaphbaaRefK
namespace Go.Proofs.Ytphcfkfdkaphbaa
open Go.RowKit
set_option linter.unusedVariables false

set_option maxRecDepth 1000000 in
theorem RLeft_no {P : Nat} {v : Value} {ts : List Tm} {cs : List Comp} {w : World} (h : All (refC P v ts :: cs) w) (hl : ts.length ≤ 1048576) (t : ByteArray) (k : Int) (hp : placeT t k ts 0 < 0) : Calls Try.prog 46 #[.pointer (some ⟨P, 0, none⟩), .agg #[.string t, .int .i64 k]] w fun e w' => e = .returned (.tuple #[.int .i64 0, .bool false]) ∧ Below w.heap.size w w' := by
  have h1 := h.later (ba w (.cells #[.string t, .int .i64 k] 50))
  have HP := hid (place_any h1.1.2.1.1 h1.1.2.1.2 hl t k)
  have dp : decide (0 ≤ placeT t k ts 0) = false := decide_eq_false (by omega)
  have dp2 : ¬ 0 ≤ placeT t k ts 0 := by omega
  clear h h1
  go_enter Try.func46, Try.ntmps46
  go_wp2_with fail
  refine HP.out.mono ?_
  rintro e w1 ⟨rfl, hb1⟩
  have HB := hid (show Below w.heap.size w w1 from (ba w _).trans (hb1.mono (by simp)))
  clear hb1 HP
  go_wp2
  go_ret2
  exact ⟨rfl, HB.out⟩

set_option maxRecDepth 1000000 in
theorem RLeft_yes {P p : Nat} {v : Value} {ts : List Tm} {x : Tm} {cs : List Comp} {w : World} (h : All (refC P v ts :: cs) w) (hl : ts.length ≤ 1048576) (t : ByteArray) (k : Int) (hp : placeT t k ts 0 = p) (hx : ts[p]? = some x) : Calls Try.prog 46 #[.pointer (some ⟨P, 0, none⟩), .agg #[.string t, .int .i64 k]] w fun e w' => e = .returned (.tuple #[.int .i64 x.l, .bool true]) ∧ Below w.heap.size w w' := by
  have h1 := h.later (ba w (.cells #[.string t, .int .i64 k] 50))
  have HP := hid (place_any h1.1.2.1.1 h1.1.2.1.2 hl t k)
  rw [hp] at HP
  have hpl : p < ts.length := (List.getElem?_eq_some_iff.1 hx).1
  have dp : (p : Int) < (ts.length : Int) := by omega
  have H1 := hid h1
  obtain ⟨ao, c, hv⟩ := owns_form h.1.2.1.2
  subst hv
  clear h h1
  go_enter Try.func46, Try.ntmps46
  go_wp2_with fail
  refine HP.out.mono ?_
  rintro e w1 ⟨rfl, hb1⟩
  have HB := hid (show Below w.heap.size w w1 from (ba w _).trans (hb1.mono (by simp)))
  have H2 := H1.out.later hb1
  have cP : w1.cell? ⟨P, 0, none⟩ = some (.slice ao ts.length c) := by rw [cell_at H2.1.2.1.1]; rfl
  obtain ⟨g, rfl, hg, x0, x1, x2⟩ := row3_cells H2.1.2.1.2 hx
  clear hb1 HP H1 H2 hx
  go_wp2
  go_ret2
  exact ⟨rfl, HB.out⟩

theorem flatN_len (ts : List Tm) : (flatN ts).length = ts.length * 2 := by
  induction ts with
  | nil => rfl
  | cons x r ih => simp only [flatN, List.flatMap_cons, List.length_append, List.length_cons] at ih ⊢; rw [ih]; simp [Tm.name]; omega
theorem flatN_at {ts : List Tm} {i : Nat} {x : Tm} (h : ts[i]? = some x) {j : Nat} (hj : j < 2) : (flatN ts)[i * 2 + j]? = x.name[j]? := by
  induction ts generalizing i with
  | nil => simp at h
  | cons q l ih =>
    have hq : q.name.length = 2 := rfl
    cases i with
    | zero =>
      have : q = x := by simpa using h
      subst this
      simp only [flatN, List.flatMap_cons, Nat.zero_mul, Nat.zero_add]
      rw [List.getElem?_append_left (by omega)]
    | succ i =>
      have := ih (i := i) (by simpa using h)
      simp only [flatN, List.flatMap_cons]
      rw [List.getElem?_append_right (by omega), ← this, flatN]
      congr 1
      omega
theorem row2_cells {w : World} {base : Nat} {ao : Option Addr} {n c : Nat} {ts : List Tm} (h : w.ownsRow base 50 2 (.slice ao n c) ts.length (flatN ts)) {i : Nat} {x : Tm} (hx : ts[i]? = some x) : ∃ g, ao = some ⟨g, 0, none⟩ ∧ g < w.heap.size ∧ w.cell? ⟨g, i * 2, none⟩ = some (.string x.t) ∧ w.cell? ⟨g, i * 2 + 1, none⟩ = some (.int .i64 x.k) := by
  have hi := (List.getElem?_eq_some_iff.1 hx).1
  rcases h.2 with ⟨e, e2⟩ | ⟨g, cap, cur, e, _, hg, hn, hm, hcs, ht⟩
  · omega
  · simp only [Value.slice.injEq] at e
    have key : ∀ j u, x.name[j]? = some u → w.cell? ⟨g, i * 2 + j, none⟩ = some u := fun j u hu => by
      have hj : j < 2 := (List.getElem?_eq_some_iff.1 hu).1
      rw [cell_at hg, ← Array.getElem?_toList, ← hu, ← flatN_at hx hj, ← ht, List.getElem?_take, if_pos (by omega)]
    exact ⟨g, e.1, (Array.getElem?_eq_some_iff.1 hg).1, key 0 _ rfl, key 1 _ rfl⟩

set_option maxHeartbeats 3200000 in
set_option maxRecDepth 1000000 in
theorem RArmed {P : Nat} {v : Value} {ts : List Tm} {cs : List Comp} {w : World} (h : All (refC P v ts :: cs) w) (hl : ts.length ≤ 1048576) : Calls Try.prog 48 #[.pointer (some ⟨P, 0, none⟩)] w fun e w' => ∃ g', e = .returned g' ∧ All (rowC 50 2 g' ts.length (flatN ts) :: refC P v ts :: cs) w' := by
  obtain ⟨i2, hi2, hy0, hy1, hy2⟩ := info_parts Try.info50
  obtain ⟨ao, c, hv⟩ := owns_form h.1.2.1.2
  subst hv
  have cP : w.cell? ⟨P, 0, none⟩ = some (.slice ao ts.length c) := by rw [cell_at h.1.2.1.1]; rfl
  have H2 := hid (h.addRow0 (e := 50) (size := 2))
  clear h
  go_enter Try.func48, Try.ntmps48
  go_wp2
  go_loopw [3, 11] (fun gv iv wr => ∃ (i : Nat) (gs : List Tm), i ≤ ts.length ∧ iv = .int .i64 (i : Int) ∧ Hid (gs = ts.take i) ∧ Hid (All (rowC 50 2 gv gs.length (flatN gs) :: refC P (.slice ao ts.length c) ts :: cs) wr)) (fun _ iv _ => ts.length - (intOf iv).toNat)
  case atStart => exact ⟨0, [], by omega, rfl, hid (by simp), H2⟩
  case round =>
    clear H2 cP
    obtain ⟨i, gs, hi, rfl, HG, HA⟩ := hrel
    obtain ⟨go, gc, rfl⟩ := owns_form HA.out.1.2.1
    have hgl : gs.length ≤ ts.length := by
      rw [HG.out]; simp; omega
    by_cases hlt : i < ts.length
    · have hlti : (i : Int) < ts.length := by omega
      obtain ⟨x, hx⟩ : ∃ x, ts[i]? = some x := ⟨_, List.getElem?_eq_getElem hlt⟩
      have HR : wr.ownsRow 0 101 3 (.slice ao ts.length c) ts.length (flatT ts) := (HA.out.mem (c := refC P (.slice ao ts.length c) ts) (by simp)).2.1.2
      obtain ⟨g, hao, hg, x0, x1, x2⟩ := row3_cells HR hx
      subst hao
      have he : Hid (gs ++ [x] = ts.take (i + 1)) := hid (by rw [HG.out, List.take_add_one, hx]; rfl)
      obtain ⟨xt, xk, xl⟩ := x
      simp only at x0 x1 x2
      have A2 := (HA.out.alloc (.cells #[.string xt, .int .i64 xk, .int .i64 xl] 101)).alloc (.cells #[.string xt, .int .i64 xk] 50)
      have hrow : ((wr.alloc (.cells #[.string xt, .int .i64 xk, .int .i64 xl] 101)).alloc (.cells #[.string xt, .int .i64 xk] 50)).ownsRow 0 50 2 (.slice go gs.length gc) gs.length (flatN gs) := A2.1.2.1
      have A2 := hid A2
      clear hx HR
      go_wp2_with (at_builtin; refine wpList_append_own_at _ rfl (.tmp 15) (.tmp 18) 57 rfl 0 50 i2 (.agg #[.string ⟨#[]⟩, .int .i64 0]) 2 24 Try.und57 hi2 hy0 hy1 hy2 rfl (by decide) _ _ _ rfl hrow ⟨wr.heap.size + 1, 0, none⟩ 1 1 (Tm.name ⟨xt, xk, xl⟩) rfl rfl (by have := names2 (wr.alloc (.cells #[.string xt, .int .i64 xk, .int .i64 xl] 101)) xt xk 50; simpa [Tm.name] using this) (name_one _) (by unfold maxLen; omega) (by omega) (by omega) ?_; intro ov' w3 hown hgr hnil hat')
      have A3 := hid (A2.out.rowGrow (vs' := flatN (gs ++ [(⟨xt, xk, xl⟩ : Tm)])) (n' := (gs ++ [(⟨xt, xk, xl⟩ : Tm)]).length) (by rw [flatN_append, List.length_append]; simpa [flatN] using hown) hgr hat')
      clear hown hgr hnil hat' hrow A2
      go_wp2
      go_roundw
      case rel => exact ⟨i + 1, gs ++ [⟨xt, xk, xl⟩], by omega, by go_num, he, A3⟩
      case measure => simp [intOf]; omega
    · have hlti : decide ((i : Int) < ts.length) = false := decide_eq_false (by omega)
      have hlti2 : decide (i < ts.length) = false := decide_eq_false (by omega)
      have hf1 := HG.out
      rw [List.take_of_length_le (by omega)] at hf1
      have HF1 := hid hf1
      clear hf1
      go_wp2
      go_ret
      exact ⟨_, rfl, by rw [← HF1.out]; rw [HF1.out] at HA ⊢; exact HA.out⟩
end Go.Proofs.Ytphcfkfdkaphbaa
