import Derived.Test.YtphcfkfdkaphbaaRefP
import Derived.Test.YtphcfkfdkaphbaaShelf
namespace Go.Proofs.Ytphcfkfdkaphbaa
open Go.RowKit
set_option linter.unusedVariables false

theorem Try.info101 : (Try.prog.info? 101).map (fun i => (i.zero, i.size, i.bytes)) = some (some (.agg #[.string ⟨#[]⟩, .int .i64 0, .int .i64 0]), 3, 32) := by kernel_rfl

/-- A row of one's own, whatever its elements' size. -/
def rowC (e : TypeId) (size : Nat) (v : Value) (n : Nat) (vs : List Value) : Comp := ⟨fun w => w.ownsRow 0 e size v n vs, v.ownBlock.toList⟩
theorem owns_keep {w w' : World} {e : TypeId} {size n : Nat} {v : Value} {vs : List Value} (h : w.ownsRow 0 e size v n vs) (hb : ∀ k ∈ v.ownBlock.toList, w'.heap[k]? = w.heap[k]?) : w'.ownsRow 0 e size v n vs :=
  ⟨h.1, by
    rcases h.2 with hn | ⟨g, cap, cur, rfl, hg, hgg, rest⟩
    · exact Or.inl hn
    · exact Or.inr ⟨g, cap, cur, rfl, hg, by rw [hb g (by simp [Value.ownBlock])]; exact hgg, rest⟩⟩
theorem rowC_good (e : TypeId) (size : Nat) (v : Value) (n : Nat) (vs : List Value) : (rowC e size v n vs).Good := fun w w' h hs hb => owns_keep h hb
theorem All.addRow0 {e : TypeId} {size : Nat} {cs : List Comp} {w : World} (h : All cs w) : All (rowC e size (.slice none 0 0) 0 [] :: cs) w :=
  ⟨⟨rowC_good _ _ _ _ _, ⟨by simp, Or.inl ⟨rfl, rfl⟩⟩, fun k hk => by simp [rowC, Value.ownBlock] at hk⟩, fun d hd k hk => by simp [rowC, Value.ownBlock] at hk, h⟩
theorem All.rowGrow {e : TypeId} {size n n' : Nat} {v v' : Value} {vs vs' : List Value} {cs : List Comp} {w w1 : World} {base : Nat} (h : All (rowC e size v n vs :: cs) w) (hown : w1.ownsRow base e size v' n' vs') (hg : w.grownBy w1 v.ownBlock) (hat : v'.ownBlock = v.ownBlock ∨ v'.ownBlock = some w.heap.size) : All (rowC e size v' n' vs' :: cs) w1 := by
  have ho' := owns_zero hown
  refine h.turn ((grown_fr hg).mono (fun k hk => by simpa [rowC] using hk)) (rowC_good _ _ _ _ _) ho' (fun k hk => ?_) (fun k hk => ?_)
  · have hk' : v'.ownBlock = some k := by simpa [rowC] using hk
    rcases hat with e1 | e1
    · exact Or.inl (by simp [rowC, ← e1, hk'])
    · rw [e1] at hk'; simp at hk'; exact Or.inr (by omega)
  · have hk' : v'.ownBlock = some k := by simpa [rowC] using hk
    exact (ho'.lt k hk').2

/-- The document's table: its block, its list. -/
def refC (P : Nat) (v : Value) (ts : List Tm) : Comp := ⟨fun w => w.heap[P]? = some (.cells #[v] 30 (0, 0)) ∧ w.ownsRow 0 101 3 v ts.length (flatT ts), P :: v.ownBlock.toList⟩
theorem refC_good (P : Nat) (v : Value) (ts : List Tm) : (refC P v ts).Good := fun w w' h _ hb => ⟨(hb P (by simp [refC])).trans h.1, owns_keep h.2 (fun k hk => hb k (by simp [refC] at hk ⊢; exact .inr hk))⟩

theorem refC_ne {P : Nat} {v : Value} {ts : List Tm} {cs : List Comp} {w : World} (h : All (refC P v ts :: cs) w) : v.ownBlock ≠ some P := by
  intro e
  obtain ⟨h1, h2⟩ : w.heap[P]? = some (.cells #[v] 30 (0, 0)) ∧ w.ownsRow 0 101 3 v ts.length (flatT ts) := h.1.2.1
  rcases h2.2 with ⟨rfl, _⟩ | ⟨g, cap, cur, rfl, hg, hgg, _⟩
  · simp [Value.ownBlock] at e
  · simp [Value.ownBlock] at e
    subst e
    rw [hgg] at h1
    simp at h1

/-- A new list is laid down in the table. -/
theorem All.refSet {P : Nat} {v v' : Value} {ts ts' : List Tm} {cs : List Comp} {w : World} (h : All (rowC 101 3 v' ts'.length (flatT ts') :: refC P v ts :: cs) w) : All (refC P v' ts' :: cs) (w.setCell ⟨P, 0, none⟩ v') := by
  obtain ⟨⟨g1, h1, l1⟩, d1, ⟨g2, h2, l2⟩, d2, h3⟩ := h
  have hP : w.heap[P]? = some (.cells #[v] 30 (0, 0)) := h2.1
  have hPl : P < w.heap.size := l2 P (by simp [refC])
  have hn : ∀ k ∈ v'.ownBlock.toList, k ≠ P := fun k hk e => d1 (refC P v ts) (by simp) k hk (by simp [refC, e])
  have hs : (w.setCell ⟨P, 0, none⟩ v').heap.size = w.heap.size := by simp [World.setCell]
  refine ⟨⟨refC_good _ _ _, ⟨?_, owns_keep h1 (fun k hk => Below.heap_setCell w ⟨P, 0, none⟩ v' k (hn k hk))⟩, fun k hk => ?_⟩, fun d hd k hk hkd => ?_, ?_⟩
  · have := heap_setCell_same (j := 0) hP v'
    simpa using this
  · rw [hs]
    rcases List.mem_cons.1 hk with rfl | hk
    · exact hPl
    · exact l1 k hk
  · rcases List.mem_cons.1 hk with rfl | hk
    · exact d2 d hd k (by simp [refC]) hkd
    · exact d1 d (by simp [hd]) k hk hkd
  · refine h3.kept (Fr.setCell w P 0 v') (fun d hd k hk hkd => ?_)
    have : k = P := by simpa using hk
    subst this
    exact d2 d hd k (by simp [refC]) hkd

/-- Where a name stands is a place in the list. -/
theorem placeT_lt {t : ByteArray} {k : Int} : ∀ (ts : List Tm) (i : Nat), placeT t k ts i < i + ts.length ∧ (placeT t k ts i < 0 ∨ (i : Int) ≤ placeT t k ts i)
  | [], i => by simp only [placeT, List.length_nil]; omega
  | x :: r, i => by
    have := placeT_lt (t := t) (k := k) r (i + 1)
    rw [placeT]
    split
    · simp only [List.length_cons]; omega
    · simp only [List.length_cons]; omega

theorem cells3 (w : World) (x : Tm) (t : TypeId) : ∀ j u, x.cells[j]? = some u → (w.alloc (.cells #[.string x.t, .int .i64 x.k, .int .i64 x.l] t)).cell? ((⟨w.heap.size, 0, none⟩ : Addr).add j) = some u := by
  intro j u hu
  rw [Addr.add_lit, Nat.zero_add, cell_at (heap_alloc_new w _), List.getElem?_toArray]
  exact hu
theorem cells_one (x : Tm) : ∀ u ∈ x.cells, u.oneCell' = true := by
  intro u hu
  simp only [Tm.cells, List.mem_cons, List.not_mem_nil, or_false] at hu
  rcases hu with rfl | rfl | rfl <;> rfl

theorem erase_take {α : Type} {ts : List α} {p i : Nat} {x : α} (hx : ts[i]? = some x) : ((ts.take (i + 1)).eraseIdx p) = if i = p then (ts.take i).eraseIdx p else (ts.take i).eraseIdx p ++ [x] := by
  have hi := (List.getElem?_eq_some_iff.1 hx).1
  rw [List.take_add_one, hx]
  simp only [Option.toList_some]
  split
  · subst i
    rw [List.eraseIdx_append_of_length_le (by simp; omega), List.length_take, Nat.min_eq_left (Nat.le_of_lt hi), Nat.sub_self, List.eraseIdx_of_length_le (l := ts.take p) (by simp; omega)]
    simp
  · rename_i hne
    by_cases hlt : p < i
    · rw [List.eraseIdx_append_of_lt_length (by simp; omega)]
    · rw [List.eraseIdx_of_length_le (by simp; omega), List.eraseIdx_of_length_le (by simp; omega)]

set_option maxHeartbeats 1600000 in
set_option maxRecDepth 1000000 in
theorem RCancel_yes {P p : Nat} {v : Value} {ts : List Tm} {cs : List Comp} {w : World} (h : All (refC P v ts :: cs) w) (hl : ts.length ≤ 1048576) (t : ByteArray) (k : Int) (hp : placeT t k ts 0 = p) : Calls Try.prog 17 #[.pointer (some ⟨P, 0, none⟩), .agg #[.string t, .int .i64 k]] w fun e w' => ∃ v', e = .returned (.bool true) ∧ All (refC P v' (ts.eraseIdx p) :: cs) w' := by
  obtain ⟨i1, hi1, hz0, hz1, hz2⟩ := info_parts Try.info101
  have h1 := h.later (ba w (.cells #[.string t, .int .i64 k] 50))
  have HP := hid (place_any h1.1.2.1.1 h1.1.2.1.2 hl t k)
  have hpl := placeT_lt (t := t) (k := k) ts 0
  have hpn : p < ts.length := by omega
  have hpp := hid hp
  obtain ⟨ao, c, hv⟩ := owns_form h1.1.2.1.2
  subst hv
  have H1 := hid h1
  clear h h1 hpl hp
  go_enter Try.func17, Try.ntmps17
  go_wp2_with fail
  refine HP.out.mono ?_
  rintro e w1 ⟨rfl, hb1⟩
  have h2 := H1.out.later hb1
  have cP : w1.cell? ⟨P, 0, none⟩ = some (.slice ao ts.length c) := by rw [cell_at h2.1.2.1.1]; rfl
  rw [hpp.out]
  have H2 := hid (h2.addRow0 (e := 101) (size := 3))
  clear hb1 H1 HP h2 hpp
  go_wp2
  go_loopw [6, 19] (fun ov iv wr => ∃ (i : Nat) (outs : List Tm), i ≤ ts.length ∧ iv = .int .i64 (i : Int) ∧ Hid (outs = (ts.take i).eraseIdx p) ∧ Hid (All (rowC 101 3 ov outs.length (flatT outs) :: refC P (.slice ao ts.length c) ts :: cs) wr)) (fun _ iv _ => ts.length - (intOf iv).toNat)
  case atStart => exact ⟨0, [], by omega, rfl, hid (by simp), H2⟩
  case round =>
    clear H2 cP
    obtain ⟨i, outs, hi, rfl, HO, HA⟩ := hrel
    obtain ⟨oo, oc, rfl⟩ := owns_form HA.out.1.2.1
    have hol : outs.length ≤ ts.length := by
      rw [HO.out]
      have := List.length_eraseIdx_le (ts.take i) p
      simp at this; omega
    by_cases hlt : i < ts.length
    · obtain ⟨x, hx⟩ : ∃ x, ts[i]? = some x := ⟨_, List.getElem?_eq_getElem hlt⟩
      obtain ⟨g, hao, hg, x0, x1, x2⟩ := row3_cells HA.out.2.2.1.2.1.2 hx
      subst hao
      have he := erase_take (p := p) hx
      by_cases hip : i = p
      · subst hip
        rw [if_pos rfl, ← HO.out] at he
        have HE := hid he
        clear he hx
        go_wp2
        go_roundw
        case rel => exact ⟨i + 1, outs, by omega, by go_num, hid HE.out.symm, hid (HA.out.alloc _)⟩
        case measure => simp [intOf]; omega
      · rw [if_neg hip, ← HO.out] at he
        have hne : ((i : Int) != p) = true := by simp; omega
        have HE := hid he
        have A1 := HA.out.alloc (.cells #[.string x.t, .int .i64 x.k, .int .i64 x.l] 101)
        have A2 := A1.alloc (.cells #[.string x.t, .int .i64 x.k, .int .i64 x.l] 101)
        have hrow : ((wr.alloc (.cells #[.string x.t, .int .i64 x.k, .int .i64 x.l] 101)).alloc (.cells #[.string x.t, .int .i64 x.k, .int .i64 x.l] 101)).ownsRow 0 101 3 (.slice oo outs.length oc) outs.length (flatT outs) := A2.1.2.1
        have A2 := hid A2
        clear he hx A1
        go_wp2_with (at_builtin; refine wpList_append_own_at _ rfl (.tmp 27) (.tmp 29) 28 rfl 0 101 i1 (.agg #[.string ⟨#[]⟩, .int .i64 0, .int .i64 0]) 3 32 Try.underlying28 hi1 hz0 hz1 hz2 rfl (by decide) _ _ _ rfl hrow ⟨wr.heap.size + 1, 0, none⟩ 1 1 x.cells rfl rfl (by have := cells3 (wr.alloc (.cells #[.string x.t, .int .i64 x.k, .int .i64 x.l] 101)) x 101; simpa using this) (cells_one x) (by unfold maxLen; omega) (by omega) (by omega) ?_; intro ov' w3 hown hgr hnil hat')
        have A3 := hid (A2.out.rowGrow (vs' := flatT (outs ++ [x])) (n' := (outs ++ [x]).length) (by rw [flatT_append, List.length_append]; simpa [flatT] using hown) hgr hat')
        clear hown hgr hnil hat' hrow A2
        go_wp2
        go_roundw
        case rel => exact ⟨i + 1, outs ++ [x], by omega, by go_num, hid HE.out.symm, A3⟩
        case measure => simp [intOf]; omega
    · have hfin : outs = ts.eraseIdx p := by rw [HO.out, List.take_of_length_le (by omega)]
      have hd : decide ((i : Int) < ts.length) = false := decide_eq_false (by omega)
      have cP := cell_at HA.out.2.2.1.2.1.1 0
      have fP := free_at HA.out.2.2.1.2.1.1 0
      simp only [List.getElem?_toArray, List.getElem?_cons_zero] at cP
      have HF := hid hfin
      clear hfin
      go_wp2
      go_ret
      refine ⟨.slice oo outs.length oc, rfl, ?_⟩
      have := HA.out.refSet
      rw [← HF.out]
      exact this
end Go.Proofs.Ytphcfkfdkaphbaa
