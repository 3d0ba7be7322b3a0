import Derived.Test.YthnccpbgccmapaaDoorBackP
import Derived.Test.YthnccpbgccmapaaDoorToldLaw
namespace Go.Proofs.YthnccpbgccmapaaDoor
open Go.RowKit
set_option linter.unusedVariables false

/-- The box of what came in. -/
def boxK (w : World) (s t r : Value) (ct : Int) : World := w.alloc (.cells #[s, t, r, .int .i64 ct] 31)

theorem boxK_cell {w w' : World} {s t r : Value} {ct : Int} (h : Below (boxK w s t r ct).heap.size (boxK w s t r ct) w') :
    w'.cell? ⟨w.heap.size, 0, none⟩ = some s ∧ w'.cell? ⟨w.heap.size, 1, none⟩ = some t ∧ w'.cell? ⟨w.heap.size, 2, none⟩ = some r ∧ w'.cell? ⟨w.heap.size, 3, none⟩ = some (.int .i64 ct) := by
  have hlt : w.heap.size < (boxK w s t r ct).heap.size := by simp [boxK]
  refine ⟨?_, ?_, ?_, ?_⟩
  all_goals
    rw [h.cell hlt]
    exact cell_at (heap_alloc_new w _) _

theorem boxK_below (w : World) (s t r : Value) (ct : Int) : Below w.heap.size w (boxK w s t r ct) := ba w _
theorem boxK_size (w : World) (s t r : Value) (ct : Int) : w.heap.size ≤ (boxK w s t r ct).heap.size := by simp [boxK]

theorem Reads.some_cells {w : World} {a : Addr} {n c : Nat} {l : List UInt8} (h : Reads w (.slice (some a) n c) l) : n = l.length ∧ ∀ j u, (cellsB l)[j]? = some u → w.cell? (a.add j) = some u := by
  obtain ⟨ao, c0, e, _, hcase⟩ := h
  simp only [Value.slice.injEq] at e
  obtain ⟨rfl, rfl, rfl⟩ := e
  refine ⟨rfl, fun j u hu => ?_⟩
  rcases hcase with ⟨rfl, _⟩ | ⟨g, o, e', hg, hcell⟩
  · simp [cellsB] at hu
  · simp only [Option.some.injEq] at e'
    subst e'
    rw [Addr.add_lit]
    exact hcell j u hu

theorem Reads.none_nil {w : World} {n c : Nat} {l : List UInt8} (h : Reads w (.slice none n c) l) : l = [] ∧ c = 0 ∧ n = 0 := by
  obtain ⟨ao, c0, e, _, hcase⟩ := h
  simp only [Value.slice.injEq] at e
  obtain ⟨rfl, rfl, rfl⟩ := e
  rcases hcase with ⟨rfl, h0⟩ | ⟨g, o, e', hg, hcell⟩
  · exact ⟨rfl, h0 rfl, rfl⟩
  · cases e'

set_option maxHeartbeats 6400000 in
set_option maxRecDepth 1000000 in
theorem sealBack_walk {w : World} {s t r : Value} {l m n : List UInt8} (hT : Tab w) (h1 : Reads w s l) (h2 : Reads w t m) (h3 : Reads w r n) (hl : l.length ≤ 1048576) (hm : m.length ≤ 1048576) (hn : n.length ≤ 1048576) (ct : Int) :
    Calls Tryd.prog 6 #[.agg #[s, t, r, .int .i64 ct]] w fun e w' => e = .returned (.bool true) ∧ Below w.heap.size w w' := by
  obtain ⟨ao, c, hf⟩ := h1.form
  obtain ⟨at_, c2, hf2⟩ := h2.form
  obtain ⟨ar, c3, hf3⟩ := h3.form
  subst hf hf2 hf3
  obtain ⟨i0, hi, hz0, hz1, hz2⟩ := info_parts Tryd.info5
  have b0 := boxK_below w (.slice ao l.length c) (.slice at_ m.length c2) (.slice ar n.length c3) ct
  have hsz := boxK_size w (.slice ao l.length c) (.slice at_ m.length c2) (.slice ar n.length c3) ct
  have HT := hid (hT.below b0)
  have R1 := hid (h1.below b0)
  have R2 := hid (h2.below b0)
  have R3 := hid (h3.below b0)
  have B0 := hid b0
  clear hT h1 h2 h3 b0
  generalize hW : boxK w (.slice ao l.length c) (.slice at_ m.length c2) (.slice ar n.length c3) ct = w0 at *
  have HW := hid hW
  go_enter Tryd.func6, Tryd.ntmps6
  clear hW
  go_wp2_with fail
  have eW : w.alloc (.cells #[.slice ao l.length c, .slice at_ m.length c2, .slice ar n.length c3, .int .i64 ct] 31) = w0 := HW.out
  rw [eW]
  clear eW
  refine (shown_any HT.out).mono ?_
  rintro e w1 ⟨rfl, hb1⟩
  have B1 := hid hb1
  obtain ⟨c0, c1, c2', c3'⟩ := boxK_cell (w' := w1) (by rw [HW.out]; exact hb1)
  clear hb1
  go_wp2_with fail
  refine (Open_any (HT.out.below B1.out) (R3.out.below B1.out) (by omega)).mono ?_
  rintro e w2 ⟨v, rfl, ho, hb2⟩
  have B2 := hid (show Below w0.heap.size w0 w2 from B1.out.trans (hb2.mono B1.out.size))
  have RO := hid (Reads.of_owns ho)
  obtain ⟨x1, y1, hv⟩ := owns_form ho
  subst hv
  clear ho hb2 c0 c1 c2' c3'
  obtain ⟨c0, c1, c2', c3'⟩ := boxK_cell (w' := w2) (by rw [HW.out]; exact B2.out)
  generalize hop : openP n = op at *
  have HOP := hid hop
  clear hop
  obtain ⟨q, er⟩ := op
  simp only [] at RO ⊢
  by_cases her : er = 0
  case' pos =>
    have hs := hid (show sealA q = (n, 0) by
      have := open_seal (b := n) (by rw [HOP.out]; exact her)
      rw [HOP.out] at this
      exact this)
    have hql := hid (show q.length ≤ 140737488351232 by
      have := hs.out
      unfold sealA at this
      split at this
      · simp at this
      · omega)
    subst her
    go_wp2_with fail
    refine (Seal_any (HT.out.below B2.out) RO.out hql.out).mono ?_
    rintro e w2' ⟨v, rfl, ho, hb2⟩
    rw [hs.out] at ho ⊢
    have B2' := hid (show Below w0.heap.size w0 w2' from B2.out.trans (hb2.mono B2.out.size))
    have RO' := hid (Reads.of_owns ho)
    obtain ⟨x2, y2, hv⟩ := owns_form ho
    subst hv
    clear ho hb2 c0 c1 c2' c3'
    obtain ⟨c0, c1, c2', c3'⟩ := boxK_cell (w' := w2') (by rw [HW.out]; exact B2'.out)
    go_wp2_with fail
    refine (same_any RO'.out (R3.out.below B2'.out) (by omega) (by omega)).mono ?_
    rintro e w3 ⟨rfl, qq, rfl⟩
    rw [show alike n n = true from decide_eq_true rfl]
    have B3 := hid (below_drewN B2'.out qq)
    clear c0 c1 c2' c3' RO RO' B2' hs hql
    generalize w2'.drewN qq = w3 at *
    obtain ⟨c0, c1, c2', c3'⟩ := boxK_cell (w' := w3) (by rw [HW.out]; exact B3.out)
  case' neg =>
    have hne : ((er : Int) == 0) = false := by simp; omega
    have B3 := hid B2.out
    generalize w2 = w3 at *
  all_goals
    by_cases hbig : 65536 < l.length
    · go_wp2_with fail
      refine (Seal_long (R1.out.below B3.out) hbig (by omega)).mono ?_
      rintro e w4 ⟨rfl, rfl⟩
      go_wp2
      go_ret
      exact ⟨rfl, B0.out.trans (B3.out.mono hsz)⟩
    · go_wp2_with fail
      refine (Seal_fits (HT.out.below B3.out) (R1.out.below B3.out) (by omega)).mono ?_
      rintro e w4 ⟨rfl, hk4, hb4⟩
      have B4 := hid (show Below w0.heap.size w0 w4 from B3.out.trans (hb4.mono B3.out.size))
      have RS := hid (by have := hk4.reads0; rw [sealP_length] at this; exact this)
      clear hk4 hb4 c0 c1 c2' c3'
      generalize w3.heap.size = g at *
      go_wp2_with fail
      refine (Open_any (HT.out.below B4.out) RS.out (by rw [sealP_length]; omega)).mono ?_
      rintro e w5 ⟨v, rfl, ho, hb5⟩
      rw [openP_seal l (by omega)] at ho ⊢
      have B5 := hid (show Below w0.heap.size w0 w5 from B4.out.trans (hb5.mono B4.out.size))
      have RS5 := hid (RS.out.below hb5)
      have RP := hid (Reads.of_owns ho)
      obtain ⟨x3, y3, hv⟩ := owns_form ho
      subst hv
      clear ho hb5
      go_wp2_with fail
      refine (same_any RP.out (R1.out.below B5.out) (by omega) (by omega)).mono ?_
      rintro e w6 ⟨rfl, qq, rfl⟩
      rw [show alike l l = true from decide_eq_true rfl]
      have B6 := hid (below_drewN B5.out qq)
      have RS6 := hid (RS5.out.drewN qq)
      clear B5 RS5 RP RS
      generalize w5.drewN qq = w6 at *
      obtain ⟨c0, c1, c2', c3'⟩ := boxK_cell (w' := w6) (by rw [HW.out]; exact B6.out)
      by_cases hct : 0 ≤ ct ∧ ct < (l.length : Int) + 13
      case' pos =>
        obtain ⟨K, rfl⟩ := Int.eq_ofNat_of_zero_le hct.1
        have hK : (K : Int) < (l.length : Int) + 13 := hct.2
        have hK0 : (0 : Int) ≤ (K : Int) := hct.1
        have RK := hid (show Reads w6 (.slice (some ⟨g, 0, none⟩) K (l.length + 13)) ((sealP l).take K) by
          have := RS6.out.sub 0 K (l.length + 13) (by rw [sealP_length]; omega) (by omega)
          simpa using this)
        clear hct
        go_wp2_with fail
        refine (Open_any (HT.out.below B6.out) RK.out (by simp; omega)).mono ?_
        rintro e w7 ⟨v, rfl, ho, hb7⟩
        rw [open_short l (by omega) K (by omega)] at ho ⊢
        have B7 := hid (show Below w0.heap.size w0 w7 from B6.out.trans (hb7.mono B6.out.size))
        have RS7 := hid (RS6.out.below hb7)
        obtain ⟨x5, y5, hv⟩ := owns_form ho
        subst hv
        clear ho hb7 c0 c1 c2' c3' RK
        obtain ⟨c0, c1, c2', c3'⟩ := boxK_cell (w' := w7) (by rw [HW.out]; exact B7.out)
      case' neg =>
        have B7 := hid B6.out
        have RS7 := hid RS6.out
        generalize w6 = w7 at *
        have hct1 : decide (0 ≤ ct) = false ∨ ((0 ≤ ct) ∧ decide (ct < (l.length : Int) + 13) = false) := by
          by_cases h0 : 0 ≤ ct
          · exact Or.inr ⟨h0, by simp; omega⟩
          · exact Or.inl (by simp; omega)
        clear hct
        rcases hct1 with hct1 | ⟨hct1, hct2⟩
      all_goals
        go_wp2_with fail
        refine (lcopied_any RS7.out (by rw [sealP_length]; omega)).mono ?_
        rintro e w8 ⟨v8, rfl, ho8, hb8⟩
        have B8 := hid (show Below w0.heap.size w0 w8 from B7.out.trans (hb8.mono B7.out.size))
        have hb7s := B7.out.size
        have hs8 := hb8.size
        obtain ⟨g8, cap8, hv8, hcap8, hg8, hg82⟩ := owns_some ho8 (by rw [sealP_length]; omega)
        subst hv8
        have hbase := hid (show w0.heap.size ≤ w7.heap.size from hb7s)
        rw [sealP_length] at ho8 ⊢
        clear c0 c1 c2' c3' hb8
        obtain ⟨c0, c1, c2', c3'⟩ := boxK_cell (w' := w8) (by rw [HW.out]; exact B8.out)
        have R8 := R2.out.below B8.out
        have BZ := hid (show Below w.heap.size w w8 from B0.out.trans (B8.out.mono hsz))
        clear hg82 RS7 RS6 B6 B7 B4
        cases at_ with
        | none =>
          obtain ⟨rfl, rfl, _⟩ := R8.none_nil
          clear R8
          go_wp2_with (at_builtin; refine wpList_append_own_none rfl (.tmp 101) (.tmp 103) 22 rfl w7.heap.size 5 i0 1 Tryd.underlying22 hi _ _ _ rfl ho8 rfl ?_)
          clear ho8
          go_wp2
          go_ret
          exact ⟨rfl, BZ.out⟩
        | some a =>
          obtain ⟨_, hcells⟩ := R8.some_cells
          clear R8
          go_wp2_with (at_builtin; refine wpList_append_own_at _ rfl (.tmp 101) (.tmp 103) 22 rfl w7.heap.size 5 i0 (.int .u8 0) 1 1 Tryd.underlying22 hi hz0 hz1 hz2 rfl (by decide) _ _ _ rfl ho8 a m.length c2 (cellsB m) rfl (by rw [cellsB_length]; omega) hcells (cellsB_one _) (by unfold maxLen; omega) (by omega) (by omega) ?_)
          intro v9 w9 hown9 hg9 hnil9 hat9
          have B9 := hid (show Below w0.heap.size w0 w9 from B8.out.grown hg9 B8.out.size (fun j hj => Nat.le_trans hbase.out (ho8.lt j hj).1))
          have BY := hid (show Below w.heap.size w w9 from B0.out.trans (B9.out.mono hsz))
          have R9 := hid (show Reads w9 v9 (sealP l ++ m) from Reads.of_owns (base := w7.heap.size) (by rw [cellsB_append, List.length_append, sealP_length]; exact hown9))
          obtain ⟨x9, y9, hv9⟩ := owns_form hown9
          subst hv9
          clear hown9 hg9 hnil9 hat9 hcells ho8 c0 c1 c2' c3' hg8
          obtain ⟨c0, c1, c2', c3'⟩ := boxK_cell (w' := w9) (by rw [HW.out]; exact B9.out)
          by_cases hm0 : 0 < m.length
          · have hop2 := hid (open_more l m (by omega) (fun h => by rw [h] at hm0; simp at hm0))
            go_wp2_with fail
            refine (Open_any (HT.out.below B9.out) R9.out (by rw [List.length_append, sealP_length]; omega)).mono ?_
            rintro e w10 ⟨v10, rfl, ho10, hb10⟩
            rw [hop2.out] at ho10 ⊢
            have BX := hid (show Below w.heap.size w w10 from BY.out.trans (hb10.mono BY.out.size))
            obtain ⟨x10, y10, hv10⟩ := owns_form ho10
            subst hv10
            clear ho10 hb10
            go_wp2
            go_ret
            exact ⟨rfl, BX.out⟩
          · go_wp2
            go_ret
            exact ⟨rfl, BY.out⟩
end Go.Proofs.YthnccpbgccmapaaDoor
