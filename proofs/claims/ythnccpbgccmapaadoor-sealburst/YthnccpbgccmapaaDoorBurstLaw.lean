import Derived.Test.YthnccpbgccmapaaDoorBurst
namespace Go.Proofs.YthnccpbgccmapaaDoor
open Go.RowKit
set_option linter.unusedVariables false

/-- The box of a burst. -/
def boxB (w : World) (s : Value) (hb bb : Int) (hm bm : Nat) : World := w.alloc (.cells #[s, .int .i64 hb, .int .i64 bb, .int .u32 (hm : Int), .int .u32 (bm : Int)] 38)

theorem boxB_cell {w w' : World} {s : Value} {hb bb : Int} {hm bm : Nat} (h : Below (boxB w s hb bb hm bm).heap.size (boxB w s hb bb hm bm) w') :
    w'.cell? ⟨w.heap.size, 0, none⟩ = some s ∧ w'.cell? ⟨w.heap.size, 1, none⟩ = some (.int .i64 hb) ∧ w'.cell? ⟨w.heap.size, 2, none⟩ = some (.int .i64 bb) ∧ w'.cell? ⟨w.heap.size, 3, none⟩ = some (.int .u32 (hm : Int)) ∧ w'.cell? ⟨w.heap.size, 4, none⟩ = some (.int .u32 (bm : Int)) := by
  have hlt : w.heap.size < (boxB w s hb bb hm bm).heap.size := by simp [boxB]
  refine ⟨?_, ?_, ?_, ?_, ?_⟩
  all_goals
    rw [h.cell hlt]
    exact cell_at (heap_alloc_new w _) _

theorem boxB_below (w : World) (s : Value) (hb bb : Int) (hm bm : Nat) : Below w.heap.size w (boxB w s hb bb hm bm) := ba w _
theorem boxB_size (w : World) (s : Value) (hb bb : Int) (hm bm : Nat) : w.heap.size ≤ (boxB w s hb bb hm bm).heap.size := by simp [boxB]

set_option maxHeartbeats 6400000 in
set_option maxRecDepth 1000000 in
theorem sealBurst_walk {w : World} {s : Value} {l : List UInt8} (hT : Tab w) (h1 : Reads w s l) (hl : l.length ≤ 140737488351232) (hb bb : Int) (hm bm : Nat) (hhm : hm < 4294967296) (hbm : bm < 4294967296) :
    Calls Tryd.prog 8 #[.agg #[s, .int .i64 hb, .int .i64 bb, .int .u32 (hm : Int), .int .u32 (bm : Int)]] w fun e w' => e = .returned (.bool true) ∧ Below w.heap.size w w' := by
  obtain ⟨ao, c, hf⟩ := h1.form
  subst hf
  have b0 := boxB_below w (.slice ao l.length c) hb bb hm bm
  have hsz := boxB_size w (.slice ao l.length c) hb bb hm bm
  have HT := hid (hT.below b0)
  have R1 := hid (h1.below b0)
  have B0 := hid b0
  clear hT h1 b0
  generalize hW : boxB w (.slice ao l.length c) hb bb hm bm = w0 at *
  have HW := hid hW
  go_enter Tryd.func8, Tryd.ntmps8
  unfold boxB at hW
  clear hW
  go_wp2_with fail
  have eW : w.alloc (.cells #[.slice ao l.length c, .int .i64 hb, .int .i64 bb, .int .u32 (hm : Int), .int .u32 (bm : Int)] 38) = w0 := HW.out
  rw [eW]
  clear eW
  refine (shown_any HT.out).mono ?_
  rintro e w1 ⟨rfl, hb1⟩
  have B1 := hid hb1
  obtain ⟨c0, c1, c2, c3, c4⟩ := boxB_cell (w' := w1) (by rw [HW.out]; exact hb1)
  clear hb1
  by_cases hbig : 65536 < l.length
  · go_wp2_with fail
    refine (Seal_long (R1.out.below B1.out) hbig hl).mono ?_
    rintro e w2 ⟨rfl, rfl⟩
    go_wp2
    go_ret
    exact ⟨rfl, B0.out.trans (B1.out.mono hsz)⟩
  · go_wp2_with fail
    refine (Seal_fits (HT.out.below B1.out) (R1.out.below B1.out) (by omega)).mono ?_
    rintro e w2 ⟨rfl, hk2, hb2⟩
    have B2 := hid (show Below w0.heap.size w0 w2 from B1.out.trans (hb2.mono B1.out.size))
    have RS := hid (by have := hk2.reads0; rw [sealP_length] at this; exact this)
    clear hk2 hb2 c0 c1 c2 c3 c4
    obtain ⟨c0, c1, c2, c3, c4⟩ := boxB_cell (w' := w2) (by rw [HW.out]; exact B2.out)
    have BF := hid (B0.out.trans (B2.out.mono hsz))
    by_cases hp0 : hb < 0
    · go_wp2
      go_ret
      exact ⟨rfl, BF.out⟩
    by_cases hp1 : hb ≥ 72
    · go_wp2
      go_ret
      exact ⟨rfl, BF.out⟩
    by_cases hy0 : bb < 0
    · go_wp2
      go_ret
      exact ⟨rfl, BF.out⟩
    by_cases hy1 : bb ≥ 8 * ((l.length : Int) + 4)
    · have hy2 : 8 * ((l.length : Int) + 13 - 9) ≤ bb := by omega
      go_wp2
      go_ret
      exact ⟨rfl, BF.out⟩
    have hy2 : bb < 8 * ((l.length : Int) + 13 - 9) := by omega
    obtain ⟨P, rfl⟩ := Int.eq_ofNat_of_zero_le (show 0 ≤ hb by omega)
    obtain ⟨Y, rfl⟩ := Int.eq_ofNat_of_zero_le (show 0 ≤ bb by omega)
    go_wp2_with fail
    refine (lcopied_any RS.out (by rw [sealP_length]; omega)).mono ?_
    rintro e w3 ⟨v, rfl, ho, hb3⟩
    have B3 := hid (show Below w0.heap.size w0 w3 from B2.out.trans (hb3.mono B2.out.size))
    obtain ⟨g, cap, hv, hcap, hg, hg2⟩ := owns_some ho (by rw [sealP_length]; omega)
    subst hv
    have hbs := hid (show w0.heap.size ≤ g from Nat.le_trans B2.out.size hg)
    have O3 := hid ho
    have hbl := sealP_length l
    have TA := hid (turn_any (fr := 0) (to := 9) (bit := P) (mask := hm) ho (by omega) (by omega) (by omega) hhm (by omega))
    rw [sealP_length] at hcap TA ⊢
    clear ho hb3 c0 c1 c2 c3 c4 hg hg2 hbl
    obtain ⟨c0, c1, c2, c3, c4⟩ := boxB_cell (w' := w3) (by rw [HW.out]; exact B3.out)
    go_wp2_with fail
    refine TA.out.mono ?_
    rintro e w4 ⟨n1, T1, rfl, ht1, ho1, hf1⟩
    have B4 := hid (Fr.below_new B3.out hf1 hbs.out)
    have HT1 := hid ht1
    have hl1 : T1.length = (sealP l).length := ht1.choose_spec.2.1
    have hn1 : n1 ≤ 32 := ht1.choose_spec.2.2.2.2.2.2
    have hl1' : T1.length = l.length + 13 := by rw [hl1, sealP_length]
    rw [← hl1'] at ho1
    have TB := hid (turn_any (fr := 9) (to := T1.length) (bit := Y) (mask := bm) ho1 (by omega) (by omega) (by omega) hbm (by omega))
    rw [hl1'] at TB
    have HL := hid hl1'
    clear hl1 hl1' ho1 hf1 ht1 c0 c1 c2 c3 c4 TA O3
    obtain ⟨c0, c1, c2, c3, c4⟩ := boxB_cell (w' := w4) (by rw [HW.out]; exact B4.out)
    have H13 : ((l.length + 13 : Nat) : Int) = (l.length : Int) + 13 := by omega
    go_wp2_with fail
    refine TB.out.mono ?_
    rintro e w5 ⟨n2, T2, rfl, ht2, ho2, hf2⟩
    have B5 := hid (Fr.below_new B4.out hf2 hbs.out)
    have BG := hid (B0.out.trans (B5.out.mono hsz))
    have hn2 : n2 ≤ 32 := ht2.choose_spec.2.2.2.2.2.2
    have hl2 : T2.length = T1.length := ht2.choose_spec.2.1
    have HT2 := hid (show Turned T1 9 (sealP l).length Y 32 T2 n2 by rw [sealP_length]; exact ht2)
    have RO := hid (Reads.of_owns ho2)
    have hlen2 : T2.length ≤ 140737488351232 := by rw [hl2, HL.out]; omega
    have HL2 := hid hl2
    clear ht2 ho2 hf2 hl2 TB c0 c1 c2 c3 c4
    by_cases hz : n1 + n2 = 0
    · have hz' : ((n1 : Int) + (n2 : Int)) = 0 := by omega
      have hz1 : n1 = 0 := by omega
      have hz2 : n2 = 0 := by omega
      subst hz1 hz2
      go_wp2
      go_ret
      exact ⟨rfl, BG.out⟩
    · have hz' : (((n1 : Int) + (n2 : Int)) == 0) = false := by simp; omega
      obtain ⟨er, hop, hne⟩ := told_burst (by omega) HT1.out HT2.out (by omega) (by omega) hz
      have HOP := hid hop
      have hne' : ((er : Int) != 0) = true := by simp; omega
      have HNE := hid hne
      clear hop hne hz
      go_wp2_with fail
      refine (Open_any (HT.out.below B5.out) RO.out hlen2).mono ?_
      rintro e w6 ⟨v, rfl, ho6, hb6⟩
      rw [HOP.out] at ho6 ⊢
      have B6 := hid (show Below w.heap.size w w6 from BG.out.trans (hb6.mono BG.out.size))
      obtain ⟨x1, y1, hv⟩ := owns_form ho6
      subst hv
      clear ho6 hb6
      go_wp2
      go_ret
      exact ⟨rfl, B6.out⟩
end Go.Proofs.YthnccpbgccmapaaDoor
